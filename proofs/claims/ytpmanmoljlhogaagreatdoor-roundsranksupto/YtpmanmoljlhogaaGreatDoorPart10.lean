/- Texts of this claim, joined: RoRanks0, RoRanks, RoDNext, SyOne0, SyNum, SyOut. -/
import Derived.Test.YtpmanmoljlhogaaGreatDoorPart9
import Derived.Test.YtpmanmoljlhogaaGreatDoorPart8
import Derived.Test.YtpmanmoljlhogaaGreatDoorPart6
import Derived.Maps.OwnSet
import Derived.WalkSmall
import Derived.Test.YtpmanmoljlhogaaGreatDoorPart1
import Derived.Test.YtpmanmoljlhogaaGreatDoorPart0
import Derived.Deep.AppendLies
/- Contract of the program's Ranks at right systems. -/
namespace Go.Proofs.YtpmanmoljlhogaaGreatDoor
open Go.RowKit Go.Maps Go.Shelf
/-- The rows so far. -/
structure RrAt (w2 wr : World) (m i : Nat) (us : List Value) (rb : Nat → Nat) : Prop where
  arr : Arr 57 w2 wr w2.heap.size us
  len : us.length = m
  tab : ∀ p, p < i → us[p]? = some (.slice (some ⟨rb p, 0, none⟩) m m)
  row : ∀ p, p < i → ∃ cs : Array Value, wr.heap[rb p]? = some (.cells cs 3 (0, 0)) ∧ cs.toList = (List.range m).map fun _ => Value.int .i64 (-1)
  ne : ∀ p q, p < i → q < i → rb p = rb q → p = q
  lo : ∀ p, p < i → w2.heap.size + 2 ≤ rb p
theorem RrAt.step {w2 w4 w5 w6 : World} {m i g : Nat} {us : List Value} {rb : Nat → Nat} (h : RrAt w2 w4 m i us rb) (hi : i < m) (hbig : w2.heap.size + 2 ≤ w4.heap.size) (hb : Below w4.heap.size w4 w5) (hA : Arr 3 w5 w6 g (List.replicate m (.int .i64 (-1)))) : RrAt w2 (w6.setCell ⟨w2.heap.size, i, none⟩ (.slice (some ⟨g, 0, none⟩) m m)) m (i + 1) (us.set i (.slice (some ⟨g, 0, none⟩) m m)) (fun p => if p = i then g else rb p) := by
  have hb46 := bel6 hA.bl hb
  have hgl := Nat.le_trans hb.size hA.gu
  have hr : ∀ p, p < i → rb p < w4.heap.size := fun p hp => by obtain ⟨cs, h1, _⟩ := h.row p hp; exact t_lt h1
  refine ⟨(h.arr.below hb46).set i _, by simp [h.len], fun p hp => ?_, fun p hp => ?_, fun p q hp hq => ?_, fun p hp => ?_⟩
  · by_cases e : p = i
    · rw [if_pos e, e, List.getElem?_set_self (by rw [h.len]; omega)]
    · rw [if_neg e, List.getElem?_set_ne (fun e2 => e e2.symm)]
      exact h.tab p (by omega)
  · by_cases e : p = i
    · rw [if_pos e]
      obtain ⟨cs, h1, h2⟩ := hA.ids
      refine ⟨cs, (set_other _ _ _ _ _ (by omega)).trans h1, ?_⟩
      rw [h2]
      apply List.ext_getElem?
      intro j
      by_cases hj : j < m <;> simp [hj]
    · rw [if_neg e]
      obtain ⟨cs, h1, h2⟩ := h.row p (by omega)
      have := h.lo p (by omega)
      exact ⟨cs, (set_other _ _ _ _ _ (by omega)).trans (res_up6 hb46 h1), h2⟩
  · by_cases e : p = i <;> by_cases e2 : q = i
    · intro _; omega
    · rw [if_pos e, if_neg e2]; intro h3; have := hr q (by omega); omega
    · rw [if_neg e, if_pos e2]; intro h3; have := hr p (by omega); omega
    · rw [if_neg e, if_neg e2]; exact h.ne p q (by omega) (by omega)
  · by_cases e : p = i
    · rw [if_pos e]; omega
    · rw [if_neg e]; exact h.lo p (by omega)
theorem RrAt.done {w2 wr : World} {m : Nat} {us : List Value} {rb : Nat → Nat} (h : RrAt w2 wr m m us rb) (out : Nat → List Ro.St) : RkAt wr w2.heap.size m rb (rkT m out 0) :=
  ⟨fun p hp => h.arr.cell (h.tab p hp), fun p hp => h.row p hp, h.ne, fun p hp => by have := h.lo p hp; omega⟩
theorem makeRR (n : Nat) (hn : n ≤ 1000000) (w : World) : (Instr.makeSlice 28 (.int .i64 (n : Int)) (.int .i64 (n : Int))).run Tryz.prog w = .ok (.slice (some ⟨w.heap.size, 0, none⟩) n n) (w.alloc (.cells (madeV (.slice none 0 0) n) 57)) := makeRI n hn w
end Go.Proofs.YtpmanmoljlhogaaGreatDoor
/- Contract of the program's Ranks at right systems: the walk. -/
namespace Go.Proofs.YtpmanmoljlhogaaGreatDoor
open Go.RowKit Go.Maps Go.Shelf
attribute [local go_sem] Oper.semAt_some
attribute [local go_sem ↓] Go.wp_at_zero Go.wp_at_succ
theorem blk_own (b : Nat) (cs : Array Value) (t : TypeId) (fr : Nat × Nat) : Own (fun (_ : List Rd) W => W.heap[b]? = some (.cells cs t fr)) := fun s W W' row hs hg hr => by
  have h1 : some b ≠ row := fun e => by
    obtain ⟨o, ho, hoc⟩ := hr b e.symm
    rw [hs] at ho
    cases ho
    cases hoc
  exact (hg.block b (t_lt hs) h1).trans hs
theorem callsIn_round {l n : Nat} {P : Program} {f : FuncId} {args : Array Value} {w : World} {R : Ending → World → Prop} (h : Calls P f args w R) : CallsIn (Fence.wide.inRound l) n P f args w R := (callsIn_wide (n := n)).2 h
/-- The body comes to its end, and does not panic. -/
def strictM (Q : Exit → Act → World → Prop) : Exit → Act → World → Prop
  | .normal, a, w => Q .normal a w
  | .ret, a, w => Q .ret a w
  | _, _, _ => False
theorem strictM_of {Q : Exit → Act → World → Prop} : ∀ e a w, strictM Q e a w → Q e a w := fun e a w h => by
  cases e <;> first | exact h | exact h.elim
set_option linter.unusedSimpArgs false in
set_option maxRecDepth 100000 in
set_option maxHeartbeats 8000000 in
theorem ranks_ok2 (hS : SortOk 1000000) (m : Nat) (k s : Int) (v : Value) (es : List Sy.Ed) (a : Addr) (w : World) (hA : Sent w 14 a) (hP : Pow w) (hv : BEdges.Has w v es) (hm : es.length ≤ 100000) (hq : Sy.right m k s es = true) (hm3 : m ≤ 300) :
    Calls Tryz.prog 21 #[sysV m k s v] w fun r w' => ∃ T rb R, r = .returned (.tuple #[.slice (some ⟨T, 0, none⟩) m m, .nilIface]) ∧ Ro.Last m (outOf m es) R ∧ RkAt w' T m rb (rkT m (outOf m es) (R + 1)) ∧ Below w.heap.size w w' ∧ (∃ cs : Array Value, w'.heap[T]? = some (.cells cs 57 (0, 0)) ∧ cs.size = m) ∧ w.heap.size ≤ T ∧ ∀ p, p < m → w.heap.size ≤ rb p := by
  have hv0 := hv
  obtain ⟨ao, cap, rfl, _⟩ := hv0
  obtain ⟨L, hL⟩ : ∃ L, L = es.length := ⟨_, rfl⟩
  obtain ⟨w1, hw1⟩ : ∃ w1, w1 = w.alloc (.cells #[.int .i64 m, .int .i64 k, .int .i64 s, .slice ao L cap] 24) := ⟨_, rfl⟩
  have hb1 : Below w.heap.size w w1 := by rw [hw1]; exact (Below.refl _ _).alloc (Nat.le_refl _) _
  have hg1 : w1.heap[w.heap.size]? = some (.cells #[.int .i64 m, .int .i64 k, .int .i64 s, .slice ao L cap] 24 (0, 0)) := by rw [hw1]; exact heap_alloc_new w _
  have hN := roundsOf_ok hS m k s _ es a w1 (hA.below hb1) (hv.below hb1) hm hq
  rw [← hL] at hN ⊢
  unfold sysV at hN ⊢
  have hF := steps_fit hq
  obtain ⟨out, hout⟩ : ∃ out, out = outOf m es := ⟨_, rfl⟩
  have H1 : Hid _ := And.intro hw1 (And.intro hb1 (And.intro hN (And.intro hP (And.intro hF (And.intro hout hg1)))))
  obtain ⟨x0, x1, x2, x3⟩ := four_cells hg1
  clear hA hv hm hq hw1 hb1 hg1 hN hL hP hF hout
  refine (callsIn_wide (n := 3)).1 ?_
  refine callsIn_of_wp_marks Tryz.func21 rfl trivial ?_ rfl
  simp only [Tryz.ntmps21, List.size_toArray, List.length_cons, List.length_nil, Nat.reduceAdd, Nat.reduceSub, Array.replicate_succ, Array.replicate_zero, List.push_toArray, List.append_toArray, List.nil_append, List.cons_append]
  refine wpIn_wide.2 (Code.wp_mono strictM_of ?_)
  go_upto_region 1 with fail
  rw [← H1.out.1]
  go_wp2_with fail
  refine Calls.mono H1.out.2.2.1 ?_
  rintro r w2 ⟨b1, b2, gs, rfl, hO2⟩
  unfold roundsV
  have hP2 := H1.out.2.2.2.1.below (bel6 hO2.bl H1.out.2.1)
  have hRd := Reads.of hO2 hP2
  have hb02 := bel6 hO2.bl H1.out.2.1
  have hg2 := res_up6 hO2.bl H1.out.2.2.2.2.2.2
  have y0 : w2.cell? ⟨w.heap.size, 0, none⟩ = some (.int .i64 m) := cell0_of hg2 rfl
  have H2 : Hid _ := And.intro hRd (And.intro hb02 hg2)
  have g3 : decide ((300 : Int) < (m : Int)) = false := decide_eq_false (by omega)
  have g4 : ¬ (300 : Int) < (m : Int) := by omega
  have hmk := makeRI m (by omega) w2
  obtain ⟨w3, hw3⟩ : ∃ w3, w3 = (w2.alloc (.cells (madeV (.slice none 0 0) m) 57)).alloc (.cells #[.slice (some ⟨w2.heap.size, 0, none⟩) m m] 28) := ⟨_, rfl⟩
  have hb3 : Below w2.heap.size w2 w3 := by rw [hw3]; exact ((Below.refl _ _).alloc (Nat.le_refl _) _).alloc (by simp) _
  have hbx : w3.heap[w2.heap.size + 1]? = some (.cells #[.slice (some ⟨w2.heap.size, 0, none⟩) m m] 28 (0, 0)) := by
    rw [hw3]
    have h := heap_alloc_new (w2.alloc (.cells (madeV (.slice none 0 0) m) 57)) (.cells #[.slice (some ⟨w2.heap.size, 0, none⟩) m m] 28)
    rw [World.size_alloc] at h
    exact h
  have hA3 : Arr 57 w2 w3 w2.heap.size (List.replicate m (.slice none 0 0)) := by
    rw [hw3]
    exact (arr_new 57 (.slice none 0 0) rfl m w2).below ((Below.refl _ _).alloc (Nat.le_refl _) _)
  have H3 : Hid _ := And.intro hw3 (And.intro hbx hA3)
  have e1 : (w2.alloc (.cells (madeV (.slice none 0 0) m) 57)).heap.size = w2.heap.size + 1 := by simp
  clear hO2 hP2 hRd hb02 hg2 x0 x1 x2 x3 hw3 hb3 hbx hA3
  go_upto_region 7 with fail
  rw [← H3.out.1]
  have z0 : w3.cell? ⟨w2.heap.size + 1, 0, none⟩ = some (.slice (some ⟨w2.heap.size, 0, none⟩) m m) := cell0_of H3.out.2.1 rfl
  clear hmk y0 e1
  go_wp2_with fail
  clear z0
  go_loopg [31] m (fun q iv wr => ∃ (i : Nat) (us : List Value) (rb : Nat → Nat), q = m - i ∧ i ≤ m ∧ iv = .int .i64 i ∧ RrAt w2 wr m i us rb ∧ wr.heap[w2.heap.size + 1]? = some (.cells #[.slice (some ⟨w2.heap.size, 0, none⟩) m m] 28 (0, 0)))
  case atStart => exact ⟨0, _, fun _ => 0, rfl, Nat.zero_le _, rfl, ⟨H3.out.2.2, by simp, fun j hj => by omega, fun j hj => by omega, fun j _ hj => by omega, fun j hj => by omega⟩, H3.out.2.1⟩
  case round =>
    obtain ⟨i, us, rb, rfl, hi, rfl, hT, hbx⟩ := hrel
    obtain ⟨w4, rfl⟩ : ∃ w4, w4 = wr := ⟨_, rfl⟩
    by_cases hlt : i < m
    · have p0 : (0 : Int) ≤ (i : Int) := by omega
      have p1 : (i : Int) < (m : Int) := by omega
      have y0 : w4.cell? ⟨w2.heap.size + 1, 0, none⟩ = some (.slice (some ⟨w2.heap.size, 0, none⟩) m m) := cell0_of hbx rfl
      have hgs := res_up6 hT.arr.bl H2.out.2.2
      have y1 : w4.cell? ⟨w.heap.size, 0, none⟩ = some (.int .i64 m) := cell0_of hgs rfl
      have hbig : w2.heap.size + 2 ≤ w4.heap.size := by have := t_lt hbx; omega
      have hws : w.heap.size < w2.heap.size := t_lt H2.out.2.2
      obtain ⟨ux, hux⟩ : ∃ ux, us[i]? = some ux := ⟨us[i]'(by have := hT.len; omega), List.getElem?_eq_getElem _⟩
      obtain ⟨w5, hw5⟩ : ∃ w5, w5 = (w4.alloc (.cells #[.int .i64 (-1)] 3)).drew := ⟨_, rfl⟩
      have hb5 : Below w4.heap.size w4 w5 := by rw [hw5]; exact ((Below.refl _ _).alloc (Nat.le_refl _) _).drew
      have hRp := repeat_any w4.heap.size m w5 (by omega) (by rw [hw5]; exact cell0_of (heap_alloc_new w4 _) rfl)
      have HT : Hid _ := And.intro hT (And.intro hbx (And.intro hRp (And.intro hux (And.intro hb5 (And.intro hbig (And.intro hgs hw5))))))
      clear hT hbx hRp hux hb5 hgs hbig hw5
      go_upto_region 10 with fail
      refine wp_region_held_drew (S := (fun w' => (w'.cell? ⟨w2.heap.size + 1, 0, none⟩ = some (.slice (some ⟨w2.heap.size, 0, none⟩) m m) ∧ w'.cell? ⟨w.heap.size, 0, none⟩ = some (.int .i64 m)) ∧ Hid (w'.heap[w2.heap.size + 1]? = some (.cells #[.slice (some ⟨w2.heap.size, 0, none⟩) m m] 28 (0, 0))))) (by kernel_rfl) ?_ (fun hHeld => ?_)
      · exact ⟨⟨y0, y1⟩, HT.out.2.1⟩
      refine wpAnyH_take (i := 0) (oi := _) (v := ?_) rfl (by kernel_rfl) (by kernel_rfl) (by kernel_rfl) (fun _ _ _ h => h) (Or.inl ⟨by rfl, ?_⟩) (by assumption) ?_
      rotate_left
      · (intro w hSw; (try dsimp only at hSw); go_simp; (try with_reducible rfl))
      (try simp only [List.getElem_toArray, List.getElem_cons_succ, List.getElem_cons_zero, Act.put, List.setIfInBounds_toArray, List.set_cons_zero, List.set_cons_succ])
      refine wpAnyH_take (i := 1) (oi := _) (v := ?_) rfl (by kernel_rfl) (by kernel_rfl) (by kernel_rfl) (fun _ _ _ h => h) (Or.inl ⟨by rfl, ?_⟩) (by assumption) ?_
      rotate_left
      · (intro w hSw; (try dsimp only at hSw); go_simp; (try with_reducible rfl))
      (try simp only [List.getElem_toArray, List.getElem_cons_succ, List.getElem_cons_zero, Act.put, List.setIfInBounds_toArray, List.set_cons_zero, List.set_cons_succ])
      refine wpAnyH_take (i := 3) (oi := _) (v := ?_) rfl (by kernel_rfl) (by kernel_rfl) (by kernel_rfl) (fun _ _ _ h => h) (Or.inl ⟨by rfl, ?_⟩) (by assumption) ?_
      rotate_left
      · (intro w hSw; (try dsimp only at hSw); go_simp; (try with_reducible rfl))
      (try simp only [List.getElem_toArray, List.getElem_cons_succ, List.getElem_cons_zero, Act.put, List.setIfInBounds_toArray, List.set_cons_zero, List.set_cons_succ])
      refine wpAnyH_take (i := 4) (oi := _) (v := ?_) rfl (by kernel_rfl) (by kernel_rfl) (by kernel_rfl) (fun _ _ _ h => h) (Or.inl ⟨by rfl, ?_⟩) (by assumption) ?_
      rotate_left
      · (intro w hSw; (try dsimp only at hSw); go_simp; (try with_reducible rfl))
      (try simp only [List.getElem_toArray, List.getElem_cons_succ, List.getElem_cons_zero, Act.put, List.setIfInBounds_toArray, List.set_cons_zero, List.set_cons_succ])
      refine wpAnyH_ready (rs := [2]) (by kernel_rfl) (by simp) ?_
      refine AllReadyH.cons (o := _) rfl (fun K hK => ?_) ?_
      · (go_simp; rw [← HT.out.2.2.2.2.2.2.2])
        (try go_wp2_with fail)
        refine hK.out _ _ ?_ (fun hHeld => ?_)
        · exact ⟨⟨cell_up y0 HT.out.2.2.2.2.1, cell_up y1 HT.out.2.2.2.2.1⟩, res_up6 HT.out.2.2.2.2.1 HT.out.2.1⟩
        clear hK K
        (try simp only [List.getElem_toArray, List.getElem_cons_succ, List.getElem_cons_zero, Act.put, List.setIfInBounds_toArray, List.set_cons_zero, List.set_cons_succ])
        refine wpAnyH_ready (rs := [5]) (by kernel_rfl) (by simp) ?_
        refine AllReadyH.cons (o := _) rfl (fun K hK => ?_) ?_
        · (go_simp; go_at_call 84; refine Calls.mono HT.out.2.2.1 ?_; rintro r w6 ⟨g6, rfl, hA6⟩; have hb46 := bel6 hA6.bl HT.out.2.2.2.2.1; have H6 : Hid _ := And.intro hA6 (And.intro hb46 (HT.out.1.arr.below hb46)); clear hA6; have cx := H6.out.2.2.cell HT.out.2.2.2.1; have cf := H6.out.2.2.free i)
          (try go_wp2_with fail)
          refine hK.out _ _ ?_ (fun hHeld => ?_)
          · exact ⟨⟨cell_up y0 hb46, cell_up y1 hb46⟩, res_up6 hb46 HT.out.2.1⟩
          clear hK K
          (try simp only [List.getElem_toArray, List.getElem_cons_succ, List.getElem_cons_zero, Act.put, List.setIfInBounds_toArray, List.set_cons_zero, List.set_cons_succ])
          clear hb46
          refine wpAnyH_take (i := 6) (oi := _) (v := ?_) rfl (by kernel_rfl) (by kernel_rfl) (by kernel_rfl) (fun _ _ _ h => h) (Or.inl ⟨by rfl, ?_⟩) (by assumption) ?_
          rotate_left
          · (intro w hSw; (try dsimp only at hSw); go_simp; (try with_reducible rfl))
          (try simp only [List.getElem_toArray, List.getElem_cons_succ, List.getElem_cons_zero, Act.put, List.setIfInBounds_toArray, List.set_cons_zero, List.set_cons_succ])
          refine wpAnyH_ready (rs := [7]) (by kernel_rfl) (by simp) ?_
          refine AllReadyH.cons (o := _) rfl (fun K hK => ?_) ?_
          · (go_simp)
            (try go_wp2_with fail)
            refine hK.out _ _ ?_ (fun hHeld => ?_)
            · exact ⟨⟨(cell_block (setCell_other _ (show w2.heap.size + 1 ≠ w2.heap.size by omega))).trans hHeld.1.1, (cell_block (setCell_other _ (show w.heap.size ≠ w2.heap.size by omega))).trans hHeld.1.2⟩, (setCell_other _ (show w2.heap.size + 1 ≠ w2.heap.size by omega)).trans hHeld.2.out⟩
            clear hK K
            (try simp only [List.getElem_toArray, List.getElem_cons_succ, List.getElem_cons_zero, Act.put, List.setIfInBounds_toArray, List.set_cons_zero, List.set_cons_succ])
            refine wpAnyH_done (by kernel_rfl) ?_ _
            (try go_simp)
            have H7 : Hid _ := hHeld.2.out
            go_wp2_with fail
            go_roundg (m - (i + 1))
            case measure => omega
            case rel => exact ⟨i + 1, _, _, rfl, by omega, by go_num, HT.out.1.step hlt HT.out.2.2.2.2.2.1 HT.out.2.2.2.2.1 H6.out.1, H7.out⟩
          exact AllReadyH.nil
        exact AllReadyH.nil
      exact AllReadyH.nil
    · obtain rfl : i = m := by omega
      have p1 : ¬ (i : Int) < (i : Int) := by omega
      have HT : Hid _ := And.intro hT hbx
      clear hT hbx
      go_wp2_with fail
      have hF := H1.out.2.2.2.2.1
      have hR := H2.out.1
      rw [← H1.out.2.2.2.2.2.1] at hF hR
      have hb24 := HT.out.1.arr.bl
      have hrb : ∀ p, p < i → rb p < w4.heap.size := fun p hp => by obtain ⟨cs, h1, _⟩ := HT.out.1.row p hp; exact t_lt h1
      have hsz : w2.heap.size ≤ w4.heap.size := hb24.size
      obtain ⟨ct, hct, hctl⟩ := HT.out.1.arr.ids
      refine (wpIn_wide (n := 3)).1 ?_
      refine loop_tells rfl (by omega) (gf := 97) (lb := #[.pointer (some ⟨b1, 0, none⟩), .pointer (some ⟨b2, 0, none⟩)]) rfl trivial (enters_of Tryz.func97 (by kernel_rfl) rfl)
        (rounds_tell 2 w2.heap.size b1 b2 gs i out w4 hsz (by omega) hF (hR.on hb24)) (fun h k => h.trans k) (kpr_put hsz) (fun pre x W l o o' _ hl ho h => good_put pre x W l o o' hl ho h) (Below.refl _ _) (fun _ => rfl)
        (fun pre W => (RkAt W w2.heap.size i rb (rkT i out pre.length) ∧ ∃ cs t fr, W.heap[w2.heap.size]? = some (.cells cs t fr)) ∧ W.heap[w2.heap.size + 1]? = some (.cells #[.slice (some ⟨w2.heap.size, 0, none⟩) i i] 28 (0, 0)) ∧ W.heap[w2.heap.size]? = some (.cells ct 57 (0, 0)) ∧ Below w2.heap.size w2 W)
        (fun _ _ _ => False)
        (OwnFrom.and (Own.from (rk_own w2.heap.size i rb (fun pre => rkT i out pre.length)) _) (OwnFrom.and (Own.from (blk_own _ _ _ _) _) (OwnFrom.and (Own.from (blk_own _ _ _ _) _) (ownFrom_below (Nat.le_refl _) hsz))))
        (fun _ _ _ _ _ hs _ _ => hs)
        ⟨⟨HT.out.1.done out, by obtain ⟨cs, h1, _⟩ := HT.out.1.arr.ids; exact ⟨cs, _, _, h1⟩⟩, HT.out.2, hct, hb24⟩
        ?fr ?assign ?body ?done ?stop
      case assign =>
        intro l x W K hK
        unfold rdV
        gi_wp2
        exact hK
      case body =>
        rintro l pre x W ⟨⟨hRk, hTc⟩, hbx, hct', hB⟩ hG
        have c1 : W.cell? ⟨w2.heap.size + 1, 0, none⟩ = some (.slice (some ⟨w2.heap.size, 0, none⟩) i i) := cell0_of hbx rfl
        obtain ⟨cs, hcs, hcl⟩ := hG.blk
        have hNt := note_any w2.heap.size i x.2 x.1 rb _ (Ro.rnd i out x.1) cs W (by omega) (Ro.rnd_len _ _ _) hRk hcs hcl (fun p hp e => by have := hrb p hp; have := hG.gu; omega)
        have HN : Hid _ := And.intro hNt (And.intro hTc (And.intro hbx (And.intro hB (And.intro hG (And.intro hRk hct')))))
        clear hRk hTc hbx hB hG hcs hcl hNt hct'
        gi_wp2
        refine ⟨trivial, (callsIn_round HN.out.1).mono ?_⟩
        rintro r W6 ⟨⟨vr, rfl⟩, hNt⟩
        have H6 : Hid _ := And.intro hNt.tb hNt.kp
        clear hNt
        gi_wp2
        have hlo : ∀ p, p < i → w2.heap.size + 2 ≤ rb p := HT.out.1.lo
        have hkp := H6.out.2
        have far : ∀ (b : Nat) (o : Obj), W.heap[b]? = some o → (∀ p, p < i → b ≠ rb p) → W6.heap[b]? = some o := fun b o ho hne => (hkp.block b (t_lt ho) fun ⟨p, hp, e⟩ => hne p hp e).trans ho
        have hbl : Below w2.heap.size W W6 := hkp.below HN.out.2.2.2.1.size fun b ⟨p, hp, e⟩ => by have := hlo p hp; omega
        refine ⟨⟨hkp.size, fun b o _ ho hc => far b o ho fun p hp e => ?_⟩, ⟨hbl, fun b cs hb hc => far b _ hc fun p hp e => by have := hrb p hp; omega⟩, ⟨⟨H6.out.1.congr fun p q _ _ => ?_, ?_⟩, ?_, ?_, HN.out.2.2.2.1.trans hbl⟩⟩
        · obtain ⟨cs, h1, _⟩ := HN.out.2.2.2.2.2.1.row p hp
          rw [e, h1] at ho
          cases ho
          cases hc
        · rw [HN.out.2.2.2.2.1.num, rkT_succ]
          simp
        · obtain ⟨ct, tt, fr, h1⟩ := HN.out.2.1
          exact ⟨ct, tt, fr, far _ _ h1 fun p hp e => by have := hlo p hp; omega⟩
        · exact far _ _ HN.out.2.2.1 fun p hp e => by have := hlo p hp; omega
        · exact far _ _ HN.out.2.2.2.2.2.2 fun p hp e => by have := hlo p hp; omega
      case done =>
        rintro D xs W hD ⟨R, hRl, hxl⟩ ⟨⟨hRk, _⟩, hbx, hct', hB⟩ hK
        have c1 : W.cell? ⟨w2.heap.size + 1, 0, none⟩ = some (.slice (some ⟨w2.heap.size, 0, none⟩) i i) := cell0_of hbx rfl
        have HD : Hid _ := And.intro hRk (And.intro hB (And.intro hRl (And.intro hxl hct')))
        clear hRk hB hRl hxl hbx hct'
        go_wp2_with fail
        show bodyPostM _ _ _ _ _ Exit.ret _ _
        refine ⟨by simp, .inl ⟨_, _, rfl, run_takeDeferred hK, ?_⟩⟩
        refine ⟨_, results_tmp2 rfl _ _ _, w2.heap.size, rb, R, rfl, by rw [← H1.out.2.2.2.2.2.1]; exact HD.out.2.2.1, ?_, ?_, ⟨ct, ?_, ?_⟩, ?_, fun p hp => ?_⟩
        · have h1 := HD.out.1
          rw [HD.out.2.2.2.1, H1.out.2.2.2.2.2.1] at h1
          refine ⟨fun p hp => ?_, fun p hp => ?_, h1.ne, h1.tn⟩
          · exact cell_kept (h1.tab p hp) (grownBy_putObj' _ D (.deferred none)) (fun r e => by cases e; exact ⟨_, hK, rfl⟩)
          · obtain ⟨cs, h2, h3⟩ := h1.row p hp
            have hne : rb p ≠ D := fun e => by rw [e, hK] at h2; cases h2
            exact ⟨cs, (World.putObj_heap_other hne).trans h2, h3⟩
        · exact bel6 (HD.out.2.1.trans (belowK_b (w := w2) (Nat.le_refl _) W D _ _ (by omega) hK rfl rfl)) H2.out.2.1
        · have h9 := HD.out.2.2.2.2
          have hne : w2.heap.size ≠ D := fun e => by rw [e, hK] at h9; cases h9
          exact (World.putObj_heap_other hne).trans h9
        · rw [← Array.length_toList, hctl]; exact HT.out.1.len
        · exact H2.out.2.1.size
        · have h9 := HT.out.1.lo p hp
          have h8 := H2.out.2.1.size
          omega
      case stop =>
        rintro D c pre W _ _ h _
        exact h.elim
theorem ranks_ok (hS : SortOk 1000000) (m : Nat) (k s : Int) (v : Value) (es : List Sy.Ed) (a : Addr) (w : World) (hA : Sent w 14 a) (hP : Pow w) (hv : BEdges.Has w v es) (hm : es.length ≤ 100000) (hq : Sy.right m k s es = true) (hm3 : m ≤ 300) :
    Calls Tryz.prog 21 #[sysV m k s v] w fun r w' => ∃ T rb R, r = .returned (.tuple #[.slice (some ⟨T, 0, none⟩) m m, .nilIface]) ∧ Ro.Last m (outOf m es) R ∧ RkAt w' T m rb (rkT m (outOf m es) (R + 1)) ∧ Below w.heap.size w w' :=
  (ranks_ok2 hS m k s v es a w hA hP hv hm hq hm3).mono fun _ _ ⟨T, rb, R, h1, h2, h3, h4, _⟩ => ⟨T, rb, R, h1, h2, h3, h4⟩
end Go.Proofs.YtpmanmoljlhogaaGreatDoor
/- Contract of the document's Next: the classes of the round behind one. -/
namespace Go.Proofs.YtpmanmoljlhogaaGreatDoor
open Go.RowKit Go.Maps
attribute [local go_sem ↓] Go.wp_at_zero Go.wp_at_succ
theorem key_eq {out : Nat → List Ro.St} {c : List Nat} {i j x y : Nat} (hx : c[i]? = some x) (hy : c[j]? = some y) : Ro.key out c i = Ro.key out c j ↔ x = y ∧ Ro.sgn out c i = Ro.sgn out c j := by
  unfold Ro.key Ro.sgn
  rw [Prod.mk.injEq, hx, hy]
  simp only [Option.getD_some]
  constructor
  · rintro ⟨h1, h2⟩; exact ⟨by omega, h2⟩
  · rintro ⟨h1, h2⟩; exact ⟨by omega, h2⟩
set_option maxRecDepth 100000 in
set_option maxHeartbeats 8000000 in
theorem docNext_any (gs n : Nat) (out : Nat → List Ro.St) (c : List Nat) (vc : Value) (w : World) (hn : n ≤ 1000) (hc : c.length = n) (hcl : ∀ u ∈ c, u < n) (hF : Fit n out) (hS : Stp w gs n out) (hv : HasI w vc (natI c)) :
    Calls Tryz.prog 32 #[.slice (some ⟨gs, 0, none⟩) n n, vc] w fun r w' => ∃ g, r = .returned (.slice (some ⟨g, 0, none⟩) n n) ∧ Arr 3 w w' g (natC (Ro.nx n out c)) := by
  obtain ⟨i0, hi0, hz0, hz1, hz2⟩ := info_parts Tryz.infoI4
  have hv0 := hv
  obtain ⟨ac, cc, rfl, hcs⟩ := hv
  have hcn : (natI c).length = n := by simp [natI, hc]
  rw [hcn] at hv0 ⊢
  have HH : Hid _ := And.intro hcs (And.intro hv0 (And.intro hc (And.intro hcl (And.intro hF hS))))
  clear hcs hc hcl hF hS hv0 hcn
  have hmk := makeI n (by omega) w
  have hmk2 := makeRI n (by omega) (w.alloc (.cells (madeV (.int .i64 0) n) 3))
  go_enter Tryz.func32, Tryz.ntmps32
  go_wp2_with fail
  clear hmk hmk2
  have hN0 := NxAt.new w n out c
  obtain ⟨w0, hw0⟩ : ∃ w0, w0 = (w.alloc (.cells (madeV (.int .i64 0) n) 3)).alloc (.cells (madeV (.slice none 0 0) n) 57) := ⟨_, rfl⟩
  rw [← hw0] at hN0 ⊢
  have HN0 : Hid _ := hN0
  clear hw0 hN0
  go_loopg [5, 8] n (fun q fv iv wr => ∃ (i : Nat) (Fn : List Nat), q = n - i ∧ i ≤ n ∧ iv = .int .i64 i ∧ NxAt w wr n i i out c fv Fn ∧ FsAt n i out c Fn)
  case atStart => exact ⟨0, [], rfl, Nat.zero_le _, rfl, HN0.out, by simp [Ro.dd], fun f hf => by simp at hf⟩
  case round =>
    obtain ⟨i, Fn, rfl, hi, rfl, hX, hFs⟩ := hrel
    obtain ⟨w1, rfl⟩ : ∃ w1, w1 = wr := ⟨_, rfl⟩
    by_cases hlt : i < n
    · obtain ⟨x, hx⟩ : ∃ x, c[i]? = some x := ⟨c[i]'(by have := HH.out.2.2.1; omega), List.getElem?_eq_getElem _⟩
      obtain ⟨a, rfl, c0⟩ := HH.out.1 i (x : Int) (by simp [natI, hx])
      obtain ⟨ar, cr, cs, hrow⟩ := (HH.out.2.2.2.2.2.below hX.cls.bl).row i hlt
      have hfit := HH.out.2.2.2.2.1 i hlt
      have hSg := docSig_any n c (out i) _ _ w1 hn HH.out.2.2.1 HH.out.2.2.2.1 hfit.2 hfit.1 hrow (HH.out.2.1.below hX.cls.bl)
      obtain ⟨Lr, hLr⟩ : ∃ Lr, Lr = (out i).length := ⟨_, rfl⟩
      rw [← hLr] at hSg cs
      have q0 : (0 : Int) ≤ (i : Int) := by omega
      have q1 : (i : Int) < (n : Int) := by omega
      obtain ⟨vs, hA, hvl, _⟩ := hX.sg
      obtain ⟨y0, hy0⟩ : ∃ y, vs[i]? = some y := ⟨vs[i]'(by omega), List.getElem?_eq_getElem _⟩
      have hft := hX.fst
      obtain ⟨au, cu, hu⟩ := row_shape hft
      obtain ⟨M, hM⟩ : ∃ M, M = Fn.length := ⟨_, rfl⟩
      rw [show (natI Fn).length = M by simp [natI, hM]] at hu
      obtain rfl := hu
      have hMi : M ≤ i := by have := hFs.len; omega
      have HS : Hid _ := And.intro hSg (And.intro hX (And.intro hFs (And.intro hx (And.intro hM (And.intro c0 (And.intro hA hy0))))))
      clear hSg hX hFs hx hM hrow hfit hLr c0 hA hy0 hvl hft
      go_wp2_with (go_at_call 92; refine Calls.mono HS.out.1 ?_; rintro r w2 ⟨u2, rfl, hO2, hb2⟩; obtain ⟨b2, c2, rfl⟩ := row_shape hO2; have cg := (HS.out.2.2.2.2.2.2.1.below hb2).cell HS.out.2.2.2.2.2.2.2; have cf := (HS.out.2.2.2.2.2.2.1.below hb2).free i; have HB2 : Hid _ := And.intro hO2 hb2; clear hO2 hb2)
      have hX2 := HS.out.2.1.sig hlt HB2.out.2 HB2.out.1
      obtain ⟨w3, hw3⟩ : ∃ w3, w3 = w2.setCell ⟨w.heap.size + 1, i, none⟩ (.slice b2 (Ro.sd (Ro.ends 1001 c (out i))).length c2) := ⟨_, rfl⟩
      rw [← hw3] at hX2 ⊢
      have HX : Hid _ := hX2
      clear hw3 hX2 cg cf cs
      go_loopg [9] M (fun q kv wr => ∃ (k d : Nat), q = M - k ∧ k ≤ M ∧ kv = .int .i64 k ∧ wr = w3.drewN d ∧ ∀ f ∈ Fn.take k, Ro.key out c f ≠ Ro.key out c i)
      case atStart => exact ⟨0, 0, rfl, Nat.zero_le _, rfl, rfl, fun f hf => by simp at hf⟩
      case round =>
        obtain ⟨k, d, rfl, hk, rfl, rfl, hno⟩ := hrel
        have HNo : Hid (∀ f ∈ Fn.take k, Ro.key out c f ≠ Ro.key out c i) := hno
        clear hno
        have hXd := HX.out
        by_cases hkM : k < M
        · obtain ⟨f, hf⟩ : ∃ f, Fn[k]? = some f := ⟨Fn[k]'(by have := HS.out.2.2.2.2.1; omega), List.getElem?_eq_getElem _⟩
          have hfi := HS.out.2.2.1.fl f (List.mem_of_getElem? hf)
          obtain ⟨xf, hxf⟩ : ∃ x, c[f]? = some x := ⟨c[f]'(by have := HH.out.2.2.1; omega), List.getElem?_eq_getElem _⟩
          obtain ⟨a9, ha9, cf0⟩ := HH.out.1 f (xf : Int) (by simp [natI, hxf])
          obtain rfl := Option.some.inj ha9
          have cx : w3.cell? (a.add i) = some (.int .i64 x) := (hXd.cls.bl.cell (World.block_lt_of_cell? w _ HS.out.2.2.2.2.2.1)).trans HS.out.2.2.2.2.2.1
          have cxf : w3.cell? (a.add f) = some (.int .i64 xf) := (hXd.cls.bl.cell (World.block_lt_of_cell? w _ cf0)).trans cf0
          obtain ⟨ao2, cap2, hv2, hc2⟩ := hXd.fst.has
          injection hv2 with e1 e2 e3
          subst e1
          obtain ⟨b, rfl, ck⟩ := hc2 k (f : Int) (by simp [natI, hf])
          have p0 : (0 : Int) ≤ (k : Int) := by omega
          have p1 : (k : Int) < (M : Int) := by omega
          have p2 : decide ((k : Int) < (M : Int)) = true := decide_eq_true p1
          have p3 : (0 : Int) ≤ (f : Int) := by omega
          have p4 : (f : Int) < (n : Int) := by omega
          have hkey := key_eq (out := out) hxf HS.out.2.2.2.1
          have HY : Hid _ := And.intro hf hkey
          clear hf hkey hc2 e2 e3 ha9 cf0 hxf
          by_cases hxe : xf = x
          · have g1 : ((xf : Int) != (x : Int)) = false := by simp [hxe]
            obtain ⟨vs3, hA3, hvl3, hrows⟩ := hXd.sg
            obtain ⟨uf, hvf, hOf, _⟩ := hrows f (by omega)
            obtain ⟨ui, hvi, hOi, _⟩ := hrows i (by omega)
            have cuf := hA3.cell hvf
            have cui := hA3.cell hvi
            have hSm : ∀ e9, Calls Tryz.prog 93 #[uf, ui] (w3.drewN (d + e9)) fun e w' => e = .returned (.bool (Ro.sgn out c f == Ro.sgn out c i)) ∧ ∃ m, w' = w3.drewN (d + m) := fun e9 =>
              (refSame_any uf ui _ _ _ (by have h1 := sgn_len out c f; have h2 := (HH.out.2.2.2.2.1 f (by omega)).1; omega) (by have h1 := sgn_len out c i; have h2 := (HH.out.2.2.2.2.1 i (by omega)).1; omega) (hOf.has.below (below_drewN (Below.refl _ _) _)) (hOi.has.below (below_drewN (Below.refl _ _) _))).mono fun _ _ ⟨he, m, hm⟩ => ⟨he, e9 + m, by rw [hm, World.drewN_drewN, Nat.add_assoc]⟩
            obtain ⟨auf, cuf0, rfl⟩ := row_shape hOf
            obtain ⟨aui, cui0, rfl⟩ := row_shape hOi
            have HA : Hid _ := And.intro hSm hxe
            clear hSm hxe hA3 hvl3 hrows hvf hvi hOf hOi
            by_cases hse : Ro.sgn out c f = Ro.sgn out c i
            · have g2 : (Ro.sgn out c f == Ro.sgn out c i) = true := by simp [hse]
              rw [g2] at HA
              have HE : Hid _ := hse
              clear hse g2 hXd
              have g3 : ((k : Int) == (M : Int)) = false := by simp; omega
              go_wp2_with fail
              go_quiet ((go_at_call 93; exact HA.out.1 _))
              rename Nat => nq
              rw [World.drewN_drewN]
              have hXz := HX.out.below (below_drewN (Below.refl _ _) (d + nq))
              have cz := hXz.cls.cell (i := i) (x := .int .i64 0) (by rw [List.getElem?_append_right (by rw [natC_len, Ro.num_len, List.length_take]; omega), natC_len, Ro.num_len, List.length_take, Ro.keys_len, List.getElem?_replicate, if_pos (by omega)])
              have cfz := hXz.cls.free i
              have HZ : Hid _ := hXz
              clear hXz
              go_wp2_with fail
              go_roundg (n - (i + 1))
              case measure => omega
              case rel =>
                have hke : Ro.key out c f = Ro.key out c i := HY.out.2.2 ⟨HA.out.2, HE.out⟩
                exact ⟨i + 1, Fn, rfl, by omega, by go_num, HZ.out.put hlt (HS.out.2.2.1.at HY.out.1 hke HNo.out), HS.out.2.2.1.old hlt HY.out.1 hke⟩
            · have g2 : (Ro.sgn out c f == Ro.sgn out c i) = false := by simp [hse]
              rw [g2] at HA
              have HE : Hid _ := hse
              clear hse g2 hXd
              go_wp2_with fail
              go_quiet ((go_at_call 93; exact HA.out.1 _))
              rename Nat => nq
              rw [World.drewN_drewN]
              go_wp2_with fail
              go_roundg (M - (k + 1))
              case measure => omega
              case rel =>
                exact ⟨k + 1, _, rfl, by omega, by go_num, rfl, fun g hg => by
                  rw [take_succ_of HY.out.1] at hg
                  rcases List.mem_append.1 hg with hg | hg
                  · exact HNo.out g hg
                  · rw [List.mem_singleton.1 hg]; exact fun e => HE.out (HY.out.2.1 e).2⟩
          · have g1 : ((xf : Int) != (x : Int)) = true := by simp; omega
            have HE : Hid _ := hxe
            clear hxe hXd
            go_wp2_with fail
            go_quiet (fail)
            rename Nat => nq
            rw [World.drewN_drewN]
            go_wp2_with fail
            go_roundg (M - (k + 1))
            case measure => omega
            case rel =>
              exact ⟨k + 1, _, rfl, by omega, by go_num, rfl, fun g hg => by
                rw [take_succ_of HY.out.1] at hg
                rcases List.mem_append.1 hg with hg | hg
                · exact HNo.out g hg
                · rw [List.mem_singleton.1 hg]; exact fun e => HE.out (HY.out.2.1 e).1⟩
        · obtain rfl : k = M := by omega
          have p1 : ¬ (k : Int) < (k : Int) := by omega
          have p2 : decide ((k : Int) < (k : Int)) = false := decide_eq_false p1
          have p3 : ((k : Int) == (k : Int)) = true := by simp
          clear hXd
          go_wp2_with fail
          go_quiet (fail)
          rename Nat => nq
          rw [World.drewN_drewN]
          have hXz := HX.out.below (below_drewN (Below.refl _ _) (d + nq))
          obtain ⟨wz, hwz⟩ : ∃ wz, wz = w3.drewN (d + nq) := ⟨_, rfl⟩
          rw [← hwz] at hXz ⊢
          have hOz : wz.ownsRow (w.heap.size + 2) 3 1 (.slice au k cu) k (iC (natI Fn)) := by have h1 := hXz.fst; unfold OwnI at h1; rw [show (natI Fn).length = k by simp [natI, HS.out.2.2.2.2.1]] at h1; exact h1
          have hml : k + 1 ≤ maxLen := by unfold maxLen; omega
          have hby : (k + 1) * 8 ≤ 140737488355328 := by omega
          have hle : w.heap.size + 2 ≤ (wz.alloc (.cells #[.int .i64 i] 3)).heap.size := by have := hXz.big; simp; omega
          have HZ : Hid _ := And.intro hOz hXz
          clear hwz hOz hXz
          have hcx : ((natC (Ro.num ((Ro.keys n out c).take i)) ++ List.replicate (n - i) (Value.int .i64 0)))[i]? = some (.int .i64 0) := by
            rw [List.getElem?_append_right (by rw [natC_len, Ro.num_len, List.length_take]; omega), natC_len, Ro.num_len, List.length_take, Ro.keys_len, List.getElem?_replicate, if_pos (by omega)]
          have HCX : Hid _ := hcx
          clear hcx
          go_wp2_with (at_builtin; refine wpList_append_own_at _ rfl _ _ 57 rfl (w.heap.size + 2) 3 i0 (.int .i64 0) 1 8 Tryz.underlying57 hi0 hz0 hz1 hz2 rfl (by decide) (.slice au k cu) k (iC (natI Fn)) rfl (HZ.out.1.alloc _) ⟨wz.heap.size, 0, none⟩ 1 1 [.int .i64 i] rfl rfl (World.news_of_block (cs := #[.int .i64 i]) (t := 3) (fr := (0, 0)) (heap_alloc_new wz _)) (by simp [Value.oneCell']) hml hby hle ?_; intro v5 w5 hO5 hg5 hnil5 hat5; have hX5 := HZ.out.2.app HS.out.2.2.2.2.1 hO5 hg5 hat5; have cx := hX5.cls.cell HCX.out; have cf := hX5.cls.free i; have H5 : Hid _ := hX5; clear hO5 hg5 hnil5 hat5 hX5)
          go_roundg (n - (i + 1))
          case measure => omega
          case rel =>
            have hno := HNo.out
            rw [List.take_of_length_le (by have := HS.out.2.2.2.2.1; omega)] at hno
            obtain ⟨hF1, hp1⟩ := HS.out.2.2.1.new hlt hno
            exact ⟨i + 1, Fn ++ [i], rfl, by omega, by go_num, H5.out.put hlt (by rw [HS.out.2.2.2.2.1]; exact hp1), hF1⟩
    · obtain rfl : i = n := by omega
      have q1 : ¬ (i : Int) < (i : Int) := by omega
      have HA : Hid _ := hX.cls
      clear hX hFs
      go_wp2_with fail
      go_ret
      have h1 := HA.out
      rw [Nat.sub_self, List.replicate_zero, List.append_nil, List.take_of_length_le (by rw [Ro.keys_len]; exact Nat.le_refl _), Ro.keys_nx] at h1
      exact ⟨_, rfl, h1⟩
end Go.Proofs.YtpmanmoljlhogaaGreatDoor
/- The one form of classes: who is together, the form of the form, when two have one. Plain facts. -/
namespace Go.Proofs.YtpmanmoljlhogaaGreatDoor.Sy
theorem place_lt {c : Int} {l : List Int} : place c l < l.length ↔ c ∈ l := by
  induction l with
  | nil => simp [place]
  | cons a r ih =>
    unfold place
    by_cases h : a = c
    · simp [h]
    · rw [if_neg h, List.length_cons, Nat.add_lt_add_iff_right, ih, List.mem_cons]
      exact ⟨fun h1 => .inr h1, fun h1 => h1.elim (fun e => absurd e.symm h) id⟩
theorem place_not {c : Int} {l : List Int} (h : c ∉ l) : place c l = l.length := by
  have h1 := place_le c l
  have h2 : ¬ place c l < l.length := fun h2 => h (place_lt.1 h2)
  omega
theorem place_at {c : Int} {l : List Int} (h : c ∈ l) : l[place c l]? = some c := by
  induction l with
  | nil => simp at h
  | cons a r ih =>
    unfold place
    by_cases h1 : a = c
    · simp [h1]
    · rw [if_neg h1, List.getElem?_cons_succ]
      exact ih ((List.mem_cons.1 h).elim (fun e => absurd e.symm h1) id)
theorem place_inj {a b : Int} {l : List Int} (ha : a ∈ l) (hb : b ∈ l) (h : place a l = place b l) : a = b := by
  have h1 := place_at ha
  rw [h, place_at hb] at h1
  exact (Option.some.inj h1).symm
theorem place_left {c : Int} {a : List Int} (b : List Int) (h : c ∈ a) : place c (a ++ b) = place c a := by
  induction a with
  | nil => simp at h
  | cons x r ih =>
    simp only [List.cons_append, place]
    by_cases h1 : x = c
    · simp [h1]
    · rw [if_neg h1, if_neg h1, ih ((List.mem_cons.1 h).elim (fun e => absurd e.symm h1) id)]
/-- Those seen, with one more. -/
def more (c : Int) (seen : List Int) : List Int := if place c seen < seen.length then seen else seen ++ [c]
theorem more_mem (c : Int) (seen : List Int) : c ∈ more c seen := by
  unfold more
  split
  · next h => exact place_lt.1 h
  · exact List.mem_append_right _ (List.mem_singleton.2 rfl)
theorem more_pre (c : Int) (seen : List Int) : ∃ t, more c seen = seen ++ t := by
  unfold more
  split
  · exact ⟨[], by simp⟩
  · exact ⟨[c], rfl⟩
theorem more_place (c : Int) (seen : List Int) : place c (more c seen) = place c seen := by
  unfold more
  split
  · rfl
  · next h =>
    have h1 : c ∉ seen := fun h1 => h (place_lt.2 h1)
    rw [place_app c seen [c] (fun x hx e => h1 (by rw [← e]; exact hx)), place_not h1]
    simp [place]
theorem seenG_pre (l : List Int) : ∀ seen, ∃ t, seenG seen l = seen ++ t := by
  induction l with
  | nil => intro seen; exact ⟨[], by simp [seenG]⟩
  | cons c r ih =>
    intro seen
    obtain ⟨t, ht⟩ := ih (more c seen)
    obtain ⟨u, hu⟩ := more_pre c seen
    refine ⟨u ++ t, ?_⟩
    show seenG (more c seen) r = _
    rw [ht, hu, List.append_assoc]
theorem seenG_mem (l : List Int) : ∀ seen, ∀ z ∈ l, z ∈ seenG seen l := by
  induction l with
  | nil => intro seen z h; simp at h
  | cons c r ih =>
    intro seen z hz
    show z ∈ seenG (more c seen) r
    rcases List.mem_cons.1 hz with rfl | hz
    · obtain ⟨t, ht⟩ := seenG_pre r (more z seen)
      rw [ht]; exact List.mem_append_left _ (more_mem z seen)
    · exact ih _ z hz
theorem canonG_map (l : List Int) : ∀ seen, canonG seen l = l.map fun z => place z (seenG seen l) := by
  induction l with
  | nil => intro seen; rfl
  | cons c r ih =>
    intro seen
    show place c seen :: canonG (more c seen) r = place c (seenG (more c seen) r) :: r.map fun z => place z (seenG (more c seen) r)
    rw [ih]
    congr 1
    obtain ⟨t, ht⟩ := seenG_pre r (more c seen)
    rw [ht, place_left t (more_mem c seen), more_place]
theorem canon_map (l : List Int) : canon l = l.map fun z => place z (seenG [] l) := canonG_map l []
theorem place_map (f : Int → Int) (c : Int) (l : List Int) (h : ∀ x ∈ l, f x = f c → x = c) : place (f c) (l.map f) = place c l := by
  induction l with
  | nil => rfl
  | cons a r ih =>
    simp only [List.map_cons, place]
    by_cases h1 : a = c
    · simp [h1]
    · rw [if_neg h1, if_neg (fun e => h1 (h a List.mem_cons_self e)), ih fun x hx => h x (List.mem_cons_of_mem _ hx)]
/-- Numbers that are renamed one to one have the same one form. -/
theorem canonG_inj (f : Int → Int) (l : List Int) : ∀ seen, (∀ x ∈ seen ++ l, ∀ y ∈ seen ++ l, f x = f y → x = y) → canonG (seen.map f) (l.map f) = canonG seen l := by
  induction l with
  | nil => intro seen _; rfl
  | cons c r ih =>
    intro seen h
    have hp : place (f c) (seen.map f) = place c seen := place_map f c seen fun x hx e => h x (List.mem_append_left _ hx) c (List.mem_append_right _ List.mem_cons_self) e
    have hm : more (f c) (seen.map f) = (more c seen).map f := by
      unfold more
      rw [hp, List.length_map]
      split
      · rfl
      · simp
    show place (f c) (seen.map f) :: canonG (more (f c) (seen.map f)) (r.map f) = place c seen :: canonG (more c seen) r
    rw [hp, hm, ih (more c seen)]
    have hsub : ∀ x ∈ more c seen ++ r, x ∈ seen ++ c :: r := fun x hx => by
      rcases List.mem_append.1 hx with hx | hx
      · unfold more at hx
        split at hx
        · exact List.mem_append_left _ hx
        · rcases List.mem_append.1 hx with hx | hx
          · exact List.mem_append_left _ hx
          · rw [List.mem_singleton.1 hx]; exact List.mem_append_right _ List.mem_cons_self
      · exact List.mem_append_right _ (List.mem_cons_of_mem _ hx)
    exact fun x hx y hy e => h x (hsub x hx) y (hsub y hy) e
theorem canon_inj (f : Int → Int) (l : List Int) (h : ∀ x ∈ l, ∀ y ∈ l, f x = f y → x = y) : canon (l.map f) = canon l := canonG_inj f l [] (by simpa using h)
theorem natI_map (l : List Int) : natI (canon l) = l.map fun z => ((place z (seenG [] l) : Nat) : Int) := by
  rw [canon_map]; simp [natI]
/-- It is its own one form. -/
theorem canon_idem (l : List Int) : canon (natI (canon l)) = canon l := by
  rw [natI_map]
  refine canon_inj _ l fun x hx y hy e => place_inj (seenG_mem l [] x hx) (seenG_mem l [] y hy) (by omega)
/-- It keeps who is together. -/
theorem canon_eq {l : List Int} {i k : Nat} {x y : Int} (hi : l[i]? = some x) (hk : l[k]? = some y) {u v : Int} (hu : (natI (canon l))[i]? = some u) (hv : (natI (canon l))[k]? = some v) : u = v ↔ x = y := by
  rw [natI_map, List.getElem?_map, hi] at hu
  rw [natI_map, List.getElem?_map, hk] at hv
  simp only [Option.map_some, Option.some.injEq] at hu hv
  subst hu; subst hv
  constructor
  · intro e
    exact place_inj (seenG_mem l [] x (List.mem_of_getElem? hi)) (seenG_mem l [] y (List.mem_of_getElem? hk)) (by omega)
  · rintro rfl; rfl
/-- Two lists have one just if they say the same together. -/
theorem canon_iff {a b : List Int} (hl : a.length = b.length) : canon a = canon b ↔ ∀ (i k : Nat) (x y u v : Int), a[i]? = some x → a[k]? = some y → b[i]? = some u → b[k]? = some v → (x = y ↔ u = v) := by
  constructor
  · intro h i k x y u v hx hy hu hv
    have hil := (List.getElem?_eq_some_iff.1 hx).1
    have hkl := (List.getElem?_eq_some_iff.1 hy).1
    have hn : (natI (canon a)).length = a.length := by rw [natI_map, List.length_map]
    obtain ⟨p, hp⟩ : ∃ p, (natI (canon a))[i]? = some p := ⟨_, List.getElem?_eq_getElem (by rw [hn]; exact hil)⟩
    obtain ⟨q, hq⟩ : ∃ q, (natI (canon a))[k]? = some q := ⟨_, List.getElem?_eq_getElem (by rw [hn]; exact hkl)⟩
    exact (canon_eq hx hy hp hq).symm.trans (canon_eq hu hv (by rw [← h]; exact hp) (by rw [← h]; exact hq))
  · intro h
    have hb : b = a.map fun z => (b[place z a]?).getD 0 := by
      apply List.ext_getElem?
      intro i
      by_cases hi : i < a.length
      · have hx : a[i]? = some a[i] := List.getElem?_eq_getElem hi
        have hu : b[i]? = some (b[i]'(by omega)) := List.getElem?_eq_getElem _
        have hm : a[i] ∈ a := List.getElem_mem hi
        have hp := place_at hm
        have hpl : place a[i] a < a.length := place_lt.2 hm
        have hv : b[place a[i] a]? = some (b[place a[i] a]'(by omega)) := List.getElem?_eq_getElem _
        rw [List.getElem?_map, hx, hu]
        simp only [Option.map_some]
        rw [hv]
        have h2 := (h i (place a[i] a) _ _ _ _ hx hp hu hv).1 rfl
        rw [h2]; rfl
      · rw [List.getElem?_eq_none (by omega), List.getElem?_eq_none (by rw [List.length_map]; omega)]
    rw [hb]
    refine (canon_inj _ a fun x hx y hy e => ?_).symm
    have hxl : place x a < b.length := by rw [← hl]; exact place_lt.2 hx
    have hyl : place y a < b.length := by rw [← hl]; exact place_lt.2 hy
    have hu : b[place x a]? = some b[place x a] := List.getElem?_eq_getElem hxl
    have hv : b[place y a]? = some b[place y a] := List.getElem?_eq_getElem hyl
    rw [hu, hv] at e
    exact (h _ _ _ _ _ _ (place_at hx) (place_at hy) hu hv).2 e
theorem formG_canon (l : List Int) : ∀ seen, formG seen.length (natI (canonG seen l)) = true := by
  induction l with
  | nil => intro seen; rfl
  | cons c r ih =>
    intro seen
    have h1 := ih (more c seen)
    show (decide ((0 : Int) ≤ ((place c seen : Nat) : Int) ∧ ((place c seen : Nat) : Int) ≤ (seen.length : Int)) && formG (if ((place c seen : Nat) : Int) = (seen.length : Int) then seen.length + 1 else seen.length) (natI (canonG (more c seen) r))) = true
    have h2 := place_le c seen
    rw [decide_eq_true (by omega), Bool.true_and]
    have h3 : (more c seen).length = if ((place c seen : Nat) : Int) = (seen.length : Int) then seen.length + 1 else seen.length := by
      unfold more
      by_cases e : place c seen < seen.length
      · rw [if_pos e, if_neg (by omega)]
      · rw [if_neg e, if_pos (by omega)]; simp
    rw [← h3]
    exact h1
/-- It is in the one form. -/
theorem classes_canon (l : List Int) (n : Int) (hn : n = (l.length : Int)) : classes n (natI (canon l)) = true := by
  have h1 : (natI (canon l)).length = l.length := by rw [natI_map, List.length_map]
  unfold classes
  rw [h1, hn, decide_eq_true rfl, Bool.true_and]
  exact formG_canon l []
end Go.Proofs.YtpmanmoljlhogaaGreatDoor.Sy
/- Contracts of the program's numbered, Canon, Together and Classes. -/
namespace Go.Proofs.YtpmanmoljlhogaaGreatDoor
open Go.RowKit Go.Maps
attribute [local go_sem ↓] Go.wp_at_zero Go.wp_at_succ
/-- The map tells each class's place among those that were seen. -/
structure MapI (D : DataW Unit) (ns : List Int) : Prop where
  yes : ∀ (i : Nat) (z : Int), ns[i]? = some z → Maps.has D (.int .i64 z) = true ∧ D.atKey (.int .i64 z) (.lit (.int .i64 0)) = .lit (.int .i64 i)
  no : ∀ z : Int, z ∉ ns → Maps.has D (.int .i64 z) = false
  size : Maps.size D = ns.length
theorem MapI.nil : MapI (.map []) [] := ⟨fun i s h => by simp at h, fun s _ => rfl, rfl⟩
theorem ikey_inj {a b : Int} (h : Lit.int .i64 a = Lit.int .i64 b) : a = b := by injection h
theorem MapI.snoc {D : DataW Unit} {ns : List Int} (h : MapI D ns) (hD : IsMap D) (hT : Tidy D) (s : Int) (hs : s ∉ ns) : MapI (D.put (.int .i64 s) (.lit (.int .i64 ns.length))) (ns ++ [s]) := by
  refine ⟨fun i t ht => ?_, fun t ht => ?_, ?_⟩
  · rcases Nat.lt_or_ge i ns.length with hi | hi
    · rw [List.getElem?_append_left hi] at ht
      have hne : Lit.int .i64 t ≠ Lit.int .i64 s := fun e => hs (ikey_inj e ▸ List.mem_of_getElem? ht)
      rw [has_put_other hne, atKey_put_other hne]
      exact h.yes i t ht
    · rw [List.getElem?_append_right hi] at ht
      have hi0 : i - ns.length = 0 := by
        have := (List.getElem?_eq_some_iff.1 ht).1
        simp at this; omega
      rw [hi0] at ht
      simp at ht
      subst ht
      have : i = ns.length := by omega
      subst this
      have hk : WideAt.IsKeyLit (.int .i64 s) := trivial
      exact ⟨has_put_same hD hk _, atKey_put_same hD hk _ _⟩
  · have hne : Lit.int .i64 t ≠ Lit.int .i64 s := fun e => ht (by rw [ikey_inj e]; simp)
    rw [has_put_other hne]
    exact h.no t fun hm => ht (by simp [hm])
  · rw [size_put hT, h.no s hs]
    simp [h.size]
theorem Sy.place_mem {z : Int} {l : List Int} : Sy.place z l < l.length ↔ z ∈ l := by
  induction l with
  | nil => simp [Sy.place]
  | cons a r ih =>
    unfold Sy.place
    by_cases h : a = z
    · simp [h]
    · have h2 : z ≠ a := fun e => h e.symm
      simp [h, h2, ← ih]
theorem Sy.place_no {z : Int} {l : List Int} (h : z ∉ l) : Sy.place z l = l.length := by
  have h1 := Sy.place_le z l
  have h2 : ¬ Sy.place z l < l.length := fun e => h (Sy.place_mem.1 e)
  omega
theorem Tryz.lawI7 : Keyed Tryz.prog 3 := int_keyed Tryz.underlying3
theorem Tryz.zeroI7 (w : World) : (zeroValue 3).run Tryz.prog w = .ok (.int .i64 0) w := by kernel_rfl
/-- The list being made, and the map, in memory. -/
structure NumAt (w wr : World) (zs : List Int) (n i : Nat) (D : DataW Unit) (seen : List Int) : Prop where
  arr : Arr 3 w wr (w.heap.size + 1) (natC (Sy.canonG [] (zs.take i)) ++ List.replicate (n - i) (.int .i64 0))
  own : wr.ownsMap (H := Unit) Tryz.prog 3 (plainElem Tryz.prog 3) w.heap.size seen.length D
  map : MapI D seen
theorem Sy.top_canonG (l : List Int) : ∀ seen : List Int, max seen.length (Sy.top (Sy.canonG seen l)) = (Sy.seenG seen l).length := by
  induction l with
  | nil => intro seen; simp [Sy.canonG, Sy.top, Sy.seenG]
  | cons c r ih =>
    intro seen
    simp only [Sy.canonG, Sy.top, Sy.seenG]
    rw [← ih]
    have h1 := Sy.place_le c seen
    split <;> (try simp) <;> omega
theorem Sy.together_eq (zs : List Int) : Sy.together zs = (Sy.seenG [] zs).length := by
  rw [← Sy.top_canonG zs []]
  simp [Sy.together, Sy.canon]
theorem arr_mapTurn {w wr w3 : World} {gi : Nat} {vs : List Value} {bm : Nat} (h : Arr 3 w wr gi vs) (hg : wr.grownBy w3 (some bm)) (hb : w.heap.size ≤ bm) (hne : bm ≠ gi) : Arr 3 w w3 gi vs :=
  h.kept (Kept.of_grown hg) fun b e => by injection e with e; subst e; exact ⟨hb, hne⟩
theorem num_step {w w3 w4 : World} {zs : List Int} {n i k : Nat} {D2 : DataW Unit} {seen s2 : List Int} {z : Int} (hz : zs[i]? = some z) (hi : i < n) (hn : n = zs.length) (hs : seen = Sy.seenG [] (zs.take i)) (hA : Arr 3 w w3 (w.heap.size + 1) (natC (Sy.canonG [] (zs.take i)) ++ List.replicate (n - i) (.int .i64 0)))
    (hk : k = Sy.place z seen) (h4 : w4 = w3.setCell ⟨w.heap.size + 1, i, none⟩ (.int .i64 (k : Int))) (ho : w3.ownsMap (H := Unit) Tryz.prog 3 (plainElem Tryz.prog 3) w.heap.size s2.length D2) (hm : MapI D2 s2) :
    NumAt w w4 zs n (i + 1) D2 s2 := by
  subst h4
  have hC : (Sy.canonG [] (zs.take i)).length = i := by rw [Sy.canonG_len, List.length_take]; omega
  have hAs := hA.set i (.int .i64 (k : Int))
  rw [natC_step _ n i k hC hi] at hAs
  refine ⟨?_, ho.setCell (by simp) _, hm⟩
  rw [Sy.canon_step hz, ← hs, ← hk]
  exact hAs
set_option maxRecDepth 100000 in
set_option maxHeartbeats 8000000 in
theorem numbered_any (v : Value) (zs : List Int) (w : World) (hv : HasI w v zs) (hn : zs.length ≤ 100000) (hw : I64s zs) :
    Calls Tryz.prog 90 #[v] w fun e w' => ∃ u, e = .returned (.tuple #[u, .int .i64 (Sy.together zs : Nat)]) ∧ OwnI w' w.heap.size u (natI (Sy.canon zs)) ∧ Below w.heap.size w w' := by
  obtain ⟨ao, cap, rfl, hcs⟩ := hv
  obtain ⟨n, hN⟩ : ∃ n, n = zs.length := ⟨_, rfl⟩
  have HH : Hid _ := And.intro hcs (And.intro hN hw)
  rw [← hN] at hn ⊢
  clear hcs hN hw
  have hmm := @run_makeMap Tryz.prog
  have hmk := makeI n (by omega) (w.alloc (.map #[] 0))
  go_enter Tryz.func90, Tryz.ntmps90
  go_wp2_with fail
  clear hmk hmm
  go_loopg [16] n (fun q iv wr => ∃ (i : Nat) (D : DataW Unit) (seen : List Int), q = n - i ∧ i ≤ n ∧ iv = .int .i64 i ∧ seen = Sy.seenG [] (zs.take i) ∧ NumAt w wr zs n i D seen)
  case atStart =>
    refine ⟨0, .map [], [], rfl, Nat.zero_le _, rfl, by simp [Sy.seenG], ?_, ?_, MapI.nil⟩
    · have h1 := arr_new 3 (.int .i64 0) rfl n (w.alloc (.map #[] 0))
      have h2 := h1.back ((Below.refl _ w).alloc (Nat.le_refl _) _)
      simpa [Sy.canonG, natC] using h2
    · have := World.ownsMap_made (H := Unit) w Tryz.prog 3 (plainElem Tryz.prog 3)
      exact this.alloc _
  case round =>
    obtain ⟨i, D, seen, rfl, hi, rfl, hseen, hM⟩ := hrel
    by_cases hlt : i < n
    · obtain ⟨z, hz⟩ : ∃ z, zs[i]? = some z := ⟨zs[i]'(by have := HH.out.2.1; omega), List.getElem?_eq_getElem _⟩
      obtain ⟨a, rfl, c0⟩ := HH.out.1 i z hz
      have cz : wr.cell? (a.add i) = some (.int .i64 z) := (hM.arr.bl.cell (World.block_lt_of_cell? w _ c0)).trans c0
      have hzw : (Lit.int .i64 z).wf = true := HH.out.2.2 z (List.mem_of_getElem? hz)
      have hkey : keyOf Tryz.prog 3 (.int .i64 z) = some (.int .i64 z) := keyOf_int_mk Tryz.underlying3 hzw
      have q0 : (0 : Int) ≤ (i : Int) := by omega
      have q1 : (i : Int) < (n : Int) := by omega
      have hsl : seen.length ≤ i := by
        have := Sy.seenG_len (zs.take i) []
        rw [← hseen, List.length_take] at this
        simp at this; omega
      have hix : (natC (Sy.canonG [] (zs.take i)) ++ List.replicate (n - i) (Value.int .i64 0))[i]? = some (.int .i64 0) := by
        rw [List.getElem?_append_right (by rw [natC_len, Sy.canonG_len, List.length_take]; omega), natC_len, Sy.canonG_len, List.length_take, List.getElem?_replicate, if_pos (by have := HH.out.2.1; omega)]
      have hst := Sy.seen_step hz
      rw [← hseen] at hst
      by_cases hin : z ∈ seen
      · obtain ⟨hy1, hy2⟩ := hM.map.yes _ z (Sy.place_at hin)
        have cx := hM.arr.cell hix
        have cf := hM.arr.free i
        rw [if_pos (Sy.place_mem.2 hin)] at hst
        have HO : Hid (wr.ownsMap (H := Unit) Tryz.prog 3 (plainElem Tryz.prog 3) w.heap.size seen.length D) := hM.own
        have HY : Hid (D.atKey (.int .i64 z) (.lit (.int .i64 0)) = .lit (.int .i64 (Sy.place z seen : Nat))) := hy2
        have HM : Hid _ := And.intro hM (And.intro hseen (And.intro hz hst))
        clear hM hseen hz hst hy2 hix c0 hin hzw
        obtain ⟨k, hk⟩ : ∃ k, k = Sy.place z seen := ⟨_, rfl⟩
        rw [← hk] at HY
        have HK : Hid (k = Sy.place z seen) := hk
        clear hk
        go_wp2_with (at_lookup; refine wpList_lookup_own_ok_int _ rfl _ _ 174 rfl 3 3 .i64 Tryz.lawI7 Tryz.underlying174 Tryz.underlying3 (Tryz.zeroI7 _) w.heap.size seen.length D rfl HO.out _ _ rfl hkey ?_; rw [hy1]; intro c hat hwc; obtain rfl : c = (k : Int) := (by rw [HY.out] at hat; injection hat with hat; injection hat with _ hat; exact hat.symm); clear hat hwc)
        go_roundg (n - (i + 1))
        case measure => omega
        case rel =>
          exact ⟨i + 1, D, seen, rfl, by omega, by go_num, HM.out.2.2.2.symm, num_step HM.out.2.2.1 hlt HH.out.2.1 HM.out.2.1 HM.out.1.arr HK.out rfl HO.out HM.out.1.map⟩
      · have hy1 := hM.map.no z hin
        rw [if_neg fun e => hin (Sy.place_mem.1 e)] at hst
        have HO : Hid (wr.ownsMap (H := Unit) Tryz.prog 3 (plainElem Tryz.prog 3) w.heap.size seen.length D) := hM.own
        have hml : seen.length < maxLen := by unfold maxLen; omega
        have hsz : Maps.size D = seen.length := hM.map.size
        obtain ⟨m, hm⟩ : ∃ m, m = seen.length := ⟨_, rfl⟩
        have HM : Hid _ := And.intro hM (And.intro hseen (And.intro hz (And.intro hst (And.intro hin (And.intro hix hm)))))
        rw [← hm] at HO hml hsz hsl
        have hwf : (Lit.int .i64 (m : Int)).wf = true := WalkArith.wf_i64 (by omega)
        have HS : Hid _ := hsz
        clear hM hseen hz hst hix c0 hin hzw hm hsz
        go_wp2_with (first
          | (at_lookup; refine wpList_lookup_own_ok_int _ rfl _ _ 174 rfl 3 3 .i64 Tryz.lawI7 Tryz.underlying174 Tryz.underlying3 (Tryz.zeroI7 _) w.heap.size m D rfl HO.out _ _ rfl hkey ?_; rw [hy1]; intro c hat hwc; clear hat hwc)
          | (at_len; refine wpList_len_own _ rfl _ 174 rfl 3 3 Tryz.underlying174 _ w.heap.size m D rfl HO.out ?_; rw [HS.out])
          | (at_mapUpdate; refine wpList_mapUpdate_own _ rfl _ _ _ 174 rfl 3 3 Tryz.lawI7 Tryz.underlying174 _ w.heap.size m D rfl HO.out hml _ _ _ rfl rfl hkey _ [] (plainElem_int Tryz.underlying3 hwf) ?_; intro w3 hown3 hgrow3; have hA3 := arr_mapTurn HM.out.1.arr hgrow3 (Nat.le_refl _) (by omega); have cx := hA3.cell HM.out.2.2.2.2.2.1; have cf := hA3.free i; have H3 : Hid _ := And.intro hA3 hown3; clear hA3 hown3 hgrow3))
        go_roundg (n - (i + 1))
        case measure => omega
        case rel =>
          have hm := HM.out.2.2.2.2.2.2
          have h3 := H3.out.2
          have hmp := HM.out.1.map.snoc HM.out.1.own.isMap (HM.out.1.own.tidy Tryz.lawI7) z HM.out.2.2.2.2.1
          rw [← hm] at hmp
          have el : m + 1 = (seen ++ [z]).length := by simp [hm]
          rw [el] at h3
          exact ⟨i + 1, _, seen ++ [z], rfl, by omega, by go_num, HM.out.2.2.2.1.symm, num_step HM.out.2.2.1 hlt HH.out.2.1 HM.out.2.1 H3.out.1 (by rw [Sy.place_no HM.out.2.2.2.2.1, hm]) rfl h3 hmp⟩
    · obtain rfl : i = n := by omega
      have hsz : Maps.size D = seen.length := hM.map.size
      have HO : Hid (wr.ownsMap (H := Unit) Tryz.prog 3 (plainElem Tryz.prog 3) w.heap.size seen.length D) := hM.own
      have HM : Hid _ := And.intro hM (And.intro hseen hsz)
      obtain ⟨m, hm⟩ : ∃ m, m = seen.length := ⟨_, rfl⟩
      rw [← hm] at HO
      have HS : Hid (Maps.size D = m) := hsz.trans hm.symm
      have HN : Hid _ := hm
      clear hM hseen hsz hm
      go_wp2_with (at_len; refine wpList_len_own _ rfl _ 174 rfl 3 3 Tryz.underlying174 _ w.heap.size m D rfl HO.out ?_; rw [HS.out])
      go_ret2
      have hA := HM.out.1.arr
      have hl : i = zs.length := HH.out.2.1
      rw [hl, Nat.sub_self, List.replicate_zero, List.append_nil, List.take_length] at hA
      have how := (hA.own (by rw [natC_len, Sy.canonG_len]; unfold maxLen; omega))
      rw [natC_len, Sy.canonG_len] at how
      refine ⟨.slice (some ⟨w.heap.size + 1, 0, none⟩) zs.length zs.length, by rw [HN.out, HM.out.2.1, hl, List.take_length, ← Sy.together_eq]; rfl, ?_, HM.out.1.arr.bl⟩
      unfold OwnI
      rw [iC_nat, show (natI (Sy.canon zs)).length = zs.length by simp [natI, Sy.canon, Sy.canonG_len]]
      exact how
end Go.Proofs.YtpmanmoljlhogaaGreatDoor
/- Contract of the document's Out: of each state its steps. -/
namespace Go.Proofs.YtpmanmoljlhogaaGreatDoor
open Go.RowKit Go.Maps
attribute [local go_sem ↓] Go.wp_at_zero Go.wp_at_succ
/-- Rows of steps, one for each state, all of them from B on, no two in one block. -/
structure Outs (w : World) (B : Nat) (us : List Value) (n : Nat) (f : Nat → List BSteps.El) : Prop where
  len : us.length = n
  row : ∀ i, i < n → ∃ u, us[i]? = some u ∧ BSteps.Own w B u (f i)
  ap : ∀ (i j : Nat) (u x : Value) (b : Nat), us[i]? = some u → us[j]? = some x → i ≠ j → u.ownBlock = some b → x.ownBlock ≠ some b
theorem Outs.below {w w' : World} {B : Nat} {us : List Value} {n : Nat} {f : Nat → List BSteps.El} (h : Outs w B us n f) (hb : Below w.heap.size w w') : Outs w' B us n f :=
  ⟨h.len, fun i hi => by obtain ⟨u, h1, h2⟩ := h.row i hi; exact ⟨u, h1, trow_at h2 fun b hb' => hb.block b (h2.lt b hb').2⟩, h.ap⟩
theorem outs_new (w : World) (B n : Nat) : Outs w B (List.replicate n (.slice none 0 0)) n fun _ => [] :=
  ⟨by simp, fun i hi => ⟨.slice none 0 0, by rw [List.getElem?_replicate, if_pos hi], World.ownsRow_nil _ _ _ _⟩, fun i j u x b h1 _ _ h3 => by
    rw [List.getElem?_replicate] at h1
    split at h1
    · cases h1; cases h3
    · cases h1⟩
/-- One row has grown. -/
theorem Outs.set {w w' : World} {B : Nat} {us : List Value} {n : Nat} {f : Nat → List BSteps.El} (h : Outs w B us n f) {i : Nat} {u u' : Value} {F : Nat → Prop} (hi : i < n) (hu : us[i]? = some u) (hk : Kept F w w') (hF : ∀ b, F b → u.ownBlock = some b ∨ ∀ (j : Nat) (x : Value), us[j]? = some x → x.ownBlock ≠ some b) {zs : List BSteps.El} (hO : BSteps.Own w' B u' zs) (hat : u'.ownBlock = u.ownBlock ∨ ∀ b, u'.ownBlock = some b → w.heap.size ≤ b) :
    Outs w' B (us.set i u') n (fun j => if j = i then zs else f j) := by
  refine ⟨by rw [List.length_set]; exact h.len, fun j hj => ?_, fun a c x y b hx hy hac hb => ?_⟩
  · by_cases e : j = i
    · subst e
      exact ⟨u', List.getElem?_set_self (by rw [h.len]; exact hj), by rw [if_pos rfl]; exact hO⟩
    · obtain ⟨x, h1, h2⟩ := h.row j hj
      refine ⟨x, by rw [List.getElem?_set_ne (fun e' => e e'.symm)]; exact h1, ?_⟩
      rw [if_neg e]
      refine own_up h2 hk fun b hb hf => ?_
      rcases hF b hf with hf | hf
      · exact h.ap j i x u b h1 hu e hb hf
      · exact hf j x h1 hb
  · have hold : ∀ (j : Nat) (z : Value), us[j]? = some z → j ≠ i → ∀ b, z.ownBlock = some b → u'.ownBlock ≠ some b := fun j z hz hj b hzb e => by
      rcases hat with h1 | h1
      · rw [h1] at e; exact h.ap j i z u b hz hu hj hzb e
      · have h2 := h1 b e
        obtain ⟨z', h3, h4⟩ := h.row j (by have := (List.getElem?_eq_some_iff.1 hz).1; rw [h.len] at this; exact this)
        rw [hz] at h3; cases h3
        have := (h4.lt b hzb).2
        omega
    by_cases ea : a = i
    · subst ea
      rw [List.getElem?_set_self (by rw [h.len]; exact hi)] at hx
      cases hx
      rw [List.getElem?_set_ne hac] at hy
      exact fun e => hold c y hy (fun e' => hac e'.symm) b e hb
    · rw [List.getElem?_set_ne (fun e' => ea e'.symm)] at hx
      by_cases ec : c = i
      · subst ec
        rw [List.getElem?_set_self (by rw [h.len]; exact hi)] at hy
        cases hy
        exact hold a x hx ea b hb
      · rw [List.getElem?_set_ne (fun e' => ec e'.symm)] at hy
        exact h.ap a c x y b hx hy hac hb
theorem Outs.congr {w : World} {B : Nat} {us : List Value} {n : Nat} {f g : Nat → List BSteps.El} (h : Outs w B us n f) (hfg : ∀ i, i < n → f i = g i) : Outs w B us n g :=
  ⟨h.len, fun i hi => by rw [← hfg i hi]; exact h.row i hi, h.ap⟩
theorem Outs.kept {w w' : World} {B : Nat} {us : List Value} {n : Nat} {f : Nat → List BSteps.El} {F : Nat → Prop} (h : Outs w B us n f) (hk : Kept F w w') (hF : ∀ (j : Nat) (x : Value), us[j]? = some x → ∀ b, x.ownBlock = some b → ¬ F b) : Outs w' B us n f :=
  ⟨h.len, fun i hi => by obtain ⟨u, h1, h2⟩ := h.row i hi; exact ⟨u, h1, own_up h2 hk fun b hb => hF i u h1 b hb⟩, h.ap⟩
theorem kcell {w w' : World} {F : Nat → Prop} (hk : Kept F w w') {b o : Nat} {v : Value} (hF : ¬ F b) (c : w.cell? ⟨b, o, none⟩ = some v) : w'.cell? ⟨b, o, none⟩ = some v := (World.cell?_of_block (a := ⟨b, o, none⟩) (hk.block b (World.block_lt_of_cell? w _ c) hF)).trans c
/-- One row more long, its slice laid into the list of rows. -/
theorem outs_grow {w wr w4 : World} {g n i N g4 k4 cu : Nat} {au : Option Addr} {us : List Value} {f : Nat → List BSteps.El} (z : BSteps.El) (hOs : Outs wr w.heap.size us n f) (hi : i < n) (hu : us[i]? = some (.slice au N cu)) (hN : N = (f i).length) (hown : w4.ownsRow w.heap.size 116 2 (.slice (some ⟨g4, 0, none⟩) (N + 1) k4) (N + 1) (BSteps.C (f i) ++ [.int .i64 z.1, .int .i64 z.2])) (hk : Kept (fun b => (Value.slice au N cu).ownBlock = some b) wr w4) (hat : (Value.slice au N cu).ownBlock = some g4 ∨ g4 = wr.heap.size + 1) (hA4 : Arr 114 w w4 g us) :
    Arr 114 w (w4.setCell ⟨g, i, none⟩ (.slice (some ⟨g4, 0, none⟩) (N + 1) k4)) g (us.set i (.slice (some ⟨g4, 0, none⟩) (N + 1) k4)) ∧ Outs (w4.setCell ⟨g, i, none⟩ (.slice (some ⟨g4, 0, none⟩) (N + 1) k4)) w.heap.size (us.set i (.slice (some ⟨g4, 0, none⟩) (N + 1) k4)) n (fun j => if j = i then f i ++ [z] else f j) ∧ Kept (fun b => b = g ∨ (Value.slice au N cu).ownBlock = some b) wr (w4.setCell ⟨g, i, none⟩ (.slice (some ⟨g4, 0, none⟩) (N + 1) k4)) := by
  have hO : BSteps.Own w4 w.heap.size (.slice (some ⟨g4, 0, none⟩) (N + 1) k4) (f i ++ [z]) := by
    unfold BSteps.Own
    have e1 : (f i ++ [z]).length = N + 1 := by rw [List.length_append, hN]; rfl
    rw [e1, BSteps.C_app]
    exact hown
  have h1 := hOs.set (F := fun b => (Value.slice au N cu).ownBlock = some b) hi hu hk (fun b hb => .inl hb) hO (by
    rcases hat with h | h
    · exact .inl h.symm
    · exact .inr fun b hb => by have e9 : g4 = b := Option.some.inj hb
                                omega)
  refine ⟨hA4.set i _, ?_, ?_⟩
  · refine h1.kept (Kept.setCell w4 g i _) fun j x hx b hb e => ?_
    obtain ⟨cs, hc, _⟩ := hA4.ids
    obtain ⟨x', h2, h3⟩ := h1.row j (by have := (List.getElem?_eq_some_iff.1 hx).1; rw [h1.len] at this; exact this)
    rw [hx] at h2; cases h2
    exact own_bk h3 hc (by decide) (by rw [← e]; exact hb)
  · exact (hk.mono fun b _ hb => .inr hb).trans ((Kept.setCell w4 g i _).mono fun b _ hb => .inl hb)
theorem Sy.steps_take {l : List Sy.Ed} {j : Nat} {e : Sy.Ed} (he : l[j]? = some e) (i : Int) : Sy.steps (l.take (j + 1)) i = if e.1 = i then Sy.steps (l.take j) i ++ [(e.2.1, e.2.2)] else Sy.steps (l.take j) i := by
  rw [List.take_add_one, he]
  exact Sy.steps_snoc _ _ _
theorem out_round {w wr w4 : World} {g n N g4 k4 cu gl c : Nat} {au : Option Addr} {us : List Value} {l : List Sy.Ed} {j L f : Nat} {e : Sy.Ed} (hL : j < L) (hfn : f < n) (hOs : Outs wr w.heap.size us n (fun i => Sy.steps (l.take j) i)) (hOl : BEdges.Own wr w.heap.size (.slice (some ⟨gl, 0, none⟩) l.length c) l) (he : l[j]? = some e) (hf : e.1 = (f : Int)) (hu : us[f]? = some (.slice au (Sy.steps (l.take j) f).length cu)) (hN : N = (Sy.steps (l.take j) f).length)
    (hown : w4.ownsRow w.heap.size 116 2 (.slice (some ⟨g4, 0, none⟩) (N + 1) k4) (N + 1) (BSteps.C (Sy.steps (l.take j) f) ++ [.int .i64 e.2.1, .int .i64 e.2.2])) (hk : Kept (fun b => (Value.slice au N cu).ownBlock = some b) wr w4) (hat : (Value.slice au N cu).ownBlock = some g4 ∨ g4 = wr.heap.size + 1) (hA4 : Arr 114 w w4 g us) (hne : ¬ gl = g) (hgl : ¬ (Value.slice au N cu).ownBlock = some gl) :
    ∃ (j1 : Nat) (us : List Value), L - (j + 1) = L - j1 ∧ j1 ≤ L ∧ Value.int .i64 ((j : Int) + 1) = .int .i64 j1 ∧ Arr 114 w (w4.setCell ⟨g, f, none⟩ (.slice (some ⟨g4, 0, none⟩) (N + 1) k4)) g us ∧ Outs (w4.setCell ⟨g, f, none⟩ (.slice (some ⟨g4, 0, none⟩) (N + 1) k4)) w.heap.size us n (fun i => Sy.steps (l.take j1) i) ∧ BEdges.Own (w4.setCell ⟨g, f, none⟩ (.slice (some ⟨g4, 0, none⟩) (N + 1) k4)) w.heap.size (.slice (some ⟨gl, 0, none⟩) l.length c) l := by
  obtain ⟨h1, h2, h3⟩ := outs_grow (e.2.1, e.2.2) hOs hfn (by rw [hN]; exact hu) hN hown hk hat hA4
  refine ⟨j + 1, _, rfl, hL, rfl, h1, h2.congr fun i hi => ?_, own_up hOl h3 fun b hb hF => ?_⟩
  · rw [Sy.steps_take he, hf]
    by_cases e9 : i = f
    · subst e9; rw [if_pos rfl, if_pos rfl]
    · rw [if_neg e9, if_neg (fun h => e9 (by omega))]
  · cases hb
    rcases hF with hF | hF
    · exact hne hF
    · exact hgl hF
set_option linter.unusedSimpArgs false in
set_option maxRecDepth 100000 in
set_option maxHeartbeats 8000000 in
theorem refOut_any (n : Nat) (k s : Int) (v : Value) (es : List Sy.Ed) (w : World) (hn : n ≤ 1000000) (hv : HasE w v es) (hm : es.length ≤ 100000) (hr : ∀ e ∈ es, 0 ≤ e.1 ∧ e.1 < (n : Int)) :
    Calls Tryz.prog 31 #[sysV n k s v] w fun e w' => ∃ g us, e = .returned (.slice (some ⟨g, 0, none⟩) n n) ∧ Arr 114 w w' g us ∧ Outs w' w.heap.size us n (fun i => Sy.steps (Sy.nf es) i) := by
  obtain ⟨i0, hi0, hz0, hz1, hz2⟩ := info_parts BSteps.Tryz.infoE
  obtain ⟨w0, hw0⟩ : ∃ w0, w0 = w.alloc (.cells #[.int .i64 n, .int .i64 k, .int .i64 s, v] 24) := ⟨_, rfl⟩
  have hb0 : Below w.heap.size w w0 := by rw [hw0]; exact (Below.refl _ _).alloc (Nat.le_refl _) _
  have hs0 : w0.heap.size = w.heap.size + 1 := by rw [hw0]; simp
  have hg0 : w0.heap[w.heap.size]? = some (.cells #[.int .i64 n, .int .i64 k, .int .i64 s, v] 24 (0, 0)) := by rw [hw0]; exact heap_alloc_new w _
  have hA0 := arr_new 114 (.slice none 0 0) rfl n w0
  have hmk := makeSt n hn w0
  have hS := refSorted_any v es _ ((hv.below hb0).below hA0.bl) hm
  unfold SortedAt at hS
  have hv0 := hv
  obtain ⟨ao, cap, rfl, _⟩ := hv0
  obtain ⟨m, hmm⟩ : ∃ m, m = es.length := ⟨_, rfl⟩
  obtain ⟨l, hl⟩ : ∃ l, l = Sy.nf es := ⟨_, rfl⟩
  rw [← hmm] at hS hw0 hg0 ⊢
  rw [← hl] at hS ⊢
  have hlr : ∀ e ∈ l, 0 ≤ e.1 ∧ e.1 < (n : Int) := fun e he => hr e ((Sy.nf_mem es e).1 (by rw [← hl]; exact he))
  have hll : l.length ≤ 100000 := by have := Sy.nf_len es; rw [← hl] at this; omega
  have H0 : Hid _ := And.intro hS (And.intro hb0 (And.intro hg0 (And.intro hA0 (And.intro hw0 hs0))))
  have HLR : Hid _ := hlr
  unfold sysV
  obtain ⟨x0, x1, x2, x3⟩ := four_cells hg0
  clear hS hb0 hg0 hA0 hw0 hlr hv hr hmm hl
  go_enter Tryz.func31, Tryz.ntmps31
  go_upto_region 1 with fail
  rw [← H0.out.2.2.2.2.1]
  go_wp2_with fail
  refine Calls.mono H0.out.1 ?_
  rintro e w1 ⟨u, rfl, hO, hb1⟩
  obtain ⟨bo, cbp, rfl⟩ := row_shape hO
  obtain ⟨L, hL⟩ : ∃ L, L = l.length := ⟨_, rfl⟩
  have hA1 : Arr 114 w w1 w0.heap.size (List.replicate n (.slice none 0 0)) := by
    have h1 := H0.out.2.2.2.1.below hb1
    exact ⟨H0.out.2.1.trans (h1.bl.mono H0.out.2.1.size), h1.ids, by rw [H0.out.2.2.2.2.2]; omega⟩
  have hO1 : BEdges.Own w1 w.heap.size (.slice bo l.length cbp) l := row_base hO (by have := hA1.bl.size; have := H0.out.2.2.2.1.bl.size; have := H0.out.2.1.size; omega)
  rw [hs0] at hA1
  have H1 : Hid _ := And.intro hA1 (And.intro hO1 hL)
  rw [← hL]
  rw [← hL] at hll
  clear hO hb1 hA1 hO1 hL x0 x1 x2 x3 hmk
  obtain ⟨g, hgg⟩ : ∃ g, g = w.heap.size + 1 := ⟨_, rfl⟩
  rw [← hgg] at H1 ⊢
  have hg1 : w.heap.size < g := by omega
  clear hgg H0 hs0
  go_wp2_with fail
  go_loopg [5] L (fun q jv wr => ∃ (j : Nat) (us : List Value), q = L - j ∧ j ≤ L ∧ jv = .int .i64 j ∧ Arr 114 w wr g us ∧ Outs wr w.heap.size us n (fun i => Sy.steps (l.take j) i) ∧ BEdges.Own wr w.heap.size (.slice bo l.length cbp) l)
  case atStart => exact ⟨0, _, rfl, Nat.zero_le _, rfl, H1.out.1, outs_new _ _ _, H1.out.2.1⟩
  case round =>
    obtain ⟨j, us, rfl, hj, rfl, hA, hOs, hOl⟩ := hrel
    by_cases hlt : j < L
    · obtain ⟨e, he⟩ : ∃ e, l[j]? = some e := ⟨l[j]'(by have := H1.out.2.2; omega), List.getElem?_eq_getElem _⟩
      obtain ⟨gl, hgl, e0, e1, e2⟩ := own_edge hOl he
      have hel := HLR.out e (List.mem_of_getElem? he)
      obtain ⟨f, hf⟩ : ∃ f : Nat, e.1 = (f : Int) := ⟨e.1.toNat, by omega⟩
      have hfn : f < n := by omega
      obtain ⟨u, hu, hOu⟩ := hOs.row f hfn
      obtain ⟨au, cu, rfl⟩ := row_shape hOu
      obtain ⟨N, hN⟩ : ∃ N, N = (Sy.steps (l.take j) f).length := ⟨_, rfl⟩
      have hNl : N ≤ 100000 := by have := Sy.steps_len (l.take j) f; rw [List.length_take] at this; omega
      have cu0 := hA.cell hu
      have cuf := hA.free f
      have hgw := hA.lt
      have hOu' : wr.ownsRow w.heap.size 116 2 (.slice au N cu) N (BSteps.C (Sy.steps (l.take j) f)) := by have h1 := hOu; unfold BSteps.Own at h1; rw [← hN] at h1; exact h1
      rw [← hN] at cu0
      rw [hf] at e0
      have q0 : (0 : Int) ≤ (j : Int) := by omega
      have q1 : (j : Int) < (L : Int) := by omega
      have q2 : (0 : Int) ≤ (f : Int) := by omega
      have q3 : (f : Int) < (n : Int) := by omega
      have hml : N + 1 ≤ maxLen := by unfold maxLen; omega
      have hby : (N + 1) * 16 ≤ 140737488355328 := by omega
      have hgb := own_ne hOl hOu' (by decide)
      have HA : Hid _ := And.intro hA (And.intro hOs (And.intro hOl (And.intro he (And.intro hf (And.intro hu (And.intro hOu' hN))))))
      have hOd : (wr.drew.alloc (.cells #[.int .i64 e.2.1, .int .i64 e.2.2] 116)).ownsRow w.heap.size 116 2 (.slice au N cu) N (BSteps.C (Sy.steps (l.take j) f)) := World.ownsRow.alloc (trow_at hOu' fun _ _ => rfl) _
      have HD : Hid _ := hOd
      have hle : w.heap.size ≤ (wr.drew.alloc (.cells #[.int .i64 e.2.1, .int .i64 e.2.2] 116)).heap.size := by have := hA.bl.size; simp; omega
      have HKP : Hid (∀ b, (Value.slice au N cu).ownBlock = some b → w.heap.size ≤ b ∧ b ≠ g) := (fun b hb => ⟨(hOu'.lt b hb).1, fun e => by
        obtain ⟨cs9, hc9, _⟩ := hA.ids
        exact own_bk hOu' hc9 (by decide) (by rw [← e]; exact hb)⟩ : ∀ b, (Value.slice au N cu).ownBlock = some b → w.heap.size ≤ b ∧ b ≠ g)
      cases hgl
      have HGL : Hid (¬ (Value.slice au N cu).ownBlock = some gl) := (fun h9 => hgb gl rfl h9 : ¬ (Value.slice au N cu).ownBlock = some gl)
      have n1 : gl < wr.heap.size := World.block_lt_of_cell? wr _ e0
      have n2 : ¬ gl = wr.heap.size := by omega
      have n3 : ¬ g = wr.heap.size := by omega
      have hne : ¬ gl = g := fun e9 => by
        obtain ⟨cs9, hc9, _⟩ := hA.ids
        exact own_bk (bk := g) hOl hc9 (by decide) (by rw [← e9]; rfl)
      have hne' : ¬ g = gl := fun e => hne e.symm
      clear hgb
      clear hA hOs hOl he hf hu hOu hOu' hN hel hOd
      go_upto_region 6 with fail
      refine wp_region_held_drew (S := (fun w' => w'.cell? ⟨gl, j * 3, none⟩ = some (.int .i64 f) ∧ w'.cell? ⟨gl, j * 3 + 1, none⟩ = some (.int .i64 e.2.1) ∧ w'.cell? ⟨gl, j * 3 + 2, none⟩ = some (.int .i64 e.2.2))) (by kernel_rfl) ?_ (fun hHeld => ?_)
      · exact ⟨e0, e1, e2⟩
      refine wpAnyH_take (i := 0) (oi := _) (v := ?_) rfl (by kernel_rfl) (by kernel_rfl) (by kernel_rfl) (fun _ _ _ h => h) (Or.inl ⟨by rfl, ?_⟩) (by assumption) ?_
      rotate_left
      · (intro w hSw; (try dsimp only at hSw); go_simp; (try with_reducible rfl))
      (try simp only [Act.put, List.setIfInBounds_toArray, List.set_cons_zero, List.set_cons_succ])
      refine wpAnyH_take (i := 1) (oi := _) (v := ?_) rfl (by kernel_rfl) (by kernel_rfl) (by kernel_rfl) (fun _ _ _ h => h) (Or.inl ⟨by rfl, ?_⟩) (by assumption) ?_
      rotate_left
      · (intro w hSw; (try dsimp only at hSw); go_simp; (try with_reducible rfl))
      (try simp only [Act.put, List.setIfInBounds_toArray, List.set_cons_zero, List.set_cons_succ])
      refine wpAnyH_take (i := 2) (oi := _) (v := ?_) rfl (by kernel_rfl) (by kernel_rfl) (by kernel_rfl) (fun _ _ _ h => h) (Or.inl ⟨by rfl, ?_⟩) (by assumption) ?_
      rotate_left
      · (intro w hSw; (try dsimp only at hSw); go_simp; (try with_reducible rfl))
      (try simp only [Act.put, List.setIfInBounds_toArray, List.set_cons_zero, List.set_cons_succ])
      refine wpAnyH_take (i := 3) (oi := _) (v := ?_) rfl (by kernel_rfl) (by kernel_rfl) (by kernel_rfl) (fun _ _ _ h => h) (Or.inl ⟨by rfl, ?_⟩) (by assumption) ?_
      rotate_left
      · (intro w hSw; (try dsimp only at hSw); go_simp; (try with_reducible rfl))
      (try simp only [Act.put, List.setIfInBounds_toArray, List.set_cons_zero, List.set_cons_succ])
      refine wpAnyH_take (i := 4) (oi := _) (v := ?_) rfl (by kernel_rfl) (by kernel_rfl) (by kernel_rfl) (fun _ _ _ h => h) (Or.inl ⟨by rfl, ?_⟩) (by assumption) ?_
      rotate_left
      · (intro w hSw; (try dsimp only at hSw); go_simp; (try with_reducible rfl))
      (try simp only [Act.put, List.setIfInBounds_toArray, List.set_cons_zero, List.set_cons_succ])
      refine wpAnyH_take (i := 5) (oi := _) (v := ?_) rfl (by kernel_rfl) (by kernel_rfl) (by kernel_rfl) (fun _ _ _ h => h) (Or.inl ⟨by rfl, ?_⟩) (by assumption) ?_
      rotate_left
      · (intro w hSw; (try dsimp only at hSw); go_simp; (try with_reducible rfl))
      (try simp only [Act.put, List.setIfInBounds_toArray, List.set_cons_zero, List.set_cons_succ])
      refine wpAnyH_take (i := 6) (oi := _) (v := ?_) rfl (by kernel_rfl) (by kernel_rfl) (by kernel_rfl) (fun _ _ _ h => h) (Or.inl ⟨by rfl, ?_⟩) (by assumption) ?_
      rotate_left
      · (intro w hSw; (try dsimp only at hSw); go_simp; (try with_reducible rfl))
      (try simp only [Act.put, List.setIfInBounds_toArray, List.set_cons_zero, List.set_cons_succ])
      refine wpAnyH_take (i := 7) (oi := _) (v := ?_) rfl (by kernel_rfl) (by kernel_rfl) (by kernel_rfl) (fun _ _ _ h => h) (Or.inl ⟨by rfl, ?_⟩) (by assumption) ?_
      rotate_left
      · (intro w hSw; (try dsimp only at hSw); go_simp; (try with_reducible rfl))
      (try simp only [Act.put, List.setIfInBounds_toArray, List.set_cons_zero, List.set_cons_succ])
      refine wpAnyH_take (i := 8) (oi := _) (v := ?_) rfl (by kernel_rfl) (by kernel_rfl) (by kernel_rfl) (fun _ _ _ h => h) (Or.inl ⟨by rfl, ?_⟩) (by assumption) ?_
      rotate_left
      · (intro w hSw; (try dsimp only at hSw); go_simp; (try with_reducible rfl))
      (try simp only [Act.put, List.setIfInBounds_toArray, List.set_cons_zero, List.set_cons_succ])
      refine wpAnyH_take (i := 9) (oi := _) (v := ?_) rfl (by kernel_rfl) (by kernel_rfl) (by kernel_rfl) (fun _ _ _ h => h) (Or.inl ⟨by rfl, ?_⟩) (by assumption) ?_
      rotate_left
      · (intro w hSw; (try dsimp only at hSw); go_simp; (try with_reducible rfl))
      (try simp only [Act.put, List.setIfInBounds_toArray, List.set_cons_zero, List.set_cons_succ])
      refine wpAnyH_take (i := 10) (oi := _) (v := ?_) rfl (by kernel_rfl) (by kernel_rfl) (by kernel_rfl) (fun _ _ _ h => h) (Or.inl ⟨by rfl, ?_⟩) (by assumption) ?_
      rotate_left
      · (intro w hSw; (try dsimp only at hSw); go_simp; (try with_reducible rfl))
      (try simp only [Act.put, List.setIfInBounds_toArray, List.set_cons_zero, List.set_cons_succ])
      refine wpAnyH_take (i := 11) (oi := _) (v := ?_) rfl (by kernel_rfl) (by kernel_rfl) (by kernel_rfl) (fun _ _ _ h => h) (Or.inl ⟨by rfl, ?_⟩) (by assumption) ?_
      rotate_left
      · (intro w hSw; (try dsimp only at hSw); go_simp; (try with_reducible rfl))
      (try simp only [Act.put, List.setIfInBounds_toArray, List.set_cons_zero, List.set_cons_succ])
      refine wpAnyH_take (i := 12) (oi := _) (v := ?_) rfl (by kernel_rfl) (by kernel_rfl) (by kernel_rfl) (fun _ _ _ h => h) (Or.inl ⟨by rfl, ?_⟩) (by assumption) ?_
      rotate_left
      · (intro w hSw; (try dsimp only at hSw); go_simp; (try with_reducible rfl))
      (try simp only [Act.put, List.setIfInBounds_toArray, List.set_cons_zero, List.set_cons_succ])
      refine wpAnyH_take (i := 14) (oi := _) (v := ?_) rfl (by kernel_rfl) (by kernel_rfl) (by kernel_rfl) (fun _ _ _ h => h) (Or.inl ⟨by rfl, ?_⟩) (by assumption) ?_
      rotate_left
      · (intro w hSw; (try dsimp only at hSw); go_simp; (try with_reducible rfl))
      (try simp only [Act.put, List.setIfInBounds_toArray, List.set_cons_zero, List.set_cons_succ])
      refine wpAnyH_take (i := 15) (oi := _) (v := ?_) rfl (by kernel_rfl) (by kernel_rfl) (by kernel_rfl) (fun _ _ _ h => h) (Or.inl ⟨by rfl, ?_⟩) (by assumption) ?_
      rotate_left
      · (intro w hSw; (try dsimp only at hSw); go_simp; (try with_reducible rfl))
      (try simp only [Act.put, List.setIfInBounds_toArray, List.set_cons_zero, List.set_cons_succ])
      refine wpAnyH_take (i := 16) (oi := _) (v := ?_) rfl (by kernel_rfl) (by kernel_rfl) (by kernel_rfl) (fun _ _ _ h => h) (Or.inl ⟨by rfl, ?_⟩) (by assumption) ?_
      rotate_left
      · (intro w hSw; (try dsimp only at hSw); go_simp; (try with_reducible rfl))
      (try simp only [Act.put, List.setIfInBounds_toArray, List.set_cons_zero, List.set_cons_succ])
      refine wpAnyH_take (i := 17) (oi := _) (v := ?_) rfl (by kernel_rfl) (by kernel_rfl) (by kernel_rfl) (fun _ _ _ h => h) (Or.inl ⟨by rfl, ?_⟩) (by assumption) ?_
      rotate_left
      · (intro w hSw; (try dsimp only at hSw); go_simp; (try with_reducible rfl))
      (try simp only [Act.put, List.setIfInBounds_toArray, List.set_cons_zero, List.set_cons_succ])
      refine wpAnyH_take (i := 18) (oi := _) (v := ?_) rfl (by kernel_rfl) (by kernel_rfl) (by kernel_rfl) (fun _ _ _ h => h) (Or.inl ⟨by rfl, ?_⟩) (by assumption) ?_
      rotate_left
      · (intro w hSw; (try dsimp only at hSw); go_simp; (try with_reducible rfl))
      (try simp only [Act.put, List.setIfInBounds_toArray, List.set_cons_zero, List.set_cons_succ])
      refine wpAnyH_take (i := 19) (oi := _) (v := ?_) rfl (by kernel_rfl) (by kernel_rfl) (by kernel_rfl) (fun _ _ _ h => h) (Or.inl ⟨by rfl, ?_⟩) (by assumption) ?_
      rotate_left
      · (intro w hSw; (try dsimp only at hSw); go_simp; (try with_reducible rfl))
      (try simp only [Act.put, List.setIfInBounds_toArray, List.set_cons_zero, List.set_cons_succ])
      refine wpAnyH_take (i := 20) (oi := _) (v := ?_) rfl (by kernel_rfl) (by kernel_rfl) (by kernel_rfl) (fun _ _ _ h => h) (Or.inl ⟨by rfl, ?_⟩) (by assumption) ?_
      rotate_left
      · (intro w hSw; (try dsimp only at hSw); go_simp; (try with_reducible rfl))
      (try simp only [Act.put, List.setIfInBounds_toArray, List.set_cons_zero, List.set_cons_succ])
      refine wpAnyH_take (i := 21) (oi := _) (v := ?_) rfl (by kernel_rfl) (by kernel_rfl) (by kernel_rfl) (fun _ _ _ h => h) (Or.inl ⟨by rfl, ?_⟩) (by assumption) ?_
      rotate_left
      · (intro w hSw; (try dsimp only at hSw); go_simp; (try with_reducible rfl))
      (try simp only [Act.put, List.setIfInBounds_toArray, List.set_cons_zero, List.set_cons_succ])
      refine wpAnyH_take (i := 22) (oi := _) (v := ?_) rfl (by kernel_rfl) (by kernel_rfl) (by kernel_rfl) (fun _ _ _ h => h) (Or.inl ⟨by rfl, ?_⟩) (by assumption) ?_
      rotate_left
      · (intro w hSw; (try dsimp only at hSw); go_simp; (try with_reducible rfl))
      (try simp only [Act.put, List.setIfInBounds_toArray, List.set_cons_zero, List.set_cons_succ])
      refine wpAnyH_take (i := 23) (oi := _) (v := ?_) rfl (by kernel_rfl) (by kernel_rfl) (by kernel_rfl) (fun _ _ _ h => h) (Or.inl ⟨by rfl, ?_⟩) (by assumption) ?_
      rotate_left
      · (intro w hSw; (try dsimp only at hSw); go_simp; (try with_reducible rfl))
      (try simp only [Act.put, List.setIfInBounds_toArray, List.set_cons_zero, List.set_cons_succ])
      refine wpAnyH_take (i := 24) (oi := _) (v := ?_) rfl (by kernel_rfl) (by kernel_rfl) (by kernel_rfl) (fun _ _ _ h => h) (Or.inl ⟨by rfl, ?_⟩) (by assumption) ?_
      rotate_left
      · (intro w hSw; (try dsimp only at hSw); go_simp; (try with_reducible rfl))
      (try simp only [Act.put, List.setIfInBounds_toArray, List.set_cons_zero, List.set_cons_succ])
      refine wpAnyH_ready (rs := [13, 25]) (by kernel_rfl) (by simp) ?_
      refine AllReadyH.cons (o := _) rfl (fun K hK => ?_) ?_
      · go_simp
        refine hK.out _ _ ?_ (fun hHeld => ?_)
        · ((try dsimp only); go_keep)
        clear hK K
        (try simp only [Act.put, List.setIfInBounds_toArray, List.set_cons_zero, List.set_cons_succ])
        refine wpAnyH_ready (rs := [25]) (by kernel_rfl) (by simp) ?_
        refine AllReadyH.cons (o := _) rfl (fun K hK => ?_) ?_
        · go_simp
          refine hK.out _ _ ?_ (fun hHeld => ?_)
          · ((try dsimp only); go_keep)
          clear hK K
          (try simp only [Act.put, List.setIfInBounds_toArray, List.set_cons_zero, List.set_cons_succ])
          refine wpAnyH_ready (rs := [26]) (by kernel_rfl) (by simp) ?_
          refine AllReadyH.cons (o := _) rfl (fun K hK => ?_) ?_
          · (refine step_append_lies _ (by rfl) _ _ _ (by rfl) w.heap.size 116 i0 _ 2 16 Tryz.underlying114 hi0 hz0 hz1 hz2 rfl (by decide) (.slice au N cu) N (BSteps.C (Sy.steps (l.take j) f)) (by rfl) HD.out ⟨wr.heap.size, 0, none⟩ 1 1 [.int .i64 e.2.1, .int .i64 e.2.2] (by rfl) (by rfl) (World.news_of_block (cs := #[.int .i64 e.2.1, .int .i64 e.2.2]) (t := 116) (fr := (0, 0)) (heap_alloc_new wr.drew _)) (by simp [Value.oneCell']) Nat.one_pos hml hby hle (wr.heap.size + 1) (by simp) ?_; intro g4 k4 w4 hown4 hgrow4 hat4 hlt4; have hk4 : Kept (fun b => (Value.slice au N cu).ownBlock = some b) wr w4 := (Kept.of_below ((Below.refl _ wr).drew)).trans (grown_alloc (w := wr.drew) hgrow4); have hA4 := HA.out.1.kept hk4 HKP.out; have cu0 := hA4.cell HA.out.2.2.2.2.2.1; have cuf := hA4.free f; have e0 := kcell hk4 HGL.out e0; have e1 := kcell hk4 HGL.out e1; have e2 := kcell hk4 HGL.out e2; have H4 : Hid _ := And.intro hown4 (And.intro hk4 (And.intro hat4 hA4)); clear hown4 hgrow4 hat4 hlt4 hk4 hA4)
            refine hK.out _ _ ?_ (fun hHeld => ?_)
            · exact ⟨e0, e1, e2⟩
            clear hK K
            (try simp only [Act.put, List.setIfInBounds_toArray, List.set_cons_zero, List.set_cons_succ])
            refine wpAnyH_take (i := 27) (oi := _) (v := ?_) rfl (by kernel_rfl) (by kernel_rfl) (by kernel_rfl) (fun _ _ _ h => h) (Or.inl ⟨by rfl, ?_⟩) (by assumption) ?_
            rotate_left
            · (intro w hSw; (try dsimp only at hSw); go_simp; (try with_reducible rfl))
            (try simp only [Act.put, List.setIfInBounds_toArray, List.set_cons_zero, List.set_cons_succ])
            refine wpAnyH_ready (rs := [28]) (by kernel_rfl) (by simp) ?_
            refine AllReadyH.cons (o := _) rfl (fun K hK => ?_) ?_
            · go_simp
              refine hK.out _ _ ?_ (fun hHeld => ?_)
              · ((try dsimp only); go_keep)
              clear hK K
              (try simp only [Act.put, List.setIfInBounds_toArray, List.set_cons_zero, List.set_cons_succ])
              refine wpAnyH_done (by kernel_rfl) ?_ _
              (try go_simp)
              go_wp2_with fail
              go_roundg (L - (j + 1))
              case measure => omega
              case rel => exact out_round hlt hfn HA.out.2.1 HA.out.2.2.1 HA.out.2.2.2.1 HA.out.2.2.2.2.1 HA.out.2.2.2.2.2.1 HA.out.2.2.2.2.2.2.2 H4.out.1 H4.out.2.1 H4.out.2.2.1 H4.out.2.2.2 hne HGL.out
            exact AllReadyH.nil
          exact AllReadyH.nil
        exact AllReadyH.nil
      refine AllReadyH.cons (o := _) rfl (fun K hK => ?_) ?_
      · go_simp
        refine hK.out _ _ ?_ (fun hHeld => ?_)
        · ((try dsimp only); go_keep)
        clear hK K
        (try simp only [Act.put, List.setIfInBounds_toArray, List.set_cons_zero, List.set_cons_succ])
        refine wpAnyH_ready (rs := [13]) (by kernel_rfl) (by simp) ?_
        refine AllReadyH.cons (o := _) rfl (fun K hK => ?_) ?_
        · go_simp
          refine hK.out _ _ ?_ (fun hHeld => ?_)
          · ((try dsimp only); go_keep)
          clear hK K
          (try simp only [Act.put, List.setIfInBounds_toArray, List.set_cons_zero, List.set_cons_succ])
          refine wpAnyH_ready (rs := [26]) (by kernel_rfl) (by simp) ?_
          refine AllReadyH.cons (o := _) rfl (fun K hK => ?_) ?_
          · (refine step_append_lies _ (by rfl) _ _ _ (by rfl) w.heap.size 116 i0 _ 2 16 Tryz.underlying114 hi0 hz0 hz1 hz2 rfl (by decide) (.slice au N cu) N (BSteps.C (Sy.steps (l.take j) f)) (by rfl) HD.out ⟨wr.heap.size, 0, none⟩ 1 1 [.int .i64 e.2.1, .int .i64 e.2.2] (by rfl) (by rfl) (World.news_of_block (cs := #[.int .i64 e.2.1, .int .i64 e.2.2]) (t := 116) (fr := (0, 0)) (heap_alloc_new wr.drew _)) (by simp [Value.oneCell']) Nat.one_pos hml hby hle (wr.heap.size + 1) (by simp) ?_; intro g4 k4 w4 hown4 hgrow4 hat4 hlt4; have hk4 : Kept (fun b => (Value.slice au N cu).ownBlock = some b) wr w4 := (Kept.of_below ((Below.refl _ wr).drew)).trans (grown_alloc (w := wr.drew) hgrow4); have hA4 := HA.out.1.kept hk4 HKP.out; have cu0 := hA4.cell HA.out.2.2.2.2.2.1; have cuf := hA4.free f; have e0 := kcell hk4 HGL.out e0; have e1 := kcell hk4 HGL.out e1; have e2 := kcell hk4 HGL.out e2; have H4 : Hid _ := And.intro hown4 (And.intro hk4 (And.intro hat4 hA4)); clear hown4 hgrow4 hat4 hlt4 hk4 hA4)
            refine hK.out _ _ ?_ (fun hHeld => ?_)
            · exact ⟨e0, e1, e2⟩
            clear hK K
            (try simp only [Act.put, List.setIfInBounds_toArray, List.set_cons_zero, List.set_cons_succ])
            refine wpAnyH_take (i := 27) (oi := _) (v := ?_) rfl (by kernel_rfl) (by kernel_rfl) (by kernel_rfl) (fun _ _ _ h => h) (Or.inl ⟨by rfl, ?_⟩) (by assumption) ?_
            rotate_left
            · (intro w hSw; (try dsimp only at hSw); go_simp; (try with_reducible rfl))
            (try simp only [Act.put, List.setIfInBounds_toArray, List.set_cons_zero, List.set_cons_succ])
            refine wpAnyH_ready (rs := [28]) (by kernel_rfl) (by simp) ?_
            refine AllReadyH.cons (o := _) rfl (fun K hK => ?_) ?_
            · go_simp
              refine hK.out _ _ ?_ (fun hHeld => ?_)
              · ((try dsimp only); go_keep)
              clear hK K
              (try simp only [Act.put, List.setIfInBounds_toArray, List.set_cons_zero, List.set_cons_succ])
              refine wpAnyH_done (by kernel_rfl) ?_ _
              (try go_simp)
              go_wp2_with fail
              go_roundg (L - (j + 1))
              case measure => omega
              case rel => exact out_round hlt hfn HA.out.2.1 HA.out.2.2.1 HA.out.2.2.2.1 HA.out.2.2.2.2.1 HA.out.2.2.2.2.2.1 HA.out.2.2.2.2.2.2.2 H4.out.1 H4.out.2.1 H4.out.2.2.1 H4.out.2.2.2 hne HGL.out
            exact AllReadyH.nil
          exact AllReadyH.nil
        exact AllReadyH.nil
      exact AllReadyH.nil
    · obtain rfl : j = L := by omega
      have q1 : ¬ (j : Int) < (j : Int) := by omega
      have HA : Hid _ := And.intro hA hOs
      clear hA hOs hOl
      go_wp2_with fail
      go_ret
      refine ⟨_, rfl, us, HA.out.1, ?_⟩
      have h1 := HA.out.2
      rw [List.take_of_length_le (by have := H1.out.2.2; omega)] at h1
      exact h1
end Go.Proofs.YtpmanmoljlhogaaGreatDoor
