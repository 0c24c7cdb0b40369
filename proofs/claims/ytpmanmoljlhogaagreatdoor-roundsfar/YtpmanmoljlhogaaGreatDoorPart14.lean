/- Texts of this claim, joined: RoRanks, RoAlive, RoLawFar, ErLaid, RoLaid, SoPiv. -/
import Derived.Test.YtpmanmoljlhogaaGreatDoorPart13
import Derived.Test.YtpmanmoljlhogaaGreatDoorPart12
import Derived.Test.YtpmanmoljlhogaaGreatDoorRows
import Derived.Test.YtpmanmoljlhogaaGreatDoorPart6
import Derived.Test.YtpmanmoljlhogaaGreatDoorErCode
import Derived.ProofKit
import Derived.LaidMore
import Derived.Stop.LaidErr
import Derived.Test.YtpmanmoljlhogaaGreatDoorPart2
import Derived.Lib.LaidTab
import Derived.Test.YtpmanmoljlhogaaGreatDoorPart9
/- Contract of the program's Ranks at right systems: the walk. -/
namespace Go.Proofs.YtpmanmoljlhogaaGreatDoor
open Go.RowKit Go.Maps Go.Shelf
attribute [local go_sem] Oper.semAt_some
attribute [local go_sem ↓] Go.wp_at_zero Go.wp_at_succ
theorem blk_own (b : Nat) (cs : Array Value) (t : TypeId) (fr : Nat × Nat) : Own (fun (_ : List Rd) W => W.heap[b]? = some (.cells cs t fr)) := fun s W W' row hs hg hr => by
  have h1 : some b ≠ row := fun e => by
    obtain ⟨o, ho, hoc⟩ := hr b e.symm
    rw [hs] at ho
    cases ho
    cases hoc
  exact (hg.block b (t_lt hs) h1).trans hs
theorem callsIn_round {l n : Nat} {P : Program} {f : FuncId} {args : Array Value} {w : World} {R : Ending → World → Prop} (h : Calls P f args w R) : CallsIn (Fence.wide.inRound l) n P f args w R := (callsIn_wide (n := n)).2 h
/-- The body comes to its end, and does not panic. -/
def strictM (Q : Exit → Act → World → Prop) : Exit → Act → World → Prop
  | .normal, a, w => Q .normal a w
  | .ret, a, w => Q .ret a w
  | _, _, _ => False
theorem strictM_of {Q : Exit → Act → World → Prop} : ∀ e a w, strictM Q e a w → Q e a w := fun e a w h => by
  cases e <;> first | exact h | exact h.elim
set_option linter.unusedSimpArgs false in
set_option maxRecDepth 100000 in
set_option maxHeartbeats 8000000 in
theorem ranks_ok2 (hS : SortOk 1000000) (m : Nat) (k s : Int) (v : Value) (es : List Sy.Ed) (a : Addr) (w : World) (hA : Sent w 14 a) (hP : Pow w) (hv : BEdges.Has w v es) (hm : es.length ≤ 100000) (hq : Sy.right m k s es = true) (hm3 : m ≤ 300) :
    Calls Tryz.prog 21 #[sysV m k s v] w fun r w' => ∃ T rb R, r = .returned (.tuple #[.slice (some ⟨T, 0, none⟩) m m, .nilIface]) ∧ Ro.Last m (outOf m es) R ∧ RkAt w' T m rb (rkT m (outOf m es) (R + 1)) ∧ Below w.heap.size w w' ∧ (∃ cs : Array Value, w'.heap[T]? = some (.cells cs 57 (0, 0)) ∧ cs.size = m) ∧ w.heap.size ≤ T ∧ ∀ p, p < m → w.heap.size ≤ rb p := by
  have hv0 := hv
  obtain ⟨ao, cap, rfl, _⟩ := hv0
  obtain ⟨L, hL⟩ : ∃ L, L = es.length := ⟨_, rfl⟩
  obtain ⟨w1, hw1⟩ : ∃ w1, w1 = w.alloc (.cells #[.int .i64 m, .int .i64 k, .int .i64 s, .slice ao L cap] 24) := ⟨_, rfl⟩
  have hb1 : Below w.heap.size w w1 := by rw [hw1]; exact (Below.refl _ _).alloc (Nat.le_refl _) _
  have hg1 : w1.heap[w.heap.size]? = some (.cells #[.int .i64 m, .int .i64 k, .int .i64 s, .slice ao L cap] 24 (0, 0)) := by rw [hw1]; exact heap_alloc_new w _
  have hN := roundsOf_ok hS m k s _ es a w1 (hA.below hb1) (hv.below hb1) hm hq
  rw [← hL] at hN ⊢
  unfold sysV at hN ⊢
  have hF := steps_fit hq
  obtain ⟨out, hout⟩ : ∃ out, out = outOf m es := ⟨_, rfl⟩
  have H1 : Hid _ := And.intro hw1 (And.intro hb1 (And.intro hN (And.intro hP (And.intro hF (And.intro hout hg1)))))
  obtain ⟨x0, x1, x2, x3⟩ := four_cells hg1
  clear hA hv hm hq hw1 hb1 hg1 hN hL hP hF hout
  refine (callsIn_wide (n := 3)).1 ?_
  refine callsIn_of_wp_marks Tryz.func21 rfl trivial ?_ rfl
  simp only [Tryz.ntmps21, List.size_toArray, List.length_cons, List.length_nil, Nat.reduceAdd, Nat.reduceSub, Array.replicate_succ, Array.replicate_zero, List.push_toArray, List.append_toArray, List.nil_append, List.cons_append]
  refine wpIn_wide.2 (Code.wp_mono strictM_of ?_)
  go_upto_region 1 with fail
  rw [← H1.out.1]
  go_wp2_with fail
  refine Calls.mono H1.out.2.2.1 ?_
  rintro r w2 ⟨b1, b2, gs, rfl, hO2⟩
  unfold roundsV
  have hP2 := H1.out.2.2.2.1.below (bel6 hO2.bl H1.out.2.1)
  have hRd := Reads.of hO2 hP2
  have hb02 := bel6 hO2.bl H1.out.2.1
  have hg2 := res_up6 hO2.bl H1.out.2.2.2.2.2.2
  have y0 : w2.cell? ⟨w.heap.size, 0, none⟩ = some (.int .i64 m) := cell0_of hg2 rfl
  have H2 : Hid _ := And.intro hRd (And.intro hb02 hg2)
  have g3 : decide ((300 : Int) < (m : Int)) = false := decide_eq_false (by omega)
  have g4 : ¬ (300 : Int) < (m : Int) := by omega
  have hmk := makeRI m (by omega) w2
  obtain ⟨w3, hw3⟩ : ∃ w3, w3 = (w2.alloc (.cells (madeV (.slice none 0 0) m) 57)).alloc (.cells #[.slice (some ⟨w2.heap.size, 0, none⟩) m m] 28) := ⟨_, rfl⟩
  have hb3 : Below w2.heap.size w2 w3 := by rw [hw3]; exact ((Below.refl _ _).alloc (Nat.le_refl _) _).alloc (by simp) _
  have hbx : w3.heap[w2.heap.size + 1]? = some (.cells #[.slice (some ⟨w2.heap.size, 0, none⟩) m m] 28 (0, 0)) := by
    rw [hw3]
    have h := heap_alloc_new (w2.alloc (.cells (madeV (.slice none 0 0) m) 57)) (.cells #[.slice (some ⟨w2.heap.size, 0, none⟩) m m] 28)
    rw [World.size_alloc] at h
    exact h
  have hA3 : Arr 57 w2 w3 w2.heap.size (List.replicate m (.slice none 0 0)) := by
    rw [hw3]
    exact (arr_new 57 (.slice none 0 0) rfl m w2).below ((Below.refl _ _).alloc (Nat.le_refl _) _)
  have H3 : Hid _ := And.intro hw3 (And.intro hbx hA3)
  have e1 : (w2.alloc (.cells (madeV (.slice none 0 0) m) 57)).heap.size = w2.heap.size + 1 := by simp
  clear hO2 hP2 hRd hb02 hg2 x0 x1 x2 x3 hw3 hb3 hbx hA3
  go_upto_region 7 with fail
  rw [← H3.out.1]
  have z0 : w3.cell? ⟨w2.heap.size + 1, 0, none⟩ = some (.slice (some ⟨w2.heap.size, 0, none⟩) m m) := cell0_of H3.out.2.1 rfl
  clear hmk y0 e1
  go_wp2_with fail
  clear z0
  go_loopg [31] m (fun q iv wr => ∃ (i : Nat) (us : List Value) (rb : Nat → Nat), q = m - i ∧ i ≤ m ∧ iv = .int .i64 i ∧ RrAt w2 wr m i us rb ∧ wr.heap[w2.heap.size + 1]? = some (.cells #[.slice (some ⟨w2.heap.size, 0, none⟩) m m] 28 (0, 0)))
  case atStart => exact ⟨0, _, fun _ => 0, rfl, Nat.zero_le _, rfl, ⟨H3.out.2.2, by simp, fun j hj => by omega, fun j hj => by omega, fun j _ hj => by omega, fun j hj => by omega⟩, H3.out.2.1⟩
  case round =>
    obtain ⟨i, us, rb, rfl, hi, rfl, hT, hbx⟩ := hrel
    obtain ⟨w4, rfl⟩ : ∃ w4, w4 = wr := ⟨_, rfl⟩
    by_cases hlt : i < m
    · have p0 : (0 : Int) ≤ (i : Int) := by omega
      have p1 : (i : Int) < (m : Int) := by omega
      have y0 : w4.cell? ⟨w2.heap.size + 1, 0, none⟩ = some (.slice (some ⟨w2.heap.size, 0, none⟩) m m) := cell0_of hbx rfl
      have hgs := res_up6 hT.arr.bl H2.out.2.2
      have y1 : w4.cell? ⟨w.heap.size, 0, none⟩ = some (.int .i64 m) := cell0_of hgs rfl
      have hbig : w2.heap.size + 2 ≤ w4.heap.size := by have := t_lt hbx; omega
      have hws : w.heap.size < w2.heap.size := t_lt H2.out.2.2
      obtain ⟨ux, hux⟩ : ∃ ux, us[i]? = some ux := ⟨us[i]'(by have := hT.len; omega), List.getElem?_eq_getElem _⟩
      obtain ⟨w5, hw5⟩ : ∃ w5, w5 = (w4.alloc (.cells #[.int .i64 (-1)] 3)).drew := ⟨_, rfl⟩
      have hb5 : Below w4.heap.size w4 w5 := by rw [hw5]; exact ((Below.refl _ _).alloc (Nat.le_refl _) _).drew
      have hRp := repeat_any w4.heap.size m w5 (by omega) (by rw [hw5]; exact cell0_of (heap_alloc_new w4 _) rfl)
      have HT : Hid _ := And.intro hT (And.intro hbx (And.intro hRp (And.intro hux (And.intro hb5 (And.intro hbig (And.intro hgs hw5))))))
      clear hT hbx hRp hux hb5 hgs hbig hw5
      go_upto_region 10 with fail
      refine wp_region_held_drew (S := (fun w' => (w'.cell? ⟨w2.heap.size + 1, 0, none⟩ = some (.slice (some ⟨w2.heap.size, 0, none⟩) m m) ∧ w'.cell? ⟨w.heap.size, 0, none⟩ = some (.int .i64 m)) ∧ Hid (w'.heap[w2.heap.size + 1]? = some (.cells #[.slice (some ⟨w2.heap.size, 0, none⟩) m m] 28 (0, 0))))) (by kernel_rfl) ?_ (fun hHeld => ?_)
      · exact ⟨⟨y0, y1⟩, HT.out.2.1⟩
      refine wpAnyH_take (i := 0) (oi := _) (v := ?_) rfl (by kernel_rfl) (by kernel_rfl) (by kernel_rfl) (fun _ _ _ h => h) (Or.inl ⟨by rfl, ?_⟩) (by assumption) ?_
      rotate_left
      · (intro w hSw; (try dsimp only at hSw); go_simp; (try with_reducible rfl))
      (try simp only [List.getElem_toArray, List.getElem_cons_succ, List.getElem_cons_zero, Act.put, List.setIfInBounds_toArray, List.set_cons_zero, List.set_cons_succ])
      refine wpAnyH_take (i := 1) (oi := _) (v := ?_) rfl (by kernel_rfl) (by kernel_rfl) (by kernel_rfl) (fun _ _ _ h => h) (Or.inl ⟨by rfl, ?_⟩) (by assumption) ?_
      rotate_left
      · (intro w hSw; (try dsimp only at hSw); go_simp; (try with_reducible rfl))
      (try simp only [List.getElem_toArray, List.getElem_cons_succ, List.getElem_cons_zero, Act.put, List.setIfInBounds_toArray, List.set_cons_zero, List.set_cons_succ])
      refine wpAnyH_take (i := 3) (oi := _) (v := ?_) rfl (by kernel_rfl) (by kernel_rfl) (by kernel_rfl) (fun _ _ _ h => h) (Or.inl ⟨by rfl, ?_⟩) (by assumption) ?_
      rotate_left
      · (intro w hSw; (try dsimp only at hSw); go_simp; (try with_reducible rfl))
      (try simp only [List.getElem_toArray, List.getElem_cons_succ, List.getElem_cons_zero, Act.put, List.setIfInBounds_toArray, List.set_cons_zero, List.set_cons_succ])
      refine wpAnyH_take (i := 4) (oi := _) (v := ?_) rfl (by kernel_rfl) (by kernel_rfl) (by kernel_rfl) (fun _ _ _ h => h) (Or.inl ⟨by rfl, ?_⟩) (by assumption) ?_
      rotate_left
      · (intro w hSw; (try dsimp only at hSw); go_simp; (try with_reducible rfl))
      (try simp only [List.getElem_toArray, List.getElem_cons_succ, List.getElem_cons_zero, Act.put, List.setIfInBounds_toArray, List.set_cons_zero, List.set_cons_succ])
      refine wpAnyH_ready (rs := [2]) (by kernel_rfl) (by simp) ?_
      refine AllReadyH.cons (o := _) rfl (fun K hK => ?_) ?_
      · (go_simp; rw [← HT.out.2.2.2.2.2.2.2])
        (try go_wp2_with fail)
        refine hK.out _ _ ?_ (fun hHeld => ?_)
        · exact ⟨⟨cell_up y0 HT.out.2.2.2.2.1, cell_up y1 HT.out.2.2.2.2.1⟩, res_up6 HT.out.2.2.2.2.1 HT.out.2.1⟩
        clear hK K
        (try simp only [List.getElem_toArray, List.getElem_cons_succ, List.getElem_cons_zero, Act.put, List.setIfInBounds_toArray, List.set_cons_zero, List.set_cons_succ])
        refine wpAnyH_ready (rs := [5]) (by kernel_rfl) (by simp) ?_
        refine AllReadyH.cons (o := _) rfl (fun K hK => ?_) ?_
        · (go_simp; go_at_call 84; refine Calls.mono HT.out.2.2.1 ?_; rintro r w6 ⟨g6, rfl, hA6⟩; have hb46 := bel6 hA6.bl HT.out.2.2.2.2.1; have H6 : Hid _ := And.intro hA6 (And.intro hb46 (HT.out.1.arr.below hb46)); clear hA6; have cx := H6.out.2.2.cell HT.out.2.2.2.1; have cf := H6.out.2.2.free i)
          (try go_wp2_with fail)
          refine hK.out _ _ ?_ (fun hHeld => ?_)
          · exact ⟨⟨cell_up y0 hb46, cell_up y1 hb46⟩, res_up6 hb46 HT.out.2.1⟩
          clear hK K
          (try simp only [List.getElem_toArray, List.getElem_cons_succ, List.getElem_cons_zero, Act.put, List.setIfInBounds_toArray, List.set_cons_zero, List.set_cons_succ])
          clear hb46
          refine wpAnyH_take (i := 6) (oi := _) (v := ?_) rfl (by kernel_rfl) (by kernel_rfl) (by kernel_rfl) (fun _ _ _ h => h) (Or.inl ⟨by rfl, ?_⟩) (by assumption) ?_
          rotate_left
          · (intro w hSw; (try dsimp only at hSw); go_simp; (try with_reducible rfl))
          (try simp only [List.getElem_toArray, List.getElem_cons_succ, List.getElem_cons_zero, Act.put, List.setIfInBounds_toArray, List.set_cons_zero, List.set_cons_succ])
          refine wpAnyH_ready (rs := [7]) (by kernel_rfl) (by simp) ?_
          refine AllReadyH.cons (o := _) rfl (fun K hK => ?_) ?_
          · (go_simp)
            (try go_wp2_with fail)
            refine hK.out _ _ ?_ (fun hHeld => ?_)
            · exact ⟨⟨(cell_block (setCell_other _ (show w2.heap.size + 1 ≠ w2.heap.size by omega))).trans hHeld.1.1, (cell_block (setCell_other _ (show w.heap.size ≠ w2.heap.size by omega))).trans hHeld.1.2⟩, (setCell_other _ (show w2.heap.size + 1 ≠ w2.heap.size by omega)).trans hHeld.2.out⟩
            clear hK K
            (try simp only [List.getElem_toArray, List.getElem_cons_succ, List.getElem_cons_zero, Act.put, List.setIfInBounds_toArray, List.set_cons_zero, List.set_cons_succ])
            refine wpAnyH_done (by kernel_rfl) ?_ _
            (try go_simp)
            have H7 : Hid _ := hHeld.2.out
            go_wp2_with fail
            go_roundg (m - (i + 1))
            case measure => omega
            case rel => exact ⟨i + 1, _, _, rfl, by omega, by go_num, HT.out.1.step hlt HT.out.2.2.2.2.2.1 HT.out.2.2.2.2.1 H6.out.1, H7.out⟩
          exact AllReadyH.nil
        exact AllReadyH.nil
      exact AllReadyH.nil
    · obtain rfl : i = m := by omega
      have p1 : ¬ (i : Int) < (i : Int) := by omega
      have HT : Hid _ := And.intro hT hbx
      clear hT hbx
      go_wp2_with fail
      have hF := H1.out.2.2.2.2.1
      have hR := H2.out.1
      rw [← H1.out.2.2.2.2.2.1] at hF hR
      have hb24 := HT.out.1.arr.bl
      have hrb : ∀ p, p < i → rb p < w4.heap.size := fun p hp => by obtain ⟨cs, h1, _⟩ := HT.out.1.row p hp; exact t_lt h1
      have hsz : w2.heap.size ≤ w4.heap.size := hb24.size
      obtain ⟨ct, hct, hctl⟩ := HT.out.1.arr.ids
      refine (wpIn_wide (n := 3)).1 ?_
      refine loop_tells rfl (by omega) (gf := 97) (lb := #[.pointer (some ⟨b1, 0, none⟩), .pointer (some ⟨b2, 0, none⟩)]) rfl trivial (enters_of Tryz.func97 (by kernel_rfl) rfl)
        (rounds_tell 2 w2.heap.size b1 b2 gs i out w4 hsz (by omega) hF (hR.on hb24)) (fun h k => h.trans k) (kpr_put hsz) (fun pre x W l o o' _ hl ho h => good_put pre x W l o o' hl ho h) (Below.refl _ _) (fun _ => rfl)
        (fun pre W => (RkAt W w2.heap.size i rb (rkT i out pre.length) ∧ ∃ cs t fr, W.heap[w2.heap.size]? = some (.cells cs t fr)) ∧ W.heap[w2.heap.size + 1]? = some (.cells #[.slice (some ⟨w2.heap.size, 0, none⟩) i i] 28 (0, 0)) ∧ W.heap[w2.heap.size]? = some (.cells ct 57 (0, 0)) ∧ Below w2.heap.size w2 W)
        (fun _ _ _ => False)
        (OwnFrom.and (Own.from (rk_own w2.heap.size i rb (fun pre => rkT i out pre.length)) _) (OwnFrom.and (Own.from (blk_own _ _ _ _) _) (OwnFrom.and (Own.from (blk_own _ _ _ _) _) (ownFrom_below (Nat.le_refl _) hsz))))
        (fun _ _ _ _ _ hs _ _ => hs)
        ⟨⟨HT.out.1.done out, by obtain ⟨cs, h1, _⟩ := HT.out.1.arr.ids; exact ⟨cs, _, _, h1⟩⟩, HT.out.2, hct, hb24⟩
        ?fr ?assign ?body ?done ?stop
      case assign =>
        intro l x W K hK
        unfold rdV
        gi_wp2
        exact hK
      case body =>
        rintro l pre x W ⟨⟨hRk, hTc⟩, hbx, hct', hB⟩ hG
        have c1 : W.cell? ⟨w2.heap.size + 1, 0, none⟩ = some (.slice (some ⟨w2.heap.size, 0, none⟩) i i) := cell0_of hbx rfl
        obtain ⟨cs, hcs, hcl⟩ := hG.blk
        have hNt := note_any w2.heap.size i x.2 x.1 rb _ (Ro.rnd i out x.1) cs W (by omega) (Ro.rnd_len _ _ _) hRk hcs hcl (fun p hp e => by have := hrb p hp; have := hG.gu; omega)
        have HN : Hid _ := And.intro hNt (And.intro hTc (And.intro hbx (And.intro hB (And.intro hG (And.intro hRk hct')))))
        clear hRk hTc hbx hB hG hcs hcl hNt hct'
        gi_wp2
        refine ⟨trivial, (callsIn_round HN.out.1).mono ?_⟩
        rintro r W6 ⟨⟨vr, rfl⟩, hNt⟩
        have H6 : Hid _ := And.intro hNt.tb hNt.kp
        clear hNt
        gi_wp2
        have hlo : ∀ p, p < i → w2.heap.size + 2 ≤ rb p := HT.out.1.lo
        have hkp := H6.out.2
        have far : ∀ (b : Nat) (o : Obj), W.heap[b]? = some o → (∀ p, p < i → b ≠ rb p) → W6.heap[b]? = some o := fun b o ho hne => (hkp.block b (t_lt ho) fun ⟨p, hp, e⟩ => hne p hp e).trans ho
        have hbl : Below w2.heap.size W W6 := hkp.below HN.out.2.2.2.1.size fun b ⟨p, hp, e⟩ => by have := hlo p hp; omega
        refine ⟨⟨hkp.size, fun b o _ ho hc => far b o ho fun p hp e => ?_⟩, ⟨hbl, fun b cs hb hc => far b _ hc fun p hp e => by have := hrb p hp; omega⟩, ⟨⟨H6.out.1.congr fun p q _ _ => ?_, ?_⟩, ?_, ?_, HN.out.2.2.2.1.trans hbl⟩⟩
        · obtain ⟨cs, h1, _⟩ := HN.out.2.2.2.2.2.1.row p hp
          rw [e, h1] at ho
          cases ho
          cases hc
        · rw [HN.out.2.2.2.2.1.num, rkT_succ]
          simp
        · obtain ⟨ct, tt, fr, h1⟩ := HN.out.2.1
          exact ⟨ct, tt, fr, far _ _ h1 fun p hp e => by have := hlo p hp; omega⟩
        · exact far _ _ HN.out.2.2.1 fun p hp e => by have := hlo p hp; omega
        · exact far _ _ HN.out.2.2.2.2.2.2 fun p hp e => by have := hlo p hp; omega
      case done =>
        rintro D xs W hD ⟨R, hRl, hxl⟩ ⟨⟨hRk, _⟩, hbx, hct', hB⟩ hK
        have c1 : W.cell? ⟨w2.heap.size + 1, 0, none⟩ = some (.slice (some ⟨w2.heap.size, 0, none⟩) i i) := cell0_of hbx rfl
        have HD : Hid _ := And.intro hRk (And.intro hB (And.intro hRl (And.intro hxl hct')))
        clear hRk hB hRl hxl hbx hct'
        go_wp2_with fail
        show bodyPostM _ _ _ _ _ Exit.ret _ _
        refine ⟨by simp, .inl ⟨_, _, rfl, run_takeDeferred hK, ?_⟩⟩
        refine ⟨_, results_tmp2 rfl _ _ _, w2.heap.size, rb, R, rfl, by rw [← H1.out.2.2.2.2.2.1]; exact HD.out.2.2.1, ?_, ?_, ⟨ct, ?_, ?_⟩, ?_, fun p hp => ?_⟩
        · have h1 := HD.out.1
          rw [HD.out.2.2.2.1, H1.out.2.2.2.2.2.1] at h1
          refine ⟨fun p hp => ?_, fun p hp => ?_, h1.ne, h1.tn⟩
          · exact cell_kept (h1.tab p hp) (grownBy_putObj' _ D (.deferred none)) (fun r e => by cases e; exact ⟨_, hK, rfl⟩)
          · obtain ⟨cs, h2, h3⟩ := h1.row p hp
            have hne : rb p ≠ D := fun e => by rw [e, hK] at h2; cases h2
            exact ⟨cs, (World.putObj_heap_other hne).trans h2, h3⟩
        · exact bel6 (HD.out.2.1.trans (belowK_b (w := w2) (Nat.le_refl _) W D _ _ (by omega) hK rfl rfl)) H2.out.2.1
        · have h9 := HD.out.2.2.2.2
          have hne : w2.heap.size ≠ D := fun e => by rw [e, hK] at h9; cases h9
          exact (World.putObj_heap_other hne).trans h9
        · rw [← Array.length_toList, hctl]; exact HT.out.1.len
        · exact H2.out.2.1.size
        · have h9 := HT.out.1.lo p hp
          have h8 := H2.out.2.1.size
          omega
      case stop =>
        rintro D c pre W _ _ h _
        exact h.elim
theorem ranks_ok (hS : SortOk 1000000) (m : Nat) (k s : Int) (v : Value) (es : List Sy.Ed) (a : Addr) (w : World) (hA : Sent w 14 a) (hP : Pow w) (hv : BEdges.Has w v es) (hm : es.length ≤ 100000) (hq : Sy.right m k s es = true) (hm3 : m ≤ 300) :
    Calls Tryz.prog 21 #[sysV m k s v] w fun r w' => ∃ T rb R, r = .returned (.tuple #[.slice (some ⟨T, 0, none⟩) m m, .nilIface]) ∧ Ro.Last m (outOf m es) R ∧ RkAt w' T m rb (rkT m (outOf m es) (R + 1)) ∧ Below w.heap.size w w' :=
  (ranks_ok2 hS m k s v es a w hA hP hv hm hq hm3).mono fun _ _ ⟨T, rb, R, h1, h2, h3, h4, _⟩ => ⟨T, rb, R, h1, h2, h3, h4⟩
end Go.Proofs.YtpmanmoljlhogaaGreatDoor
/- Contract of the law's alive of chapter 10: first calls whose answers the document fixes. -/
namespace Go.Proofs.YtpmanmoljlhogaaGreatDoor
open Go.RowKit Go.Maps
attribute [local go_sem ↓] Go.wp_at_zero Go.wp_at_succ
def esT : List Sy.Ed := [(0, 1, 1), (1, 1, 2), (3, 1, 2)]
theorem esT_right : Sy.right ((4 : Nat) : Int) 2 0 esT = true := by decide
theorem esT_last : Ro.Last 4 (outOf 4 esT) 2 := by
  refine ⟨by decide, fun j hj => ?_⟩
  match j, hj with
  | 0, _ => decide
  | 1, _ => decide
theorem esT_rank : Ro.rank 4 (outOf 4 esT) 2 0 1 = 2 := by decide
theorem esT_has (w : World) : BEdges.Has (w.alloc (.cells #[.int .i64 0, .int .i64 1, .int .i64 1, .int .i64 1, .int .i64 1, .int .i64 2, .int .i64 3, .int .i64 1, .int .i64 2] 66)) (.slice (some ⟨w.heap.size, 0, none⟩) 3 3) esT := by
  refine ⟨some ⟨w.heap.size, 0, none⟩, 3, rfl, fun j u hj => ⟨_, rfl, ?_⟩⟩
  rw [addz]
  refine cell0_of (heap_alloc_new w _) ?_
  rw [← Array.getElem?_toList]
  exact hj
def PAl (w : World) : Prop := ∀ W, Below w.heap.size w W → Calls Tryz.prog 9 #[] W fun r w' => r = .returned (.bool true) ∧ Below W.heap.size W w'
set_option maxRecDepth 100000 in
set_option maxHeartbeats 4000000 in
theorem pAl (hS : SortOk 1000000) (e : Nat → Addr) (w : World) (hE0 : ErR w e) (hP0 : Pow w) : PAl w := fun W hb => by
  have hE := hE0.below hb
  have hP := hP0.below hb
  clear hE0 hP0 hb
  obtain ⟨w1, hw1⟩ : ∃ w1, w1 = W.alloc (.cells #[.int .i64 0, .int .i64 1, .int .i64 1, .int .i64 1, .int .i64 1, .int .i64 2, .int .i64 3, .int .i64 1, .int .i64 2] 66) := ⟨_, rfl⟩
  have hb1 : Below W.heap.size W w1 := by rw [hw1]; exact (Below.refl _ _).alloc (Nat.le_refl _) _
  have hv := esT_has W
  rw [← hw1] at hv
  obtain ⟨w2, hw2⟩ : ∃ w2, w2 = w1.alloc (.cells #[.int .i64 4, .int .i64 2, .int .i64 0, .slice (some ⟨W.heap.size, 0, none⟩) 3 3] 24) := ⟨_, rfl⟩
  have hb2 : Below w1.heap.size w1 w2 := by rw [hw2]; exact (Below.refl _ _).alloc (Nat.le_refl _) _
  have hg2 : w2.heap[w1.heap.size]? = some (.cells #[.int .i64 4, .int .i64 2, .int .i64 0, .slice (some ⟨W.heap.size, 0, none⟩) 3 3] 24 (0, 0)) := by rw [hw2]; exact heap_alloc_new w1 _
  have hbW := bel6 hb2 hb1
  have hAll := all_ok hS 4 2 0 (.slice (some ⟨W.heap.size, 0, none⟩) 3 3) esT (e 14) w2 ((hE.below hbW).s14 (by decide)) (hP.below hbW) (hv.below hb2) (by decide) esT_right
  unfold sysV at hAll
  have hsz : w1.heap.size = W.heap.size + 1 := by rw [hw1]; simp
  have H1 : Hid _ := And.intro hw2 (And.intro hw1 (And.intro hg2 (And.intro hAll (And.intro hbW (And.intro hE (And.intro hP (hv.below hb2)))))))
  obtain ⟨x0, x1, x2, x3⟩ := four_cells hg2
  clear hw1 hb1 hv hw2 hb2 hg2 hbW hAll hE hP
  go_enter Tryz.func9, Tryz.ntmps9
  go_upto_region 2 with fail
  rw [← H1.out.2.1, ← H1.out.1]
  rw [hsz] at x0 x1 x2 x3
  go_wp2_with fail
  refine Calls.mono H1.out.2.2.2.1 ?_
  rintro r w3 ⟨u3, xs, R, rfl, hR, hxl, hO3, hRw, hb3⟩
  obtain rfl : R = 2 := hR.unique esT_last
  obtain ⟨a3, c3, hu3⟩ := row_shape hO3
  rw [hxl] at hu3
  subst hu3
  have hbW3 := bel6 hb3 H1.out.2.2.2.2.1
  have hRk := rank_ok hS 4 0 1 2 0 (.slice (some ⟨W.heap.size, 0, none⟩) 3 3) esT e w3 (H1.out.2.2.2.2.2.1.below hbW3) (H1.out.2.2.2.2.2.2.1.below hbW3) (H1.out.2.2.2.2.2.2.2.below hb3) (by decide) esT_right (by decide) (by decide)
  unfold sysV at hRk
  have hg3 := res_up6 hb3 H1.out.2.2.1
  rw [hsz] at hg3
  have H3 : Hid _ := And.intro hRk hbW3
  clear x0 x1 x2 x3 hR hxl hO3 hRw hb3 hbW3 hRk
  obtain ⟨x0, x1, x2, x3⟩ := four_cells hg3
  clear hg3
  go_wp2_with fail
  refine Calls.mono H3.out.1 ?_
  rintro r w4 ⟨R, hR, rfl, hb4⟩
  obtain rfl : R = 2 := hR.unique esT_last
  rw [esT_rank]
  have H4 : Hid _ := bel6 hb4 H3.out.2
  clear hR hb4 x0 x1 x2 x3
  go_wp2_with fail
  go_ret
  exact ⟨rfl, H4.out⟩
end Go.Proofs.YtpmanmoljlhogaaGreatDoor
/- RoundsFar as a call: for every system the statement answers true. -/
namespace Go.Proofs.YtpmanmoljlhogaaGreatDoor
open Go.RowKit Go.Maps
attribute [local go_sem ↓] Go.wp_at_zero Go.wp_at_succ
theorem far_any (x : Int) (w : World) : Calls Tryz.prog 27 #[.int .i64 x] w fun r w' => r = .returned (.int .i64 (farI x)) ∧ w' = w := by
  by_cases h : x < 0
  · have e : farI x = 1048576 := by unfold farI; rw [if_pos h]
    rw [e]
    go_enter Tryz.func27, Tryz.ntmps27
    go_wp2
    go_ret
    exact ⟨rfl, rfl⟩
  · have e : farI x = x := by unfold farI; rw [if_neg h]
    rw [e]
    go_enter Tryz.func27, Tryz.ntmps27
    go_wp2
    go_ret
    exact ⟨rfl, rfl⟩
set_option maxRecDepth 100000 in
set_option maxHeartbeats 4000000 in
theorem lawFar_out (n k s : Int) (v : Value) (es : List Sy.Ed) (w : World) (hA : PAl w) (hv : HasE w v es) (hout : 25 < n ∨ 200 < es.length) :
    Calls Tryz.prog 7 #[sysV n k s v] w fun r w' => r = .returned (.bool true) ∧ Below w.heap.size w w' := by
  have hvs := hv
  obtain ⟨ao, cap, rfl, hcap, hH⟩ := hvs
  obtain ⟨L, hL⟩ : ∃ L, L = es.length := ⟨_, rfl⟩
  obtain ⟨w1, hw1⟩ : ∃ w1, w1 = w.alloc (.cells #[.int .i64 n, .int .i64 k, .int .i64 s, .slice ao L cap] 24) := ⟨_, rfl⟩
  have hb1 : Below w.heap.size w w1 := by rw [hw1]; exact (Below.refl _ _).alloc (Nat.le_refl _) _
  have hg1 : w1.heap[w.heap.size]? = some (.cells #[.int .i64 n, .int .i64 k, .int .i64 s, .slice ao L cap] 24 (0, 0)) := by rw [hw1]; exact heap_alloc_new w _
  rw [← hL] at hout ⊢
  unfold sysV
  have H1 : Hid _ := And.intro hw1 (And.intro hb1 hA)
  obtain ⟨x0, x1, x2, x3⟩ := four_cells hg1
  clear hA hv hH hcap hL hw1 hb1 hg1
  by_cases h25 : 25 < n
  · have q1 : decide ((25 : Int) < n) = true := decide_eq_true h25
    clear hout h25
    go_enter Tryz.func7, Tryz.ntmps7
    go_upto_region 1 with fail
    rw [← H1.out.1]
    go_wp2_with fail
    refine Calls.mono (H1.out.2.2 _ H1.out.2.1) ?_
    rintro r w3 ⟨rfl, hb3⟩
    have H3 : Hid (Below w.heap.size w w3) := bel6 hb3 H1.out.2.1
    clear hb3
    go_wp2_with fail
    go_ret
    exact ⟨rfl, H3.out⟩
  · have q1 : decide ((25 : Int) < n) = false := decide_eq_false h25
    have q2 : decide ((200 : Int) < (L : Int)) = true := decide_eq_true (by omega)
    have q3 : decide (200 < L) = true := decide_eq_true (by omega)
    clear hout h25
    go_enter Tryz.func7, Tryz.ntmps7
    go_upto_region 1 with fail
    rw [← H1.out.1]
    go_wp2_with fail
    refine Calls.mono (H1.out.2.2 _ H1.out.2.1) ?_
    rintro r w3 ⟨rfl, hb3⟩
    have H3 : Hid (Below w.heap.size w w3) := bel6 hb3 H1.out.2.1
    clear hb3
    go_wp2_with fail
    go_ret
    exact ⟨rfl, H3.out⟩
set_option maxRecDepth 100000 in
set_option maxHeartbeats 4000000 in
theorem lawFar_bad (hS : SortOk 1000000) (n k s : Int) (v : Value) (es : List Sy.Ed) (a : Addr) (w : World) (hA : PAl w) (hE : Sent w 14 a) (hv : HasE w v es) (hn : n ≤ 25) (hlen : es.length ≤ 200) (hq : Sy.right n k s es = false) :
    Calls Tryz.prog 7 #[sysV n k s v] w fun r w' => r = .returned (.bool true) ∧ Below w.heap.size w w' := by
  have hvs := hv
  obtain ⟨ao, cap, rfl, hcap, hH⟩ := hvs
  obtain ⟨L, hL⟩ : ∃ L, L = es.length := ⟨_, rfl⟩
  obtain ⟨w1, hw1⟩ : ∃ w1, w1 = w.alloc (.cells #[.int .i64 n, .int .i64 k, .int .i64 s, .slice ao L cap] 24) := ⟨_, rfl⟩
  have hb1 : Below w.heap.size w w1 := by rw [hw1]; exact (Below.refl _ _).alloc (Nat.le_refl _) _
  have hg1 : w1.heap[w.heap.size]? = some (.cells #[.int .i64 n, .int .i64 k, .int .i64 s, .slice ao L cap] 24 (0, 0)) := by rw [hw1]; exact heap_alloc_new w _
  have hR := ranks_bad hS n k s _ es a w1 (hE.below hb1) (BEdges.Has.below hH hb1) (by omega) hq
  rw [← hL] at hlen hR ⊢
  unfold sysV at hR ⊢
  have H1 : Hid _ := And.intro hw1 (And.intro hb1 (And.intro hR hA))
  obtain ⟨x0, x1, x2, x3⟩ := four_cells hg1
  have q1 : decide ((25 : Int) < n) = false := decide_eq_false (by omega)
  have q2 : decide ((200 : Int) < (L : Int)) = false := decide_eq_false (by omega)
  have q3 : decide (200 < L) = false := decide_eq_false (by omega)
  clear hA hE hv hH hcap hL hw1 hb1 hg1 hR hq hn hlen
  go_enter Tryz.func7, Tryz.ntmps7
  go_upto_region 1 with fail
  rw [← H1.out.1]
  go_wp2_with fail
  refine Calls.mono H1.out.2.2.1 ?_
  rintro r w2 ⟨b, rfl, _, hb2⟩
  have H2 : Hid (Below w.heap.size w w2) := bel6 hb2 H1.out.2.1
  clear hb2
  go_wp2_with fail
  refine Calls.mono (H1.out.2.2.2 _ H2.out) ?_
  rintro r w3 ⟨rfl, hb3⟩
  have H3 : Hid (Below w.heap.size w w3) := bel6 hb3 H2.out
  clear hb3
  go_wp2_with fail
  go_ret
  exact ⟨rfl, H3.out⟩
set_option maxRecDepth 100000 in
set_option maxHeartbeats 8000000 in
theorem lawFar_ok (hS : SortOk 1000000) (m : Nat) (k s : Int) (v : Value) (es : List Sy.Ed) (a : Addr) (w : World) (hA : PAl w) (hE : Sent w 14 a) (hP : Pow w) (hv : HasE w v es) (hn : m ≤ 25) (hlen : es.length ≤ 200) (hq : Sy.right m k s es = true) :
    Calls Tryz.prog 7 #[sysV m k s v] w fun r w' => r = .returned (.bool true) ∧ Below w.heap.size w w' := by
  have hvs := hv
  obtain ⟨ao, cap, rfl, hcap, hH⟩ := hvs
  obtain ⟨L, hL⟩ : ∃ L, L = es.length := ⟨_, rfl⟩
  obtain ⟨w1, hw1⟩ : ∃ w1, w1 = w.alloc (.cells #[.int .i64 m, .int .i64 k, .int .i64 s, .slice ao L cap] 24) := ⟨_, rfl⟩
  have hb1 : Below w.heap.size w w1 := by rw [hw1]; exact (Below.refl _ _).alloc (Nat.le_refl _) _
  have hg1 : w1.heap[w.heap.size]? = some (.cells #[.int .i64 m, .int .i64 k, .int .i64 s, .slice ao L cap] 24 (0, 0)) := by rw [hw1]; exact heap_alloc_new w _
  have hR := ranks_ok hS m k s _ es a w1 (hE.below hb1) (hP.below hb1) (BEdges.Has.below hH hb1) (by omega) hq (by omega)
  rw [← hL] at hlen hR ⊢
  unfold sysV at hR ⊢
  have H1 : Hid _ := And.intro hw1 (And.intro hb1 (And.intro hR (And.intro hA hg1)))
  obtain ⟨x0, x1, x2, x3⟩ := four_cells hg1
  have q1 : decide ((25 : Int) < (m : Int)) = false := decide_eq_false (by omega)
  have q1' : decide (25 < m) = false := decide_eq_false (by omega)
  have q2 : decide ((200 : Int) < (L : Int)) = false := decide_eq_false (by omega)
  have q3 : decide (200 < L) = false := decide_eq_false (by omega)
  clear hA hE hP hv hH hcap hL hw1 hb1 hg1 hR hq hlen
  go_enter Tryz.func7, Tryz.ntmps7
  go_upto_region 1 with fail
  rw [← H1.out.1]
  go_wp2_with fail
  refine Calls.mono H1.out.2.2.1 ?_
  rintro r w2 ⟨T, rb, R, rfl, hRl, hRk, hb2⟩
  have hR1 : R + 1 ≤ 1001 := by have := hRl.lt; omega
  obtain ⟨f, hf⟩ : ∃ f, f = rkT m (outOf m es) (R + 1) := ⟨_, rfl⟩
  rw [← hf] at hRk
  have hself : ∀ p, f p p = -1 := fun p => by rw [hf]; exact rkT_self _ _ _ _
  have hcomm : ∀ p q, f p q = f q p := fun p q => by rw [hf]; exact rkT_comm _ _ _ _ _
  have hne0 : ∀ p q, p < m → q < m → f p q ≠ 0 := fun p q hp hq => by rw [hf]; exact rkT_ne0 _ _ _ hp hq
  have hfar : ∀ p q r, ¬ farI (f p r) < min (farI (f p q)) (farI (f q r)) := fun p q r => by rw [hf]; exact rkT_far _ _ _ _ _ _ hR1
  have H2 : Hid _ := And.intro hRk (And.intro hself (And.intro hcomm (And.intro hne0 (And.intro hfar (bel6 hb2 H1.out.2.1)))))
  have y0 : w2.cell? ⟨w.heap.size, 0, none⟩ = some (.int .i64 m) := cell_up x0 hb2
  have e0 : ((m : Int) != (m : Int)) = false := by simp
  clear hb2 hRk hself hcomm hne0 hfar hf hRl hR1 x0 x1 x2 x3
  go_wp2_with fail
  go_loopg [5] m (fun q iv wr => ∃ (p d : Nat), q = m - p ∧ p ≤ m ∧ iv = .int .i64 p ∧ wr = w2.drewN d)
  case atStart => exact ⟨0, 0, rfl, Nat.zero_le _, rfl, rfl⟩
  case round =>
    obtain ⟨p, d, rfl, hp, rfl, rfl⟩ := hrel
    by_cases hlt : p < m
    · have c1 := H2.out.1.tab p hlt
      have c2 := H2.out.1.cell hlt hlt
      rw [H2.out.2.1 p] at c2
      have p0 : (0 : Int) ≤ (p : Int) := by omega
      have p1 : (p : Int) < (m : Int) := by omega
      go_wp2_with fail
      go_quiet (fail)
      rename Nat => nq
      rw [World.drewN_drewN]
      go_wp2_with fail
      go_roundg (m - (p + 1))
      case measure => omega
      case rel => exact ⟨p + 1, _, rfl, by omega, by go_num, rfl⟩
    · obtain rfl : p = m := by omega
      have r1 : ¬ (p : Int) < (p : Int) := by omega
      go_wp2_with fail
      go_loopg [6] p (fun g iv wr => ∃ (b d : Nat), g = p - b ∧ b ≤ p ∧ iv = .int .i64 b ∧ wr = w2.drewN d)
      case atStart => exact ⟨0, _, rfl, Nat.zero_le _, rfl, rfl⟩
      case round =>
        obtain ⟨b, d2, rfl, hb, rfl, rfl⟩ := hrel
        by_cases hbl : b < p
        · have b0 : (0 : Int) ≤ (b : Int) := by omega
          have b1 : (b : Int) < (p : Int) := by omega
          have cb := H2.out.1.tab b hbl
          go_wp2_with fail
          go_loopg [7] p (fun g iv wr => ∃ (q d : Nat), g = p - q ∧ q ≤ p ∧ iv = .int .i64 q ∧ wr = w2.drewN d)
          case atStart => exact ⟨0, _, rfl, Nat.zero_le _, rfl, rfl⟩
          case round =>
            obtain ⟨q, d3, rfl, hq, rfl, rfl⟩ := hrel
            by_cases hql : q < p
            · have s0 : (0 : Int) ≤ (q : Int) := by omega
              have s1 : (q : Int) < (p : Int) := by omega
              have cq := H2.out.1.tab q hql
              have cbq := H2.out.1.cell hbl hql
              have cqb := H2.out.1.cell hql hbl
              rw [H2.out.2.2.1 q b] at cqb
              have hv0 := H2.out.2.2.2.1 b q hbl hql
              obtain ⟨x, hx⟩ : ∃ x, x = f b q := ⟨_, rfl⟩
              rw [← hx] at cbq cqb hv0
              have e1 : (x != x) = false := by simp
              have e2 : (x == 0) = false := by simpa using hv0
              have HX : Hid (x = f b q) := hx
              clear hx hv0
              go_wp2_with fail
              go_quiet (fail)
              rename Nat => nq
              rw [World.drewN_drewN]
              clear e1 e2 cqb
              go_wp2_with fail
              go_loopg [8] p (fun g iv wr => ∃ (t d : Nat), g = p - t ∧ t ≤ p ∧ iv = .int .i64 t ∧ wr = w2.drewN d)
              case atStart => exact ⟨0, _, rfl, Nat.zero_le _, rfl, rfl⟩
              case round =>
                obtain ⟨t, d4, rfl, ht, rfl, rfl⟩ := hrel
                by_cases htl : t < p
                · have t0 : (0 : Int) ≤ (t : Int) := by omega
                  have t1 : (t : Int) < (p : Int) := by omega
                  have cbt := H2.out.1.cell hbl htl
                  have cqt := H2.out.1.cell hql htl
                  have hfr := H2.out.2.2.2.2.1 b q t
                  rw [← HX.out] at hfr
                  obtain ⟨y, hy⟩ : ∃ y, y = f b t := ⟨_, rfl⟩
                  obtain ⟨z, hz⟩ : ∃ z, z = f q t := ⟨_, rfl⟩
                  rw [← hy] at cbt hfr
                  rw [← hz] at cqt hfr
                  have g1 : decide (farI y < min (farI x) (farI z)) = false := decide_eq_false (by omega)
                  clear hfr hy hz
                  go_wp2_with fail
                  go_quiet ((go_at_call 27; exact (far_any _ _).mono fun _ _ ⟨he, hw⟩ => ⟨he, _, hw⟩))
                  rename Nat => nq2
                  rw [World.drewN_drewN]
                  go_wp2_with fail
                  go_roundg (p - (t + 1))
                  case measure => omega
                  case rel => exact ⟨t + 1, _, rfl, by omega, by go_num, rfl⟩
                · obtain rfl : t = p := by omega
                  have r1 : ¬ (t : Int) < (t : Int) := by omega
                  go_wp2_with fail
                  go_roundg (t - (q + 1))
                  case measure => omega
                  case rel => exact ⟨q + 1, _, rfl, by omega, by go_num, rfl⟩
            · obtain rfl : q = p := by omega
              have r1 : ¬ (q : Int) < (q : Int) := by omega
              go_wp2_with fail
              go_roundg (q - (b + 1))
              case measure => omega
              case rel => exact ⟨b + 1, _, rfl, by omega, by go_num, rfl⟩
        · obtain rfl : b = p := by omega
          have r1 : ¬ (b : Int) < (b : Int) := by omega
          go_wp2_with fail
          refine Calls.mono (H1.out.2.2.2.1 _ (below_drewN H2.out.2.2.2.2.2 _)) ?_
          rintro r w3 ⟨rfl, hb3⟩
          have H3 : Hid (Below w.heap.size w w3) := bel6 hb3 (below_drewN H2.out.2.2.2.2.2 _)
          clear hb3
          go_wp2_with fail
          go_ret
          exact ⟨rfl, H3.out⟩
theorem lawFar_any (hS : SortOk 1000000) (n k s : Int) (v : Value) (es : List Sy.Ed) (e : Nat → Addr) (w : World) (hE : ErR w e) (hP : Pow w) (hv : HasE w v es) :
    Calls Tryz.prog 7 #[sysV n k s v] w fun r w' => r = .returned (.bool true) ∧ Below w.heap.size w w' := by
  have hA := pAl hS e w hE hP
  by_cases hout : 25 < n ∨ 200 < es.length
  · exact lawFar_out n k s v es w hA hv hout
  · cases hq : Sy.right n k s es with
    | false => exact lawFar_bad hS n k s v es (e 14) w hA (hE.s14 (by decide)) hv (by omega) (by omega) hq
    | true =>
      obtain ⟨m, rfl⟩ : ∃ m : Nat, n = (m : Int) := ⟨n.toNat, by have := (right_parts hq).1; omega⟩
      exact lawFar_ok hS m k s v es (e 14) w hA (hE.s14 (by decide)) hP hv (by omega) (by omega) hq
end Go.Proofs.YtpmanmoljlhogaaGreatDoor
/- What the listed package variables give: api's errors lie in memory, each at an address of its own, whichever are listed. (Written by mker.py.) -/
namespace Go.Proofs.YtpmanmoljlhogaaGreatDoor
open Go.ChangeShapes Go.WideShapes Go.ChangeAt Go.WideMaps Go.WideElems Go.RowKit
theorem Tryz.own : ownKnob Tryz.prog.godebug = none := by kernel_rfl
theorem Tryz.laidOut : laidOutB Tryz.prog = true := by kernel_rfl
theorem Tryz.cellsE : Tryz.prog.cellsOf 325 = 1 := by kernel_rfl
theorem Tryz.cellsS : Tryz.prog.cellsOf 9 = 1 := by kernel_rfl
set_option maxRecDepth 100000 in
theorem Tryz.star : "*" ++ "errors.errorString" = "*errors.errorString" := by decide
set_option maxRecDepth 100000 in
theorem Tryz.rowE (u : TypeId) (h : Tryz.prog.typeName? 3 u = some "*errors.errorString") : u = 305 :=
  typeName_ptr_named (nm := "errors.errorString") (by rw [Tryz.star]; kernel_rfl) (by kernel_rfl) (by decide) u (by rw [Tryz.star]; exact h)
set_option maxRecDepth 100000 in
/-- One listed error: its variable's cell, its place; and the rest of the list. -/
theorem laid_step {W : World} {n : String} {g : Nat} {text : List UInt8} {r : List (String × DataW Unit)} {ps : List MemPlace} (hg : Tryz.prog.globalNamed n = some g) (ht : (Tryz.prog.globals[g]?).map (·.type) = some 46)
    (h : DataW.LaidVars Tryz.prog W ((n, .iface "*errors.errorString" (.ptr (.agg [.lit (.string text)]))) :: r) ps)
    (hrows : ∀ b off, MemPlace.cell b off ∈ ps → (∃ c t, W.heap[b]? = some (.cells c t (0, 0))) ∧ ∀ u v, W.cell? ⟨b, off, none⟩ = some (.iface u v) → Value.okWide Tryz.prog W .any 0 u v) :
    ∃ a q, Sent W g a ∧ DataW.LaidVars Tryz.prog W r q ∧ ps = MemPlace.cell g 0 :: MemPlace.cell a.block a.off :: q := by
  obtain ⟨g0, t0, cs0, f0, p0, q0, hg0, ht0, hv0, hd0, hr, e0⟩ := h
  obtain rfl := Option.some.inj (hg.symm.trans hg0)
  obtain rfl := Option.some.inj (ht.symm.trans ht0)
  subst e0
  obtain ⟨l0⟩ := cs0
  have ok0 : ∀ u v, l0 = [.iface u v] → Value.okWide Tryz.prog W .any 0 u v := fun u v e => by
    subst e
    exact (hrows g 0 (by simp [MemPlace.row])).2 u v (by simpa using World.var?_cell hg0 hv0 0)
  obtain ⟨a0, s0, rfl, hc0, hs0, hz0, rfl⟩ := errorString_of_trod Tryz.underlying46 Tryz.rowE Tryz.underlying305 Tryz.underlying325 rfl rfl Tryz.underlying9 Tryz.cellsE Tryz.cellsS hd0 ok0
  refine ⟨a0, q0, ⟨by simpa using World.var?_cell hg0 hv0 0, (hrows a0.block a0.off (by simp [MemPlace.row])).1⟩, hr, ?_⟩
  simp [MemPlace.row]
/-- A listed error: its name, its variable, its text. -/
abbrev LE : Type := String × Nat × List UInt8
def leV (x : LE) : String × DataW Unit := (x.1, .iface "*errors.errorString" (.ptr (.agg [.lit (.string x.2.2)])))
theorem laid_list {W : World} {r : List (String × DataW Unit)} : ∀ (xs : List LE) (ps : List MemPlace), (∀ x ∈ xs, Tryz.prog.globalNamed x.1 = some x.2.1 ∧ (Tryz.prog.globals[x.2.1]?).map (·.type) = some 46) →
    DataW.LaidVars Tryz.prog W (xs.map leV ++ r) ps → (∀ b off, MemPlace.cell b off ∈ ps → (∃ c t, W.heap[b]? = some (.cells c t (0, 0))) ∧ ∀ u v, W.cell? ⟨b, off, none⟩ = some (.iface u v) → Value.okWide Tryz.prog W .any 0 u v) →
    ∃ ads : List Addr, ads.length = xs.length ∧ (∀ (i : Nat) (x : LE) (a : Addr), xs[i]? = some x → ads[i]? = some a → Sent W x.2.1 a) ∧ (∀ a ∈ ads, MemPlace.cell a.block a.off ∈ ps) ∧ (ps.Nodup → ads.Pairwise (· ≠ ·))
  | [], ps, _, _, _ => ⟨[], rfl, fun i x a h => by simp at h, fun a h => by simp at h, fun _ => List.Pairwise.nil⟩
  | x :: xs, ps, hx, h, hr => by
    obtain ⟨a, q, hs, hq, rfl⟩ := laid_step (hx x List.mem_cons_self).1 (hx x List.mem_cons_self).2 h hr
    obtain ⟨ads, h1, h2, h3, h4⟩ := laid_list xs q (fun y hy => hx y (List.mem_cons_of_mem _ hy)) hq (fun b off hb => hr b off (List.mem_cons_of_mem _ (List.mem_cons_of_mem _ hb)))
    refine ⟨a :: ads, by simp [h1], fun i y b hy hb => ?_, fun b hb => ?_, fun hn => ?_⟩
    · cases i with
      | zero => simp at hy hb; subst hy; subst hb; exact hs
      | succ i => exact h2 i y b (by simpa using hy) (by simpa using hb)
    · rcases List.mem_cons.1 hb with rfl | hb
      · exact List.mem_cons_of_mem _ List.mem_cons_self
      · exact List.mem_cons_of_mem _ (List.mem_cons_of_mem _ (h3 b hb))
    · have hn2 := (List.nodup_cons.1 hn).2
      have hn3 := List.nodup_cons.1 hn2
      exact List.Pairwise.cons (fun b hb e => hn3.1 (by rw [e]; exact h3 b hb)) (h4 hn3.2)
theorem Tryz.g1 : Tryz.prog.globalNamed "semblance/api.ErrArg" = some 2 := by kernel_rfl
theorem Tryz.t1 : (Tryz.prog.globals[2]?).map (·.type) = some 46 := by kernel_rfl
theorem Tryz.g2 : Tryz.prog.globalNamed "semblance/api.ErrLong" = some 1 := by kernel_rfl
theorem Tryz.t2 : (Tryz.prog.globals[1]?).map (·.type) = some 46 := by kernel_rfl
theorem Tryz.g3 : Tryz.prog.globalNamed "semblance/api.ErrIndex" = some 3 := by kernel_rfl
theorem Tryz.t3 : (Tryz.prog.globals[3]?).map (·.type) = some 46 := by kernel_rfl
theorem Tryz.g4 : Tryz.prog.globalNamed "semblance/api.ErrWord" = some 4 := by kernel_rfl
theorem Tryz.t4 : (Tryz.prog.globals[4]?).map (·.type) = some 46 := by kernel_rfl
theorem Tryz.g5 : Tryz.prog.globalNamed "semblance/api.ErrSyntax" = some 5 := by kernel_rfl
theorem Tryz.t5 : (Tryz.prog.globals[5]?).map (·.type) = some 46 := by kernel_rfl
theorem Tryz.g6 : Tryz.prog.globalNamed "semblance/api.ErrDeep" = some 6 := by kernel_rfl
theorem Tryz.t6 : (Tryz.prog.globals[6]?).map (·.type) = some 46 := by kernel_rfl
theorem Tryz.g7 : Tryz.prog.globalNamed "semblance/api.ErrTwice" = some 7 := by kernel_rfl
theorem Tryz.t7 : (Tryz.prog.globals[7]?).map (·.type) = some 46 := by kernel_rfl
theorem Tryz.g8 : Tryz.prog.globalNamed "semblance/api.ErrUnknown" = some 8 := by kernel_rfl
theorem Tryz.t8 : (Tryz.prog.globals[8]?).map (·.type) = some 46 := by kernel_rfl
theorem Tryz.g9 : Tryz.prog.globalNamed "semblance/api.ErrSilent" = some 9 := by kernel_rfl
theorem Tryz.t9 : (Tryz.prog.globals[9]?).map (·.type) = some 46 := by kernel_rfl
theorem Tryz.g10 : Tryz.prog.globalNamed "semblance/api.ErrUnguarded" = some 10 := by kernel_rfl
theorem Tryz.t10 : (Tryz.prog.globals[10]?).map (·.type) = some 46 := by kernel_rfl
theorem Tryz.g11 : Tryz.prog.globalNamed "semblance/api.ErrSteps" = some 11 := by kernel_rfl
theorem Tryz.t11 : (Tryz.prog.globals[11]?).map (·.type) = some 46 := by kernel_rfl
theorem Tryz.g12 : Tryz.prog.globalNamed "semblance/api.ErrStates" = some 12 := by kernel_rfl
theorem Tryz.t12 : (Tryz.prog.globals[12]?).map (·.type) = some 46 := by kernel_rfl
theorem Tryz.g13 : Tryz.prog.globalNamed "semblance/api.ErrEdges" = some 13 := by kernel_rfl
theorem Tryz.t13 : (Tryz.prog.globals[13]?).map (·.type) = some 46 := by kernel_rfl
theorem Tryz.g14 : Tryz.prog.globalNamed "semblance/api.ErrSystem" = some 14 := by kernel_rfl
theorem Tryz.t14 : (Tryz.prog.globals[14]?).map (·.type) = some 46 := by kernel_rfl
theorem Tryz.g15 : Tryz.prog.globalNamed "semblance/api.ErrClasses" = some 15 := by kernel_rfl
theorem Tryz.t15 : (Tryz.prog.globals[15]?).map (·.type) = some 46 := by kernel_rfl
theorem Tryz.g16 : Tryz.prog.globalNamed "semblance/api.ErrFormula" = some 16 := by kernel_rfl
theorem Tryz.t16 : (Tryz.prog.globals[16]?).map (·.type) = some 46 := by kernel_rfl
theorem Tryz.g17 : Tryz.prog.globalNamed "semblance/api.ErrLimit" = some 17 := by kernel_rfl
theorem Tryz.t17 : (Tryz.prog.globals[17]?).map (·.type) = some 46 := by kernel_rfl
theorem Tryz.g18 : Tryz.prog.globalNamed "semblance/api.ErrNone" = some 0 := by kernel_rfl
theorem Tryz.t18 : (Tryz.prog.globals[0]?).map (·.type) = some 46 := by kernel_rfl
theorem Tryz.g19 : Tryz.prog.globalNamed "semblance/api.ErrScript" = some 18 := by kernel_rfl
theorem Tryz.t19 : (Tryz.prog.globals[18]?).map (·.type) = some 46 := by kernel_rfl
set_option maxRecDepth 100000 in
theorem er_of {W : World} {x1 x2 x3 x4 x5 x6 x7 x8 x9 x10 x11 x12 x13 x14 x15 x16 x17 x18 x19 : List UInt8} {r : List (String × DataW Unit)} (h : laidMet Tryz.prog (("semblance/api.ErrArg", .iface "*errors.errorString" (.ptr (.agg [.lit (.string x1)]))) :: ("semblance/api.ErrLong", .iface "*errors.errorString" (.ptr (.agg [.lit (.string x2)]))) :: ("semblance/api.ErrIndex", .iface "*errors.errorString" (.ptr (.agg [.lit (.string x3)]))) :: ("semblance/api.ErrWord", .iface "*errors.errorString" (.ptr (.agg [.lit (.string x4)]))) :: ("semblance/api.ErrSyntax", .iface "*errors.errorString" (.ptr (.agg [.lit (.string x5)]))) :: ("semblance/api.ErrDeep", .iface "*errors.errorString" (.ptr (.agg [.lit (.string x6)]))) :: ("semblance/api.ErrTwice", .iface "*errors.errorString" (.ptr (.agg [.lit (.string x7)]))) :: ("semblance/api.ErrUnknown", .iface "*errors.errorString" (.ptr (.agg [.lit (.string x8)]))) :: ("semblance/api.ErrSilent", .iface "*errors.errorString" (.ptr (.agg [.lit (.string x9)]))) :: ("semblance/api.ErrUnguarded", .iface "*errors.errorString" (.ptr (.agg [.lit (.string x10)]))) :: ("semblance/api.ErrSteps", .iface "*errors.errorString" (.ptr (.agg [.lit (.string x11)]))) :: ("semblance/api.ErrStates", .iface "*errors.errorString" (.ptr (.agg [.lit (.string x12)]))) :: ("semblance/api.ErrEdges", .iface "*errors.errorString" (.ptr (.agg [.lit (.string x13)]))) :: ("semblance/api.ErrSystem", .iface "*errors.errorString" (.ptr (.agg [.lit (.string x14)]))) :: ("semblance/api.ErrClasses", .iface "*errors.errorString" (.ptr (.agg [.lit (.string x15)]))) :: ("semblance/api.ErrFormula", .iface "*errors.errorString" (.ptr (.agg [.lit (.string x16)]))) :: ("semblance/api.ErrLimit", .iface "*errors.errorString" (.ptr (.agg [.lit (.string x17)]))) :: ("semblance/api.ErrNone", .iface "*errors.errorString" (.ptr (.agg [.lit (.string x18)]))) :: ("semblance/api.ErrScript", .iface "*errors.errorString" (.ptr (.agg [.lit (.string x19)]))) :: r) W) : ∃ e, Er 19 W e := by
  obtain ⟨ps, h0, hnd, r0⟩ := h
  obtain ⟨ads, h1, h2, _, h4⟩ := laid_list [("semblance/api.ErrArg", 2, x1), ("semblance/api.ErrLong", 1, x2), ("semblance/api.ErrIndex", 3, x3), ("semblance/api.ErrWord", 4, x4), ("semblance/api.ErrSyntax", 5, x5), ("semblance/api.ErrDeep", 6, x6), ("semblance/api.ErrTwice", 7, x7), ("semblance/api.ErrUnknown", 8, x8), ("semblance/api.ErrSilent", 9, x9), ("semblance/api.ErrUnguarded", 10, x10), ("semblance/api.ErrSteps", 11, x11), ("semblance/api.ErrStates", 12, x12), ("semblance/api.ErrEdges", 13, x13), ("semblance/api.ErrSystem", 14, x14), ("semblance/api.ErrClasses", 15, x15), ("semblance/api.ErrFormula", 16, x16), ("semblance/api.ErrLimit", 17, x17), ("semblance/api.ErrNone", 0, x18), ("semblance/api.ErrScript", 18, x19)] ps (fun x hx => by
    simp only [List.mem_cons, List.not_mem_nil, or_false] at hx
    rcases hx with rfl | rfl | rfl | rfl | rfl | rfl | rfl | rfl | rfl | rfl | rfl | rfl | rfl | rfl | rfl | rfl | rfl | rfl | rfl
    · exact ⟨Tryz.g1, Tryz.t1⟩
    · exact ⟨Tryz.g2, Tryz.t2⟩
    · exact ⟨Tryz.g3, Tryz.t3⟩
    · exact ⟨Tryz.g4, Tryz.t4⟩
    · exact ⟨Tryz.g5, Tryz.t5⟩
    · exact ⟨Tryz.g6, Tryz.t6⟩
    · exact ⟨Tryz.g7, Tryz.t7⟩
    · exact ⟨Tryz.g8, Tryz.t8⟩
    · exact ⟨Tryz.g9, Tryz.t9⟩
    · exact ⟨Tryz.g10, Tryz.t10⟩
    · exact ⟨Tryz.g11, Tryz.t11⟩
    · exact ⟨Tryz.g12, Tryz.t12⟩
    · exact ⟨Tryz.g13, Tryz.t13⟩
    · exact ⟨Tryz.g14, Tryz.t14⟩
    · exact ⟨Tryz.g15, Tryz.t15⟩
    · exact ⟨Tryz.g16, Tryz.t16⟩
    · exact ⟨Tryz.g17, Tryz.t17⟩
    · exact ⟨Tryz.g18, Tryz.t18⟩
    · exact ⟨Tryz.g19, Tryz.t19⟩) h0 r0
  have hp := h4 hnd
  have h1' : ads.length = 19 := h1
  have hg : ∀ k, 1 ≤ k → k ≤ 19 → ads[k - 1]? = some (ads.getD (k - 1) ⟨0, 0, none⟩) := fun k _ h19 => by rw [List.getD_eq_getElem?_getD, List.getElem?_eq_getElem (by omega)]; rfl
  refine ⟨fun k => ads.getD (k - 1) ⟨0, 0, none⟩, ⟨fun _ => h2 0 _ _ rfl (hg 1 (by decide) (by decide)), fun _ => h2 1 _ _ rfl (hg 2 (by decide) (by decide)), fun _ => h2 2 _ _ rfl (hg 3 (by decide) (by decide)), fun _ => h2 3 _ _ rfl (hg 4 (by decide) (by decide)), fun _ => h2 4 _ _ rfl (hg 5 (by decide) (by decide)), fun _ => h2 5 _ _ rfl (hg 6 (by decide) (by decide)), fun _ => h2 6 _ _ rfl (hg 7 (by decide) (by decide)), fun _ => h2 7 _ _ rfl (hg 8 (by decide) (by decide)), fun _ => h2 8 _ _ rfl (hg 9 (by decide) (by decide)), fun _ => h2 9 _ _ rfl (hg 10 (by decide) (by decide)), fun _ => h2 10 _ _ rfl (hg 11 (by decide) (by decide)), fun _ => h2 11 _ _ rfl (hg 12 (by decide) (by decide)), fun _ => h2 12 _ _ rfl (hg 13 (by decide) (by decide)), fun _ => h2 13 _ _ rfl (hg 14 (by decide) (by decide)), fun _ => h2 14 _ _ rfl (hg 15 (by decide) (by decide)), fun _ => h2 15 _ _ rfl (hg 16 (by decide) (by decide)), fun _ => h2 16 _ _ rfl (hg 17 (by decide) (by decide)), fun _ => h2 17 _ _ rfl (hg 18 (by decide) (by decide)), fun _ => h2 18 _ _ rfl (hg 19 (by decide) (by decide)), fun i j hi hij hj e => ?_⟩⟩
  have hpi := List.pairwise_iff_getElem.1 hp (i - 1) (j - 1) (by omega) (by omega) (by omega)
  have ei := hg i hi (by omega)
  have ej := hg j (by omega) hj
  rw [List.getElem?_eq_getElem (by omega)] at ei ej
  exact hpi ((Option.some.inj ei).trans (e.symm.trans (Option.some.inj ej).symm))
set_option maxRecDepth 100000 in
theorem system_of {W : World} {x14 : List UInt8} {r : List (String × DataW Unit)} (h : laidMet Tryz.prog (("semblance/api.ErrSystem", .iface "*errors.errorString" (.ptr (.agg [.lit (.string x14)]))) :: r) W) : ∃ a, Sent W 14 a := by
  obtain ⟨ps, h0, hnd, r0⟩ := h
  obtain ⟨ads, h1, h2, _, _⟩ := laid_list [("semblance/api.ErrSystem", 14, x14)] ps (fun x hx => by
    simp only [List.mem_cons, List.not_mem_nil, or_false] at hx
    rcases hx with rfl
    · exact ⟨Tryz.g14, Tryz.t14⟩) h0 r0
  obtain ⟨a, ha⟩ : ∃ a, ads[0]? = some a := ⟨ads[0]'(by rw [h1]; simp), List.getElem?_eq_getElem _⟩
  exact ⟨a, h2 0 _ a rfl ha⟩
end Go.Proofs.YtpmanmoljlhogaaGreatDoor
/- What the listed package variables give of strconv's table of powers of ten; and the rest of the list. -/
namespace Go.Proofs.YtpmanmoljlhogaaGreatDoor
open Go.RowKit
theorem laid_tail {W : World} {x : String × DataW Unit} {r : List (String × DataW Unit)} (h : laidMet Tryz.prog (x :: r) W) : laidMet Tryz.prog r W := by
  obtain ⟨ps, ⟨g, t, cs, fuel, p, q, _, _, _, _, hr, rfl⟩, hn, ho⟩ := h
  exact ⟨q, hr, (List.nodup_append.1 hn).2.1, fun b off hb => ho b off (List.mem_append_right _ hb)⟩
theorem Tryz.gPow : Tryz.prog.globalNamed "internal/strconv.uint64pow10" = some 20 := by kernel_rfl
theorem Tryz.tPow : (Tryz.prog.globals[20]?).map (·.type) = some 301 := by kernel_rfl
theorem Tryz.cPowE : Tryz.prog.cellsOf 203 = 1 := by kernel_rfl
theorem Tryz.cPow : Tryz.prog.cellsOf 301 = 20 := by kernel_rfl
theorem er_pow_of {W : World} {d1 d2 : String × DataW Unit} {r : List (String × DataW Unit)} (h : laidMet Tryz.prog (d1 :: d2 :: ("internal/strconv.uint64pow10", Lib.tabData .u64 Lib.pow10Tab) :: r) W) : Pow W ∧ laidMet Tryz.prog r W := by
  have h2 := laid_tail (laid_tail h)
  exact ⟨Lib.tabBelow_of_tabIs (Lib.tabIs_of_head Tryz.gPow Tryz.tPow Tryz.underlying301 Tryz.underlying203 Tryz.cPowE Tryz.cPow h2), laid_tail h2⟩
theorem erR_of {W : World} {x3 x14 x18 : List UInt8} {r : List (String × DataW Unit)} (h : laidMet Tryz.prog (("semblance/api.ErrIndex", .iface "*errors.errorString" (.ptr (.agg [.lit (.string x3)]))) :: ("semblance/api.ErrSystem", .iface "*errors.errorString" (.ptr (.agg [.lit (.string x14)]))) :: ("semblance/api.ErrNone", .iface "*errors.errorString" (.ptr (.agg [.lit (.string x18)]))) :: r) W) : ∃ e, ErR W e := by
  obtain ⟨ps, h0, hnd, r0⟩ := laid_tail h
  obtain ⟨ads, h1, h2, _, _⟩ := laid_list [("semblance/api.ErrSystem", 14, x14), ("semblance/api.ErrNone", 0, x18)] ps (fun x hx => by
    simp only [List.mem_cons, List.not_mem_nil, or_false] at hx
    rcases hx with rfl | rfl
    · exact ⟨Tryz.g14, Tryz.t14⟩
    · exact ⟨Tryz.g18, Tryz.t18⟩) h0 r0
  obtain ⟨a, ha⟩ : ∃ a, ads[0]? = some a := ⟨ads[0]'(by rw [h1]; simp), List.getElem?_eq_getElem _⟩
  obtain ⟨b, hb⟩ : ∃ a, ads[1]? = some a := ⟨ads[1]'(by rw [h1]; simp), List.getElem?_eq_getElem _⟩
  exact ⟨fun i => if i = 14 then a else b, fun _ => h2 0 _ a rfl ha, fun _ => h2 1 _ b rfl hb⟩
end Go.Proofs.YtpmanmoljlhogaaGreatDoor
/- Contracts of slices' order2, median, medianAdjacent and choosePivot of edges by a view's comparison. (Written by mkpiv.py.) -/
namespace Go.Proofs.YtpmanmoljlhogaaGreatDoor
open Go.RowKit Go.Maps
attribute [local go_sem ↓] Go.wp_at_zero Go.wp_at_succ
/-- The row, and a counter in a block of its own. -/
structure CnE (w0 wr : World) (g : Nat) (d : Array Sy.Ed) (rest : List Value) (c s : Nat) : Prop where
  row : RowE w0 wr g d rest
  cell : wr.heap[c]? = some (.cells #[.int .i64 s] 3 (0, 0))
  up : w0.heap.size ≤ c
theorem CnE.below {w0 wr w' : World} {g : Nat} {d : Array Sy.Ed} {rest : List Value} {c s : Nat} (h : CnE w0 wr g d rest c s) (hb : Below wr.heap.size wr w') : CnE w0 w' g d rest c s := ⟨h.row.below hb, (hb.block _ (t_lt h.cell)).trans h.cell, h.up⟩
theorem CnE.bump {w0 wr : World} {g : Nat} {d : Array Sy.Ed} {rest : List Value} {c s : Nat} (h : CnE w0 wr g d rest c s) (t : Nat) : CnE w0 (wr.setCell ⟨c, 0, none⟩ (.int .i64 t)) g d rest c t := by
  have hne : c ≠ g := fun e => by
    obtain ⟨cs, hc, _⟩ := h.row.ids
    have h1 := h.cell
    rw [e, hc] at h1
    injection h1 with h1
    injection h1 with _ h1
    exact absurd h1 (by decide)
  exact ⟨Arr.kept h.row (Kept.setCell _ _ _ _) fun b e => by subst e; exact ⟨h.up, hne⟩, heap_setCell_same _ _ 0 _ _ _ h.cell, h.up⟩
set_option maxRecDepth 100000 in
set_option maxHeartbeats 4000000 in
theorem order2_any (f : Nat) (vw : Sy.Ed → Sy.Ed) (hV : ViewAt f vw) (g cap a b c0 s : Nat) (d : Array Sy.Ed) (rest : List Value) (w0 w : World) (hR : CnE w0 w g d rest c0 s) (ha : a < d.size) (hb : b < d.size) (hs : s ≤ 1000000) :
    Calls Tryz.prog 226 #[.slice (some ⟨g, 0, none⟩) d.size cap, .int .i64 a, .int .i64 b, .pointer (some ⟨c0, 0, none⟩), cmpV f] w fun r w' => r = .returned (.tuple #[.int .i64 (Sort.order2 (ltV vw) d a b s).1, .int .i64 (Sort.order2 (ltV vw) d a b s).2.1]) ∧ CnE w0 w' g d rest c0 (Sort.order2 (ltV vw) d a b s).2.2 := by
  obtain ⟨n, hn⟩ : ∃ n, n = d.size := ⟨_, rfl⟩
  have HR : Hid _ := And.intro hR (And.intro hn hV)
  rw [← hn] at ha hb ⊢
  unfold cmpV Sort.order2
  have he := enter_cmp
  obtain ⟨x0, x1, x2⟩ := hR.row.cells (j := b) (by omega)
  obtain ⟨y0, y1, y2⟩ := hR.row.cells (j := a) (by omega)
  have hcm := fun W => compare_any f vw HR.out.2.2 (d[b]!) (d[a]!) W
  unfold edV at hcm
  have hlt2 := cmpV_neg vw (d[b]!) (d[a]!)
  obtain ⟨xe, hxe⟩ : ∃ xe, xe = d[b]! := ⟨_, rfl⟩
  obtain ⟨ye, hye⟩ : ∃ ye, ye = d[a]! := ⟨_, rfl⟩
  rw [← hxe] at x0 x1 x2 hcm hlt2
  rw [← hye] at y0 y1 y2 hcm hlt2
  have HE : Hid _ := And.intro hxe hye
  clear hxe hye
  obtain ⟨xa, xb, xc⟩ := xe
  obtain ⟨ya, yb, yc⟩ := ye
  generalize cmpE (vw (xa, xb, xc)) (vw (ya, yb, yc)) = c at hcm hlt2
  have HC : Hid _ := hcm
  have HL : Hid _ := hlt2
  clear hcm hlt2
  simp only at x0 x1 x2 y0 y1 y2
  clear hR hn hV
  have p0 : (0 : Int) ≤ (b : Int) := by omega
  have p1 : (b : Int) < (n : Int) := by omega
  have p2 : (0 : Int) ≤ (a : Int) := by omega
  have p3 : (a : Int) < (n : Int) := by omega
  by_cases hc : c < 0
  · have p6 : decide (c < 0) = true := decide_eq_true hc
    rw [if_pos (by rw [← HE.out.1, ← HE.out.2]; exact HL.out.1 hc)]
    go_enter Tryz.func226, Tryz.ntmps226
    go_upto_region 1 with fail
    go_region_held3 (fun w' => ((w'.cell? ⟨g, b * 3, none⟩ = some (.int .i64 xa) ∧ w'.cell? ⟨g, b * 3 + 1, none⟩ = some (.int .i64 xb) ∧ w'.cell? ⟨g, b * 3 + 2, none⟩ = some (.int .i64 xc)) ∧ (w'.cell? ⟨g, a * 3, none⟩ = some (.int .i64 ya) ∧ w'.cell? ⟨g, a * 3 + 1, none⟩ = some (.int .i64 yb) ∧ w'.cell? ⟨g, a * 3 + 2, none⟩ = some (.int .i64 yc))) ∧ Hid (Below w.heap.size w w')) (first | exact rg_up6 hb3 (by assumption) | exact ⟨⟨⟨x0, x1, x2⟩, ⟨y0, y1, y2⟩⟩, ((Below.refl _ _).drew : Below w.heap.size w w.drew)⟩ | go_keep)
      ((first
        | (go_at_fn 152; refine (HC.out _).mono ?_; rintro r w3 ⟨rfl, hb3⟩)
        | fail))
    have hbq : Below w.heap.size w w3 := rg_b (by assumption)
    clear x0 x1 x2 y0 y1 y2 hb3 HC
    rename_i hS3
    clear hS3
    have hR3 := HR.out.1.below hbq
    have k0 : w3.cell? ⟨c0, 0, none⟩ = some (.int .i64 s) := cell0_of hR3.cell rfl
    have k1 := blk_free hR3.cell 0
    have p8 : IntKind.i64.wrap ((s : Int) + 1) = (s : Int) + 1 := by rw [IntKind.wrap_i64]; omega
    have H3 : Hid _ := hR3
    clear hR3 hbq
    go_wp2_with fail
    go_ret2
    exact ⟨rfl, H3.out.bump (s + 1)⟩
  · have p6 : decide (c < 0) = false := decide_eq_false hc
    rw [if_neg (by rw [← HE.out.1, ← HE.out.2]; intro h; exact hc (HL.out.2 h))]
    go_enter Tryz.func226, Tryz.ntmps226
    go_upto_region 1 with fail
    go_region_held3 (fun w' => ((w'.cell? ⟨g, b * 3, none⟩ = some (.int .i64 xa) ∧ w'.cell? ⟨g, b * 3 + 1, none⟩ = some (.int .i64 xb) ∧ w'.cell? ⟨g, b * 3 + 2, none⟩ = some (.int .i64 xc)) ∧ (w'.cell? ⟨g, a * 3, none⟩ = some (.int .i64 ya) ∧ w'.cell? ⟨g, a * 3 + 1, none⟩ = some (.int .i64 yb) ∧ w'.cell? ⟨g, a * 3 + 2, none⟩ = some (.int .i64 yc))) ∧ Hid (Below w.heap.size w w')) (first | exact rg_up6 hb3 (by assumption) | exact ⟨⟨⟨x0, x1, x2⟩, ⟨y0, y1, y2⟩⟩, ((Below.refl _ _).drew : Below w.heap.size w w.drew)⟩ | go_keep)
      ((first
        | (go_at_fn 152; refine (HC.out _).mono ?_; rintro r w3 ⟨rfl, hb3⟩)
        | fail))
    have hbq : Below w.heap.size w w3 := rg_b (by assumption)
    clear x0 x1 x2 y0 y1 y2 hb3 HC
    rename_i hS3
    clear hS3
    have H3 : Hid _ := HR.out.1.below hbq
    clear hbq
    go_wp2_with fail
    go_ret2
    exact ⟨rfl, H3.out⟩
theorem o2_lt {lt : Sy.Ed → Sy.Ed → Bool} {d : Array Sy.Ed} {a b s n : Nat} (ha : a < n) (hb : b < n) : (Sort.order2 lt d a b s).1 < n ∧ (Sort.order2 lt d a b s).2.1 < n ∧ (Sort.order2 lt d a b s).2.2 ≤ s + 1 := by
  unfold Sort.order2
  split <;> simp [ha, hb]
set_option maxRecDepth 100000 in
set_option maxHeartbeats 4000000 in
theorem median_any (f : Nat) (vw : Sy.Ed → Sy.Ed) (hV : ViewAt f vw) (g cap a b c c0 s : Nat) (d : Array Sy.Ed) (rest : List Value) (w0 w : World) (hR : CnE w0 w g d rest c0 s) (ha : a < d.size) (hb : b < d.size) (hc : c < d.size) (hs : s + 3 ≤ 1000000) :
    Calls Tryz.prog 216 #[.slice (some ⟨g, 0, none⟩) d.size cap, .int .i64 a, .int .i64 b, .int .i64 c, .pointer (some ⟨c0, 0, none⟩), cmpV f] w fun r w' => r = .returned (.int .i64 (Sort.median (ltV vw) d a b c s).1) ∧ CnE w0 w' g d rest c0 (Sort.median (ltV vw) d a b c s).2 := by
  have h1 := order2_any f vw hV g cap a b c0 s d rest w0 w hR ha hb (by omega)
  obtain ⟨l1, l2, l3⟩ := o2_lt (lt := ltV vw) (d := d) (s := s) ha hb
  unfold Sort.median
  generalize Sort.order2 (ltV vw) d a b s = r1 at h1 l1 l2 l3 ⊢
  obtain ⟨a1, b1, s1⟩ := r1
  simp only at h1 l1 l2 l3 ⊢
  have h2 := fun W (h : CnE w0 W g d rest c0 s1) => order2_any f vw hV g cap b1 c c0 s1 d rest w0 W h l2 hc (by omega)
  obtain ⟨l4, l5, l6⟩ := o2_lt (lt := ltV vw) (d := d) (s := s1) l2 hc
  generalize Sort.order2 (ltV vw) d b1 c s1 = r2 at h2 l4 l5 l6 ⊢
  obtain ⟨b2, c2, s2⟩ := r2
  simp only at h2 l4 l5 l6 ⊢
  have h3 := fun W (h : CnE w0 W g d rest c0 s2) => order2_any f vw hV g cap a1 b2 c0 s2 d rest w0 W h l1 l4 (by omega)
  generalize Sort.order2 (ltV vw) d a1 b2 s2 = r3 at h3 ⊢
  obtain ⟨a3, b3, s3⟩ := r3
  simp only at h3 ⊢
  have HH : Hid _ := And.intro h1 (And.intro h2 h3)
  unfold cmpV at HH ⊢
  clear h1 h2 h3 hR hV l1 l2 l3 l4 l5 l6
  go_enter Tryz.func216, Tryz.ntmps216
  go_wp2_with fail
  refine Calls.mono HH.out.1 ?_
  rintro r w1 ⟨rfl, hR1⟩
  go_wp2_with fail
  refine Calls.mono (HH.out.2.1 _ hR1) ?_
  rintro r w2 ⟨rfl, hR2⟩
  go_wp2_with fail
  refine Calls.mono (HH.out.2.2 _ hR2) ?_
  rintro r w3 ⟨rfl, hR3⟩
  go_wp2_with fail
  go_ret
  exact ⟨rfl, hR3⟩
set_option maxRecDepth 100000 in
set_option maxHeartbeats 4000000 in
theorem medianAdj_any (f : Nat) (vw : Sy.Ed → Sy.Ed) (hV : ViewAt f vw) (g cap a c0 s : Nat) (d : Array Sy.Ed) (rest : List Value) (w0 w : World) (hR : CnE w0 w g d rest c0 s) (ha : 1 ≤ a) (hb : a + 1 < d.size) (hsz : d.size ≤ 1000000) (hs : s + 3 ≤ 1000000) :
    Calls Tryz.prog 215 #[.slice (some ⟨g, 0, none⟩) d.size cap, .int .i64 a, .pointer (some ⟨c0, 0, none⟩), cmpV f] w fun r w' => r = .returned (.int .i64 (Sort.medianAdjacent (ltV vw) d a s).1) ∧ CnE w0 w' g d rest c0 (Sort.medianAdjacent (ltV vw) d a s).2 := by
  obtain ⟨p, rfl⟩ : ∃ p, a = p + 1 := ⟨a - 1, by omega⟩
  have h1 := median_any f vw hV g cap p (p + 1) (p + 1 + 1) c0 s d rest w0 w hR (by omega) (by omega) (by omega) hs
  unfold Sort.medianAdjacent
  rw [Nat.add_sub_cancel]
  generalize Sort.median (ltV vw) d p (p + 1) (p + 1 + 1) s = r1 at h1 ⊢
  obtain ⟨m1, s1⟩ := r1
  have e1 : IntKind.i64.wrap (((p + 1 : Nat) : Int) - 1) = (p : Int) := by rw [IntKind.wrap_i64]; omega
  have e2 : IntKind.i64.wrap (((p + 1 : Nat) : Int) + 1) = ((p + 1 + 1 : Nat) : Int) := by rw [IntKind.wrap_i64]; omega
  have HH : Hid _ := h1
  unfold cmpV at HH ⊢
  clear h1 hR hV
  go_enter Tryz.func215, Tryz.ntmps215
  go_wp2_with fail
  have HH2 := HH.out
  simp only [Int.natCast_add, Int.natCast_one] at HH2 ⊢
  refine Calls.mono HH2 ?_
  rintro r w1 ⟨rfl, hR1⟩
  go_wp2_with fail
  go_ret
  exact ⟨rfl, hR1⟩
end Go.Proofs.YtpmanmoljlhogaaGreatDoor
