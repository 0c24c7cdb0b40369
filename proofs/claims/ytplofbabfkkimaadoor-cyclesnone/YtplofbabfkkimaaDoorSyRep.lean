/- Contract of slices.Repeat of one number. -/
import Derived.Test.YtplofbabfkkimaaDoorPart3
import Derived.Laws.IdiomCopy
import Derived.Deep.LoopGhost
import Derived.WalkSmall
import Derived.Deep.DrawnRows
namespace Go.Proofs.YtplofbabfkkimaaDoor
open Go.RowKit Go.Maps
attribute [local go_sem ↓] Go.wp_at_zero Go.wp_at_succ
/-- So many copies, and noughts behind them. -/
def repV (n c : Nat) : List Value := List.replicate c (.int .i64 (-1)) ++ List.replicate (n - c) (.int .i64 0)
theorem repV_len {n c : Nat} (h : c ≤ n) : (repV n c).length = n := by simp [repV]; omega
theorem repV_at {n c j : Nat} (h : j < c) : (repV n c)[j]? = some (.int .i64 (-1)) := by
  unfold repV
  rw [List.getElem?_append_left (by simpa using h), List.getElem?_replicate, if_pos h]
theorem arr_setCells {ty : TypeId} {w : World} {g : Nat} : ∀ (zs vs : List Value) (o : Nat) (wr : World), Arr ty w wr g vs → Arr ty w (wr.setCells g o zs) g ((List.range zs.length).foldl (fun l j => l.set (o + j) ((zs[j]?).getD (.int .i64 0))) vs) := by
  intro zs
  induction zs with
  | nil => intro vs o wr h; exact h
  | cons z r ih =>
    intro vs o wr h
    have h1 := ih (vs.set o z) (o + 1) (wr.setCell ⟨g, o, none⟩ z) (h.set o z)
    show Arr ty w ((wr.setCell ⟨g, o, none⟩ z).setCells g (o + 1) r) g _
    rw [List.length_cons, List.range_succ_eq_map, List.foldl_cons, List.foldl_map]
    have e : (fun (l : List Value) (j : Nat) => l.set (o + (j + 1)) (((z :: r)[j + 1]?).getD (.int .i64 0))) = fun l j => l.set (o + 1 + j) ((r[j]?).getD (.int .i64 0)) := by
      funext l j
      rw [show o + (j + 1) = o + 1 + j by omega]
      rfl
    rw [show (fun (l : List Value) (j : Nat) => l.set (o + j.succ) (((z :: r)[j.succ]?).getD (.int .i64 0))) = _ from e]
    simpa using h1
theorem repV_fill (n c : Nat) : ∀ d, c + d ≤ n → (List.range d).foldl (fun l j => l.set (c + j) (((List.replicate d (Value.int .i64 (-1)))[j]?).getD (.int .i64 0))) (repV n c) = repV n (c + d) := by
  intro d hd
  suffices h : ∀ q, q ≤ d → (List.range q).foldl (fun l j => l.set (c + j) (((List.replicate d (Value.int .i64 (-1)))[j]?).getD (.int .i64 0))) (repV n c) = repV n (c + q) from h d (Nat.le_refl _)
  intro q
  induction q with
  | zero => intro _; rfl
  | succ q ih =>
    intro hq
    rw [List.range_succ, List.foldl_append, ih (by omega), List.foldl_cons, List.foldl_nil, List.getElem?_replicate, if_pos (by omega)]
    apply List.ext_getElem?
    intro j
    rw [List.getElem?_set]
    unfold repV
    simp only [Option.getD_some]
    by_cases hj : c + q = j
    · subst hj
      rw [if_pos rfl, if_pos (by simp; omega), List.getElem?_append_left (by simp), List.getElem?_replicate, if_pos (by omega)]
    · rw [if_neg hj]
      by_cases h1 : j < c + q
      · rw [List.getElem?_append_left (by simpa using h1), List.getElem?_append_left (by simp; omega), List.getElem?_replicate, List.getElem?_replicate, if_pos h1, if_pos (by omega)]
      · rw [List.getElem?_append_right (by simp; omega), List.getElem?_append_right (by simp; omega), List.getElem?_replicate, List.getElem?_replicate]
        simp only [List.length_replicate]
        by_cases h2 : j < n
        · rw [if_pos (by omega), if_pos (by omega)]
        · rw [if_neg (by omega), if_neg (by omega)]
theorem Arr.rep {w wr : World} {g n c : Nat} (h : Arr 3 w wr g (repV n c)) (d : Nat) (hd : c + d ≤ n) : Arr 3 w (wr.setCells g c (List.replicate d (.int .i64 (-1)))) g (repV n (c + d)) := by
  have h1 := arr_setCells (List.replicate d (.int .i64 (-1))) _ c wr h
  rw [List.length_replicate, repV_fill n c d hd] at h1
  exact h1
theorem Tryd.inI : (Tryd.prog.info? 3).map (·.size) = some 1 := by kernel_rfl
set_option maxRecDepth 100000 in
set_option maxHeartbeats 4000000 in
theorem repeat_any (g0 n : Nat) (w : World) (hn : n ≤ 1000000) (h0 : w.cell? ⟨g0, 0, none⟩ = some (.int .i64 (-1))) :
    Calls Tryd.prog 35 #[.slice (some ⟨g0, 0, none⟩) 1 1, .int .i64 n] w fun r w' => ∃ g, r = .returned (.slice (some ⟨g, 0, none⟩) n n) ∧ Arr 3 w w' g (List.replicate n (.int .i64 (-1))) := by
  have hMul : ∀ W, Calls Tryd.prog 50 #[.int .u64 1, .int .u64 n] W fun e w' => e = .returned (.tuple #[.int .u64 0, .int .u64 n]) ∧ w' = W := fun W => by
    have h := Tryd.bits_Mul 1 n (by omega) (by omega) W
    have e1 : 1 * n / 18446744073709551616 = 0 := by omega
    have e2 : 1 * n % 18446744073709551616 = n := by omega
    rw [e1, e2] at h
    exact h
  have hmk := makeI n hn w
  obtain ⟨w1, hw1⟩ : ∃ w1, w1 = w.alloc (.cells (madeV (.int .i64 0) n) 3) := ⟨_, rfl⟩
  have hA1 := arr_new 3 (.int .i64 0) rfl n w
  rw [← hw1] at hmk hA1
  have hA1 : Arr 3 w w1 w.heap.size (repV n 0) := by unfold repV; simpa using hA1
  have h1 := cell_up h0 hA1.bl
  obtain ⟨w2, hc2, hA2⟩ : ∃ w2, (∀ ty, (Builtin.copy_ #[26, 26] ty #[.slice (some ⟨w.heap.size, 0, none⟩) n n, .slice (some ⟨g0, 0, none⟩) 1 1]).run Tryd.prog w1 = .ok (.int .i64 ((min n 1 : Nat) : Int)) w2) ∧ Arr 3 w w2 w.heap.size (repV n (min n 1)) := by
    by_cases hz : n = 0
    · subst hz
      exact ⟨w1, fun ty => run_copy_none (P := Tryd.prog) w1 _ _ ty 3 _ _ 0 0 1 1 Tryd.underlying26 Tryd.inI (by decide), hA1⟩
    · have e1 : min n 1 = 1 := by omega
      rw [e1]
      refine ⟨w1.setCells w.heap.size 0 (List.replicate 1 (.int .i64 (-1))), fun ty => ?_, by have := hA1.rep 1 (by omega); simpa using this⟩
      have h := run_copy_cells (P := Tryd.prog) w1 26 26 ty 3 w.heap.size 0 n n ⟨g0, 0, none⟩ 1 1 (List.replicate 1 (.int .i64 (-1))) Tryd.underlying26 Tryd.inI (by show 1 = Nat.min 1 n; exact (Nat.min_eq_left (by omega)).symm) (fun j x hx => by
        have hj : j = 0 := by have := (List.getElem?_eq_some_iff.1 hx).1; simpa using this
        subst hj
        have hx2 : x = .int .i64 (-1) := by simpa using hx.symm
        rw [hx2]; exact h1) (fun j hj => by
        have hj0 : j = 0 := by simpa using hj
        subst hj0
        obtain ⟨x, hx⟩ : ∃ x, (repV n 0)[0]? = some x := ⟨_, List.getElem?_eq_getElem (by rw [repV_len (Nat.zero_le _)]; omega)⟩
        rw [hA1.cell hx]; rfl) (fun j _ => hA1.free _) (fun v hv => by rw [List.eq_of_mem_replicate hv]; rfl)
      exact h
  have u1 : IntKind.u64.wrap (n : Int) = (n : Int) := by rw [IntKind.wrap_u64]; omega
  have u2 : IntKind.i64.wrap (n : Int) = (n : Int) := by rw [IntKind.wrap_i64]; omega
  have q1 : ¬ (n : Int) < 0 := by omega
  have q2 : ¬ (9223372036854775807 : Int) < (n : Int) := by omega
  have HM : Hid _ := And.intro hMul (And.intro hA2 hw1)
  clear hMul hA1 hA2 hw1 h0 h1
  go_enter Tryd.func35, Tryd.ntmps35
  go_wp2_with (go_at_call 50; refine Calls.mono (HM.out.1 _) ?_; rintro r w9 ⟨rfl, hw9⟩; obtain rfl := hw9.symm; clear hw9)
  go_loopg [8] (n - min n 1) (fun q cv wr => ∃ c : Nat, q = n - c ∧ c ≤ n ∧ (n = 0 ∨ 0 < c) ∧ cv = .int .i64 c ∧ Arr 3 w wr w.heap.size (repV n c))
  case atStart => exact ⟨min n 1, rfl, Nat.min_le_left _ _, by omega, rfl, HM.out.2.1⟩
  case round =>
    obtain ⟨c, rfl, hcn, hpos, rfl, hA⟩ := hrel
    clear hmk hc2
    by_cases hlt : c < n
    · obtain ⟨d, hd⟩ : ∃ d, d = min c (n - c) := ⟨_, rfl⟩
      have hd1 : d ≤ n - c := by omega
      have hd2 : 0 < d := by omega
      have hd3 : d ≤ c := by omega
      have hAd : Arr 3 w wr.drew w.heap.size (repV n c) := hA.below (Below.refl _ _).drew
      have hcp : ∀ ty, (Builtin.copy_ #[26, 26] ty #[.slice (some ⟨w.heap.size, c, none⟩) (n - c) (n - c), .slice (some ⟨w.heap.size, 0, none⟩) c n]).run Tryd.prog wr.drew = .ok (.int .i64 ((d : Nat) : Int)) (wr.drew.setCells w.heap.size c (List.replicate d (.int .i64 (-1)))) := fun ty => by
        have h := run_copy_cells (P := Tryd.prog) wr.drew 26 26 ty 3 w.heap.size c (n - c) (n - c) ⟨w.heap.size, 0, none⟩ c n (List.replicate d (.int .i64 (-1))) Tryd.underlying26 Tryd.inI (by rw [List.length_replicate, hd]) (fun j x hx => by
          have hj : j < d := by have := (List.getElem?_eq_some_iff.1 hx).1; simpa using this
          have hx2 : x = .int .i64 (-1) := by rw [List.getElem?_replicate, if_pos hj] at hx; exact (Option.some.inj hx).symm
          rw [hx2, addz]
          exact hAd.cell (repV_at (by omega))) (fun j hj => by
          rw [List.length_replicate] at hj
          obtain ⟨x, hx⟩ : ∃ x, (repV n c)[c + j]? = some x := ⟨_, List.getElem?_eq_getElem (by rw [repV_len hcn]; omega)⟩
          rw [hAd.cell hx]; rfl) (fun j _ => hAd.free _) (fun v hv => by rw [List.eq_of_mem_replicate hv]; rfl)
        rw [List.length_replicate] at h
        exact h
      have hA3 := hAd.rep d (by omega)
      have p0 : (0 : Int) ≤ (c : Int) := by omega
      have p1 : (c : Int) < (n : Int) := by omega
      have p2 : (c : Int) ≤ (n : Int) := by omega
      have p3 : ¬ n = c := by omega
      have H3 : Hid _ := hA3
      clear hA hAd hA3 hd
      go_wp2_with fail
      go_region
      all_goals go_wp2_with fail
      all_goals
        go_roundg (n - (c + d))
        case measure => omega
        case rel => exact ⟨c + d, rfl, by omega, by omega, by go_num, by first | exact H3.out | exact H3.out.below (Below.refl _ _).drew⟩
    · obtain rfl : c = n := by omega
      have p1 : ¬ (c : Int) < (c : Int) := by omega
      have H3 : Hid _ := hA
      clear hA
      go_wp2_with fail
      go_ret
      refine ⟨_, rfl, ?_⟩
      have h9 := H3.out
      unfold repV at h9
      simpa using h9
end Go.Proofs.YtplofbabfkkimaaDoor
