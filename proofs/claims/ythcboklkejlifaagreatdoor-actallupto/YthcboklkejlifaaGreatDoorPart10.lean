/- Texts of this claim, joined: Ref2a, Ref2b. -/
import Derived.Test.YthcboklkejlifaaGreatDoorPart9
/- Contracts of the document's Add. -/
namespace Go.Proofs.YthcboklkejlifaaGreatDoor
open Go.RowKit Go.Maps
attribute [local go_sem ↓] Go.wp_at_zero Go.wp_at_succ
def radd (v : Value) (k c : Int) : Value := .tuple #[.agg #[v], .int .i64 k, .int .i64 c]
set_option maxRecDepth 100000 in
set_option maxHeartbeats 1000000 in
theorem rAdd_tau (ao : Option Addr) (n cap : Nat) (w : World) :
    Calls Tryz.prog 113 #[.agg #[.slice ao n cap], .string tauB] w fun e w' => e = .returned (radd (.slice ao n cap) 0 9) ∧ Below w.heap.size w w' := by
  unfold tauB
  go_enter Tryz.func113, Tryz.ntmps113
  go_wp2_with fail
  refine bodyPost_ret (v := radd (.slice ao n cap) 0 9) (by simp [results, Tryz.results113, go_sem, radd]) rfl ⟨rfl, (by repeat (first | exact Below.refl _ _ | assumption | refine Below.drew ?_ | refine Below.setCell ?_ (by simp) _ | refine Below.alloc ?_ (by simp) _))⟩
set_option maxRecDepth 100000 in
set_option maxHeartbeats 1000000 in
theorem rAdd_word (ao : Option Addr) (n cap : Nat) (s : ByteArray) (w : World) (hs : s.size ≤ maxLen) (ht : s ≠ tauB) (hn : Lx.nameZ true s = false) :
    Calls Tryz.prog 113 #[.agg #[.slice ao n cap], .string s] w fun e w' => e = .returned (radd (.slice ao n cap) 0 4) ∧ Below w.heap.size w w' := by
  have hne := tau_no ht
  have hC := fun W => refIsName_any s W hs
  rw [hn] at hC
  clear hn ht
  go_enter Tryz.func113, Tryz.ntmps113
  go_wp2_with (go_at_call 136; refine (hC _).mono ?_; rintro r w' ⟨rfl, hw⟩; obtain rfl := hw.symm)
  refine bodyPost_ret (v := radd (.slice ao n cap) 0 4) (by simp [results, Tryz.results113, go_sem, radd]) rfl ⟨rfl, (by repeat (first | exact Below.refl _ _ | assumption | refine Below.drew ?_ | refine Below.setCell ?_ (by simp) _ | refine Below.alloc ?_ (by simp) _))⟩
set_option maxRecDepth 100000 in
set_option maxHeartbeats 1000000 in
theorem rAdd_there (v : Value) (ns : List ByteArray) (s : ByteArray) (i : Nat) (w : World) (hH : BTexts.Has w v ns) (hl : ns.length ≤ 1000) (hs : s.size ≤ maxLen) (ht : s ≠ tauB) (hn : Lx.nameZ true s = true) (hi : ns[i]? = some s) (hf : ∀ j, j < i → ns[j]? ≠ some s) :
    Calls Tryz.prog 113 #[.agg #[v], .string s] w fun e w' => e = .returned (radd v i 0) ∧ Below w.heap.size w w' := by
  have hne := tau_no ht
  have hC := fun W => refIsName_any s W hs
  rw [hn] at hC
  have hF := fun W (hb : Below w.heap.size w W) => rfind_any v ns s W (hH.below hb) hl
  obtain ⟨ao, cap, rfl, _⟩ := hH
  obtain ⟨n, hN⟩ : ∃ n, n = ns.length := ⟨_, rfl⟩
  rw [← hN] at hF ⊢
  have HI : Hid _ := And.intro hi hf
  clear hn ht hi hf hN
  go_enter Tryz.func113, Tryz.ntmps113
  go_wp2_with (first | (go_at_call 136; refine (hC _).mono ?_; rintro r w' ⟨rfl, hw⟩; obtain rfl := hw.symm; clear hw) | (go_at_call 137; refine (hF _ (by repeat (first | exact Below.refl _ _ | assumption | refine Below.drew ?_ | refine Below.setCell ?_ (by simp) _ | refine Below.alloc ?_ (by simp) _))).mono ?_; rintro r w' ⟨z, rfl, hZ, hw⟩; obtain rfl := hw.symm; obtain rfl : z = (i : Int) := (by rcases hZ with ⟨_, h⟩ | ⟨j, rfl, h1, h2⟩; exact absurd (List.mem_of_getElem? HI.out.1) h; rcases Nat.lt_trichotomy i j with h | h | h; exact absurd HI.out.1 (h2 i h); exact congrArg _ h.symm; exact absurd h1 (HI.out.2 j h)); clear hZ hw; have q0 : (0 : Int) ≤ (i : Int) := by omega))
  refine bodyPost_ret (v := radd (.slice ao n cap) i 0) (by simp [results, Tryz.results113, go_sem, radd]) rfl ⟨rfl, (by repeat (first | exact Below.refl _ _ | assumption | refine Below.drew ?_ | refine Below.setCell ?_ (by simp) _ | refine Below.alloc ?_ (by simp) _))⟩
set_option maxRecDepth 100000 in
set_option maxHeartbeats 1000000 in
theorem rAdd_full (v : Value) (ns : List ByteArray) (s : ByteArray) (w : World) (hH : BTexts.Has w v ns) (hl : ns.length ≤ 1000) (hs : s.size ≤ maxLen) (ht : s ≠ tauB) (hn : Lx.nameZ true s = true) (hi : s ∉ ns) (hful : 100 ≤ ns.length) :
    Calls Tryz.prog 113 #[.agg #[v], .string s] w fun e w' => e = .returned (radd v 0 2) ∧ Below w.heap.size w w' := by
  have hne := tau_no ht
  have hC := fun W => refIsName_any s W hs
  rw [hn] at hC
  have hF := fun W (hb : Below w.heap.size w W) => rfind_any v ns s W (hH.below hb) hl
  obtain ⟨ao, cap, rfl, _⟩ := hH
  obtain ⟨n, hN⟩ : ∃ n, n = ns.length := ⟨_, rfl⟩
  rw [← hN] at hF hful hl ⊢
  have q9 : (100 : Int) ≤ (n : Int) := by omega
  have HI : Hid _ := hi
  clear hn ht hi hN
  go_enter Tryz.func113, Tryz.ntmps113
  go_wp2_with (first | (go_at_call 136; refine (hC _).mono ?_; rintro r w' ⟨rfl, hw⟩; obtain rfl := hw.symm; clear hw) | (go_at_call 137; refine (hF _ (by repeat (first | exact Below.refl _ _ | assumption | refine Below.drew ?_ | refine Below.setCell ?_ (by simp) _ | refine Below.alloc ?_ (by simp) _))).mono ?_; rintro r w' ⟨z, rfl, hZ, hw⟩; obtain rfl := hw.symm; obtain rfl : z = -1 := (by rcases hZ with ⟨h, _⟩ | ⟨j, rfl, h1, h2⟩; exact h; exact absurd (List.mem_of_getElem? h1) HI.out); clear hZ hw))
  refine bodyPost_ret (v := radd (.slice ao n cap) 0 2) (by simp [results, Tryz.results113, go_sem, radd]) rfl ⟨rfl, (by repeat (first | exact Below.refl _ _ | assumption | refine Below.drew ?_ | refine Below.setCell ?_ (by simp) _ | refine Below.alloc ?_ (by simp) _))⟩
theorem rnew_fin {w wS W w2 : World} {x y : Value} {v : Value} {n : Nat} {xs : List Value} (hb : Below w.heap.size w wS) (b0 : wS.heap[w.heap.size]? = some (.cells #[x] 99 (0, 0))) (b1 : wS.heap[w.heap.size + 1]? = some (.cells #[y] 99 (0, 0))) (hW : Below wS.heap.size wS W) (ho : W.ownsRow w.heap.size 9 1 v n xs) (hg : W.grownBy w2 v.ownBlock) :
    w2.heap[w.heap.size]? = some (.cells #[x] 99 (0, 0)) ∧ w2.heap[w.heap.size + 1]? = some (.cells #[y] 99 (0, 0)) ∧ Below w.heap.size w w2 := by
  have d0 := (hW.block _ (t_lt b0)).trans b0
  have d1 := (hW.block _ (t_lt b1)).trans b1
  have hbW : Below w.heap.size w W := hb.trans (hW.mono hb.size)
  exact ⟨(hg.block _ (t_lt d0) (fun e => own_bk ho d0 (by decide) e.symm)).trans d0, (hg.block _ (t_lt d1) (fun e => own_bk ho d1 (by decide) e.symm)).trans d1, hbW.trans ((Kept.of_grown hg).below hbW.size fun k hk => (ho.lt k hk).1)⟩
theorem rnew_end {w w2 : World} {y v' : Value} {ns : List ByteArray} {n : Nat} {s : ByteArray} (hn : n = ns.length) (b1 : w2.heap[w.heap.size + 1]? = some (.cells #[y] 99 (0, 0))) (hb : Below w.heap.size w w2) (ho : w2.ownsRow w.heap.size 9 1 v' (n + 1) (BTexts.C ns ++ [.string s])) :
    (w2.setCell ⟨w.heap.size + 1, 0, none⟩ v').cell? ⟨w.heap.size + 1, 0, none⟩ = some v' ∧ BTexts.Own (w2.setCell ⟨w.heap.size + 1, 0, none⟩ v') w.heap.size v' (ns ++ [s]) ∧ Below w.heap.size w (w2.setCell ⟨w.heap.size + 1, 0, none⟩ v') := by
  refine ⟨?_, ?_, hb.setCell (by simp) v'⟩
  · exact cell0_of (heap_setCell_same w2 _ 0 _ _ _ b1) (by simp)
  · have h1 : BTexts.Own w2 w.heap.size v' (ns ++ [s]) := by
      unfold BTexts.Own
      rw [BTexts.C_snoc, List.length_append, ← hn]
      exact ho
    have h2 : BTexts.Own (w2.setCell ⟨w.heap.size + 1, 0, none⟩ v') w.heap.size v' (ns ++ [s]) := trow_at h1 fun i hi => set_other _ _ _ _ _ fun e => own_bk h1 b1 (by decide) (by rw [← e]; exact hi)
    exact h2
set_option maxRecDepth 100000 in
set_option maxHeartbeats 2000000 in
theorem rAdd_new (v : Value) (ns : List ByteArray) (s : ByteArray) (w : World) (hH : BTexts.Has w v ns) (hs : s.size ≤ maxLen) (ht : s ≠ tauB) (hn : Lx.nameZ true s = true) (hi : s ∉ ns) (hful : ns.length < 100) :
    Calls Tryz.prog 113 #[.agg #[v], .string s] w fun e w' => ∃ v', e = .returned (radd v' ns.length 0) ∧ BTexts.Own w' w.heap.size v' (ns ++ [s]) ∧ Below w.heap.size w w' := by
  obtain ⟨j0, hj0, hy0, hy1, hy2⟩ := info_parts Tryz.infoS
  have hne := tau_no ht
  have hC := fun W => refIsName_any s W hs
  rw [hn] at hC
  have hF := fun W (hb : Below w.heap.size w W) => rfind_any v ns s W (hH.below hb) (by omega)
  have HH : Hid (BTexts.Has w v ns) := hH
  obtain ⟨ao, cap, rfl, _⟩ := hH
  obtain ⟨n, hN⟩ : ∃ n, n = ns.length := ⟨_, rfl⟩
  rw [← hN] at hF hful HH ⊢
  have q9 : ¬ (100 : Int) ≤ (n : Int) := by omega
  have hL1 : n ≤ maxLen := by unfold maxLen; omega
  have hL8 : n * 16 ≤ 140737488355328 := by omega
  have hR1 : n + 1 ≤ maxLen := by unfold maxLen; omega
  have hR8 : (n + 1) * 16 ≤ 140737488355328 := by omega
  have HI : Hid _ := And.intro hi hN
  clear hn ht hi hN
  go_enter Tryz.func113, Tryz.ntmps113
  go_wp2_with (first | (go_at_call 136; refine (hC _).mono ?_; rintro r w' ⟨rfl, hw⟩; obtain rfl := hw.symm; clear hw) | (go_at_call 137; refine (hF _ (by repeat (first | exact Below.refl _ _ | assumption | refine Below.drew ?_ | refine Below.setCell ?_ (by simp) _ | refine Below.alloc ?_ (by simp) _))).mono ?_; rintro r w' ⟨z, rfl, hZ, hw⟩; obtain rfl := hw.symm; obtain rfl : z = -1 := (by rcases hZ with ⟨h, _⟩ | ⟨j, rfl, h1, h2⟩; exact h; exact absurd (List.mem_of_getElem? h1) HI.out.1); clear hZ hw))
  obtain ⟨wS, hwS⟩ : ∃ W, W = (w.alloc (.cells #[.slice ao n cap] 99)).alloc (.cells #[.slice none 0 0] 99) := ⟨_, rfl⟩
  rw [← hwS]
  have hsz : wS.heap.size = w.heap.size + 2 := by rw [hwS]; simp
  have hbS : Below w.heap.size w wS := by rw [hwS]; exact (by repeat (first | exact Below.refl _ _ | assumption | refine Below.drew ?_ | refine Below.setCell ?_ (by simp) _ | refine Below.alloc ?_ (by simp) _))
  have b0 : wS.heap[w.heap.size]? = some (.cells #[.slice ao n cap] 99 (0, 0)) := by
    rw [hwS]
    exact ((MapKept.heap_alloc (w.alloc (.cells #[.slice ao n cap] 99)) _).2 _ (by simp)).trans (MapKept.heap_alloc w _).1
  have b1 : wS.heap[w.heap.size + 1]? = some (.cells #[.slice none 0 0] 99 (0, 0)) := by rw [hwS]; exact two_alloc w _ _
  have x0 := cell0_of (k := 0) b0 rfl
  have hx0 : w.heap.size < wS.heap.size := by omega
  have HS : Hid _ := And.intro hbS (And.intro b0 (And.intro b1 (And.intro hsz (HH.out.below hbS))))
  have hcp1 := BTexts.copy_of (HS.out.2.2.2.2.below ((Below.refl _ wS).drew))
  have hbX : Below wS.heap.size wS (wS.alloc (.cells #[.string s] 9)) := (Below.refl _ wS).alloc (Nat.le_refl _) _
  have hcp2 := BTexts.copy_of (HS.out.2.2.2.2.below hbX.drew)
  have hsX : w.heap.size ≤ (wS.alloc (.cells #[.string s] 9)).drew.heap.size := by have := hbX.size; have h2 : (wS.alloc (.cells #[.string s] 9)).drew.heap.size = (wS.alloc (.cells #[.string s] 9)).heap.size := rfl; omega
  have HCp : Hid _ := And.intro hcp1 (And.intro hcp2 (And.intro hbX (And.intro hsX (heap_alloc_new wS (.cells #[.string s] 9)))))
  have hlenC : (BTexts.C ns).length = n * 1 := by rw [BTexts.C_len, HI.out.2]
  clear hwS hbS b0 b1 hsz HH hcp1 hcp2 hbX hsX
  go_region_law
    ((first
      | (refine step_copy_at wS.drew (by rfl) _ _ _ (by rfl) w.heap.size 9 j0 (.string ⟨#[]⟩) 1 16 Tryz.underlying22 hj0 hy0 hy1 hy2 rfl (by decide) (by rfl) ao n cap (BTexts.C ns) (by rfl) HCp.out.1.1 hlenC HCp.out.1.2 (BTexts.C_one _) hL1 hL8 (Nat.le_trans (Nat.le_of_lt hx0) (Nat.le_refl _)) ?_; intro v1 w1 hown1 hgrow1; have hb1 : Below wS.heap.size wS w1 := (Below.refl _ wS).drew.trans (tgrown0 hgrow1); obtain ⟨a1, k1, rfl⟩ := row_shape hown1; have hz1 := hb1.size; have x0 := cell_up x0 hb1; have hx1 : w.heap.size < w1.heap.size := (by omega); have H1 : Hid _ := And.intro (hown1.alloc (.cells #[.string s] 9)) (And.intro (hb1.alloc hb1.size (.cells #[.string s] 9)) (World.news_of_block (cs := #[.string s]) (t := 9) (fr := (0, 0)) (heap_alloc_new w1 (.cells #[.string s] 9)))); clear hown1 hgrow1 hb1)
      | (refine step_copy_at (wS.alloc (.cells #[.string s] 9)).drew (by rfl) _ _ _ (by rfl) w.heap.size 9 j0 (.string ⟨#[]⟩) 1 16 Tryz.underlying22 hj0 hy0 hy1 hy2 rfl (by decide) (by rfl) ao n cap (BTexts.C ns) (by rfl) HCp.out.2.1.1 hlenC HCp.out.2.1.2 (BTexts.C_one _) hL1 hL8 HCp.out.2.2.2.1 ?_; intro v1 w1 hown1 hgrow1; have hb0 : Below (wS.alloc (.cells #[.string s] 9)).heap.size (wS.alloc (.cells #[.string s] 9)) w1 := (Below.refl _ _).drew.trans (tgrown0 hgrow1); have hb1 : Below wS.heap.size wS w1 := HCp.out.2.2.1.trans (hb0.mono HCp.out.2.2.1.size); obtain ⟨a1, k1, rfl⟩ := row_shape hown1; have hz1 := hb1.size; have x0 := cell_up x0 hb1; have hx1 : w.heap.size < w1.heap.size := (by omega); have H1 : Hid _ := And.intro hown1 (And.intro hb1 (World.news_of_block (cs := #[.string s]) (t := 9) (fr := (0, 0)) ((hb0.block _ (t_lt HCp.out.2.2.2.2)).trans HCp.out.2.2.2.2))); clear hown1 hgrow1 hb1 hb0)
      | (refine step_append_lies _ (by rfl) _ _ _ (by rfl) w.heap.size 9 j0 _ 1 16 Tryz.underlying22 hj0 hy0 hy1 hy2 rfl (Nat.succ_pos 0) (.slice a1 n k1) n (BTexts.C ns) (by rfl) H1.out.1 _ 1 1 [.string s] (by rfl) (by rfl) H1.out.2.2 (by simp [Value.oneCell']) Nat.one_pos hR1 hR8 (by first | exact Nat.le_of_lt hx1 | (simp; omega)) _ rfl ?_; intro g2 k2 w2 hown2 hgrow2 hat2 hlt2; have hG := rnew_fin HS.out.1 HS.out.2.1 HS.out.2.2.1 H1.out.2.1 H1.out.1 hgrow2; have x0 := cell0_of (k := 0) hG.1 rfl; have f1 := blk_free hG.2.1 0; have c1 := cell0_of (k := 0) hG.2.1 rfl; have H2 : Hid _ := And.intro hown2 hG; clear hown2 hgrow2 hat2 hlt2 hG)
      | fail))
  all_goals
    obtain ⟨e1, e2, e3⟩ := rnew_end (s := s) HI.out.2 H2.out.2.2.1 H2.out.2.2.2 H2.out.1
    have HE : Hid _ := And.intro e2 e3
    clear e2 e3
    (try go_simp)
    go_wp2_with fail
    refine bodyPost_ret (v := radd (.slice (some ⟨g2, 0, none⟩) (n + 1) k2) n 0) (by simp [results, Tryz.results113, go_sem, radd, e1]) rfl ⟨_, rfl, HE.out.1, HE.out.2⟩
end Go.Proofs.YthcboklkejlifaaGreatDoor
/- Contracts of the document's Text and Read. -/
namespace Go.Proofs.YthcboklkejlifaaGreatDoor
open Go.RowKit Go.Maps
attribute [local go_sem ↓] Go.wp_at_zero Go.wp_at_succ
set_option maxRecDepth 100000 in
set_option maxHeartbeats 1000000 in
theorem rText_tau (v : Value) (w : World) (hv : ∃ ao n cap, v = .slice ao n cap) :
    Calls Tryz.prog 118 #[.agg #[v], .int .i64 0] w fun e w' => e = .returned (.tuple #[.string tauB, .bool true]) ∧ Below w.heap.size w w' := by
  obtain ⟨ao, n, cap, rfl⟩ := hv
  go_enter Tryz.func118, Tryz.ntmps118
  go_wp2_with fail
  go_ret2
  exact ⟨rfl, (by repeat (first | exact Below.refl _ _ | assumption | refine Below.drew ?_ | refine Below.setCell ?_ (by simp) _ | refine Below.alloc ?_ (by simp) _))⟩
set_option maxRecDepth 100000 in
set_option maxHeartbeats 1000000 in
theorem rText_no (v : Value) (ns : List ByteArray) (l : Int) (w : World) (hH : BTexts.Has w v ns) (h0 : l ≠ 0) (hn : Ac.named l = false ∨ (Ac.named l = true ∧ (ns.length : Int) ≤ Ac.nameN l)) :
    Calls Tryz.prog 118 #[.agg #[v], .int .i64 l] w fun e w' => e = .returned (.tuple #[.string ⟨#[]⟩, .bool false]) ∧ Below w.heap.size w w' := by
  obtain ⟨ao, cap, rfl, _⟩ := hH
  obtain ⟨n, hN⟩ : ∃ n, n = ns.length := ⟨_, rfl⟩
  rw [← hN] at hn ⊢
  have q0 : (l == 0) = false := by simpa using h0
  have hC := fun W => refNameOf_any l W
  clear h0 hN
  rcases hn with hn | ⟨hn, hg⟩
  · rw [hn] at hC
    clear hn
    go_enter Tryz.func118, Tryz.ntmps118
    go_wp2_with (go_at_call 138; refine (hC _).mono ?_; rintro r w' ⟨rfl, hw⟩; obtain rfl := hw.symm; clear hw)
    go_ret2
    exact ⟨rfl, (by repeat (first | exact Below.refl _ _ | assumption | refine Below.drew ?_ | refine Below.setCell ?_ (by simp) _ | refine Below.alloc ?_ (by simp) _))⟩
  · rw [hn] at hC
    clear hn
    generalize Ac.nameN l = m at hC hg
    generalize Ac.nameC l = co at hC
    go_enter Tryz.func118, Tryz.ntmps118
    go_wp2_with (go_at_call 138; refine (hC _).mono ?_; rintro r w' ⟨rfl, hw⟩; obtain rfl := hw.symm; clear hw)
    go_ret2
    exact ⟨rfl, (by repeat (first | exact Below.refl _ _ | assumption | refine Below.drew ?_ | refine Below.setCell ?_ (by simp) _ | refine Below.alloc ?_ (by simp) _))⟩
set_option maxRecDepth 100000 in
set_option maxHeartbeats 1000000 in
theorem rText_yes (v : Value) (ns : List ByteArray) (s : ByteArray) (l : Int) (i : Nat) (w : World) (hH : BTexts.Has w v ns) (hn : Ac.named l = true) (hm : Ac.nameN l = i) (hi : ns[i]? = some s) (hsz : s.size ≤ 32) :
    Calls Tryz.prog 118 #[.agg #[v], .int .i64 l] w fun e w' => e = .returned (.tuple #[.string (coB (Ac.nameC l) s), .bool true]) ∧ Below w.heap.size w w' := by
  obtain ⟨ao, cap, rfl, _⟩ := id hH
  have hlt := (List.getElem?_eq_some_iff.1 hi).1
  obtain ⟨a, rfl, c0⟩ := hH.cell hi
  have hal := World.block_lt_of_cell? w _ c0
  obtain ⟨n, hN⟩ : ∃ n, n = ns.length := ⟨_, rfl⟩
  rw [← hN] at hlt ⊢
  have h0 : l ≠ 0 := by unfold Ac.named at hn; have := of_decide_eq_true hn; omega
  have q0 : (l == 0) = false := by simpa using h0
  have q1 : (0 : Int) ≤ (i : Int) := by omega
  have q2 : (i : Int) < (n : Int) := by omega
  have q3 : ¬ (n : Int) ≤ (i : Int) := by omega
  have hC := fun W => refNameOf_any l W
  rw [hn, hm] at hC
  clear h0 hN hn hm hH hi
  cases hco : Ac.nameC l with
  | true =>
    rw [hco] at hC
    clear hco
    go_enter Tryz.func118, Tryz.ntmps118
    go_wp2_with (go_at_call 138; refine (hC _).mono ?_; rintro r w' ⟨rfl, hw⟩; obtain rfl := hw.symm; clear hw)
    go_ret2
    exact ⟨by simp [coB], (by repeat (first | exact Below.refl _ _ | assumption | refine Below.drew ?_ | refine Below.setCell ?_ (by simp) _ | refine Below.alloc ?_ (by simp) _))⟩
  | false =>
    rw [hco] at hC
    clear hco
    go_enter Tryz.func118, Tryz.ntmps118
    go_wp2_with (go_at_call 138; refine (hC _).mono ?_; rintro r w' ⟨rfl, hw⟩; obtain rfl := hw.symm; clear hw)
    go_ret2
    exact ⟨by simp [coB], (by repeat (first | exact Below.refl _ _ | assumption | refine Below.drew ?_ | refine Below.setCell ?_ (by simp) _ | refine Below.alloc ?_ (by simp) _))⟩
theorem co_ne_plain {y x : ByteArray} (hy : NoCo y) : y ≠ coB true x := fun e => by
  subst e
  have h0 : 0 < (coB true x).size := by rw [coB_size]; omega
  have h1 := hy h0
  apply h1
  have h2 := coB_list x
  have h3 : (coB true x).data.toList[0]'(by rw [h2]; simp) = 39 := by simp [h2]
  exact h3
theorem co_inj {x y : ByteArray} (h : coB true x = coB true y) : x = y := by
  have h1 := congrArg (fun s : ByteArray => s.data.toList) h
  simp only [coB_list] at h1
  injection h1 with _ h1
  exact bytes_eq h1
theorem co_eq_iff {y x : ByteArray} {co : Bool} (hy : NoCo y) (hx : co = false → NoCo x) : (y = coB co x ↔ (co = false ∧ y = x)) ∧ (coB true y = coB co x ↔ (co = true ∧ y = x)) := by
  cases co with
  | false => exact ⟨⟨fun e => ⟨rfl, e⟩, fun e => e.2⟩, ⟨fun e => absurd e.symm (co_ne_plain (hx rfl)), fun e => by cases e.1⟩⟩
  | true => exact ⟨⟨fun e => absurd e (co_ne_plain hy), fun e => by cases e.1⟩, ⟨fun e => ⟨rfl, co_inj e⟩, fun e => by rw [e.2]⟩⟩
set_option maxRecDepth 100000 in
set_option maxHeartbeats 1000000 in
theorem rRead_tau (v : Value) (w : World) (hv : ∃ ao n cap, v = .slice ao n cap) :
    Calls Tryz.prog 120 #[.agg #[v], .string tauB] w fun e w' => e = .returned (.tuple #[.int .i64 0, .bool true]) ∧ Below w.heap.size w w' := by
  obtain ⟨ao, n, cap, rfl⟩ := hv
  unfold tauB
  go_enter Tryz.func120, Tryz.ntmps120
  go_wp2_with fail
  go_ret2
  exact ⟨rfl, (by repeat (first | exact Below.refl _ _ | assumption | refine Below.drew ?_ | refine Below.setCell ?_ (by simp) _ | refine Below.alloc ?_ (by simp) _))⟩
set_option maxRecDepth 100000 in
set_option maxHeartbeats 2000000 in
theorem rRead_any (v : Value) (ns : List ByteArray) (x : ByteArray) (co : Bool) (w : World) (hH : BTexts.Has w v ns) (hl : ns.length ≤ 100) (hN : ∀ y ∈ ns, NoCo y ∧ y.size ≤ 32) (ht : coB co x ≠ tauB) (hx : co = false → NoCo x) :
    Calls Tryz.prog 120 #[.agg #[v], .string (coB co x)] w fun e w' => ∃ z : Int, Fnd ns x z ∧ e = .returned (.tuple #[.int .i64 (if z < 0 then 0 else Ac.label z co), .bool (decide (0 ≤ z))]) ∧ Below w.heap.size w w' := by
  obtain ⟨s, hs⟩ : ∃ s, s = coB co x := ⟨_, rfl⟩
  rw [← hs] at ht ⊢
  have hne := tau_no ht
  obtain ⟨ao, cap, rfl, _⟩ := id hH
  obtain ⟨n, hn⟩ : ∃ n, n = ns.length := ⟨_, rfl⟩
  rw [← hn] at hH hl ⊢
  have HH : Hid (BTexts.Has w (.slice ao n cap) ns ∧ n = ns.length ∧ (∀ y ∈ ns, NoCo y ∧ y.size ≤ 32) ∧ (co = false → NoCo x) ∧ s = coB co x) := ⟨hH, hn, hN, hx, hs⟩
  clear hH hn hN hx hs ht
  go_enter Tryz.func120, Tryz.ntmps120
  go_wp2_with fail
  go_loopg [6] n (fun g iv wr => ∃ j : Nat, g = n - j ∧ j ≤ n ∧ iv = .int .i64 j ∧ (∀ q, q < j → ns[q]? ≠ some x) ∧ wr = w.alloc (.cells #[.slice ao n cap] 99))
  case atStart => exact ⟨0, rfl, Nat.zero_le _, rfl, fun q hq => by omega, rfl⟩
  case round =>
    obtain ⟨j, rfl, hj, rfl, hR, rfl⟩ := hrel
    by_cases hlt : j < n
    · obtain ⟨y, hy⟩ : ∃ y, ns[j]? = some y := ⟨ns[j]'(by have := HH.out.2.1; omega), List.getElem?_eq_getElem _⟩
      obtain ⟨a, rfl, c0⟩ := HH.out.1.cell hy
      have hal := World.block_lt_of_cell? w _ c0
      obtain ⟨hyN, hys⟩ := HH.out.2.2.1 y (List.mem_of_getElem? hy)
      obtain ⟨i1, i2⟩ := co_eq_iff (x := x) (co := co) hyN HH.out.2.2.2.1
      rw [← HH.out.2.2.2.2] at i1 i2
      have q0 : (0 : Int) ≤ (j : Int) := by omega
      have q1 : (j : Int) < (n : Int) := by omega
      by_cases h1 : y = s
      · obtain ⟨rfl, rfl⟩ := i1.1 h1
        have e1 : (y.toList == s.toList) = true := by rw [h1]; simp
        have HF : Hid (Fnd ns y j) := .inr ⟨j, rfl, hy, hR⟩
        clear i1 i2 hR hy hyN h1
        go_wp2_with (go_at_call 140; refine (refLabel_any _ _ _).mono ?_; rintro r w' ⟨rfl, hw⟩; obtain rfl := hw.symm; clear hw)
        go_ret2
        refine ⟨j, HF.out, ?_, (by repeat (first | exact Below.refl _ _ | assumption | refine Below.drew ?_ | refine Below.setCell ?_ (by simp) _ | refine Below.alloc ?_ (by simp) _))⟩
        rw [if_neg (by omega), decide_eq_true q0]; rfl
      · have e1 := str_ne2 h1
        by_cases h2 : coB true y = s
        · obtain ⟨rfl, rfl⟩ := i2.1 h2
          have e2 : ((⟨#[39]⟩ ++ y : ByteArray).toList == s.toList) = true := by rw [← h2]; simp [coB]
          have HF : Hid (Fnd ns y j) := .inr ⟨j, rfl, hy, hR⟩
          clear i1 i2 hR hy hyN h1 h2
          go_wp2_with (go_at_call 140; refine (refLabel_any _ _ _).mono ?_; rintro r w' ⟨rfl, hw⟩; obtain rfl := hw.symm; clear hw)
          go_ret2
          refine ⟨j, HF.out, ?_, (by repeat (first | exact Below.refl _ _ | assumption | refine Below.drew ?_ | refine Below.setCell ?_ (by simp) _ | refine Below.alloc ?_ (by simp) _))⟩
          rw [if_neg (by omega), decide_eq_true q0]; rfl
        · have e2 : ((⟨#[39]⟩ ++ y : ByteArray).toList == s.toList) = false := str_ne2 (by simpa [coB] using h2)
          have HF : Hid (∀ q, q < j + 1 → ns[q]? ≠ some x) := fun q hq e => by
            rcases Nat.lt_or_ge q j with h | h
            · exact hR q h e
            · obtain rfl : q = j := by omega
              rw [hy] at e
              have e' := Option.some.inj e
              cases hco : co with
              | false => exact h1 (i1.2 ⟨hco, e'⟩)
              | true => exact h2 (i2.2 ⟨hco, e'⟩)
          clear i1 i2 hR hy hyN h1 h2
          go_wp2_with fail
          go_roundg (n - (j + 1))
          case measure => omega
          case rel => exact ⟨j + 1, rfl, by omega, by go_num, HF.out, rfl⟩
    · obtain rfl : j = n := by omega
      have q1 : ¬ (j : Int) < (j : Int) := by omega
      have HF : Hid (Fnd ns x (-1)) := .inl ⟨rfl, fun hm => by
        obtain ⟨k, hk, rfl⟩ := List.getElem_of_mem hm
        exact hR k (by have := HH.out.2.1; omega) (List.getElem?_eq_getElem hk)⟩
      clear hR
      go_wp2_with fail
      go_ret2
      exact ⟨-1, HF.out, rfl, (by repeat (first | exact Below.refl _ _ | assumption | refine Below.drew ?_ | refine Below.setCell ?_ (by simp) _ | refine Below.alloc ?_ (by simp) _))⟩
end Go.Proofs.YthcboklkejlifaaGreatDoor
