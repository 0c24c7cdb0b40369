/- Texts of this claim, joined: RfMarks, RfDoc, RfAlive, RfParts, SyPure, SyCanon. -/
import Derived.Test.YtpcndfffljmajaaGreatDoorPart2
import GoSem.Claim
import Derived.Test.YtpcndfffljmajaaGreatDoorPart0
import Derived.Deep.QuietTactic
import Derived.BigQuiet
/- refine: Marks, Marked. -/
namespace Go.Proofs.YtpcndfffljmajaaGreatDoor
open Go.RowKit Go.Maps
attribute [local go_sem ↓] Go.wp_at_zero Go.wp_at_succ
set_option maxRecDepth 100000 in
set_option maxHeartbeats 2000000 in
theorem marks8_ok (g : Nat) (c : Nat → Int) (s : Pst) (b : Nat) (w0 w : World) (hP : Pt w0 w g c) (hL : Lay c s) (hO : s.Ok) (hb : b < s.nb) :
    Calls Tryz.prog 30 #[.pointer (some ⟨g, 0, none⟩), .int .i64 b] w fun r w' => r = .returned (.tuple #[.int .i64 ((s.R b - s.B b : Nat) : Int), .nilIface]) ∧ Below w.heap.size w w' := by
  obtain ⟨v1, v2, v3, v4⟩ := hO.iv b hb
  have hn := hO.n1
  have hf := hO.few
  have hS := blocks_any g c w0 w hP
  rw [hL.nb] at hS
  have hl := lacks_ok g b s.nb w (by omega) (by omega)
  have c0 := hP.cell (i := 3002 + b * 3) (by omega)
  rw [hL.b b hb] at c0
  have c1 := hP.cell (i := 3002 + b * 3 + 1) (by omega)
  rw [hL.r b hb] at c1
  have c2 := hP.cell (i := 3002 + b * 3 + 2) (by omega)
  rw [hL.d b hb] at c2
  have e0 : (0 : Int) ≤ (b : Int) := by omega
  have e1 : (b : Int) < 1000 := by omega
  have hM := fun W => marks_any (s.B b) (s.R b) (s.D b) v1 (by omega) W
  generalize s.R b - s.B b = m at hM ⊢
  generalize s.B b = B at *
  generalize s.R b = R at *
  generalize s.D b = D at *
  generalize s.nb = nb at hS hl
  have H : Hid _ := And.intro hS (And.intro hl hM)
  clear hS hl hM hP hL hO hn hf v1 v2 v3 v4 hb
  go_enter Tryz.func30, Tryz.ntmps30
  go_wp2_with (first
    | (go_at_call 18; refine Calls.mono H.out.1 ?_; rintro r w1 ⟨rfl, hw1⟩; obtain rfl := hw1.symm; clear hw1)
    | (go_at_call 82; refine Calls.mono H.out.2.1 ?_; rintro r w1 ⟨rfl, hw1⟩; obtain rfl := hw1.symm; clear hw1)
    | (go_at_call 84; refine Calls.mono (H.out.2.2 _) ?_; rintro r w2 ⟨rfl, hb2⟩))
  go_ret2
  exact ⟨rfl, hb2⟩
set_option maxHeartbeats 1000000 in
theorem marks8_bad (g : Nat) (c : Nat → Int) (s : Pst) (b : Int) (a1 a3 : Addr) (w0 w : World) (hP : Pt w0 w g c) (hL : Lay c s) (hE : EnvR w a1 a3) (h : b < 0 ∨ (s.nb : Int) ≤ b) :
    Calls Tryz.prog 30 #[.pointer (some ⟨g, 0, none⟩), .int .i64 b] w fun r w' => ∃ x, r = .returned (.tuple #[.int .i64 0, x]) ∧ Chain w' 0 0 a3 [refB] x ∧ Below w.heap.size w w' := by
  have hS := blocks_any g c w0 w hP
  rw [hL.nb] at hS
  have hl := lacks_bad g b s.nb a1 a3 w hE h
  generalize s.nb = n at hS hl
  have H : Hid _ := And.intro hS hl
  clear hS hl hP hL hE h
  go_enter Tryz.func30, Tryz.ntmps30
  go_wp2_with (first
    | (go_at_call 18; refine Calls.mono H.out.1 ?_; rintro r w1 ⟨rfl, hw1⟩; obtain rfl := hw1.symm; clear hw1)
    | (go_at_call 82; refine Calls.mono H.out.2 ?_; rintro r w1 ⟨x, rfl, hC, hb⟩; have HB : Hid _ := And.intro hC hb; obtain ⟨T, v, rfl⟩ := hC.iface; clear hC hb))
  go_ret2
  exact ⟨_, rfl, HB.out.1, HB.out.2⟩
/-- The blocks below j that have a marked element. -/
def Pst.some (s : Pst) (j : Nat) : List Int := ((List.range j).filter fun b => decide (s.B b < s.R b)).map fun b : Nat => (b : Int)
theorem some_yes {s : Pst} {j : Nat} (h : s.B j < s.R j) : s.some (j + 1) = s.some j ++ [(j : Int)] := by simp [Pst.some, List.range_succ, h]
theorem some_no {s : Pst} {j : Nat} (h : ¬ s.B j < s.R j) : s.some (j + 1) = s.some j := by simp [Pst.some, List.range_succ, h]
theorem some_len (s : Pst) (j : Nat) : (s.some j).length ≤ j := by
  unfold Pst.some
  rw [List.length_map]
  exact Nat.le_trans (List.length_filter_le _ _) (by simp)
set_option maxRecDepth 100000 in
set_option maxHeartbeats 4000000 in
theorem marked_any (g : Nat) (c : Nat → Int) (s : Pst) (w0 w : World) (hP : Pt w0 w g c) (hL : Lay c s) (hO : s.Ok) :
    Calls Tryz.prog 32 #[.pointer (some ⟨g, 0, none⟩)] w fun r w' => ∃ u, r = .returned u ∧ OwnI w' w.heap.size u (s.some s.nb) ∧ Below w.heap.size w w' := by
  obtain ⟨i0, hi0, hz0, hz1, hz2⟩ := info_parts Tryz.infoI4
  have hn := hO.n1
  have hf := hO.few
  have hS := blocks_any g c w0 w hP
  rw [hL.nb] at hS
  obtain ⟨nb, hnb⟩ : ∃ nb, nb = s.nb := ⟨_, rfl⟩
  have hnb1 : nb ≤ 1000 := by omega
  rw [← hnb] at hS ⊢
  have H : Hid _ := And.intro hS (And.intro hP (And.intro hL (And.intro hO hnb)))
  clear hS hP hL hO hn hf hnb
  go_enter Tryz.func32, Tryz.ntmps32
  go_wp2_with (go_at_call 18; refine Calls.mono H.out.1 ?_; rintro r w1 ⟨rfl, hw1⟩; obtain rfl := hw1.symm; clear hw1)
  go_loopg [3, 7] nb (fun q lv jv wr => ∃ (j : Nat) (zs : List Int) (ao : Option Addr) (cp N : Nat), jv = .int .i64 j ∧ lv = .slice ao N cp ∧ j ≤ nb ∧ nb - j ≤ q ∧ zs = s.some j ∧ N = zs.length ∧ OwnI wr w.heap.size (.slice ao N cp) zs ∧ Below w.heap.size w wr)
  case atStart => exact ⟨0, [], none, 0, 0, rfl, rfl, Nat.zero_le _, Nat.le_refl _, rfl, rfl, World.ownsRow_nil _ _ _ _, Below.refl _ _⟩
  case round =>
    obtain ⟨j, zs, ao, cp, N, rfl, rfl, hj, hq, hzs, hN, hOw, hbw⟩ := hrel
    by_cases hjn : j < nb
    · have p1 : (j : Int) < (nb : Int) := by omega
      have hjs : j < s.nb := by have := H.out.2.2.2.2; omega
      obtain ⟨v1, v2, v3, v4⟩ := H.out.2.2.2.1.iv j hjs
      have hn1 := H.out.2.2.2.1.n1
      have hPw := H.out.2.1.below hbw
      have c0 := hPw.cell (i := 3002 + j * 3) (by omega)
      rw [H.out.2.2.1.b j hjs] at c0
      have c1 := hPw.cell (i := 3002 + j * 3 + 1) (by omega)
      rw [H.out.2.2.1.r j hjs] at c1
      have c2 := hPw.cell (i := 3002 + j * 3 + 2) (by omega)
      rw [H.out.2.2.1.d j hjs] at c2
      have e0 : (0 : Int) ≤ (j : Int) := by omega
      have e1 : (j : Int) < 1000 := by omega
      have hM := fun W => marks_any (s.B j) (s.R j) (s.D j) v1 (by omega) W
      have hlz : zs.length ≤ j := by rw [hzs]; exact some_len s j
      by_cases hm : s.B j < s.R j
      · have m1 : (0 : Int) < ((s.R j - s.B j : Nat) : Int) := by omega
        have m2 : 0 < s.R j - s.B j := by omega
        have hsy := some_yes hm
        rw [← hzs] at hsy
        have HM : Hid _ := And.intro hM (And.intro hbw (And.intro hOw (And.intro hsy hN)))
        generalize s.R j - s.B j = mm at HM m1 m2
        generalize s.B j = B at *
        generalize s.R j = R at *
        generalize s.D j = D at *
        have hml : N + 1 ≤ maxLen := by unfold maxLen; omega
        have hby : (N + 1) * 8 ≤ 140737488355328 := by omega
        clear hM hbw hOw hsy v1 v2 v3 v4 hm hPw hzs hN hlz hjs hn1
        go_wp2_with (first
          | (go_at_call 84; refine Calls.mono (HM.out.1 _) ?_; rintro r w2 ⟨rfl, hb2⟩; have hO2 : OwnI w2 w.heap.size (.slice ao N cp) zs := own_up (F := fun _ => False) HM.out.2.2.1 (Kept.of_below hb2) (fun _ _ h => h); have hbz : Below w.heap.size w w2 := HM.out.2.1.trans (hb2.mono HM.out.2.1.size); have H2 : Hid _ := And.intro hO2 hbz; clear hO2 hbz hb2)
          | (at_builtin; refine wpList_append_own_at _ rfl _ _ 22 rfl w.heap.size 3 i0 (.int .i64 0) 1 8 Tryz.underlying22 hi0 hz0 hz1 hz2 rfl (by decide) (.slice ao N cp) N (iC zs) rfl ((by have h := H2.out.1; unfold OwnI at h; rw [← HM.out.2.2.2.2] at h; exact h.alloc _)) ⟨w2.heap.size, 0, none⟩ 1 1 [.int .i64 j] rfl rfl (World.news_of_block (cs := #[.int .i64 j]) (t := 3) (fr := (0, 0)) (heap_alloc_new w2 _)) (by simp [Value.oneCell']) hml hby (by have := H2.out.2.size; simp; omega) ?_; intro v2 w4 hown2 hgrow2 hnil2 hat2; have H4 : Hid _ := And.intro hown2 hgrow2; obtain ⟨ao2, cp2, rfl⟩ := row_shape hown2; clear hown2 hgrow2 hnil2 hat2))
        go_roundg (nb - (j + 1))
        case measure => omega
        case rel =>
          have h1 := H4.out.1
          have h2 := HM.out.2.2.2.2
          refine ⟨j + 1, zs ++ [(j : Int)], ao2, cp2, N + 1, by go_num, rfl, by omega, Nat.le_refl _, HM.out.2.2.2.1.symm, by rw [List.length_append, ← h2]; rfl, ?_, ?_⟩
          · unfold OwnI
            rw [iC_snoc, List.length_append, ← h2]
            exact h1
          · exact (H2.out.2.alloc H2.out.2.size _).grown H4.out.2 (by have := H2.out.2.size; simp; omega) (by
              intro q hq
              have h3 := ((own_up (F := fun _ => False) H2.out.1 (Kept.of_below ((Below.refl _ w2).alloc (Nat.le_refl _) (.cells #[.int .i64 j] 3))) (fun _ _ h => h)).lt q hq).1
              exact h3)
      · have m1 : ¬ (0 : Int) < ((s.R j - s.B j : Nat) : Int) := by omega
        have m2 : s.R j - s.B j = 0 := by omega
        have hsy := some_no hm
        rw [← hzs] at hsy
        have HM : Hid _ := And.intro hM (And.intro hbw (And.intro hOw (And.intro hsy hN)))
        generalize s.R j - s.B j = mm at HM m1 m2
        generalize s.B j = B at *
        generalize s.R j = R at *
        generalize s.D j = D at *
        clear hM hbw hOw hsy v1 v2 v3 v4 hm hPw hzs hN hlz hjs hn1
        go_wp2_with (go_at_call 84; refine Calls.mono (HM.out.1 _) ?_; rintro r w2 ⟨rfl, hb2⟩; have hO2 : OwnI w2 w.heap.size (.slice ao N cp) zs := own_up (F := fun _ => False) HM.out.2.2.1 (Kept.of_below hb2) (fun _ _ h => h); have hbz : Below w.heap.size w w2 := HM.out.2.1.trans (hb2.mono HM.out.2.1.size); have H2 : Hid _ := And.intro hO2 hbz; clear hO2 hbz hb2)
        go_roundg (nb - (j + 1))
        case measure => omega
        case rel => exact ⟨j + 1, zs, ao, cp, N, by go_num, rfl, by omega, Nat.le_refl _, HM.out.2.2.2.1.symm, HM.out.2.2.2.2, H2.out.1, H2.out.2⟩
    · have p1 : ¬ (j : Int) < (nb : Int) := by omega
      have hjn' : j = nb := by omega
      rw [hjn'] at hzs
      have HF : Hid (OwnI wr w.heap.size (.slice ao N cp) (s.some nb) ∧ Below w.heap.size w wr) := ⟨by rw [← hzs]; exact hOw, hbw⟩
      clear hOw hbw hzs hN
      go_wp2_with fail
      go_ret
      exact ⟨_, rfl, HF.out.1, HF.out.2⟩
end Go.Proofs.YtpcndfffljmajaaGreatDoor
/- The document's partition of chapter 8: Members, Marks, Some. -/
namespace Go.Proofs.YtpcndfffljmajaaGreatDoor
open Go.RowKit Go.Maps
attribute [local go_sem ↓] Go.wp_at_zero Go.wp_at_succ
/-- The document's partition in memory: of each element its block, whether it is marked; how many blocks. -/
structure Dc (wr : World) (rb ro : Nat) (vB vM : Value) (N nb : Nat) (O : Nat → Nat) (bs : Nat → Bool) : Prop where
  cB : wr.cell? ⟨rb, ro, none⟩ = some vB
  cM : wr.cell? ⟨rb, ro + 1, none⟩ = some vM
  cN : wr.cell? ⟨rb, ro + 2, none⟩ = some (.int .i64 nb)
  hB : ∃ aB kB, vB = .slice aB N kB ∧ ∀ e, e < N → ∃ b, aB = some ⟨b, 0, none⟩ ∧ wr.cell? ⟨b, e, none⟩ = some (.int .i64 (O e))
  hM : ∃ aM kM, vM = .slice aM N kM ∧ ∀ e, e < N → ∃ b, aM = some ⟨b, 0, none⟩ ∧ wr.cell? ⟨b, e, none⟩ = some (.bool (bs e))
theorem Dc.below {wr w' : World} {rb ro : Nat} {vB vM : Value} {N nb : Nat} {O : Nat → Nat} {bs : Nat → Bool} (h : Dc wr rb ro vB vM N nb O bs) (hb : Below wr.heap.size wr w') : Dc w' rb ro vB vM N nb O bs := by
  obtain ⟨aB, kB, h1, h2⟩ := h.hB
  obtain ⟨aM, kM, h3, h4⟩ := h.hM
  refine ⟨cellu h.cB hb, cellu h.cM hb, cellu h.cN hb, ⟨aB, kB, h1, fun e he => ?_⟩, ⟨aM, kM, h3, fun e he => ?_⟩⟩
  · obtain ⟨b, q1, q2⟩ := h2 e he; exact ⟨b, q1, cellu q2 hb⟩
  · obtain ⟨b, q1, q2⟩ := h4 e he; exact ⟨b, q1, cellu q2 hb⟩
/-- The elements of a block among the first i. -/
def dMem (O : Nat → Nat) (b : Int) (i : Nat) : List Int := ((List.range i).filter fun e => decide ((O e : Int) = b)).map fun e : Nat => (e : Int)
theorem dMem_yes {O : Nat → Nat} {b : Int} {i : Nat} (h : (O i : Int) = b) : dMem O b (i + 1) = dMem O b i ++ [(i : Int)] := by simp [dMem, List.range_succ, h]
theorem dMem_no {O : Nat → Nat} {b : Int} {i : Nat} (h : ¬ (O i : Int) = b) : dMem O b (i + 1) = dMem O b i := by simp [dMem, List.range_succ, h]
theorem dMem_len (O : Nat → Nat) (b : Int) (i : Nat) : (dMem O b i).length ≤ i := by
  unfold dMem
  rw [List.length_map]
  exact Nat.le_trans (List.length_filter_le _ _) (by simp)
/-- How many of a block's elements among the first i are marked. -/
def dMk (O : Nat → Nat) (bs : Nat → Bool) (b : Int) : Nat → Nat
  | 0 => 0
  | i + 1 => dMk O bs b i + if (O i : Int) = b ∧ bs i = true then 1 else 0
theorem dMk_le (O : Nat → Nat) (bs : Nat → Bool) (b : Int) : ∀ i, dMk O bs b i ≤ i := by
  intro i
  induction i with
  | zero => exact Nat.le_refl _
  | succ i ih => simp only [dMk]; split <;> omega
set_option maxRecDepth 100000 in
set_option maxHeartbeats 4000000 in
theorem rMembers_any (rb ro : Nat) (vB vM : Value) (N nb : Nat) (O : Nat → Nat) (bs : Nat → Bool) (b : Int) (w : World) (h : Dc w rb ro vB vM N nb O bs) (hN : N ≤ 2000) :
    Calls Tryz.prog 37 #[.pointer (some ⟨rb, ro, none⟩), .int .i64 b] w fun r w' => ∃ u, r = .returned u ∧ OwnI w' w.heap.size u (dMem O b N) ∧ Below w.heap.size w w' := by
  obtain ⟨i0, hi0, hz0, hz1, hz2⟩ := info_parts Tryz.infoI4
  obtain ⟨aB, kB, rfl, hBc⟩ := h.hB
  have HD : Hid (w.cell? ⟨rb, ro, none⟩ = some (.slice aB N kB) ∧ ∀ e, e < N → ∃ b, aB = some ⟨b, 0, none⟩ ∧ w.cell? ⟨b, e, none⟩ = some (.int .i64 (O e))) := ⟨h.cB, hBc⟩
  clear h hBc
  go_enter Tryz.func37, Tryz.ntmps37
  go_wp2_with fail
  go_loopg [5, 6] N (fun q lv jv wr => ∃ (j : Nat) (zs : List Int) (ao : Option Addr) (cp M : Nat), jv = .int .i64 j ∧ lv = .slice ao M cp ∧ j ≤ N ∧ N - j ≤ q ∧ zs = dMem O b j ∧ M = zs.length ∧ OwnI wr w.heap.size (.slice ao M cp) zs ∧ Below w.heap.size w wr)
  case atStart => exact ⟨0, [], none, 0, 0, rfl, rfl, Nat.zero_le _, Nat.le_refl _, rfl, rfl, World.ownsRow_nil _ _ _ _, Below.refl _ _⟩
  case round =>
    obtain ⟨j, zs, ao, cp, M, rfl, rfl, hj, hq, hzs, hM, hOw, hbw⟩ := hrel
    have y0 := cellu HD.out.1 hbw
    by_cases hjn : j < N
    · have p1 : (j : Int) < (N : Int) := by omega
      have p2 : (0 : Int) ≤ (j : Int) := by omega
      obtain ⟨bk, hbk, y1⟩ := HD.out.2 j hjn
      subst hbk
      have y1 := cellu y1 hbw
      have hlz : zs.length ≤ j := by rw [hzs]; exact dMem_len O b j
      by_cases hm : (O j : Int) = b
      · have hsy := dMem_yes hm
        rw [← hzs] at hsy
        have HM : Hid _ := And.intro hbw (And.intro hOw (And.intro hsy hM))
        have hml : M + 1 ≤ maxLen := by unfold maxLen; omega
        have hby : (M + 1) * 8 ≤ 140737488355328 := by omega
        have hmB : ((O j : Int) == b) = true := by simpa using hm
        generalize O j = oj at *
        clear hbw hOw hsy hzs hM hlz
        go_wp2_with (at_builtin; refine wpList_append_own_at _ rfl _ _ 22 rfl w.heap.size 3 i0 (.int .i64 0) 1 8 Tryz.underlying22 hi0 hz0 hz1 hz2 rfl (by decide) (.slice ao M cp) M (iC zs) rfl ((by have h := HM.out.2.1; unfold OwnI at h; rw [← HM.out.2.2.2] at h; exact h.alloc _)) ⟨wr.heap.size, 0, none⟩ 1 1 [.int .i64 j] rfl rfl (World.news_of_block (cs := #[.int .i64 j]) (t := 3) (fr := (0, 0)) (heap_alloc_new wr _)) (by simp [Value.oneCell']) hml hby (by have := HM.out.1.size; simp; omega) ?_; intro v2 w4 hown2 hgrow2 hnil2 hat2; have H4 : Hid _ := And.intro hown2 hgrow2; obtain ⟨ao2, cp2, rfl⟩ := row_shape hown2; clear hown2 hgrow2 hnil2 hat2)
        go_roundg (N - (j + 1))
        case measure => omega
        case rel =>
          have h1 := H4.out.1
          have h2 := HM.out.2.2.2
          refine ⟨j + 1, zs ++ [(j : Int)], ao2, cp2, M + 1, by go_num, rfl, by omega, Nat.le_refl _, HM.out.2.2.1.symm, by rw [List.length_append, ← h2]; rfl, ?_, ?_⟩
          · unfold OwnI
            rw [iC_snoc, List.length_append, ← h2]
            exact h1
          · exact (HM.out.1.alloc HM.out.1.size _).grown H4.out.2 (by have := HM.out.1.size; simp; omega) (by
              intro q hq
              have h3 := ((own_up (F := fun _ => False) HM.out.2.1 (Kept.of_below ((Below.refl _ wr).alloc (Nat.le_refl _) (.cells #[.int .i64 j] 3))) (fun _ _ h => h)).lt q hq).1
              exact h3)
      · have hsy := dMem_no hm
        rw [← hzs] at hsy
        have HM : Hid _ := And.intro hbw (And.intro hOw (And.intro hsy hM))
        have hmB : ((O j : Int) == b) = false := by simpa using hm
        generalize O j = oj at *
        clear hbw hOw hsy hzs hM hlz
        go_wp2_with fail
        go_roundg (N - (j + 1))
        case measure => omega
        case rel => exact ⟨j + 1, zs, ao, cp, M, by go_num, rfl, by omega, Nat.le_refl _, HM.out.2.2.1.symm, HM.out.2.2.2, HM.out.2.1, HM.out.1⟩
    · have p1 : ¬ (j : Int) < (N : Int) := by omega
      have hjn' : j = N := by omega
      rw [hjn'] at hzs
      have HF : Hid (OwnI wr w.heap.size (.slice ao M cp) (dMem O b N) ∧ Below w.heap.size w wr) := ⟨by rw [← hzs]; exact hOw, hbw⟩
      clear hOw hbw hzs hM
      go_wp2_with fail
      go_ret
      exact ⟨_, rfl, HF.out.1, HF.out.2⟩
set_option maxRecDepth 100000 in
set_option maxHeartbeats 4000000 in
theorem rMarks_any (rb ro : Nat) (vB vM : Value) (N nb : Nat) (O : Nat → Nat) (bs : Nat → Bool) (b : Int) (w : World) (h : Dc w rb ro vB vM N nb O bs) (hN : N ≤ 2000) :
    Calls Tryz.prog 36 #[.pointer (some ⟨rb, ro, none⟩), .int .i64 b] w fun r w' => r = .returned (.int .i64 (dMk O bs b N)) ∧ w' = w := by
  obtain ⟨aB, kB, rfl, hBc⟩ := h.hB
  obtain ⟨aM, kM, rfl, hMc⟩ := h.hM
  have y0 := h.cB
  have y1 := h.cM
  have HD : Hid ((∀ e, e < N → ∃ b, aB = some ⟨b, 0, none⟩ ∧ w.cell? ⟨b, e, none⟩ = some (.int .i64 (O e))) ∧ ∀ e, e < N → ∃ b, aM = some ⟨b, 0, none⟩ ∧ w.cell? ⟨b, e, none⟩ = some (.bool (bs e))) := ⟨hBc, hMc⟩
  clear h hBc hMc
  go_enter Tryz.func36, Tryz.ntmps36
  go_wp2_with fail
  go_loopg [5, 6] N (fun q lv jv wr => ∃ (j : Nat), jv = .int .i64 j ∧ lv = .int .i64 (dMk O bs b j) ∧ j ≤ N ∧ N - j ≤ q ∧ wr = w)
  case atStart => exact ⟨0, rfl, rfl, Nat.zero_le _, Nat.le_refl _, rfl⟩
  case round =>
    obtain ⟨j, rfl, rfl, hj, hq, hwr⟩ := hrel
    subst hwr
    by_cases hjn : j < N
    · have p1 : (j : Int) < (N : Int) := by omega
      have p2 : (0 : Int) ≤ (j : Int) := by omega
      obtain ⟨bk, hbk, y2⟩ := HD.out.1 j hjn
      obtain ⟨bm, hbm, y3⟩ := HD.out.2 j hjn
      subst hbk hbm
      have hle := dMk_le O bs b j
      by_cases hm : (O j : Int) = b
      · have hmB : ((O j : Int) == b) = true := by simpa using hm
        cases hbj : bs j with
        | true =>
          rw [hbj] at y3
          have hs : dMk O bs b (j + 1) = dMk O bs b j + 1 := by simp [dMk, hm, hbj]
          have HS : Hid (dMk O bs b (j + 1) = dMk O bs b j + 1) := hs
          generalize dMk O bs b j = mm at *
          have q1 : IntKind.i64.wrap ((mm : Int) + 1) = (mm : Int) + 1 := by rw [IntKind.wrap_i64]; omega
          generalize O j = oj at *
          clear hs hbj
          go_wp2_with fail
          go_roundg (N - (j + 1))
          case measure => omega
          case rel => exact ⟨j + 1, by go_num, by rw [HS.out]; first | rfl | go_num, by omega, Nat.le_refl _, rfl⟩
        | false =>
          rw [hbj] at y3
          have hs : dMk O bs b (j + 1) = dMk O bs b j := by simp [dMk, hbj]
          have HS : Hid (dMk O bs b (j + 1) = dMk O bs b j) := hs
          generalize dMk O bs b j = mm at *
          generalize O j = oj at *
          clear hs hbj
          go_wp2_with fail
          go_roundg (N - (j + 1))
          case measure => omega
          case rel => exact ⟨j + 1, by go_num, by rw [HS.out], by omega, Nat.le_refl _, rfl⟩
      · have hmB : ((O j : Int) == b) = false := by simpa using hm
        have hs : dMk O bs b (j + 1) = dMk O bs b j := by simp [dMk, hm]
        have HS : Hid (dMk O bs b (j + 1) = dMk O bs b j) := hs
        generalize dMk O bs b j = mm at *
        generalize O j = oj at *
        clear hs
        go_wp2_with fail
        go_roundg (N - (j + 1))
        case measure => omega
        case rel => exact ⟨j + 1, by go_num, by rw [HS.out], by omega, Nat.le_refl _, rfl⟩
    · have p1 : ¬ (j : Int) < (N : Int) := by omega
      have hjn' : j = N := by omega
      have HF : Hid (dMk O bs b j = dMk O bs b N) := by rw [hjn']; rfl
      generalize dMk O bs b j = mm at *
      go_wp2_with fail
      go_ret
      exact ⟨by rw [← HF.out]; rfl, rfl⟩
end Go.Proofs.YtpcndfffljmajaaGreatDoor
/- refine: the statements' first call, whose answer the document fixes. -/
namespace Go.Proofs.YtpcndfffljmajaaGreatDoor
open Go.RowKit Go.Maps
attribute [local go_sem ↓] Go.wp_at_zero Go.wp_at_succ
theorem split_nb (s : Pst) (b : Nat) : (s.split b).nb = if s.splits b then s.nb + 1 else s.nb := by
  unfold Pst.split
  by_cases h : s.splits b
  · rw [if_pos h, if_pos h]; split <;> rfl
  · rw [if_neg h, if_neg h]; rfl
theorem splits_of {s : Pst} (hO : s.Ok) {b x y : Nat} (hx : x < s.n) (hy : y < s.n) (ox : s.O x = b) (oy : s.O y = b) (mx : s.isM x = true) (my : s.isM y = false) : s.splits b := by
  have h1 := hO.o x hx
  have h2 := hO.o y hy
  have h3 := of_decide_eq_true mx
  have h4 := of_decide_eq_false my
  rw [ox] at h1 h3
  rw [oy] at h2 h4
  exact ⟨by omega, by omega⟩
theorem al_split (g : Nat) (c : Nat → Int) (s : Pst) (w0 w : World) (hP : Pt w0 w g c) (hL : Lay c s) (hO : s.Ok) (n2 : s.n = (Pst.new 5).n) (nb2 : s.nb = (Pst.new 5).nb) (o2 : s.O = (Pst.new 5).O) (m2 : ∀ y, y < (Pst.new 5).n → s.isM y = (decide (y = 1) || (Pst.new 5).isM y)) :
    Calls Tryz.prog 17 #[.pointer (some ⟨g, 0, none⟩), .int .i64 0] w fun r w' => r = .returned (.tuple #[.int .i64 1, .bool true, .nilIface]) ∧ ∃ c', Pt w0 w' g c' ∧ c' 1 = 2 := by
  have h5 : s.n = 5 := n2
  have h1 : s.nb = 1 := nb2
  have hsp : s.splits 0 := splits_of hO (x := 1) (y := 0) (by omega) (by omega) (by rw [o2]; rfl) (by rw [o2]; rfl) (by rw [m2 1 (by decide)]; rfl) (by rw [m2 0 (by decide)]; rfl)
  have h := split_any g c s 0 w0 w hP hL hO (by omega)
  rw [if_pos hsp, decide_eq_true hsp, h1] at h
  refine h.mono ?_
  rintro r w' ⟨rfl, c', hP', hL', _⟩
  refine ⟨rfl, c', hP', ?_⟩
  rw [hL'.nb, split_nb, if_pos hsp, h1]
  rfl
set_option maxRecDepth 100000 in
set_option maxHeartbeats 2000000 in
theorem alive8 (w : World) : Calls Tryz.prog 6 #[] w fun r w' => r = .returned (.bool true) ∧ Below w.heap.size w w' := by
  have hN := new_part 5 (by decide) w
  have HN : Hid _ := And.intro hN trivial
  clear hN
  go_enter Tryz.func6, Tryz.ntmps6
  go_wp2_with fail
  refine Calls.mono HN.out.1 ?_
  rintro r w1 ⟨g, c, rfl, hP, hL⟩
  have hO := Pst.new_ok (n := 5) (by decide)
  have hM := pmark_any g c (Pst.new 5) 1 w w1 hP hL hO (by decide)
  have hM0 : (Pst.new 5).isM 1 = false := by decide
  rw [hM0] at hM
  have HM : Hid _ := And.intro hM trivial
  clear hM hP hL hO hM0 HN
  go_wp2_with (first
    | (go_at_call 16; refine Calls.mono HM.out.1 ?_; rintro r w2 ⟨rfl, c2, s2, hP2, hL2, hO2, hK2, n2, nb2, o2, b2, d2, m2⟩; have hS := al_split g c2 s2 w w2 hP2 hL2 hO2 n2 nb2 o2 m2; have HS : Hid _ := And.intro hS trivial; clear hS hP2 hL2 hO2 hK2 n2 nb2 o2 b2 d2 m2)
    | (go_at_call 17; refine Calls.mono HS.out.1 ?_; rintro r w3 ⟨rfl, c3, hP3, h3⟩; have hB := blocks_any g c3 w w3 hP3; rw [h3] at hB; have HB : Hid _ := And.intro hB hP3.bl; clear hB hP3 h3)
    | (go_at_call 18; refine Calls.mono HB.out.1 ?_; rintro r w4 ⟨rfl, hw4⟩; obtain rfl := hw4.symm; clear hw4))
  go_ret
  exact ⟨rfl, HB.out.2⟩
end Go.Proofs.YtpcndfffljmajaaGreatDoor
/- The statement RefineParts, out of the contracts. -/
namespace Go.Proofs.YtpcndfffljmajaaGreatDoor
open Go.RowKit Go.Maps
attribute [local go_sem ↓] Go.wp_at_zero Go.wp_at_succ
/-- A script in memory: pairs of numbers. -/
def HasO8 (w : World) (v : Value) (ps : List (Int × Int)) : Prop := ∃ ao cap, v = .slice ao ps.length cap ∧ ∀ (i : Nat) (p : Int × Int), ps[i]? = some p → ∃ a, ao = some a ∧ w.cell? (a.add (i * 2)) = some (.int .i64 p.1) ∧ w.cell? (a.add (i * 2 + 1)) = some (.int .i64 p.2)
theorem add_two8 (a : Addr) (k : Nat) : (a.add k).add 1 = a.add (k + 1) := by
  unfold Addr.add
  by_cases h : k = 0
  · subst h; simp
  · simp [h, Nat.add_assoc]
theorem tot_le {f : Nat → Nat} {a : Nat} : ∀ b, a ≤ b → tot f a ≤ tot f b := by
  intro b
  induction b with
  | zero => intro h; rw [show a = 0 by omega]; exact Nat.le_refl _
  | succ b ih =>
    intro h
    by_cases e : a = b + 1
    · rw [e]; exact Nat.le_refl _
    · have := ih (by omega); simp only [tot]; omega
/-- A partition that stands well. -/
structure St8 (w0 w : World) (g : Nat) (c : Nat → Int) (s : Pst) : Prop where
  pt : Pt w0 w g c
  ly : Lay c s
  ok : s.Ok
theorem St8.below {w0 w w' : World} {g : Nat} {c : Nat → Int} {s : Pst} (h : St8 w0 w g c s) (hb : Below w.heap.size w w') : St8 w0 w' g c s := ⟨h.pt.below hb, h.ly, h.ok⟩
theorem mark_all {g : Nat} {c : Nat → Int} {s : Pst} (x : Int) {a1 a3 : Addr} {w0 w : World} (h : St8 w0 w g c s) (hE : EnvR w a1 a3) :
    Calls Tryz.prog 16 #[.pointer (some ⟨g, 0, none⟩), .int .i64 x] w fun r w' => ∃ v1 v2, r = .returned (.tuple #[v1, v2]) ∧ ∃ c' s', St8 w0 w' g c' s' ∧ s'.n = s.n ∧ Kept (fun i => i = g) w w' := by
  by_cases hx : x < 0 ∨ (s.n : Int) ≤ x
  · refine (mark_bad g c s x a1 a3 w0 w h.pt h.ly hE hx).mono ?_
    rintro r w' ⟨y, rfl, _, hb⟩
    exact ⟨_, _, rfl, c, s, h.below hb, rfl, Kept.of_below hb⟩
  · obtain ⟨e, rfl⟩ : ∃ e : Nat, x = e := ⟨x.toNat, by omega⟩
    refine (pmark_any g c s e w0 w h.pt h.ly h.ok (by omega)).mono ?_
    rintro r w' ⟨rfl, c', s', h1, h2, h3, h4, h5, _⟩
    exact ⟨_, _, rfl, c', s', ⟨h1, h2, h3⟩, h5, h4⟩
theorem split_all {g : Nat} {c : Nat → Int} {s : Pst} (x : Int) {a1 a3 : Addr} {w0 w : World} (h : St8 w0 w g c s) (hE : EnvR w a1 a3) :
    Calls Tryz.prog 17 #[.pointer (some ⟨g, 0, none⟩), .int .i64 x] w fun r w' => ∃ v1 v2 v3, r = .returned (.tuple #[v1, v2, v3]) ∧ ∃ c' s', St8 w0 w' g c' s' ∧ s'.n = s.n ∧ Kept (fun i => i = g) w w' := by
  by_cases hx : x < 0 ∨ (s.nb : Int) ≤ x
  · refine (split_bad g c s x a1 a3 w0 w h.pt h.ly hE hx).mono ?_
    rintro r w' ⟨y, rfl, _, hb⟩
    exact ⟨_, _, _, rfl, c, s, h.below hb, rfl, Kept.of_below hb⟩
  · obtain ⟨b, rfl⟩ : ∃ b : Nat, x = b := ⟨x.toNat, by omega⟩
    have hb : b < s.nb := by omega
    have h5 := split_ok h.ok hb
    refine (split_any g c s b w0 w h.pt h.ly h.ok hb).mono ?_
    rintro r w' ⟨rfl, c', h1, h2, h3⟩
    exact ⟨_, _, _, rfl, c', _, ⟨h1, h2, h5.1⟩, h5.2.1, h3⟩
end Go.Proofs.YtpcndfffljmajaaGreatDoor
/- Plain facts on edges, their order and one form of their lists; on classes and their one form. Nothing of the program is in it. -/
namespace Go.Proofs.YtpcndfffljmajaaGreatDoor.Sy
/-- An edge: where it comes from, its label, where it leads. -/
abbrev Ed : Type := Int × Int × Int
def lt (a b : Ed) : Bool := if a.1 != b.1 then decide (a.1 < b.1) else if a.2.1 != b.2.1 then decide (a.2.1 < b.2.1) else decide (a.2.2 < b.2.2)
theorem lt_iff (a b : Ed) : lt a b = true ↔ a.1 < b.1 ∨ a.1 = b.1 ∧ (a.2.1 < b.2.1 ∨ a.2.1 = b.2.1 ∧ a.2.2 < b.2.2) := by
  unfold lt
  by_cases h1 : a.1 = b.1
  · by_cases h2 : a.2.1 = b.2.1 <;> simp [h1, h2]
  · simp [h1]
theorem lt_irrefl (a : Ed) : lt a a = false := by
  cases h : lt a a with
  | false => rfl
  | true => rw [lt_iff] at h; omega
theorem lt_trans {a b c : Ed} (h1 : lt a b = true) (h2 : lt b c = true) : lt a c = true := by
  rw [lt_iff] at *; omega
theorem lt_asymm {a b : Ed} (h : lt a b = true) : lt b a = false := by
  cases h2 : lt b a with
  | false => rfl
  | true => rw [lt_iff] at h h2; omega
theorem eq_of_not {a b : Ed} (h1 : lt a b = false) (h2 : lt b a = false) : a = b := by
  have h3 : ¬ lt a b = true := by rw [h1]; simp
  have h4 : ¬ lt b a = true := by rw [h2]; simp
  rw [lt_iff] at h3 h4
  obtain ⟨x, y, z⟩ := a
  obtain ⟨u, v, w⟩ := b
  simp only at h3 h4
  have e1 : x = u := by omega
  have e2 : y = v := by omega
  have e3 : z = w := by omega
  rw [e1, e2, e3]
/-- Edges in order, each once. -/
def Str : List Ed → Prop
  | [] => True
  | [_] => True
  | a :: b :: r => lt a b = true ∧ Str (b :: r)
theorem Str.tail {a : Ed} {r : List Ed} (h : Str (a :: r)) : Str r := by
  cases r with
  | nil => trivial
  | cons b s => exact h.2
theorem Str.head {a : Ed} {r : List Ed} (h : Str (a :: r)) : ∀ x ∈ r, lt a x = true := by
  induction r generalizing a with
  | nil => intro x hx; simp at hx
  | cons b s ih =>
    intro x hx
    rcases List.mem_cons.1 hx with rfl | hx
    · exact h.1
    · exact lt_trans h.1 (ih h.2 x hx)
theorem Str.cons {a : Ed} {r : List Ed} (h : Str r) (h2 : ∀ x ∈ r, lt a x = true) : Str (a :: r) := by
  cases r with
  | nil => trivial
  | cons b s => exact ⟨h2 b List.mem_cons_self, h⟩
theorem Str.snoc {l : List Ed} {x : Ed} (h : Str l) (h2 : ∀ y ∈ l, lt y x = true) : Str (l ++ [x]) := by
  induction l with
  | nil => trivial
  | cons a r ih =>
    refine Str.cons (ih h.tail fun y hy => h2 y (List.mem_cons_of_mem _ hy)) fun y hy => ?_
    rcases List.mem_append.1 hy with hy | hy
    · exact h.head y hy
    · rw [List.mem_singleton.1 hy]; exact h2 a List.mem_cons_self
/-- Two such lists of the same edges are one. -/
theorem Str.unique {l m : List Ed} (hl : Str l) (hm : Str m) (h : ∀ x, x ∈ l ↔ x ∈ m) : l = m := by
  induction l generalizing m with
  | nil =>
    cases m with
    | nil => rfl
    | cons b s => exact absurd ((h b).2 List.mem_cons_self) (by simp)
  | cons a r ih =>
    cases m with
    | nil => exact absurd ((h a).1 List.mem_cons_self) (by simp)
    | cons b s =>
      have e : a = b := by
        rcases List.mem_cons.1 ((h a).1 List.mem_cons_self) with e | ha
        · exact e
        · rcases List.mem_cons.1 ((h b).2 List.mem_cons_self) with e | hb
          · exact e.symm
          · have h1 := hm.head a ha
            have h2 := hl.head b hb
            rw [lt_asymm h1] at h2
            cases h2
      subst e
      congr 1
      refine ih hl.tail hm.tail fun x => ⟨fun hx => ?_, fun hx => ?_⟩
      · rcases List.mem_cons.1 ((h x).1 (List.mem_cons_of_mem _ hx)) with e | hx2
        · subst e; have h1 := hl.head x hx; rw [lt_irrefl] at h1; cases h1
        · exact hx2
      · rcases List.mem_cons.1 ((h x).2 (List.mem_cons_of_mem _ hx)) with e | hx2
        · subst e; have h1 := hm.head x hx; rw [lt_irrefl] at h1; cases h1
        · exact hx2
/-- An edge goes to its place. -/
def ins (x : Ed) : List Ed → List Ed
  | [] => [x]
  | a :: r => if lt x a then x :: a :: r else if lt a x then a :: ins x r else a :: r
theorem ins_mem (x y : Ed) (l : List Ed) : y ∈ ins x l ↔ y = x ∨ y ∈ l := by
  induction l with
  | nil => simp [ins]
  | cons a r ih =>
    unfold ins
    cases h1 : lt x a with
    | true => simp
    | false =>
      cases h2 : lt a x with
      | true =>
        simp only [Bool.false_eq_true, if_false, if_true, List.mem_cons, ih]
        constructor
        · rintro (h | h | h) <;> simp [h]
        · rintro (h | h | h) <;> simp [h]
      | false =>
        have e := eq_of_not h1 h2
        subst e
        simp
theorem ins_str (x : Ed) (l : List Ed) (h : Str l) : Str (ins x l) := by
  induction l with
  | nil => trivial
  | cons a r ih =>
    unfold ins
    cases h1 : lt x a with
    | true => exact ⟨h1, h⟩
    | false =>
      cases h2 : lt a x with
      | true =>
        simp only [Bool.false_eq_true, if_false, if_true]
        refine Str.cons (ih h.tail) fun y hy => ?_
        rcases (ins_mem x y r).1 hy with rfl | hy
        · exact h2
        · exact h.head y hy
      | false => exact h
/-- The one form of a list of edges. -/
def nf : List Ed → List Ed
  | [] => []
  | a :: r => ins a (nf r)
theorem nf_mem (l : List Ed) (x : Ed) : x ∈ nf l ↔ x ∈ l := by
  induction l with
  | nil => simp [nf]
  | cons a r ih => simp [nf, ins_mem, ih]
theorem nf_str (l : List Ed) : Str (nf l) := by
  induction l with
  | nil => trivial
  | cons a r ih => exact ins_str a _ ih
theorem nf_of {l m : List Ed} (h : Str m) (hm : ∀ x, x ∈ m ↔ x ∈ l) : m = nf l := h.unique (nf_str l) fun x => (hm x).trans (nf_mem l x).symm
theorem nf_congr {l m : List Ed} (h : ∀ x, x ∈ l ↔ x ∈ m) : nf l = nf m := nf_of (nf_str l) fun x => (nf_mem l x).trans (h x)
theorem nf_idem (l : List Ed) : nf (nf l) = nf l := (nf_of (nf_str l) fun _ => Iff.rfl).symm
theorem ins_len (x : Ed) (l : List Ed) : (ins x l).length ≤ l.length + 1 := by
  induction l with
  | nil => simp [ins]
  | cons a r ih =>
    unfold ins
    cases h1 : lt x a <;> cases h2 : lt a x <;> simp <;> omega
theorem nf_len (l : List Ed) : (nf l).length ≤ l.length := by
  induction l with
  | nil => simp [nf]
  | cons a r ih => have := ins_len a (nf r); simp only [nf, List.length_cons]; omega
theorem str_len {m l : List Ed} (h : Str m) (hs : ∀ x ∈ m, x ∈ l) : m.length ≤ l.length := by
  have e : m = nf m := nf_of h fun _ => Iff.rfl
  induction m generalizing l with
  | nil => simp
  | cons a r ih =>
    have ha := hs a List.mem_cons_self
    have h1 : r.length ≤ (l.erase a).length := by
      refine ih h.tail (fun x hx => ?_) (nf_of h.tail fun _ => Iff.rfl)
      have h2 := h.head x hx
      have hne : x ≠ a := fun e => by rw [e, lt_irrefl] at h2; cases h2
      exact (List.mem_erase_of_ne hne).2 (hs x (List.mem_cons_of_mem _ hx))
    rw [List.length_erase_of_mem ha] at h1
    have := List.length_pos_of_mem ha
    simp only [List.length_cons]
    omega
/-- An edge goes behind others, unless the last one is the same. -/
def put (out : List Ed) (e : Ed) : List Ed := if out.getLast? = some e then out else out ++ [e]
theorem put_str {out : List Ed} {e : Ed} (h : Str out) (hle : ∀ x ∈ out, lt e x = false) : Str (put out e) := by
  unfold put
  split
  · exact h
  · rename_i hne
    refine h.snoc fun y hy => ?_
    have hys : ∀ (l : List Ed) (z : Ed), Str l → l.getLast? = some z → ∀ y ∈ l, y = z ∨ lt y z = true := fun l => by
      induction l with
      | nil => intro z _ hz; simp at hz
      | cons a r ih =>
        intro z hs hz y hy
        cases r with
        | nil => simp at hz hy; subst hz; exact .inl hy
        | cons b s =>
          rw [List.getLast?_cons_cons] at hz
          rcases List.mem_cons.1 hy with rfl | hy
          · have hzm := List.mem_of_getLast? hz
            exact .inr (hs.head z hzm)
          · exact ih z hs.tail hz y hy
    cases hl : out.getLast? with
    | none => rw [List.getLast?_eq_none_iff] at hl; subst hl; simp at hy
    | some z =>
      have hzm := List.mem_of_getLast? hl
      have hz1 : lt z e = true := by
        cases h1 : lt z e with
        | true => rfl
        | false => exact absurd (by rw [hl, eq_of_not h1 (hle z hzm)]) hne
      rcases hys out z h hl y hy with rfl | h2
      · exact hz1
      · exact lt_trans h2 hz1
theorem put_mem (out : List Ed) (e x : Ed) : x ∈ put out e ↔ x ∈ out ∨ x = e := by
  unfold put
  split
  · rename_i h
    have := List.mem_of_getLast? h
    constructor
    · exact .inl
    · rintro (h | rfl)
      · exact h
      · exact this
  · simp
/-- Two lists in order are being merged: out has what is behind. -/
structure Mg (a b : List Ed) (i k : Nat) (out : List Ed) : Prop where
  s : Str out
  m : ∀ x, x ∈ out ↔ x ∈ a.take i ∨ x ∈ b.take k
  ha : ∀ x ∈ out, ∀ y ∈ a.drop i, lt y x = false
  hb : ∀ x ∈ out, ∀ y ∈ b.drop k, lt y x = false
theorem Mg.start (a b : List Ed) : Mg a b 0 0 [] := ⟨trivial, fun x => by simp, fun x hx => by simp at hx, fun x hx => by simp at hx⟩
theorem Mg.swap {a b : List Ed} {i k : Nat} {out : List Ed} (h : Mg a b i k out) : Mg b a k i out := ⟨h.s, fun x => (h.m x).trans or_comm, h.hb, h.ha⟩
theorem Mg.left {a b : List Ed} {i k : Nat} {out : List Ed} (h : Mg a b i k out) (hsa : Str a) (hsb : Str b) {e : Ed} (he : a[i]? = some e) (hk : ∀ f, b[k]? = some f → lt f e = false) : Mg a b (i + 1) k (put out e) := by
  obtain ⟨hl, rfl⟩ := List.getElem?_eq_some_iff.1 he
  have hd : a.drop i = a[i] :: a.drop (i + 1) := List.drop_eq_getElem_cons hl
  have hstr : ∀ (l : List Ed) (n : Nat), Str l → Str (l.drop n) := fun l n hs => by
    induction n generalizing l with
    | zero => exact hs
    | succ n ih =>
      cases l with
      | nil => exact hs
      | cons c r => exact ih r hs.tail
  have h1 : Str (a[i] :: a.drop (i + 1)) := by rw [← hd]; exact hstr a i hsa
  have hbk : ∀ y ∈ b.drop k, lt y a[i] = false := fun y hy => by
    cases hb : b.drop k with
    | nil => rw [hb] at hy; simp at hy
    | cons f r =>
      have hkl : k < b.length := by
        rcases Nat.lt_or_ge k b.length with h2 | h2
        · exact h2
        · rw [List.drop_eq_nil_of_le h2] at hb; cases hb
      have hf : f = b[k] := by rw [List.drop_eq_getElem_cons hkl] at hb; exact (List.cons.inj hb).1.symm
      have h2 := hk f (by rw [hf]; exact List.getElem?_eq_getElem hkl)
      have h3 : Str (f :: r) := by rw [← hb]; exact hstr b k hsb
      rw [hb] at hy
      rcases List.mem_cons.1 hy with rfl | hy
      · exact h2
      · cases h4 : lt y a[i] with
        | false => rfl
        | true => have h5 := lt_trans (h3.head y hy) h4; rw [h2] at h5; cases h5
  have hout : ∀ x ∈ out, lt a[i] x = false := fun x hx => h.ha x hx _ (by rw [hd]; exact List.mem_cons_self)
  refine ⟨put_str h.s hout, fun x => ?_, fun x hx y hy => ?_, fun x hx y hy => ?_⟩
  · rw [put_mem, h.m, List.take_succ_eq_append_getElem hl]
    simp only [List.mem_append, List.mem_singleton]
    constructor
    · rintro ((h | h) | h) <;> simp [h]
    · rintro ((h | h) | h) <;> simp [h]
  · rcases (put_mem _ _ _).1 hx with hx | rfl
    · exact h.ha x hx y (by rw [hd]; exact List.mem_cons_of_mem _ hy)
    · exact lt_asymm (h1.head y hy)
  · rcases (put_mem _ _ _).1 hx with hx | rfl
    · exact h.hb x hx y hy
    · exact hbk y hy
/-- Is it a system? -/
def right (n k s : Int) (es : List Ed) : Bool :=
  decide (0 ≤ n ∧ n ≤ 1000 ∧ 1 ≤ k ∧ k ≤ 201 ∧ es.length ≤ 10000) && decide ((n = 0 → s = 0) ∧ (0 < n → 0 ≤ s ∧ s < n)) && es.all fun e => decide (0 ≤ e.1 ∧ e.1 < n ∧ 0 ≤ e.2.2 ∧ e.2.2 < n ∧ 0 ≤ e.2.1 ∧ e.2.1 < k)
/-- An edge turned round. -/
def turn (e : Ed) : Ed := (e.2.2, e.2.1, e.1)
/-- The place of a number in a list; the list's length, if it is not there. -/
def place (c : Int) : List Int → Nat
  | [] => 0
  | a :: r => if a = c then 0 else place c r + 1
theorem place_le (c : Int) (l : List Int) : place c l ≤ l.length := by
  induction l with
  | nil => simp [place]
  | cons a r ih => unfold place; split <;> simp <;> omega
/-- The one form of classes, behind those that were seen. -/
def canonG : List Int → List Int → List Nat
  | _, [] => []
  | seen, c :: r => place c seen :: canonG (if place c seen < seen.length then seen else seen ++ [c]) r
def canon (l : List Int) : List Nat := canonG [] l
def seenG : List Int → List Int → List Int
  | seen, [] => seen
  | seen, c :: r => seenG (if place c seen < seen.length then seen else seen ++ [c]) r
theorem canonG_len (l : List Int) : ∀ seen, (canonG seen l).length = l.length := by
  induction l with
  | nil => intro _; rfl
  | cons c r ih => intro seen; simp [canonG, ih]
theorem canonG_app (a b : List Int) : ∀ seen, canonG seen (a ++ b) = canonG seen a ++ canonG (seenG seen a) b := by
  induction a with
  | nil => intro _; rfl
  | cons c r ih => intro seen; simp only [List.cons_append, canonG, seenG]; rw [ih]
theorem seenG_app (a b : List Int) : ∀ seen, seenG seen (a ++ b) = seenG (seenG seen a) b := by
  induction a with
  | nil => intro _; rfl
  | cons c r ih => intro seen; simp only [List.cons_append, seenG]; rw [ih]
theorem seenG_len (l : List Int) : ∀ seen, (seenG seen l).length ≤ seen.length + l.length := by
  induction l with
  | nil => intro _; simp [seenG]
  | cons c r ih =>
    intro seen
    simp only [seenG]
    have h1 := ih (if place c seen < seen.length then seen else seen ++ [c])
    have h2 : (if place c seen < seen.length then seen else seen ++ [c]).length ≤ seen.length + 1 := by split <;> simp
    simp only [List.length_cons]
    omega
/-- How many classes there are. -/
def top : List Nat → Nat
  | [] => 0
  | k :: r => max (k + 1) (top r)
def together (l : List Int) : Nat := top (canon l)
/-- Are they in the one form? -/
def formG : Nat → List Int → Bool
  | _, [] => true
  | n, c :: r => decide (0 ≤ c ∧ c ≤ n) && formG (if c = (n : Int) then n + 1 else n) r
end Go.Proofs.YtpcndfffljmajaaGreatDoor.Sy
/- Contracts of the document's Canon, Together and Classes. -/
namespace Go.Proofs.YtpcndfffljmajaaGreatDoor
open Go.RowKit Go.Maps
attribute [local go_sem ↓] Go.wp_at_zero Go.wp_at_succ
namespace Sy
theorem canonG_bound (l : List Int) : ∀ seen k, k ∈ canonG seen l → k < (seenG seen l).length := by
  induction l with
  | nil => intro seen k h; simp [canonG] at h
  | cons c r ih =>
    intro seen k h
    simp only [canonG, List.mem_cons] at h
    simp only [seenG]
    have hmono : ∀ (m : List Int) (s : List Int), s.length ≤ (seenG s m).length := fun m => by
      induction m with
      | nil => intro s; simp [seenG]
      | cons d q ih2 =>
        intro s
        simp only [seenG]
        have := ih2 (if place d s < s.length then s else s ++ [d])
        have h2 : s.length ≤ (if place d s < s.length then s else s ++ [d]).length := by split <;> simp
        omega
    rcases h with rfl | h
    · have h1 := hmono r (if place c seen < seen.length then seen else seen ++ [c])
      have h2 : place c seen < (if place c seen < seen.length then seen else seen ++ [c]).length := by
        have h3 := place_le c seen
        split
        · assumption
        · simp; omega
      omega
    · exact ih _ k h
theorem place_app (c : Int) (a b : List Int) (h : ∀ x ∈ a, x ≠ c) : place c (a ++ b) = a.length + place c b := by
  induction a with
  | nil => simp
  | cons x r ih =>
    have hx := h x List.mem_cons_self
    simp only [List.cons_append, place, if_neg hx, List.length_cons]
    rw [ih fun y hy => h y (List.mem_cons_of_mem _ hy)]
    omega
theorem canon_step {zs : List Int} {i : Nat} {z : Int} (h : zs[i]? = some z) : canonG [] (zs.take (i + 1)) = canonG [] (zs.take i) ++ [place z (seenG [] (zs.take i))] := by
  obtain ⟨hl, rfl⟩ := List.getElem?_eq_some_iff.1 h
  rw [List.take_succ_eq_append_getElem hl, canonG_app]
  rfl
theorem seen_step {zs : List Int} {i : Nat} {z : Int} (h : zs[i]? = some z) : seenG [] (zs.take (i + 1)) = if place z (seenG [] (zs.take i)) < (seenG [] (zs.take i)).length then seenG [] (zs.take i) else seenG [] (zs.take i) ++ [z] := by
  obtain ⟨hl, rfl⟩ := List.getElem?_eq_some_iff.1 h
  rw [List.take_succ_eq_append_getElem hl, seenG_app]
  rfl
end Sy
/-- Numbers as cells. -/
def natC (l : List Nat) : List Value := l.map fun (k : Nat) => Value.int .i64 (k : Int)
theorem natC_len (l : List Nat) : (natC l).length = l.length := by simp [natC]
def natI (l : List Nat) : List Int := l.map fun (k : Nat) => (k : Int)
theorem iC_nat (l : List Nat) : iC (natI l) = natC l := by simp [iC, natI, natC]
theorem natC_step (C : List Nat) (n i k : Nat) (hC : C.length = i) (hi : i < n) : (natC C ++ List.replicate (n - i) (Value.int .i64 0)).set i (.int .i64 (k : Int)) = natC (C ++ [k]) ++ List.replicate (n - (i + 1)) (Value.int .i64 0) := by
  have e : n - i = (n - (i + 1)) + 1 := by omega
  rw [List.set_append_right _ _ (by rw [natC_len]; omega), natC_len, hC, Nat.sub_self, e, List.replicate_succ, List.set_cons_zero]
  simp [natC]
set_option maxRecDepth 100000 in
set_option maxHeartbeats 8000000 in
theorem refCanon_any (v : Value) (zs : List Int) (w : World) (hv : HasI w v zs) (hn : zs.length ≤ 100000) :
    Calls Tryz.prog 22 #[v] w fun e w' => ∃ u, e = .returned u ∧ OwnI w' w.heap.size u (natI (Sy.canon zs)) ∧ Below w.heap.size w w' := by
  obtain ⟨i0, hi0, hz0, hz1, hz2⟩ := info_parts Tryz.infoI4
  obtain ⟨ao, cap, rfl, hcs⟩ := hv
  obtain ⟨n, hN⟩ : ∃ n, n = zs.length := ⟨_, rfl⟩
  have HH : Hid _ := And.intro hcs hN
  rw [← hN] at hn ⊢
  clear hcs hN
  have hmk := makeI n (by omega) w
  go_enter Tryz.func22, Tryz.ntmps22
  go_wp2_with fail
  clear hmk
  go_loopg [4, 5] n (fun q sv iv wr => ∃ (i : Nat) (seen : List Int), q = n - i ∧ i ≤ n ∧ iv = .int .i64 i ∧ seen = Sy.seenG [] (zs.take i) ∧ OwnI wr (w.heap.size + 1) sv seen ∧ Arr 3 w wr w.heap.size (natC (Sy.canonG [] (zs.take i)) ++ List.replicate (n - i) (.int .i64 0)))
  case atStart => exact ⟨0, [], rfl, Nat.zero_le _, rfl, by simp [Sy.seenG], World.ownsRow_nil _ _ _ _, by simpa [Sy.canonG, natC] using arr_new 3 (.int .i64 0) rfl n w⟩
  case round =>
    obtain ⟨i, seen, rfl, hi, rfl, hseen, hO, hA⟩ := hrel
    obtain ⟨wq, rfl⟩ : ∃ wq, wq = wr := ⟨_, rfl⟩
    by_cases hlt : i < n
    · obtain ⟨z, hz⟩ : ∃ z, zs[i]? = some z := ⟨zs[i]'(by have := HH.out.2; omega), List.getElem?_eq_getElem _⟩
      obtain ⟨a, rfl, c0⟩ := HH.out.1 i z hz
      have cz : wq.cell? (a.add i) = some (.int .i64 z) := (hA.bl.cell (World.block_lt_of_cell? w _ c0)).trans c0
      have hsl : seen.length ≤ i := by
        have := Sy.seenG_len (zs.take i) []
        rw [← hseen, List.length_take] at this
        simp at this; omega
      obtain ⟨m, hm⟩ : ∃ m, m = seen.length := ⟨_, rfl⟩
      obtain ⟨as0, cs, rfl⟩ := row_shape hO
      have q0 : (0 : Int) ≤ (i : Int) := by omega
      have q1 : (i : Int) < (n : Int) := by omega
      have HO : Hid _ := And.intro hO (And.intro hA (And.intro hseen (And.intro hz hm)))
      rw [← hm]
      rw [← hm] at hsl
      clear hO hA hseen hz hm c0
      go_wp2_with fail
      go_loopg [6] m (fun q kv wr => ∃ (k d : Nat), q = m - k ∧ k ≤ m ∧ kv = .int .i64 k ∧ wr = wq.drewN d ∧ ∀ x ∈ seen.take k, x ≠ z)
      case atStart => exact ⟨0, 0, rfl, Nat.zero_le _, rfl, rfl, fun x hx => by simp at hx⟩
      case round =>
        obtain ⟨k, d, rfl, hk, rfl, rfl, hne⟩ := hrel
        have HN : Hid _ := hne
        clear hne
        by_cases hkm : k < m
        · obtain ⟨s, hs⟩ : ∃ s, seen[k]? = some s := ⟨seen[k]'(by have := HO.out.2.2.2.2; omega), List.getElem?_eq_getElem _⟩
          obtain ⟨ao2, cap2, hv2, hc2⟩ := HO.out.1.has
          injection hv2 with e1 e2 e3
          subst e1
          obtain ⟨b, rfl, cs0⟩ := hc2 k s hs
          have p0 : (0 : Int) ≤ (k : Int) := by omega
          have p1 : (k : Int) < (m : Int) := by omega
          have p2 : decide ((k : Int) < (m : Int)) = true := decide_eq_true p1
          have HS : Hid (seen[k]? = some s) := hs
          clear hs hc2 e2 e3
          by_cases hsz : s = z
          · have e1 : (s != z) = false := by simp [hsz]
            have hpl : Sy.place z seen = k := by
              have h1 := List.take_append_drop k seen
              have h2 : seen.drop k = s :: seen.drop (k + 1) := by
                obtain ⟨hl, rfl⟩ := List.getElem?_eq_some_iff.1 HS.out
                exact List.drop_eq_getElem_cons hl
              rw [← h1, Sy.place_app z _ _ HN.out, h2]
              simp only [Sy.place, if_pos hsz, List.length_take]
              have := HO.out.2.2.2.2
              omega
            have p3 : ((k : Int) == (m : Int)) = false := by simp; omega
            have cx := (HO.out.2.1).cell (i := i) (x := .int .i64 0) (by
              rw [List.getElem?_append_right (by rw [natC_len, Sy.canonG_len, List.length_take]; omega), natC_len, Sy.canonG_len, List.length_take, List.getElem?_replicate, if_pos (by have := HH.out.2; omega)])
            have cf := (HO.out.2.1).free i
            have HP : Hid _ := And.intro hpl hsz
            clear hpl hsz
            go_wp2_with fail
            go_quiet (fail)
            rw [World.drewN_drewN]
            go_wp2
            go_roundg (n - (i + 1))
            case measure => omega
            case rel =>
              have hC : (Sy.canonG [] (zs.take i)).length = i := by rw [Sy.canonG_len, List.length_take]; have := HH.out.2; omega
              have hAs := (HO.out.2.1.below (below_drewN (Below.refl _ _) (d + nq))).set i (.int .i64 (k : Int))
              rw [natC_step _ n i k hC hlt] at hAs
              refine ⟨i + 1, seen, rfl, by omega, by go_num, ?_, ?_, ?_⟩
              · rw [Sy.seen_step HO.out.2.2.2.1, ← HO.out.2.2.1, if_pos (by rw [HP.out.1]; have := HO.out.2.2.2.2; omega)]
              · have hO1 := HO.out.1
                rw [← HO.out.2.2.2.2] at hO1
                refine trow_at (w' := (wq.drewN (d + nq)).setCell ⟨w.heap.size, i, none⟩ (.int .i64 (k : Int))) hO1 fun b hb => ?_
                rw [set_other _ _ _ _ _ (by have := (hO1.lt b hb).1; omega)]
                rfl
              · rw [Sy.canon_step HO.out.2.2.2.1, ← HO.out.2.2.1, HP.out.1]
                exact hAs
          · have e1 : (s != z) = true := by simpa using hsz
            have HZ : Hid (¬ s = z) := hsz
            clear hsz
            go_wp2_with fail
            go_quiet (fail)
            rw [World.drewN_drewN]
            go_wp2
            go_roundg (m - (k + 1))
            case measure => omega
            case rel => exact ⟨k + 1, _, rfl, by omega, by go_num, rfl, fun x hx => by
              rw [take_succ_of HS.out] at hx
              rcases List.mem_append.1 hx with hx | hx
              · exact HN.out x hx
              · rw [List.mem_singleton.1 hx]; exact HZ.out⟩
        · obtain rfl : k = m := by omega
          have p1 : ¬ (k : Int) < (k : Int) := by omega
          have p2 : decide ((k : Int) < (k : Int)) = false := decide_eq_false p1
          have p3 : ((k : Int) == (k : Int)) = true := by simp
          have hpl : Sy.place z seen = k := by
            have h1 := HN.out
            rw [List.take_of_length_le (by have := HO.out.2.2.2.2; omega)] at h1
            have h2 := Sy.place_app z seen [] h1
            rw [List.append_nil] at h2
            rw [h2]; simp [Sy.place]; exact HO.out.2.2.2.2.symm
          have hml : k + 1 ≤ maxLen := by unfold maxLen; omega
          have hby : (k + 1) * 8 ≤ 140737488355328 := by omega
          have HP : Hid _ := hpl
          clear hpl
          go_wp2_with fail
          go_quiet (fail)
          rw [World.drewN_drewN]
          obtain ⟨wz, hwz⟩ : ∃ wz, wz = wq.drewN (d + nq) := ⟨_, rfl⟩
          have hbz : Below wq.heap.size wq wz := by rw [hwz]; exact below_drewN (Below.refl _ _) _
          have cz2 : wz.cell? (a.add i) = some (.int .i64 z) := (hbz.cell (World.block_lt_of_cell? wq _ cz)).trans cz
          have hAz := HO.out.2.1.below hbz
          have hOz : wz.ownsRow (w.heap.size + 1) 3 1 (.slice as0 k cs) k (iC seen) := by have h1 := trow_at (w' := wz) HO.out.1 fun b hb => hbz.block b (HO.out.1.lt b hb).2; rw [← HO.out.2.2.2.2] at h1; exact h1
          rw [← hwz]
          have hle : w.heap.size + 1 ≤ (wz.alloc (.cells #[.int .i64 z] 3)).heap.size := by have := hAz.lt; simp; omega
          have HZ : Hid _ := And.intro hAz hOz
          clear hwz hbz hAz hOz cz
          go_wp2_with (at_builtin; refine wpList_append_own_at _ rfl _ _ 22 rfl (w.heap.size + 1) 3 i0 (.int .i64 0) 1 8 Tryz.underlying22 hi0 hz0 hz1 hz2 rfl (by decide) (.slice as0 k cs) k (iC seen) rfl (HZ.out.2.alloc _) ⟨wz.heap.size, 0, none⟩ 1 1 [.int .i64 z] rfl rfl (World.news_of_block (cs := #[.int .i64 z]) (t := 3) (fr := (0, 0)) (heap_alloc_new wz _)) (by simp [Value.oneCell']) hml hby hle ?_; intro v2 w2 hown2 hgrow2 hnil2 hat2; have hA2 : Arr 3 w w2 w.heap.size (natC (Sy.canonG [] (zs.take i)) ++ List.replicate (n - i) (.int .i64 0)) := HZ.out.1.kept (grown_alloc hgrow2) (fun b hb => by have := (HZ.out.2.lt b hb).1; omega); have cx := hA2.cell (i := i) (x := .int .i64 0) (by rw [List.getElem?_append_right (by rw [natC_len, Sy.canonG_len, List.length_take]; omega), natC_len, Sy.canonG_len, List.length_take, List.getElem?_replicate, if_pos (by have := HH.out.2; omega)]); have cf := hA2.free i; have H2 : Hid _ := And.intro hown2 hA2; clear hown2 hgrow2 hnil2 hat2 hA2)
          go_roundg (n - (i + 1))
          case measure => omega
          case rel =>
            have hC : (Sy.canonG [] (zs.take i)).length = i := by rw [Sy.canonG_len, List.length_take]; have := HH.out.2; omega
            have hAs := H2.out.2.set i (.int .i64 (k : Int))
            rw [natC_step _ n i k hC hlt] at hAs
            refine ⟨i + 1, seen ++ [z], rfl, by omega, by go_num, ?_, ?_, ?_⟩
            · rw [Sy.seen_step HO.out.2.2.2.1, ← HO.out.2.2.1, if_neg (by rw [HP.out]; have := HO.out.2.2.2.2; omega)]
            · have h1 : w2.ownsRow (w.heap.size + 1) 3 1 v2 (k + 1) (iC seen ++ [.int .i64 z]) := H2.out.1
              have h2 : OwnI w2 (w.heap.size + 1) v2 (seen ++ [z]) := by unfold OwnI; rw [iC_snoc, List.length_append, ← HO.out.2.2.2.2]; exact h1
              exact trow_at h2 fun b hb => set_other _ _ _ _ _ (by have := (h2.lt b hb).1; omega)
            · rw [Sy.canon_step HO.out.2.2.2.1, ← HO.out.2.2.1, HP.out]
              exact hAs
    · obtain rfl : i = n := by omega
      have q1 : ¬ (i : Int) < (i : Int) := by omega
      have HA : Hid _ := hA
      clear hA hO hseen
      go_wp2_with fail
      go_ret
      have hzt : zs.take i = zs := List.take_of_length_le (by have := HH.out.2; omega)
      have h1 := HA.out.own (by rw [List.length_append, natC_len, Sy.canonG_len, List.length_replicate, List.length_take]; unfold maxLen; omega)
      rw [hzt, Nat.sub_self, List.replicate_zero, List.append_nil, natC_len, Sy.canonG_len, ← HH.out.2] at h1
      refine ⟨_, rfl, ?_, HA.out.bl⟩
      unfold OwnI
      rw [iC_nat]
      have h2 : (natI (Sy.canon zs)).length = i := by unfold natI Sy.canon; rw [List.length_map, Sy.canonG_len]; exact HH.out.2.symm
      rw [h2]
      exact h1
end Go.Proofs.YtpcndfffljmajaaGreatDoor
