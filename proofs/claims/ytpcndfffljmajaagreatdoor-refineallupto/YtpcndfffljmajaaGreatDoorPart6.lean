/- Texts of this claim, joined: RfDoc5, RfDoc6, RfLay0. -/
import Derived.Test.YtpcndfffljmajaaGreatDoorPart5
import Derived.Test.YtpcndfffljmajaaGreatDoorPart1
/- The document's partition of chapter 8: Split. -/
namespace Go.Proofs.YtpcndfffljmajaaGreatDoor
open Go.RowKit Go.Maps
attribute [local go_sem ↓] Go.wp_at_zero Go.wp_at_succ
theorem Dd.setN {wr : World} {x0 x4 : Value} {rb ro bB bM : Nat} {vB vM : Value} {N nb : Nat} {O : Nat → Nat} {bs : Nat → Bool} (h : Dd wr x0 x4 rb ro bB bM vB vM N nb O bs) : Dd (wr.setCell ⟨rb, ro + 2, none⟩ (.int .i64 ((nb : Int) + 1))) x0 x4 rb ro bB bM vB vM N (nb + 1) O bs := by
  have hk := Kept.setCell wr rb (ro + 2) (.int .i64 ((nb : Int) + 1))
  have hn2 := h.n2
  have hn3 := h.n3
  refine ⟨?_, ?_, ?_, by rw [World.frozen?_setCell]; exact h.fN, h.sB, h.sM, fun e he => ⟨cellk (h.rB e he).1 hk (fun q => hn2 q.symm), frz_kept (h.rB e he).1 (h.rB e he).2 hk (fun q => hn2 q.symm)⟩, fun e he => ⟨cellk (h.rM e he).1 hk (fun q => hn3 q.symm), frz_kept (h.rM e he).1 (h.rM e he).2 hk (fun q => hn3 q.symm)⟩, h.n1, h.n2, h.n3, ⟨?_, h.tR.2⟩, fun hN => typed_set (h.tB hN) _ _, fun hN => typed_set (h.tM hN) _ _⟩
  · have hne : (⟨rb, ro + 2, none⟩ : Addr) ≠ ⟨rb, ro, none⟩ := by simp
    rw [World.cell?_setCell_other _ _ _ _ hne]; exact h.cB
  · have hne : (⟨rb, ro + 2, none⟩ : Addr) ≠ ⟨rb, ro + 1, none⟩ := by simp
    rw [World.cell?_setCell_other _ _ _ _ hne]; exact h.cM
  · rw [World.cell?_setCell_same (h := h.cN)]
    rfl
  · have h9 := heap_setCell_same wr rb (ro + 2) _ _ (.int .i64 ((nb : Int) + 1)) h.tR.1
    rw [h.tR.2] at h9 ⊢
    exact h9
set_option maxRecDepth 100000 in
set_option maxHeartbeats 8000000 in
set_option linter.unusedSimpArgs false in
theorem rSplit_any (x0 x4 : Value) (rb ro bB bM : Nat) (vB vM : Value) (N nb : Nat) (O : Nat → Nat) (bs : Nat → Bool) (b : Int) (w : World) (h : Dd w x0 x4 rb ro bB bM vB vM N nb O bs) (hN : N ≤ 2000) (hnb : nb ≤ 2000) (sp mv : Bool) (hsp : sp = decide (0 < dMk O bs b N ∧ dMk O bs b N < (dMem O b N).length)) (hmv : mv = decide (2 * dMk O bs b N ≤ (dMem O b N).length)) :
    Calls Tryz.prog 26 #[.pointer (some ⟨rb, ro, none⟩), .int .i64 b] w fun r w' => r = .returned (.tuple #[.int .i64 (if sp then nb else 0 : Nat), .bool sp]) ∧ ∃ O' bs', Dd w' x0 x4 rb ro bB bM vB vM N (if sp then nb + 1 else nb) O' bs' ∧ Kept (fun i => i = bB ∨ i = bM ∨ i = rb) w w' ∧ (∀ e, e < N → O' e = (if (O e : Int) = b ∧ sp = true ∧ bs e = mv then nb else O e) ∧ bs' e = (bs e && decide (¬ (O e : Int) = b))) := by
  have hMe := rMembers_any rb ro vB vM N nb O bs b w h.dc hN
  have hml := dMem_len O b N
  have hkl := dMk_le O bs b N
  obtain ⟨K, hK⟩ : ∃ K, K = (dMem O b N).length := ⟨_, rfl⟩
  obtain ⟨m, hm⟩ : ∃ m, m = dMk O bs b N := ⟨_, rfl⟩
  have hMk : ∀ W, Below w.heap.size w W → Calls Tryz.prog 36 #[.pointer (some ⟨rb, ro, none⟩), .int .i64 b] W fun r w' => r = .returned (.int .i64 m) ∧ w' = W := fun W hW => by rw [hm]; exact rMarks_any rb ro vB vM N nb O bs b W (h.dc.below hW) hN
  rw [← hK, ← hm] at hsp hmv
  rw [← hK] at hml
  rw [← hm] at hkl
  have H : Hid _ := And.intro hMe (And.intro hMk (And.intro h hK))
  have q1 : IntKind.i64.wrap (2 * (m : Int)) = 2 * (m : Int) := by rw [IntKind.wrap_i64]; omega
  clear hMe hMk h hK hm
  cases sp with
  | false =>
    have hsp' : ¬ (0 < m ∧ m < K) := of_decide_eq_false hsp.symm
    have hmv' : decide (2 * (m : Int) ≤ (K : Int)) = mv := by rw [hmv]; exact decide_eq_decide.2 (by omega)
    clear hsp hmv
    by_cases hm0 : 0 < m
    · have r1 : (0 : Int) < (m : Int) := by omega
      have r2 : ¬ (m : Int) < (K : Int) := by omega
      have r3 : decide ((m : Int) < (K : Int)) = false := decide_eq_false r2
      have r4 : decide (m < K) = false := decide_eq_false (by omega)
      have r5 : ¬ m < K := by omega
      go_enter Tryz.func26, Tryz.ntmps26
      go_wp2_with (first
        | (go_at_call 37; refine Calls.mono H.out.1 ?_; rintro r w1 ⟨u, rfl, hu1, hb1⟩; obtain ⟨au, cu1, hue⟩ := row_shape hu1; rw [← H.out.2.2.2] at hue; subst hue; have H1 : Hid _ := And.intro hu1 hb1; clear hu1 hb1)
        | (go_at_call 36; refine Calls.mono (H.out.2.1 _ H1.out.2) ?_; rintro r w2 ⟨rfl, hw2⟩; obtain rfl := hw2.symm; clear hw2))
      obtain ⟨wq, hwq⟩ : ∃ wq, wq = w1 := ⟨_, rfl⟩
      subst hwq
      go_loopg [10] K (fun q kv wr => ∃ (j : Nat) (O' : Nat → Nat) (bs' : Nat → Bool), kv = .int .i64 j ∧ j ≤ K ∧ K - j ≤ q ∧ Sp wr x0 x4 rb ro bB bM vB vM N nb O bs b false mv j O' bs' ∧ Kept (fun i => i = bB ∨ i = bM) wq wr)
      case atStart => exact ⟨0, O, bs, rfl, Nat.zero_le _, Nat.le_refl _, ⟨H.out.2.2.1.kept (F := fun _ => False) (Kept.of_below H1.out.2) (fun h => h) (fun h => h) (fun h => h), fun _ _ _ => ⟨rfl, rfl⟩, fun _ _ _ => ⟨fun h => absurd h (Nat.not_lt_zero _), fun _ => ⟨rfl, rfl⟩⟩⟩, Kept.refl _ _⟩
      case round =>
        obtain ⟨j, O', bs', rfl, hj, hqj, hSp, hKp⟩ := hrel
        by_cases hjK : j < K
        · have p3 : (j : Int) < (K : Int) := by omega
          have p4 : (0 : Int) ≤ (j : Int) := by omega
          obtain ⟨z, hz⟩ : ∃ z, (dMem O b N)[j]? = some z := ⟨_, List.getElem?_eq_getElem (by have := H.out.2.2.2; omega)⟩
          obtain ⟨e, heN, hoe, rfl⟩ := dMem_at (List.mem_of_getElem? hz)
          obtain ⟨gl, cp, hue, hru, hgl⟩ := row_of H1.out.1 (by have := H.out.2.2.2; omega)
          injection hue with hu1 hu2 hu3
          subst hu1
          obtain ⟨aB, kB, hvB, haB⟩ := hSp.dd.sB
          obtain ⟨aM, kM, hvM, haM⟩ := hSp.dd.sM
          have haB' := haB (by omega)
          have haM' := haM (by omega)
          subst haB' haM'
          have c1 := hSp.dd.cB
          rw [hvB] at c1
          have c2 := hSp.dd.cM
          rw [hvM] at c2
          have c3 := hSp.dd.cN
          have hlB : bB < w.heap.size := World.block_lt_of_cell? w _ (H.out.2.2.1.rB e heN).1
          have hlM : bM < w.heap.size := World.block_lt_of_cell? w _ (H.out.2.2.1.rM e heN).1
          have t1 := cellk (hru j _ hz) hKp (by omega)
          obtain ⟨t2, f2⟩ := hSp.dd.rM e heN
          obtain ⟨t3, f3⟩ := hSp.dd.rB e heN
          obtain ⟨x1, x2⟩ := (hSp.met j e hz).2 (Nat.le_refl _)
          rw [x2] at t2
          have e0 : (0 : Int) ≤ (e : Int) := by omega
          have e1 : (e : Int) < (N : Int) := by omega
          have HJ : Hid (Sp wr x0 x4 rb ro bB bM vB vM N nb O bs b false mv j O' bs' ∧ Kept (fun i => i = bB ∨ i = bM) wq wr ∧ (dMem O b N)[j]? = some (e : Int)) := ⟨hSp, hKp, hz⟩
          have d1 : ¬ bB = bM := hSp.dd.n1
          have d2 : ¬ bM = bB := fun q => d1 q.symm
          have d3 : ¬ rb = bB := hSp.dd.n2
          have d4 : ¬ bB = rb := fun q => d3 q.symm
          have d5 : ¬ rb = bM := hSp.dd.n3
          have d6 : ¬ bM = rb := fun q => d5 q.symm
          have d7 : ¬ gl = bB := by omega
          have d8 : ¬ bB = gl := by omega
          have d9 : ¬ gl = bM := by omega
          have d0 : ¬ bM = gl := by omega
          clear hSp hKp hz hru hgl hvB hvM haB haM x1 x2 hoe hu2 hu3
          generalize O' e = oe at t3
          go_upto_region 7 with fail
          have hdr := (Below.refl wr.heap.size wr).drew
          have t1 := cellu t1 hdr
          have c2 := cellu c2 hdr
          have t2 := cellu t2 hdr
          have HF2 : wr.drew.frozen? ⟨bM, e, none⟩ = false := f2
          clear hdr c1 t3 f3 c3
          refine wp_region_held_drew (S := (fun w' => True ∧ True)) (by kernel_rfl) ?_ (fun hHeld => ?_)
          · exact ⟨trivial, trivial⟩
          refine wpAnyH_take (i := 0) (oi := _) (v := ?_) rfl (by kernel_rfl) (by kernel_rfl) (by kernel_rfl) (fun _ _ _ h => h) (Or.inl ⟨by rfl, ?_⟩) (by assumption) ?_
          rotate_left
          · (intro w hSw; (try dsimp only at hSw); go_simp; (try with_reducible rfl))
          (try simp only [List.getElem_toArray, List.getElem_cons_succ, List.getElem_cons_zero, Act.put, List.setIfInBounds_toArray, List.set_cons_zero, List.set_cons_succ])
          refine wpAnyH_take (i := 1) (oi := _) (v := ?_) rfl (by kernel_rfl) (by kernel_rfl) (by kernel_rfl) (fun _ _ _ h => h) (Or.inl ⟨by rfl, ?_⟩) (by assumption) ?_
          rotate_left
          · (intro w hSw; (try dsimp only at hSw); go_simp; (try with_reducible rfl))
          (try simp only [List.getElem_toArray, List.getElem_cons_succ, List.getElem_cons_zero, Act.put, List.setIfInBounds_toArray, List.set_cons_zero, List.set_cons_succ])
          refine wpAnyH_take (i := 2) (oi := _) (v := undef) rfl (by kernel_rfl) (by kernel_rfl) (by kernel_rfl) (fun _ _ _ h => h) (Or.inr ⟨by rfl, rfl⟩) (by assumption) ?_
          (try simp only [List.getElem_toArray, List.getElem_cons_succ, List.getElem_cons_zero, Act.put, List.setIfInBounds_toArray, List.set_cons_zero, List.set_cons_succ])
          refine wpAnyH_take (i := 3) (oi := _) (v := undef) rfl (by kernel_rfl) (by kernel_rfl) (by kernel_rfl) (fun _ _ _ h => h) (Or.inr ⟨by rfl, rfl⟩) (by assumption) ?_
          (try simp only [List.getElem_toArray, List.getElem_cons_succ, List.getElem_cons_zero, Act.put, List.setIfInBounds_toArray, List.set_cons_zero, List.set_cons_succ])
          refine wpAnyH_take (i := 4) (oi := _) (v := undef) rfl (by kernel_rfl) (by kernel_rfl) (by kernel_rfl) (fun _ _ _ h => h) (Or.inr ⟨by rfl, rfl⟩) (by assumption) ?_
          (try simp only [List.getElem_toArray, List.getElem_cons_succ, List.getElem_cons_zero, Act.put, List.setIfInBounds_toArray, List.set_cons_zero, List.set_cons_succ])
          refine wpAnyH_take (i := 5) (oi := _) (v := undef) rfl (by kernel_rfl) (by kernel_rfl) (by kernel_rfl) (fun _ _ _ h => h) (Or.inr ⟨by rfl, rfl⟩) (by assumption) ?_
          (try simp only [List.getElem_toArray, List.getElem_cons_succ, List.getElem_cons_zero, Act.put, List.setIfInBounds_toArray, List.set_cons_zero, List.set_cons_succ])
          refine wpAnyH_take (i := 6) (oi := _) (v := undef) rfl (by kernel_rfl) (by kernel_rfl) (by kernel_rfl) (fun _ _ _ h => h) (Or.inr ⟨by rfl, rfl⟩) (by assumption) ?_
          (try simp only [List.getElem_toArray, List.getElem_cons_succ, List.getElem_cons_zero, Act.put, List.setIfInBounds_toArray, List.set_cons_zero, List.set_cons_succ])
          refine wpAnyH_take (i := 7) (oi := _) (v := undef) rfl (by kernel_rfl) (by kernel_rfl) (by kernel_rfl) (fun _ _ _ h => h) (Or.inr ⟨by rfl, rfl⟩) (by assumption) ?_
          (try simp only [List.getElem_toArray, List.getElem_cons_succ, List.getElem_cons_zero, Act.put, List.setIfInBounds_toArray, List.set_cons_zero, List.set_cons_succ])
          refine wpAnyH_take (i := 8) (oi := _) (v := undef) rfl (by kernel_rfl) (by kernel_rfl) (by kernel_rfl) (fun _ _ _ h => h) (Or.inr ⟨by rfl, rfl⟩) (by assumption) ?_
          (try simp only [List.getElem_toArray, List.getElem_cons_succ, List.getElem_cons_zero, Act.put, List.setIfInBounds_toArray, List.set_cons_zero, List.set_cons_succ])
          refine wpAnyH_take (i := 9) (oi := _) (v := undef) rfl (by kernel_rfl) (by kernel_rfl) (by kernel_rfl) (fun _ _ _ h => h) (Or.inr ⟨by rfl, rfl⟩) (by assumption) ?_
          (try simp only [List.getElem_toArray, List.getElem_cons_succ, List.getElem_cons_zero, Act.put, List.setIfInBounds_toArray, List.set_cons_zero, List.set_cons_succ])
          refine wpAnyH_take (i := 10) (oi := _) (v := undef) rfl (by kernel_rfl) (by kernel_rfl) (by kernel_rfl) (fun _ _ _ h => h) (Or.inr ⟨by rfl, rfl⟩) (by assumption) ?_
          (try simp only [List.getElem_toArray, List.getElem_cons_succ, List.getElem_cons_zero, Act.put, List.setIfInBounds_toArray, List.set_cons_zero, List.set_cons_succ])
          refine wpAnyH_take (i := 11) (oi := _) (v := undef) rfl (by kernel_rfl) (by kernel_rfl) (by kernel_rfl) (fun _ _ _ h => h) (Or.inr ⟨by rfl, rfl⟩) (by assumption) ?_
          (try simp only [List.getElem_toArray, List.getElem_cons_succ, List.getElem_cons_zero, Act.put, List.setIfInBounds_toArray, List.set_cons_zero, List.set_cons_succ])
          refine wpAnyH_take (i := 12) (oi := _) (v := undef) rfl (by kernel_rfl) (by kernel_rfl) (by kernel_rfl) (fun _ _ _ h => h) (Or.inr ⟨by rfl, rfl⟩) (by assumption) ?_
          (try simp only [List.getElem_toArray, List.getElem_cons_succ, List.getElem_cons_zero, Act.put, List.setIfInBounds_toArray, List.set_cons_zero, List.set_cons_succ])
          refine wpAnyH_take (i := 13) (oi := _) (v := undef) rfl (by kernel_rfl) (by kernel_rfl) (by kernel_rfl) (fun _ _ _ h => h) (Or.inr ⟨by rfl, rfl⟩) (by assumption) ?_
          (try simp only [List.getElem_toArray, List.getElem_cons_succ, List.getElem_cons_zero, Act.put, List.setIfInBounds_toArray, List.set_cons_zero, List.set_cons_succ])
          refine wpAnyH_take (i := 14) (oi := _) (v := ?_) rfl (by kernel_rfl) (by kernel_rfl) (by kernel_rfl) (fun _ _ _ h => h) (Or.inl ⟨by rfl, ?_⟩) (by assumption) ?_
          rotate_left
          · (intro w hSw; (try dsimp only at hSw); go_simp; (try with_reducible rfl))
          (try simp only [List.getElem_toArray, List.getElem_cons_succ, List.getElem_cons_zero, Act.put, List.setIfInBounds_toArray, List.set_cons_zero, List.set_cons_succ])
          refine wpAnyH_done (by kernel_rfl) ?_ _
          clear hHeld
          go_wp2_with fail
          go_region
          all_goals go_wp2_with fail
          all_goals
            go_roundg (K - (j + 1))
            case measure => omega
            case rel =>
              have hdd := (HJ.out.1.dd.kept (F := fun _ => False) (Kept.of_below (Below.refl wr.heap.size wr).drew) (fun h => h) (fun h => h) (fun h => h)).setM heN false
              have hdd2 := hdd.kept (F := fun _ => False) (Kept.of_below (Below.refl _ _).drew) (fun h => h) (fun h => h) (fun h => h)
              refine ⟨j + 1, O', upd bs' e false, by go_num, by omega, Nat.le_refl _, HJ.out.1.next HJ.out.2.2 O' (by simp) (by first | exact hdd | exact hdd2), ?_⟩
              exact (HJ.out.2.1.trans (Kept.of_below (Below.refl _ _).drew)).trans (by first | exact (Kept.setCell _ _ _ _).mono (fun q _ h => Or.inr h) | exact ((Kept.setCell _ _ _ _).mono (fun q _ h => Or.inr h)).trans (Kept.of_below (Below.refl _ _).drew))
        · have p3 : ¬ (j : Int) < (K : Int) := by omega
          have hjK' : j = K := by omega
          rw [hjK'] at hSp
          have hdn := hSp.done H.out.2.2.2
          have HJ : Hid (Sp wr x0 x4 rb ro bB bM vB vM N nb O bs b false mv K O' bs' ∧ Kept (fun i => i = bB ∨ i = bM) wq wr) := ⟨hSp, hKp⟩
          have c3 := hSp.dd.cN
          have f3 := hSp.dd.fN
          have HD : Hid _ := And.intro hdn trivial
          clear hSp hKp hdn
          go_wp2_with fail
          go_ret2
          refine ⟨rfl, O', bs', HJ.out.1.dd, ((Kept.of_below H1.out.2).trans HJ.out.2).mono (fun q _ h => by rcases h with h | h; exact Or.inl h; exact Or.inr (Or.inl h)), fun e he => by have h9 := HD.out.1 e he; simpa using h9⟩
    · have r1 : ¬ (0 : Int) < (m : Int) := by omega
      have r3 : decide ((0 : Int) < (m : Int)) = false := decide_eq_false r1
      have r4 : decide (0 < m) = false := decide_eq_false hm0
      go_enter Tryz.func26, Tryz.ntmps26
      go_wp2_with (first
        | (go_at_call 37; refine Calls.mono H.out.1 ?_; rintro r w1 ⟨u, rfl, hu1, hb1⟩; obtain ⟨au, cu1, hue⟩ := row_shape hu1; rw [← H.out.2.2.2] at hue; subst hue; have H1 : Hid _ := And.intro hu1 hb1; clear hu1 hb1)
        | (go_at_call 36; refine Calls.mono (H.out.2.1 _ H1.out.2) ?_; rintro r w2 ⟨rfl, hw2⟩; obtain rfl := hw2.symm; clear hw2))
      obtain ⟨wq, hwq⟩ : ∃ wq, wq = w1 := ⟨_, rfl⟩
      subst hwq
      go_loopg [10] K (fun q kv wr => ∃ (j : Nat) (O' : Nat → Nat) (bs' : Nat → Bool), kv = .int .i64 j ∧ j ≤ K ∧ K - j ≤ q ∧ Sp wr x0 x4 rb ro bB bM vB vM N nb O bs b false mv j O' bs' ∧ Kept (fun i => i = bB ∨ i = bM) wq wr)
      case atStart => exact ⟨0, O, bs, rfl, Nat.zero_le _, Nat.le_refl _, ⟨H.out.2.2.1.kept (F := fun _ => False) (Kept.of_below H1.out.2) (fun h => h) (fun h => h) (fun h => h), fun _ _ _ => ⟨rfl, rfl⟩, fun _ _ _ => ⟨fun h => absurd h (Nat.not_lt_zero _), fun _ => ⟨rfl, rfl⟩⟩⟩, Kept.refl _ _⟩
      case round =>
        obtain ⟨j, O', bs', rfl, hj, hqj, hSp, hKp⟩ := hrel
        by_cases hjK : j < K
        · have p3 : (j : Int) < (K : Int) := by omega
          have p4 : (0 : Int) ≤ (j : Int) := by omega
          obtain ⟨z, hz⟩ : ∃ z, (dMem O b N)[j]? = some z := ⟨_, List.getElem?_eq_getElem (by have := H.out.2.2.2; omega)⟩
          obtain ⟨e, heN, hoe, rfl⟩ := dMem_at (List.mem_of_getElem? hz)
          obtain ⟨gl, cp, hue, hru, hgl⟩ := row_of H1.out.1 (by have := H.out.2.2.2; omega)
          injection hue with hu1 hu2 hu3
          subst hu1
          obtain ⟨aB, kB, hvB, haB⟩ := hSp.dd.sB
          obtain ⟨aM, kM, hvM, haM⟩ := hSp.dd.sM
          have haB' := haB (by omega)
          have haM' := haM (by omega)
          subst haB' haM'
          have c1 := hSp.dd.cB
          rw [hvB] at c1
          have c2 := hSp.dd.cM
          rw [hvM] at c2
          have c3 := hSp.dd.cN
          have hlB : bB < w.heap.size := World.block_lt_of_cell? w _ (H.out.2.2.1.rB e heN).1
          have hlM : bM < w.heap.size := World.block_lt_of_cell? w _ (H.out.2.2.1.rM e heN).1
          have t1 := cellk (hru j _ hz) hKp (by omega)
          obtain ⟨t2, f2⟩ := hSp.dd.rM e heN
          obtain ⟨t3, f3⟩ := hSp.dd.rB e heN
          obtain ⟨x1, x2⟩ := (hSp.met j e hz).2 (Nat.le_refl _)
          rw [x2] at t2
          have e0 : (0 : Int) ≤ (e : Int) := by omega
          have e1 : (e : Int) < (N : Int) := by omega
          have HJ : Hid (Sp wr x0 x4 rb ro bB bM vB vM N nb O bs b false mv j O' bs' ∧ Kept (fun i => i = bB ∨ i = bM) wq wr ∧ (dMem O b N)[j]? = some (e : Int)) := ⟨hSp, hKp, hz⟩
          have d1 : ¬ bB = bM := hSp.dd.n1
          have d2 : ¬ bM = bB := fun q => d1 q.symm
          have d3 : ¬ rb = bB := hSp.dd.n2
          have d4 : ¬ bB = rb := fun q => d3 q.symm
          have d5 : ¬ rb = bM := hSp.dd.n3
          have d6 : ¬ bM = rb := fun q => d5 q.symm
          have d7 : ¬ gl = bB := by omega
          have d8 : ¬ bB = gl := by omega
          have d9 : ¬ gl = bM := by omega
          have d0 : ¬ bM = gl := by omega
          clear hSp hKp hz hru hgl hvB hvM haB haM x1 x2 hoe hu2 hu3
          generalize O' e = oe at t3
          go_upto_region 7 with fail
          have hdr := (Below.refl wr.heap.size wr).drew
          have t1 := cellu t1 hdr
          have c2 := cellu c2 hdr
          have t2 := cellu t2 hdr
          have HF2 : wr.drew.frozen? ⟨bM, e, none⟩ = false := f2
          clear hdr c1 t3 f3 c3
          refine wp_region_held_drew (S := (fun w' => True ∧ True)) (by kernel_rfl) ?_ (fun hHeld => ?_)
          · exact ⟨trivial, trivial⟩
          refine wpAnyH_take (i := 0) (oi := _) (v := ?_) rfl (by kernel_rfl) (by kernel_rfl) (by kernel_rfl) (fun _ _ _ h => h) (Or.inl ⟨by rfl, ?_⟩) (by assumption) ?_
          rotate_left
          · (intro w hSw; (try dsimp only at hSw); go_simp; (try with_reducible rfl))
          (try simp only [List.getElem_toArray, List.getElem_cons_succ, List.getElem_cons_zero, Act.put, List.setIfInBounds_toArray, List.set_cons_zero, List.set_cons_succ])
          refine wpAnyH_take (i := 1) (oi := _) (v := ?_) rfl (by kernel_rfl) (by kernel_rfl) (by kernel_rfl) (fun _ _ _ h => h) (Or.inl ⟨by rfl, ?_⟩) (by assumption) ?_
          rotate_left
          · (intro w hSw; (try dsimp only at hSw); go_simp; (try with_reducible rfl))
          (try simp only [List.getElem_toArray, List.getElem_cons_succ, List.getElem_cons_zero, Act.put, List.setIfInBounds_toArray, List.set_cons_zero, List.set_cons_succ])
          refine wpAnyH_take (i := 2) (oi := _) (v := undef) rfl (by kernel_rfl) (by kernel_rfl) (by kernel_rfl) (fun _ _ _ h => h) (Or.inr ⟨by rfl, rfl⟩) (by assumption) ?_
          (try simp only [List.getElem_toArray, List.getElem_cons_succ, List.getElem_cons_zero, Act.put, List.setIfInBounds_toArray, List.set_cons_zero, List.set_cons_succ])
          refine wpAnyH_take (i := 3) (oi := _) (v := undef) rfl (by kernel_rfl) (by kernel_rfl) (by kernel_rfl) (fun _ _ _ h => h) (Or.inr ⟨by rfl, rfl⟩) (by assumption) ?_
          (try simp only [List.getElem_toArray, List.getElem_cons_succ, List.getElem_cons_zero, Act.put, List.setIfInBounds_toArray, List.set_cons_zero, List.set_cons_succ])
          refine wpAnyH_take (i := 4) (oi := _) (v := undef) rfl (by kernel_rfl) (by kernel_rfl) (by kernel_rfl) (fun _ _ _ h => h) (Or.inr ⟨by rfl, rfl⟩) (by assumption) ?_
          (try simp only [List.getElem_toArray, List.getElem_cons_succ, List.getElem_cons_zero, Act.put, List.setIfInBounds_toArray, List.set_cons_zero, List.set_cons_succ])
          refine wpAnyH_take (i := 5) (oi := _) (v := undef) rfl (by kernel_rfl) (by kernel_rfl) (by kernel_rfl) (fun _ _ _ h => h) (Or.inr ⟨by rfl, rfl⟩) (by assumption) ?_
          (try simp only [List.getElem_toArray, List.getElem_cons_succ, List.getElem_cons_zero, Act.put, List.setIfInBounds_toArray, List.set_cons_zero, List.set_cons_succ])
          refine wpAnyH_take (i := 6) (oi := _) (v := undef) rfl (by kernel_rfl) (by kernel_rfl) (by kernel_rfl) (fun _ _ _ h => h) (Or.inr ⟨by rfl, rfl⟩) (by assumption) ?_
          (try simp only [List.getElem_toArray, List.getElem_cons_succ, List.getElem_cons_zero, Act.put, List.setIfInBounds_toArray, List.set_cons_zero, List.set_cons_succ])
          refine wpAnyH_take (i := 7) (oi := _) (v := undef) rfl (by kernel_rfl) (by kernel_rfl) (by kernel_rfl) (fun _ _ _ h => h) (Or.inr ⟨by rfl, rfl⟩) (by assumption) ?_
          (try simp only [List.getElem_toArray, List.getElem_cons_succ, List.getElem_cons_zero, Act.put, List.setIfInBounds_toArray, List.set_cons_zero, List.set_cons_succ])
          refine wpAnyH_take (i := 8) (oi := _) (v := undef) rfl (by kernel_rfl) (by kernel_rfl) (by kernel_rfl) (fun _ _ _ h => h) (Or.inr ⟨by rfl, rfl⟩) (by assumption) ?_
          (try simp only [List.getElem_toArray, List.getElem_cons_succ, List.getElem_cons_zero, Act.put, List.setIfInBounds_toArray, List.set_cons_zero, List.set_cons_succ])
          refine wpAnyH_take (i := 9) (oi := _) (v := undef) rfl (by kernel_rfl) (by kernel_rfl) (by kernel_rfl) (fun _ _ _ h => h) (Or.inr ⟨by rfl, rfl⟩) (by assumption) ?_
          (try simp only [List.getElem_toArray, List.getElem_cons_succ, List.getElem_cons_zero, Act.put, List.setIfInBounds_toArray, List.set_cons_zero, List.set_cons_succ])
          refine wpAnyH_take (i := 10) (oi := _) (v := undef) rfl (by kernel_rfl) (by kernel_rfl) (by kernel_rfl) (fun _ _ _ h => h) (Or.inr ⟨by rfl, rfl⟩) (by assumption) ?_
          (try simp only [List.getElem_toArray, List.getElem_cons_succ, List.getElem_cons_zero, Act.put, List.setIfInBounds_toArray, List.set_cons_zero, List.set_cons_succ])
          refine wpAnyH_take (i := 11) (oi := _) (v := undef) rfl (by kernel_rfl) (by kernel_rfl) (by kernel_rfl) (fun _ _ _ h => h) (Or.inr ⟨by rfl, rfl⟩) (by assumption) ?_
          (try simp only [List.getElem_toArray, List.getElem_cons_succ, List.getElem_cons_zero, Act.put, List.setIfInBounds_toArray, List.set_cons_zero, List.set_cons_succ])
          refine wpAnyH_take (i := 12) (oi := _) (v := undef) rfl (by kernel_rfl) (by kernel_rfl) (by kernel_rfl) (fun _ _ _ h => h) (Or.inr ⟨by rfl, rfl⟩) (by assumption) ?_
          (try simp only [List.getElem_toArray, List.getElem_cons_succ, List.getElem_cons_zero, Act.put, List.setIfInBounds_toArray, List.set_cons_zero, List.set_cons_succ])
          refine wpAnyH_take (i := 13) (oi := _) (v := undef) rfl (by kernel_rfl) (by kernel_rfl) (by kernel_rfl) (fun _ _ _ h => h) (Or.inr ⟨by rfl, rfl⟩) (by assumption) ?_
          (try simp only [List.getElem_toArray, List.getElem_cons_succ, List.getElem_cons_zero, Act.put, List.setIfInBounds_toArray, List.set_cons_zero, List.set_cons_succ])
          refine wpAnyH_take (i := 14) (oi := _) (v := ?_) rfl (by kernel_rfl) (by kernel_rfl) (by kernel_rfl) (fun _ _ _ h => h) (Or.inl ⟨by rfl, ?_⟩) (by assumption) ?_
          rotate_left
          · (intro w hSw; (try dsimp only at hSw); go_simp; (try with_reducible rfl))
          (try simp only [List.getElem_toArray, List.getElem_cons_succ, List.getElem_cons_zero, Act.put, List.setIfInBounds_toArray, List.set_cons_zero, List.set_cons_succ])
          refine wpAnyH_done (by kernel_rfl) ?_ _
          clear hHeld
          go_wp2_with fail
          go_region
          all_goals go_wp2_with fail
          all_goals
            go_roundg (K - (j + 1))
            case measure => omega
            case rel =>
              have hdd := (HJ.out.1.dd.kept (F := fun _ => False) (Kept.of_below (Below.refl wr.heap.size wr).drew) (fun h => h) (fun h => h) (fun h => h)).setM heN false
              have hdd2 := hdd.kept (F := fun _ => False) (Kept.of_below (Below.refl _ _).drew) (fun h => h) (fun h => h) (fun h => h)
              refine ⟨j + 1, O', upd bs' e false, by go_num, by omega, Nat.le_refl _, HJ.out.1.next HJ.out.2.2 O' (by simp) (by first | exact hdd | exact hdd2), ?_⟩
              exact (HJ.out.2.1.trans (Kept.of_below (Below.refl _ _).drew)).trans (by first | exact (Kept.setCell _ _ _ _).mono (fun q _ h => Or.inr h) | exact ((Kept.setCell _ _ _ _).mono (fun q _ h => Or.inr h)).trans (Kept.of_below (Below.refl _ _).drew))
        · have p3 : ¬ (j : Int) < (K : Int) := by omega
          have hjK' : j = K := by omega
          rw [hjK'] at hSp
          have hdn := hSp.done H.out.2.2.2
          have HJ : Hid (Sp wr x0 x4 rb ro bB bM vB vM N nb O bs b false mv K O' bs' ∧ Kept (fun i => i = bB ∨ i = bM) wq wr) := ⟨hSp, hKp⟩
          have c3 := hSp.dd.cN
          have f3 := hSp.dd.fN
          have HD : Hid _ := And.intro hdn trivial
          clear hSp hKp hdn
          go_wp2_with fail
          go_ret2
          refine ⟨rfl, O', bs', HJ.out.1.dd, ((Kept.of_below H1.out.2).trans HJ.out.2).mono (fun q _ h => by rcases h with h | h; exact Or.inl h; exact Or.inr (Or.inl h)), fun e he => by have h9 := HD.out.1 e he; simpa using h9⟩
  | true =>
    obtain ⟨hs0, hs1⟩ : 0 < m ∧ m < K := of_decide_eq_true hsp.symm
    have hmv' : decide (2 * (m : Int) ≤ (K : Int)) = mv := by rw [hmv]; exact decide_eq_decide.2 (by omega)
    clear hsp hmv
    have r1 : (0 : Int) < (m : Int) := by omega
    have r2 : (m : Int) < (K : Int) := by omega
    have r3 : decide ((m : Int) < (K : Int)) = true := decide_eq_true r2
    have r4 : decide (m < K) = true := decide_eq_true hs1
    go_enter Tryz.func26, Tryz.ntmps26
    go_wp2_with (first
      | (go_at_call 37; refine Calls.mono H.out.1 ?_; rintro r w1 ⟨u, rfl, hu1, hb1⟩; obtain ⟨au, cu1, hue⟩ := row_shape hu1; rw [← H.out.2.2.2] at hue; subst hue; have H1 : Hid _ := And.intro hu1 hb1; clear hu1 hb1)
      | (go_at_call 36; refine Calls.mono (H.out.2.1 _ H1.out.2) ?_; rintro r w2 ⟨rfl, hw2⟩; obtain rfl := hw2.symm; clear hw2))
    obtain ⟨wq, hwq⟩ : ∃ wq, wq = w1 := ⟨_, rfl⟩
    subst hwq
    go_loopg [10] K (fun q kv wr => ∃ (j : Nat) (O' : Nat → Nat) (bs' : Nat → Bool), kv = .int .i64 j ∧ j ≤ K ∧ K - j ≤ q ∧ Sp wr x0 x4 rb ro bB bM vB vM N nb O bs b true mv j O' bs' ∧ Kept (fun i => i = bB ∨ i = bM) wq wr)
    case atStart => exact ⟨0, O, bs, rfl, Nat.zero_le _, Nat.le_refl _, ⟨H.out.2.2.1.kept (F := fun _ => False) (Kept.of_below H1.out.2) (fun h => h) (fun h => h) (fun h => h), fun _ _ _ => ⟨rfl, rfl⟩, fun _ _ _ => ⟨fun h => absurd h (Nat.not_lt_zero _), fun _ => ⟨rfl, rfl⟩⟩⟩, Kept.refl _ _⟩
    case round =>
      obtain ⟨j, O', bs', rfl, hj, hqj, hSp, hKp⟩ := hrel
      by_cases hjK : j < K
      · have p3 : (j : Int) < (K : Int) := by omega
        have p4 : (0 : Int) ≤ (j : Int) := by omega
        obtain ⟨z, hz⟩ : ∃ z, (dMem O b N)[j]? = some z := ⟨_, List.getElem?_eq_getElem (by have := H.out.2.2.2; omega)⟩
        obtain ⟨e, heN, hoe, rfl⟩ := dMem_at (List.mem_of_getElem? hz)
        obtain ⟨gl, cp, hue, hru, hgl⟩ := row_of H1.out.1 (by have := H.out.2.2.2; omega)
        injection hue with hu1 hu2 hu3
        subst hu1
        obtain ⟨aB, kB, hvB, haB⟩ := hSp.dd.sB
        obtain ⟨aM, kM, hvM, haM⟩ := hSp.dd.sM
        have haB' := haB (by omega)
        have haM' := haM (by omega)
        subst haB' haM'
        have c1 := hSp.dd.cB
        rw [hvB] at c1
        have c2 := hSp.dd.cM
        rw [hvM] at c2
        have c3 := hSp.dd.cN
        have hlB : bB < w.heap.size := World.block_lt_of_cell? w _ (H.out.2.2.1.rB e heN).1
        have hlM : bM < w.heap.size := World.block_lt_of_cell? w _ (H.out.2.2.1.rM e heN).1
        have t1 := cellk (hru j _ hz) hKp (by omega)
        obtain ⟨t2, f2⟩ := hSp.dd.rM e heN
        obtain ⟨t3, f3⟩ := hSp.dd.rB e heN
        obtain ⟨x1, x2⟩ := (hSp.met j e hz).2 (Nat.le_refl _)
        rw [x2] at t2
        have e0 : (0 : Int) ≤ (e : Int) := by omega
        have e1 : (e : Int) < (N : Int) := by omega
        have HJ : Hid (Sp wr x0 x4 rb ro bB bM vB vM N nb O bs b true mv j O' bs' ∧ Kept (fun i => i = bB ∨ i = bM) wq wr ∧ (dMem O b N)[j]? = some (e : Int)) := ⟨hSp, hKp, hz⟩
        have d1 : ¬ bB = bM := hSp.dd.n1
        have d2 : ¬ bM = bB := fun q => d1 q.symm
        have d3 : ¬ rb = bB := hSp.dd.n2
        have d4 : ¬ bB = rb := fun q => d3 q.symm
        have d5 : ¬ rb = bM := hSp.dd.n3
        have d6 : ¬ bM = rb := fun q => d5 q.symm
        have d7 : ¬ gl = bB := by omega
        have d8 : ¬ bB = gl := by omega
        have d9 : ¬ gl = bM := by omega
        have d0 : ¬ bM = gl := by omega
        clear hSp hKp hz hru hgl hvB hvM haB haM x1 x2 hoe hu2 hu3
        generalize O' e = oe at t3
        have hdr := (Below.refl wr.heap.size wr).drew
        have c1' := cellu c1 hdr
        have c2' := cellu c2 hdr
        have c3' := cellu c3 hdr
        have t1' := cellu t1 hdr
        have t2' := cellu t2 hdr
        have t3' := cellu t3 hdr
        have f2' : wr.drew.frozen? ⟨bM, e, none⟩ = false := f2
        have f3' : wr.drew.frozen? ⟨bB, e, none⟩ = false := f3
        obtain ⟨be, hbe⟩ : ∃ be, be = bs e := ⟨_, rfl⟩
        rw [← hbe] at t2 t2'
        have HBE : Hid (be = bs e) := hbe
        clear hbe hdr
        by_cases hq : be = mv
        · subst hq
          cases be
          · go_wp2_with fail
            go_region_held3 (fun w' => (w'.cell? ⟨rb, ro + 1, none⟩ = some (.slice (some ⟨bM, 0, none⟩) N kM) ∧ w'.cell? ⟨gl, j, none⟩ = some (.int .i64 e) ∧ w'.cell? ⟨bM, e, none⟩ = some (.bool false)) ∧ Hid (Below wr.heap.size wr w')) (first | exact ⟨⟨c2, t1, t2⟩, ((Below.refl _ _).drew : Below wr.heap.size wr wr.drew)⟩ | go_keep)
              ((first | fail | fail))
            rename_i hS3
            clear hS3
            go_wp2_with fail
            go_region
            all_goals go_wp2_with fail
            all_goals go_region
            all_goals go_wp2_with fail
            all_goals
              go_roundg (K - (j + 1))
              case measure => omega
              case rel =>
                have hdd := ((((HJ.out.1.dd.setB heN nb).setM heN false).kept (F := fun _ => False) (Kept.of_below (Below.refl _ _).drew) (fun h => h) (fun h => h) (fun h => h)).kept (F := fun _ => False) (Kept.of_below (Below.refl _ _).drew) (fun h => h) (fun h => h) (fun h => h)).kept (F := fun _ => False) (Kept.of_below (Below.refl _ _).drew) (fun h => h) (fun h => h) (fun h => h)
                refine ⟨j + 1, upd O' e nb, upd bs' e false, by go_num, by omega, Nat.le_refl _, HJ.out.1.next HJ.out.2.2 _ (by rw [← HBE.out]; rfl) hdd, ?_⟩
                exact ((((HJ.out.2.1.trans ((Kept.setCell _ _ _ _).mono fun q _ h => Or.inl h)).trans ((Kept.setCell _ _ _ _).mono fun q _ h => Or.inr h)).trans (Kept.of_below (Below.refl _ _).drew)).trans (Kept.of_below (Below.refl _ _).drew)).trans (Kept.of_below (Below.refl _ _).drew)
          · go_wp2_with fail
            go_region_held3 (fun w' => (w'.cell? ⟨rb, ro + 1, none⟩ = some (.slice (some ⟨bM, 0, none⟩) N kM) ∧ w'.cell? ⟨gl, j, none⟩ = some (.int .i64 e) ∧ w'.cell? ⟨bM, e, none⟩ = some (.bool true)) ∧ Hid (Below wr.heap.size wr w')) (first | exact ⟨⟨c2, t1, t2⟩, ((Below.refl _ _).drew : Below wr.heap.size wr wr.drew)⟩ | go_keep)
              ((first | fail | fail))
            rename_i hS3
            clear hS3
            go_wp2_with fail
            go_region
            all_goals go_wp2_with fail
            all_goals go_region
            all_goals go_wp2_with fail
            all_goals
              go_roundg (K - (j + 1))
              case measure => omega
              case rel =>
                have hdd := ((((HJ.out.1.dd.setB heN nb).setM heN false).kept (F := fun _ => False) (Kept.of_below (Below.refl _ _).drew) (fun h => h) (fun h => h) (fun h => h)).kept (F := fun _ => False) (Kept.of_below (Below.refl _ _).drew) (fun h => h) (fun h => h) (fun h => h)).kept (F := fun _ => False) (Kept.of_below (Below.refl _ _).drew) (fun h => h) (fun h => h) (fun h => h)
                refine ⟨j + 1, upd O' e nb, upd bs' e false, by go_num, by omega, Nat.le_refl _, HJ.out.1.next HJ.out.2.2 _ (by rw [← HBE.out]; rfl) hdd, ?_⟩
                exact ((((HJ.out.2.1.trans ((Kept.setCell _ _ _ _).mono fun q _ h => Or.inl h)).trans ((Kept.setCell _ _ _ _).mono fun q _ h => Or.inr h)).trans (Kept.of_below (Below.refl _ _).drew)).trans (Kept.of_below (Below.refl _ _).drew)).trans (Kept.of_below (Below.refl _ _).drew)
        · cases be <;> cases mv
          · exact absurd rfl hq
          · go_wp2_with fail
            go_region_held3 (fun w' => (w'.cell? ⟨rb, ro + 1, none⟩ = some (.slice (some ⟨bM, 0, none⟩) N kM) ∧ w'.cell? ⟨gl, j, none⟩ = some (.int .i64 e) ∧ w'.cell? ⟨bM, e, none⟩ = some (.bool false)) ∧ Hid (Below wr.heap.size wr w')) (first | exact ⟨⟨c2, t1, t2⟩, ((Below.refl _ _).drew : Below wr.heap.size wr wr.drew)⟩ | go_keep)
              ((first | fail | fail))
            rename_i hS3
            clear hS3
            go_wp2_with fail
            go_region
            all_goals go_wp2_with fail
            all_goals
              go_roundg (K - (j + 1))
              case measure => omega
              case rel =>
                have hdd := ((HJ.out.1.dd.setM heN false).kept (F := fun _ => False) (Kept.of_below (Below.refl _ _).drew) (fun h => h) (fun h => h) (fun h => h)).kept (F := fun _ => False) (Kept.of_below (Below.refl _ _).drew) (fun h => h) (fun h => h) (fun h => h)
                refine ⟨j + 1, O', upd bs' e false, by go_num, by omega, Nat.le_refl _, HJ.out.1.next HJ.out.2.2 _ (by rw [← HBE.out]; rfl) hdd, ?_⟩
                exact ((HJ.out.2.1.trans ((Kept.setCell _ _ _ _).mono fun q _ h => Or.inr h)).trans (Kept.of_below (Below.refl _ _).drew)).trans (Kept.of_below (Below.refl _ _).drew)
          · go_wp2_with fail
            go_region_held3 (fun w' => (w'.cell? ⟨rb, ro + 1, none⟩ = some (.slice (some ⟨bM, 0, none⟩) N kM) ∧ w'.cell? ⟨gl, j, none⟩ = some (.int .i64 e) ∧ w'.cell? ⟨bM, e, none⟩ = some (.bool true)) ∧ Hid (Below wr.heap.size wr w')) (first | exact ⟨⟨c2, t1, t2⟩, ((Below.refl _ _).drew : Below wr.heap.size wr wr.drew)⟩ | go_keep)
              ((first | fail | fail))
            rename_i hS3
            clear hS3
            go_wp2_with fail
            go_region
            all_goals go_wp2_with fail
            all_goals
              go_roundg (K - (j + 1))
              case measure => omega
              case rel =>
                have hdd := ((HJ.out.1.dd.setM heN false).kept (F := fun _ => False) (Kept.of_below (Below.refl _ _).drew) (fun h => h) (fun h => h) (fun h => h)).kept (F := fun _ => False) (Kept.of_below (Below.refl _ _).drew) (fun h => h) (fun h => h) (fun h => h)
                refine ⟨j + 1, O', upd bs' e false, by go_num, by omega, Nat.le_refl _, HJ.out.1.next HJ.out.2.2 _ (by rw [← HBE.out]; rfl) hdd, ?_⟩
                exact ((HJ.out.2.1.trans ((Kept.setCell _ _ _ _).mono fun q _ h => Or.inr h)).trans (Kept.of_below (Below.refl _ _).drew)).trans (Kept.of_below (Below.refl _ _).drew)
          · exact absurd rfl hq
      · have p3 : ¬ (j : Int) < (K : Int) := by omega
        have hjK' : j = K := by omega
        rw [hjK'] at hSp
        have hdn := hSp.done H.out.2.2.2
        have HJ : Hid (Sp wr x0 x4 rb ro bB bM vB vM N nb O bs b true mv K O' bs' ∧ Kept (fun i => i = bB ∨ i = bM) wq wr) := ⟨hSp, hKp⟩
        have c3 := hSp.dd.cN
        have f3 := hSp.dd.fN
        have HD : Hid _ := And.intro hdn trivial
        clear hSp hKp hdn
        go_wp2_with fail
        refine bodyPost_ret (v := .tuple #[.int .i64 nb, .bool true]) (by simp [results, Tryz.results26, go_sem]) rfl ?_
        have hdd := HJ.out.1.dd.setN
        refine ⟨rfl, O', bs', hdd, (((Kept.of_below H1.out.2).trans (HJ.out.2.mono (fun q _ h => by rcases h with h | h; exact Or.inl h; exact Or.inr (Or.inl h)))).trans ((Kept.setCell _ _ _ _).mono fun q _ h => Or.inr (Or.inr h))), fun e he => by have h9 := HD.out.1 e he; simpa using h9⟩
end Go.Proofs.YtpcndfffljmajaaGreatDoor
/- The document's partition of chapter 8: New. -/
namespace Go.Proofs.YtpcndfffljmajaaGreatDoor
open Go.RowKit Go.Maps
attribute [local go_sem ↓] Go.wp_at_zero Go.wp_at_succ
/-- The rows of a document's partition that was made. -/
structure Rw (wr : World) (B bB bM : Nat) (vB vM : Value) (N : Nat) (O : Nat → Nat) (bs : Nat → Bool) : Prop where
  sB : ∃ aB kB, vB = .slice aB N kB ∧ (0 < N → aB = some ⟨bB, 0, none⟩)
  sM : ∃ aM kM, vM = .slice aM N kM ∧ (0 < N → aM = some ⟨bM, 0, none⟩)
  rB : ∀ e, e < N → wr.cell? ⟨bB, e, none⟩ = some (.int .i64 (O e)) ∧ wr.frozen? ⟨bB, e, none⟩ = false
  rM : ∀ e, e < N → wr.cell? ⟨bM, e, none⟩ = some (.bool (bs e)) ∧ wr.frozen? ⟨bM, e, none⟩ = false
  n1 : bB ≠ bM
  l1 : B ≤ bB
  l2 : B ≤ bM
  tB : 0 < N → ∃ cs, wr.heap[bB]? = some (.cells cs 3 (0, 0))
  tM : 0 < N → ∃ cs, wr.heap[bM]? = some (.cells cs 4 (0, 0))
set_option maxRecDepth 100000 in
set_option maxHeartbeats 4000000 in
theorem rNew_bad (n : Int) (w : World) (h : n < 0 ∨ 1000 < n) : Calls Tryz.prog 8 #[.int .i64 n] w fun r w' => r = .returned (.tuple #[.agg #[.slice none 0 0, .slice none 0 0, .int .i64 0], .bool false]) ∧ Below w.heap.size w w' := by
  by_cases h1 : n < 0
  · have d1 : decide (n < 0) = true := decide_eq_true h1
    clear h
    go_enter Tryz.func8, Tryz.ntmps8
    go_wp2_with fail
    refine bodyPost_ret (v := .tuple #[.agg #[.slice none 0 0, .slice none 0 0, .int .i64 0], .bool false]) (by simp [results, Tryz.results8, go_sem]) rfl ⟨rfl, ?_⟩
    first | exact (Below.refl _ _).alloc (Nat.le_refl _) _ | exact ((Below.refl _ _).alloc (Nat.le_refl _) _).setCell (Nat.le_refl _) _
  · have d1 : decide (n < 0) = false := decide_eq_false h1
    have h2 : 1000 < n := by omega
    have d2 : decide (1000 < n) = true := decide_eq_true h2
    clear h
    go_enter Tryz.func8, Tryz.ntmps8
    go_wp2_with fail
    refine bodyPost_ret (v := .tuple #[.agg #[.slice none 0 0, .slice none 0 0, .int .i64 0], .bool false]) (by simp [results, Tryz.results8, go_sem]) rfl ⟨rfl, ?_⟩
    first | exact (Below.refl _ _).alloc (Nat.le_refl _) _ | exact ((Below.refl _ _).alloc (Nat.le_refl _) _).setCell (Nat.le_refl _) _
theorem four_alloc (w : World) (a b c d : Obj) : ((((w.alloc a).alloc b).alloc c).alloc d).drew.heap[w.heap.size]? = some a ∧ ((((w.alloc a).alloc b).alloc c).alloc d).drew.heap[w.heap.size + 1]? = some b ∧ ((((w.alloc a).alloc b).alloc c).alloc d).drew.heap[w.heap.size + 1 + 1]? = some c ∧ ((((w.alloc a).alloc b).alloc c).alloc d).drew.heap[w.heap.size + 1 + 1 + 1]? = some d := by
  have s1 : (w.alloc a).heap.size = w.heap.size + 1 := by simp
  have s2 : ((w.alloc a).alloc b).heap.size = w.heap.size + 1 + 1 := by simp
  have s3 : (((w.alloc a).alloc b).alloc c).heap.size = w.heap.size + 1 + 1 + 1 := by simp
  have e1 := (MapKept.heap_alloc w a).1
  have e2 := (MapKept.heap_alloc (w.alloc a) b).1
  have e3 := (MapKept.heap_alloc ((w.alloc a).alloc b) c).1
  have e4 := (MapKept.heap_alloc (((w.alloc a).alloc b).alloc c) d).1
  have k2 := (MapKept.heap_alloc (w.alloc a) b).2
  have k3 := (MapKept.heap_alloc ((w.alloc a).alloc b) c).2
  have k4 := (MapKept.heap_alloc (((w.alloc a).alloc b).alloc c) d).2
  rw [s1] at e2 k2
  rw [s2] at e3 k3
  rw [s3] at e4 k4
  exact ⟨((k4 _ (by omega)).trans (k3 _ (by omega))).trans ((k2 _ (by omega)).trans e1), ((k4 _ (by omega)).trans (k3 _ (by omega))).trans e2, (k4 _ (by omega)).trans e3, e4⟩
theorem made_at (z : Value) (hz : z.cells = #[z]) {N e : Nat} (he : e < N) : (madeV z N)[e]? = some z := by
  rw [← Array.getElem?_toList, madeV_eq z hz, List.getElem?_replicate, if_pos he]
theorem rw_of {wr : World} {B bB bM N : Nat} (hB : wr.heap[bB]? = some (.cells (madeV (.int .i64 0) N) 3 (0, 0))) (hM : wr.heap[bM]? = some (.cells (madeV (.bool false) N) 4 (0, 0))) (n1 : bB ≠ bM) (l1 : B ≤ bB) (l2 : B ≤ bM) : Rw wr B bB bM (.slice (some ⟨bB, 0, none⟩) N N) (.slice (some ⟨bM, 0, none⟩) N N) N (fun _ => 0) (fun _ => false) :=
  ⟨⟨_, _, rfl, fun _ => rfl⟩, ⟨_, _, rfl, fun _ => rfl⟩, fun e he => ⟨cell0_of hB (made_at _ rfl he), blk_free hB e⟩, fun e he => ⟨cell0_of hM (made_at _ rfl he), blk_free hM e⟩, n1, l1, l2, fun _ => ⟨_, hB⟩, fun _ => ⟨_, hM⟩⟩
theorem four_set {w : World} {b o q : Nat} {u : Value} {x : Obj} (h : w.heap[q]? = some x) (hb : b ≠ q) : (w.setCell ⟨b, o, none⟩ u).heap[q]? = some x := ((Kept.setCell w b o u).block q (t_lt h) (fun e => hb e.symm)).trans h
set_option maxRecDepth 100000 in
set_option maxHeartbeats 4000000 in
theorem rNew_ok (N : Nat) (w : World) (hN : N ≤ 1000) : Calls Tryz.prog 8 #[.int .i64 N] w fun r w' => ∃ bB bM vB vM, r = .returned (.tuple #[.agg #[vB, vM, .int .i64 (if N = 0 then 0 else 1 : Nat)], .bool true]) ∧ Rw w' w.heap.size bB bM vB vM N (fun _ => 0) (fun _ => false) ∧ Below w.heap.size w w' := by
  have d1 : ¬ (N : Int) < 0 := by omega
  have d2 : ¬ (1000 : Int) < (N : Int) := by omega
  have d3 : ¬ 1000 < N := by omega
  have mI := fun W => makeI N (by omega) W
  have mB := fun W => makeB N (by omega) W
  go_enter Tryz.func8, Tryz.ntmps8
  go_upto_region 3 with fail
  go_cut [4] (fun s4 wx => ∃ pv bB bM : Nat, s4 = .pointer (some ⟨pv, 0, none⟩) ∧ wx.heap[pv]? = some (.cells #[.slice (some ⟨bB, 0, none⟩) N N, .slice (some ⟨bM, 0, none⟩) N N, .int .i64 0] 48 (0, 0)) ∧ wx.heap[bB]? = some (.cells (madeV (.int .i64 0) N) 3 (0, 0)) ∧ wx.heap[bM]? = some (.cells (madeV (.bool false) N) 4 (0, 0)) ∧ wx.heap[w.heap.size]? = some (.cells #[.slice none 0 0, .slice none 0 0, .int .i64 0] 48 (0, 0)) ∧ Below w.heap.size w wx ∧ (w.heap.size < pv ∧ w.heap.size < bB ∧ w.heap.size < bM ∧ bB ≠ bM ∧ pv ≠ bB ∧ pv ≠ bM))
  case first =>
    go_region
    all_goals go_wp2_with fail
    all_goals
      go_meet
      have h4 := four_alloc w
      first
        | exact ⟨_, w.heap.size + 1, w.heap.size + 1 + 1, rfl, (by first | exact (h4 _ _ _ _).2.1 | exact (h4 _ _ _ _).2.2.1 | exact (h4 _ _ _ _).2.2.2), (by first | exact (h4 _ _ _ _).2.1 | exact (h4 _ _ _ _).2.2.1 | exact (h4 _ _ _ _).2.2.2), (by first | exact (h4 _ _ _ _).2.1 | exact (h4 _ _ _ _).2.2.1 | exact (h4 _ _ _ _).2.2.2), (h4 _ _ _ _).1, (((((Below.refl _ _).alloc (Nat.le_refl _) _).alloc (by simp) _).alloc (by simp; omega) _).alloc (by simp; omega) _).drew, by omega, by omega, by omega, by omega, by omega, by omega⟩
        | exact ⟨_, w.heap.size + 1, w.heap.size + 1 + 1 + 1, rfl, (by first | exact (h4 _ _ _ _).2.1 | exact (h4 _ _ _ _).2.2.1 | exact (h4 _ _ _ _).2.2.2), (by first | exact (h4 _ _ _ _).2.1 | exact (h4 _ _ _ _).2.2.1 | exact (h4 _ _ _ _).2.2.2), (by first | exact (h4 _ _ _ _).2.1 | exact (h4 _ _ _ _).2.2.1 | exact (h4 _ _ _ _).2.2.2), (h4 _ _ _ _).1, (((((Below.refl _ _).alloc (Nat.le_refl _) _).alloc (by simp) _).alloc (by simp; omega) _).alloc (by simp; omega) _).drew, by omega, by omega, by omega, by omega, by omega, by omega⟩
        | exact ⟨_, w.heap.size + 1 + 1, w.heap.size + 1, rfl, (by first | exact (h4 _ _ _ _).2.1 | exact (h4 _ _ _ _).2.2.1 | exact (h4 _ _ _ _).2.2.2), (by first | exact (h4 _ _ _ _).2.1 | exact (h4 _ _ _ _).2.2.1 | exact (h4 _ _ _ _).2.2.2), (by first | exact (h4 _ _ _ _).2.1 | exact (h4 _ _ _ _).2.2.1 | exact (h4 _ _ _ _).2.2.2), (h4 _ _ _ _).1, (((((Below.refl _ _).alloc (Nat.le_refl _) _).alloc (by simp) _).alloc (by simp; omega) _).alloc (by simp; omega) _).drew, by omega, by omega, by omega, by omega, by omega, by omega⟩
        | exact ⟨_, w.heap.size + 1 + 1, w.heap.size + 1 + 1 + 1, rfl, (by first | exact (h4 _ _ _ _).2.1 | exact (h4 _ _ _ _).2.2.1 | exact (h4 _ _ _ _).2.2.2), (by first | exact (h4 _ _ _ _).2.1 | exact (h4 _ _ _ _).2.2.1 | exact (h4 _ _ _ _).2.2.2), (by first | exact (h4 _ _ _ _).2.1 | exact (h4 _ _ _ _).2.2.1 | exact (h4 _ _ _ _).2.2.2), (h4 _ _ _ _).1, (((((Below.refl _ _).alloc (Nat.le_refl _) _).alloc (by simp) _).alloc (by simp; omega) _).alloc (by simp; omega) _).drew, by omega, by omega, by omega, by omega, by omega, by omega⟩
        | exact ⟨_, w.heap.size + 1 + 1 + 1, w.heap.size + 1, rfl, (by first | exact (h4 _ _ _ _).2.1 | exact (h4 _ _ _ _).2.2.1 | exact (h4 _ _ _ _).2.2.2), (by first | exact (h4 _ _ _ _).2.1 | exact (h4 _ _ _ _).2.2.1 | exact (h4 _ _ _ _).2.2.2), (by first | exact (h4 _ _ _ _).2.1 | exact (h4 _ _ _ _).2.2.1 | exact (h4 _ _ _ _).2.2.2), (h4 _ _ _ _).1, (((((Below.refl _ _).alloc (Nat.le_refl _) _).alloc (by simp) _).alloc (by simp; omega) _).alloc (by simp; omega) _).drew, by omega, by omega, by omega, by omega, by omega, by omega⟩
        | exact ⟨_, w.heap.size + 1 + 1 + 1, w.heap.size + 1 + 1, rfl, (by first | exact (h4 _ _ _ _).2.1 | exact (h4 _ _ _ _).2.2.1 | exact (h4 _ _ _ _).2.2.2), (by first | exact (h4 _ _ _ _).2.1 | exact (h4 _ _ _ _).2.2.1 | exact (h4 _ _ _ _).2.2.2), (by first | exact (h4 _ _ _ _).2.1 | exact (h4 _ _ _ _).2.2.1 | exact (h4 _ _ _ _).2.2.2), (h4 _ _ _ _).1, (((((Below.refl _ _).alloc (Nat.le_refl _) _).alloc (by simp) _).alloc (by simp; omega) _).alloc (by simp; omega) _).drew, by omega, by omega, by omega, by omega, by omega, by omega⟩
  case rest =>
    obtain ⟨pv, bB, bM, rfl, hp, hB, hM, hR, hb, l1, l2, l3, n1, n2, n3⟩ := hcut
    have x0 := cell0_of (k := 0) hp rfl
    have x1 := cell0_of (k := 1) hp rfl
    have x2 := cell0_of (k := 2) hp rfl
    have f2 := blk_free hp 2
    have r0 := cell0_of (k := 0) hR rfl
    have r1 := cell0_of (k := 1) hR rfl
    have r2 := cell0_of (k := 2) hR rfl
    have g0 := blk_free hR 0
    have g1 := blk_free hR 1
    have g2 := blk_free hR 2
    have m1 : ¬ pv = w.heap.size := by omega
    have m2 : ¬ w.heap.size = pv := by omega
    have HH : Hid (wc.heap[bB]? = some (.cells (madeV (.int .i64 0) N) 3 (0, 0)) ∧ wc.heap[bM]? = some (.cells (madeV (.bool false) N) 4 (0, 0)) ∧ Below w.heap.size w wc) := ⟨hB, hM, hb⟩
    have HN : Hid (pv ≠ bB ∧ pv ≠ bM ∧ bB ≠ bM ∧ w.heap.size < pv ∧ w.heap.size < bB ∧ w.heap.size < bM) := ⟨n2, n3, n1, l1, l2, l3⟩
    clear hp hB hM hR hb mI mB
    by_cases h0 : N = 0
    · have q1 : ¬ (0 : Int) < (N : Int) := by omega
      have q2 : ¬ 0 < N := by omega
      have HZ : Hid ((if N = 0 then 0 else 1 : Nat) = 0) := if_pos h0
      clear h0
      go_wp2_with fail
      refine bodyPost_ret (v := .tuple #[.agg #[.slice (some ⟨bB, 0, none⟩) N N, .slice (some ⟨bM, 0, none⟩) N N, .int .i64 0], .bool true]) (by simp [results, Tryz.results8, go_sem, *]) rfl ?_
      obtain ⟨a1, a2, a3, a4, a5, a6⟩ := HN.out
      have h0' : N = 0 := by omega
      subst h0'
      exact ⟨bB, bM, _, _, rfl, rw_of (four_set (four_set (four_set HH.out.1 (by omega)) (by omega)) (by omega)) (four_set (four_set (four_set HH.out.2.1 (by omega)) (by omega)) (by omega)) a3 (by omega) (by omega), ((HH.out.2.2.setCell (Nat.le_refl _) _).setCell (Nat.le_refl _) _).setCell (Nat.le_refl _) _⟩
    · have q1 : (0 : Int) < (N : Int) := by omega
      have q2 : 0 < N := by omega
      have HZ : Hid ((if N = 0 then 0 else 1 : Nat) = 1) := if_neg h0
      go_wp2_with fail
      refine bodyPost_ret (v := .tuple #[.agg #[.slice (some ⟨bB, 0, none⟩) N N, .slice (some ⟨bM, 0, none⟩) N N, .int .i64 1], .bool true]) (by simp [results, Tryz.results8, go_sem, *]) rfl ?_
      obtain ⟨a1, a2, a3, a4, a5, a6⟩ := HN.out
      refine ⟨bB, bM, _, _, by first | rfl | (rw [HZ.out]; rfl), rw_of (four_set (four_set (four_set (four_set HH.out.1 (by omega)) (by omega)) (by omega)) (by omega)) (four_set (four_set (four_set (four_set HH.out.2.1 (by omega)) (by omega)) (by omega)) (by omega)) a3 (by omega) (by omega), (((HH.out.2.2.setCell (Nat.le_of_lt a4) _).setCell (Nat.le_refl _) _).setCell (Nat.le_refl _) _).setCell (Nat.le_refl _) _⟩
end Go.Proofs.YtpcndfffljmajaaGreatDoor
/- refine: what lay makes of the elements' blocks: the blocks one behind the other, the elements of each as they come. Plain facts. -/
namespace Go.Proofs.YtpcndfffljmajaaGreatDoor
open Go.RowKit Go.Maps
/-- How many of the first i elements are in block b. -/
def cu (O : Nat → Nat) (b : Nat) : Nat → Nat
  | 0 => 0
  | i + 1 => cu O b i + if O i = b then 1 else 0
theorem cu_mono (O : Nat → Nat) (b : Nat) {i : Nat} : ∀ j, i ≤ j → cu O b i ≤ cu O b j := by
  intro j
  induction j with
  | zero => intro h; rw [show i = 0 by omega]; exact Nat.le_refl _
  | succ j ih =>
    intro h
    by_cases e : i = j + 1
    · rw [e]; exact Nat.le_refl _
    · have := ih (by omega); simp only [cu]; omega
theorem cu_lt (O : Nat → Nat) {b i j : Nat} (hj : i < j) (hi : O i = b) : cu O b i < cu O b j := by
  have h1 := cu_mono O b (i := i + 1) j hj
  simp only [cu, hi, if_true] at h1
  omega
/-- The j-th element of a block. -/
theorem cu_nth (O : Nat → Nat) (b : Nat) : ∀ n j, j < cu O b n → ∃ e, e < n ∧ O e = b ∧ cu O b e = j := by
  intro n
  induction n with
  | zero => intro j h; exact absurd h (Nat.not_lt_zero _)
  | succ n ih =>
    intro j h
    by_cases h1 : j < cu O b n
    · obtain ⟨e, h2, h3, h4⟩ := ih j h1
      exact ⟨e, by omega, h3, h4⟩
    · simp only [cu] at h
      by_cases h2 : O n = b
      · rw [if_pos h2] at h
        exact ⟨n, by omega, h2, by omega⟩
      · rw [if_neg h2] at h; omega
theorem cu_inj (O : Nat → Nat) {b i j : Nat} (hi : O i = b) (hj : O j = b) (h : cu O b i = cu O b j) : i = j := by
  rcases Nat.lt_trichotomy i j with h1 | h1 | h1
  · have := cu_lt O h1 hi; omega
  · exact h1
  · have := cu_lt O h1 hj; omega
theorem tot_zero (nb : Nat) : tot (fun _ => 0) nb = 0 := by
  induction nb with
  | zero => rfl
  | succ nb ih => simp only [tot]; omega
/-- All blocks together have all elements. -/
theorem tot_cu (O : Nat → Nat) (nb : Nat) : ∀ n, (∀ e, e < n → O e < nb) → tot (fun b => cu O b n) nb = n := by
  intro n
  induction n with
  | zero => intro _; exact tot_zero nb
  | succ n ih =>
    intro h
    have h1 := ih fun e he => h e (by omega)
    have h2 := tot_upd (fun b => cu O b n) (O n) (cu O (O n) n + 1) nb (h n (by omega))
    rw [tot_congr (g := upd (fun b => cu O b n) (O n) (cu O (O n) n + 1)) nb fun j hj => by
      by_cases e : j = O n
      · subst e; rw [upd_same]; simp [cu]
      · rw [upd_ne _ _ e]; simp [cu, Ne.symm e]]
    omega
/-- A place lies in one block's room. -/
theorem tot_find (f : Nat → Nat) : ∀ nb k, k < tot f nb → ∃ b, b < nb ∧ tot f b ≤ k ∧ k < tot f b + f b := by
  intro nb
  induction nb with
  | zero => intro k h; exact absurd h (Nat.not_lt_zero _)
  | succ nb ih =>
    intro k h
    by_cases h1 : k < tot f nb
    · obtain ⟨b, h2, h3⟩ := ih k h1
      exact ⟨b, by omega, h3⟩
    · simp only [tot] at h
      exact ⟨nb, by omega, by omega, h⟩
theorem tot_mono (f : Nat → Nat) {a : Nat} : ∀ b, a ≤ b → tot f a ≤ tot f b := by
  intro b
  induction b with
  | zero => intro h; rw [show a = 0 by omega]; exact Nat.le_refl _
  | succ b ih =>
    intro h
    by_cases e : a = b + 1
    · rw [e]; exact Nat.le_refl _
    · have := ih (by omega); simp only [tot]; omega
theorem tot_apart (f : Nat → Nat) {a b k : Nat} (h1 : tot f a ≤ k) (h2 : k < tot f a + f a) (h3 : tot f b ≤ k) (h4 : k < tot f b + f b) : a = b := by
  rcases Nat.lt_trichotomy a b with h | h | h
  · have := tot_mono f b (a := a + 1) h; simp only [tot] at this; omega
  · exact h
  · have := tot_mono f a (a := b + 1) h; simp only [tot] at this; omega
/-- The partition that lay makes. -/
def Pst.laid (n nb : Nat) (O E : Nat → Nat) : Pst :=
  ⟨n, nb, E, fun e => tot (fun b => cu O b n) (O e) + cu O (O e) e, O, fun b => tot (fun b => cu O b n) b, fun b => tot (fun b => cu O b n) b, fun b => tot (fun b => cu O b n) b + cu O b n⟩
/-- It stands well, where the places are told back and no block is empty; and nothing is marked. -/
theorem laid_ok {n nb : Nat} {O E : Nat → Nat} (hn : n ≤ 1000) (hO : ∀ e, e < n → O e < nb) (h1 : ∀ b, b < nb → ∃ e, e < n ∧ O e = b) (hE : ∀ e, e < n → E (tot (fun b => cu O b n) (O e) + cu O (O e) e) = e) : (Pst.laid n nb O E).Ok ∧ ∀ y, y < n → (Pst.laid n nb O E).isM y = false := by
  have hT := tot_cu O nb n hO
  have hlt : ∀ e, e < n → cu O (O e) e < cu O (O e) n := fun e he => cu_lt O he rfl
  have hend : ∀ b, b < nb → tot (fun b => cu O b n) b + cu O b n ≤ n := fun b hb => by
    have h2 := tot_mono (fun b => cu O b n) nb (a := b + 1) hb
    simp only [tot] at h2
    omega
  refine ⟨⟨hn, fun e he => ?_, fun k hk => ?_, fun e he => ?_, fun b hb => ?_, fun b hb k h2 h3 => ?_, ?_⟩, fun y hy => ?_⟩
  · have h2 := hlt e he
    have h3 := hend (O e) (hO e he)
    exact ⟨by show tot (fun b => cu O b n) (O e) + cu O (O e) e < n; omega, hE e he⟩
  · have hk' : k < n := hk
    obtain ⟨b, hb, h2, h3⟩ := tot_find (fun b => cu O b n) nb k (by omega)
    obtain ⟨e, he, hoe, hce⟩ := cu_nth O b n (k - tot (fun b => cu O b n) b) (by omega)
    have h4 : tot (fun b => cu O b n) (O e) + cu O (O e) e = k := by rw [hoe, hce]; omega
    have h5 := hE e he
    rw [h4] at h5
    refine ⟨by show E k < n; rw [h5]; exact he, ?_⟩
    show tot (fun b => cu O b n) (O (E k)) + cu O (O (E k)) (E k) = k
    rw [h5]; exact h4
  · have h2 := hlt e he
    exact ⟨hO e he, by show _ ≤ tot (fun b => cu O b n) (O e) + cu O (O e) e; exact Nat.le_add_right _ _, by show tot (fun b => cu O b n) (O e) + cu O (O e) e < tot (fun b => cu O b n) (O e) + cu O (O e) n; omega⟩
  · obtain ⟨e, he, hoe⟩ := h1 b hb
    have h2 := hlt e he
    rw [hoe] at h2
    have h3 := hend b hb
    show tot (fun b => cu O b n) b ≤ tot (fun b => cu O b n) b ∧ tot (fun b => cu O b n) b ≤ tot (fun b => cu O b n) b + cu O b n ∧ tot (fun b => cu O b n) b < tot (fun b => cu O b n) b + cu O b n ∧ tot (fun b => cu O b n) b + cu O b n ≤ n
    omega
  · replace h2 : tot (fun b => cu O b n) b ≤ k := h2
    replace h3 : k < tot (fun b => cu O b n) b + cu O b n := h3
    obtain ⟨e, he, hoe, hce⟩ := cu_nth O b n (k - tot (fun b => cu O b n) b) (by omega)
    have h4 : tot (fun b => cu O b n) (O e) + cu O (O e) e = k := by rw [hoe, hce]; omega
    have h5 := hE e he
    rw [h4] at h5
    show O (E k) = b
    rw [h5]; exact hoe
  · show tot (fun b => tot (fun b => cu O b n) b + cu O b n - tot (fun b => cu O b n) b) nb = n
    rw [tot_congr (g := fun b => cu O b n) nb fun j _ => by omega]
    exact hT
  · refine decide_eq_false ?_
    show ¬ tot (fun b => cu O b n) (O y) + cu O (O y) y < tot (fun b => cu O b n) (O y)
    omega
end Go.Proofs.YtpcndfffljmajaaGreatDoor
