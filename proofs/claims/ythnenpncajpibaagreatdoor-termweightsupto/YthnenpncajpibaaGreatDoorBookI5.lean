/- Contract of the book's growInts. -/
import Derived.Test.YthnenpncajpibaaGreatDoorBookI4
namespace Go.Proofs.YthnenpncajpibaaGreatDoor
open Go.RowKit Go.Maps
attribute [local go_sem ↓] Go.wp_at_zero Go.wp_at_succ
theorem Tryz.infoRowI : (Tryz.prog.info? 29).map (fun i => (i.zero, i.size, i.bytes)) = some (some (.slice none 0 0), 1, 24) := by kernel_rfl
theorem one_list (v : Value) (h : ∃ a n c, v = .slice a n c) : ∀ x ∈ [v], x.oneCell' = true := fun x hx => by
  rw [List.mem_singleton.1 hx]
  obtain ⟨a, n, c, rfl⟩ := h
  rfl
set_option maxRecDepth 100000 in
set_option maxHeartbeats 8000000 in
theorem growI_any (bk : Nat) (vi : Value) (ls : List Value) (zss : List (List Int)) (w : World) (h : Bp w bk vi ls zss) :
    Calls Tryz.prog 56 #[.pointer (some ⟨bk, 0, none⟩)] w fun r w' => ∃ vo os, r = .returned vo ∧ Gr w w' bk vi ls zss zss.length vo os := by
  obtain ⟨i0, hi0, hz0, hz1, hz2⟩ := info_parts Tryz.infoI3
  obtain ⟨j0, hj0, hy0, hy1, hy2⟩ := info_parts Tryz.infoRowI
  obtain ⟨ai, ci, rfl⟩ := row_shape h.ri
  obtain ⟨n, hn⟩ : ∃ n, n = zss.length := ⟨_, rfl⟩
  have hnl : n ≤ 400 := by rw [hn]; exact h.len
  have h2 := gr_start h
  rw [← hn] at h2 ⊢
  have HS : Hid _ := And.intro h2.2 (And.intro hn h.sz)
  have HR : Hid _ := h2.1
  clear h hn h2
  go_enter Tryz.func56, Tryz.ntmps56
  go_wp2_with fail
  go_loopg [3, 4] n (fun q ov iv wr => ∃ (i : Nat) (os : List Value), q = n - i ∧ i ≤ n ∧ iv = .int .i64 i ∧ Gr w wr bk (.slice ai n ci) ls zss i ov os)
  case atStart => exact ⟨0, [], rfl, Nat.zero_le _, rfl, HR.out⟩
  case round =>
    obtain ⟨i, os, rfl, hi, rfl, hG⟩ := hrel
    clear HR
    obtain ⟨wq, rfl⟩ : ∃ wq, wq = wr := ⟨_, rfl⟩
    have c0 := hG.c0
    by_cases hlt : i < n
    · obtain ⟨zs, hz⟩ : ∃ zs, zss[i]? = some zs := ⟨zss[i]'(by have := HS.out.2.1; omega), List.getElem?_eq_getElem _⟩
      have hri := hG.ri
      rw [← HS.out.2.1] at hri
      have hll : ls.length = n := by have := hri.1; rw [Nat.mul_one] at this; exact this
      obtain ⟨l, hl⟩ : ∃ l, ls[i]? = some l := ⟨ls[i]'(by omega), List.getElem?_eq_getElem _⟩
      obtain ⟨gi, cgi, hv, _, _⟩ := World.ownsRow.form hri (by omega)
      injection hv with e1 e2 e3
      subst e1; subst e3
      clear e2
      have cl : wq.cell? ⟨gi, i, none⟩ = some l := by rw [hri.cellAt i (by omega), hl]
      have hO := hG.todo i l zs (Nat.le_refl _) hl hz
      have hzl := HS.out.2.2 zs (List.mem_of_getElem? hz)
      obtain ⟨al, kl, rfl⟩ := row_shape hO
      obtain ⟨ao, ko, rfl⟩ := row_shape hG.row
      have q0 : (0 : Int) ≤ (i : Int) := by omega
      have q1 : (i : Int) < (n : Int) := by omega
      have HG : Hid _ := And.intro hG (And.intro hO (And.intro hl hz))
      clear hG hO hl hz hri
      go_wp2_with fail
      go_loopg [5, 6] 16 (fun q lv nv wr => ∃ (m : Nat), q = 16 - m ∧ m ≤ 16 ∧ nv = .int .i64 m ∧ Gm wq wr (.slice al zs.length kl) zs i lv m)
      case atStart => exact ⟨0, rfl, Nat.zero_le _, rfl, gm_start i HG.out.2.1⟩
      case round =>
        obtain ⟨m, rfl, hm, rfl, hM⟩ := hrel
        obtain ⟨ay, ky, hys⟩ := row_shape hM.own
        have hyl : (zs ++ marks i zs.length m).length = zs.length + m := by rw [List.length_append, marks_len]
        rw [hyl] at hys
        subst hys
        obtain ⟨N, hN⟩ : ∃ N, N = zs.length + m := ⟨_, rfl⟩
        by_cases hmt : m < 16
        · have p1 : (m : Int) < 16 := by omega
          have hMk := fun W => mark_any i N 1 W (by omega) (by omega)
          rw [← hN] at hM
          have HM : Hid _ := And.intro hM (And.intro hMk (And.intro hyl hN))
          rw [← hN]
          have hN1 : N + 1 ≤ maxLen := by unfold maxLen; omega
          have hN8 : (N + 1) * 8 ≤ 140737488355328 := by omega
          clear hM hMk hyl hN
          go_wp2_with (first
            | (go_at_call 99; refine (HM.out.2.1 _).mono ?_; rintro r8 w8 ⟨v8, rfl, hO8, hb8⟩; obtain ⟨g8, c8, rfl, _, _⟩ := World.ownsRow.form hO8 (by rw [marks_len]; omega); rw [marks_len]; have hM8 := HM.out.1.below hb8; have hown8 : w8.ownsRow 0 3 1 (.slice ay N ky) N (iC (zs ++ marks i zs.length m)) := (by have h9 := hM8.own; unfold OwnI at h9; rw [HM.out.2.2.1, ← HM.out.2.2.2] at h9; exact h9); have H8 : Hid _ := And.intro hown8 (And.intro hO8 hM8); clear hb8 hO8 hM8 hown8)
            | (at_builtin; refine wpList_append_keep _ rfl _ _ 29 rfl 0 3 i0 (.int .i64 0) 1 8 Tryz.underlying29 hi0 hz0 hz1 hz2 rfl (by decide) (.slice ay N ky) N (iC (zs ++ marks i zs.length m)) rfl H8.out.1 ⟨g8, 0, none⟩ 1 c8 (iC (marks i N 1)) rfl (by rw [iC_length, marks_len]) (fun j u hj => by rw [addz, World.ownsRow.cellAt H8.out.2.1 j (by rw [← H8.out.2.1.1]; exact (List.getElem?_eq_some_iff.1 hj).1)]; exact hj) (iC_one _) hN1 hN8 (Nat.zero_le _) ?_; intro v2 w2 hown2 hk2; have H2 : Hid _ := And.intro hown2 hk2; clear hown2 hk2)
            | fail)
          have hgm : Gm wq w2 (.slice al zs.length kl) zs i v2 (m + 1) := Gm.app H8.out.2.2 HG.out.2.1 (by rw [HM.out.2.2.1, ← HM.out.2.2.2]; exact H2.out.1) H2.out.2
          have H3 : Hid _ := hgm
          clear hgm
          go_roundg (16 - (m + 1))
          case measure => omega
          case rel => exact ⟨m + 1, rfl, by omega, by go_num, H3.out⟩
        · obtain rfl : m = 16 := by omega
          have p1 : ¬ (16 : Int) < 16 := by omega
          have hMk := fun W => mark_any i N 80 W (by omega) (by omega)
          rw [← hN] at hM
          have HM : Hid _ := And.intro hM (And.intro hMk (And.intro hyl hN))
          rw [← hN]
          have hN1 : N + 80 ≤ maxLen := by unfold maxLen; omega
          have hN8 : (N + 80) * 8 ≤ 140737488355328 := by omega
          have hR1 : i + 1 ≤ maxLen := by unfold maxLen; omega
          have hR8 : (i + 1) * 24 ≤ 140737488355328 := by omega
          clear hM hMk hyl hN
          go_wp2_with (first
            | (go_at_call 99; refine (HM.out.2.1 _).mono ?_; rintro r8 w8 ⟨v8, rfl, hO8, hb8⟩; obtain ⟨g8, c8, rfl, _, _⟩ := World.ownsRow.form hO8 (by rw [marks_len]; omega); rw [marks_len]; have hM8 := HM.out.1.below hb8; have hown8 : w8.ownsRow 0 3 1 (.slice ay N ky) N (iC (zs ++ marks i zs.length 16)) := (by have h9 := hM8.own; unfold OwnI at h9; rw [HM.out.2.2.1, ← HM.out.2.2.2] at h9; exact h9); have H8 : Hid _ := And.intro hown8 (And.intro hO8 hM8); clear hb8 hO8 hM8 hown8)
            | (at_builtin; refine wpList_append_keep _ rfl _ _ 29 rfl 0 3 i0 (.int .i64 0) 1 8 Tryz.underlying29 hi0 hz0 hz1 hz2 rfl (by decide) (.slice ay N ky) N (iC (zs ++ marks i zs.length 16)) rfl H8.out.1 ⟨g8, 0, none⟩ 80 c8 (iC (marks i N 80)) rfl (by rw [iC_length, marks_len]) (fun j u hj => by rw [addz, World.ownsRow.cellAt H8.out.2.1 j (by rw [← H8.out.2.1.1]; exact (List.getElem?_eq_some_iff.1 hj).1)]; exact hj) (iC_one _) hN1 hN8 (Nat.zero_le _) ?_; intro v2 w2 hown2 hk2; obtain ⟨a2, k2, rfl⟩ := row_shape hown2; have hgm : Gm wq w2 (.slice al zs.length kl) zs i (.slice a2 (N + 80) k2) 96 := Gm.app H8.out.2.2 HG.out.2.1 (by rw [HM.out.2.2.1, ← HM.out.2.2.2]; exact hown2) hk2; have H2 : Hid _ := hgm.below (w' := w2.alloc (.cells #[.slice a2 (N + 80) k2] 29)) ((Below.refl _ _).alloc (Nat.le_refl _) _); have hle2 : w.heap.size ≤ (w2.alloc (.cells #[.slice a2 (N + 80) k2] 29)).heap.size := (by have h1 := HG.out.1.kp.size; have h2 := hgm.kp.size; simp; omega); have hrow2 : (w2.alloc (.cells #[.slice a2 (N + 80) k2] 29)).ownsRow w.heap.size 29 1 (.slice ao i ko) i os := trow_at HG.out.1.row (fun b hb => (by have h3 := (HG.out.1.row.lt b hb); have h4 := H2.out.kp; refine h4.block b h3.2 fun e => ?_; have h5 := HS.out.1.ls _ (List.mem_of_getElem? HG.out.2.2.1) b e; omega)); have HR2 : Hid _ := hrow2; clear hown2 hk2 hgm hrow2)
            | (at_builtin; refine wpList_append_own_at _ rfl _ _ 37 rfl w.heap.size 29 j0 (.slice none 0 0) 1 24 Tryz.underlying37 hj0 hy0 hy1 hy2 rfl (by decide) (.slice ao i ko) i os rfl HR2.out ⟨w2.heap.size, 0, none⟩ 1 1 [.slice a2 (N + 80) k2] rfl rfl (World.news_of_block (cs := #[.slice a2 (N + 80) k2]) (t := 29) (fr := (0, 0)) (heap_alloc_new w2 _)) (one_list _ ⟨_, _, _, rfl⟩) hR1 hR8 hle2 ?_; intro v3 w3 hown3 hgrow3 hnil3 hat3; have H3 : Hid _ := And.intro hown3 (And.intro hgrow3 hat3); clear hown3 hgrow3 hnil3 hat3)
            | fail)
          have hnx : Gr w w3 bk (.slice (some ⟨gi, 0, none⟩) n ci) ls zss (i + 1) v3 (os ++ [.slice a2 (N + 80) k2]) := HG.out.1.next HS.out.1 HG.out.2.2.1 HG.out.2.2.2 H2.out H3.out.1 H3.out.2.1 (H3.out.2.2.imp_right fun e b hb => by rw [e] at hb; have := Option.some.inj hb; omega)
          have H4 : Hid _ := hnx
          clear hnx
          go_roundg (n - (i + 1))
          case measure => omega
          case rel => exact ⟨i + 1, _, rfl, by omega, by go_num, H4.out⟩
    · obtain rfl : i = n := by omega
      have q1 : ¬ (i : Int) < (i : Int) := by omega
      have HJ : Hid _ := hG
      clear hG
      go_wp2_with fail
      go_ret
      exact ⟨_, rfl, os, HJ.out⟩
end Go.Proofs.YthnenpncajpibaaGreatDoor
