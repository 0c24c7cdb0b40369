/- Texts of this claim, joined: PlayS3, Play, PlayTw. -/
import Derived.Test.YthcboklkejlifaaGreatDoorPlayS2
/- The pair's step: Name; all else. (Written by mkplay3.py.) -/
namespace Go.Proofs.YthcboklkejlifaaGreatDoor
open Go.RowKit Go.Maps
attribute [local go_sem ↓] Go.wp_at_zero Go.wp_at_succ
set_option maxRecDepth 100000 in
set_option maxHeartbeats 8000000 in
theorem step_name_yes (w0 wr : World) (g bk : Nat) (who : Bool) (b : Nat) (vn vm v : Value) (ns : List ByteArray) (b' : Nat) (vn' vm' v' : Value) (ns' : List ByteArray) (wz nz : Int) (s : ByteArray) (e : Nat → Addr) (x : ByteArray) (i : Nat) (hi : ns[i]? = some x) (hn : nz = i) (h : PSE w0 wr g bk who b vn vm v ns b' vn' vm' v' ns') (_ : Nn w0 e) :
    Calls Tryz.prog 79 #[.pointer (some ⟨g, oW who, none⟩), opV 3 wz nz s] wr fun r w' => r = .returned (.bool true) ∧ PSE w0 w' g bk who b vn vm v ns b' vn' vm' v' ns' := by
  unfold opV
  obtain ⟨vi, vw, ls, ws, zss, h⟩ := h
  obtain ⟨ar, kr, rfl⟩ := row_shape h.r
  obtain ⟨W, hW⟩ : ∃ W, W = wr.alloc (.cells #[.int .i64 3, .int .i64 wz, .int .i64 nz, .string s] 107) := ⟨_, rfl⟩
  have hbW : Below wr.heap.size wr W := by rw [hW]; exact (Below.refl _ _).alloc (Nat.le_refl _) _
  have hbx : W.heap[wr.heap.size]? = some (.cells #[.int .i64 3, .int .i64 wz, .int .i64 nz, .string s] 107 (0, 0)) := by rw [hW]; exact (MapKept.heap_alloc wr _).1
  have hPW := h.below hbW
  obtain ⟨c0, c1, _⟩ := cells_this hPW.arr
  obtain ⟨x0, x1, x2, x3⟩ := box4 hbx
  obtain ⟨o, ho⟩ : ∃ o, o = oW who := ⟨_, rfl⟩
  rw [← ho] at c0 c1 ⊢
  unfold pB at c0
  have hlen := hPW.t.len
  subst hn
  have hA := fun W' (hb : Below W.heap.size W W') => name_yes b vn vm ns x i W' (hPW.t.below hb) hi
  have hRW := BTexts.Own.has hPW.r
  obtain ⟨aa, rfl, cx⟩ := hRW.cell hi
  have hil := (List.getElem?_eq_some_iff.1 hi).1
  have q1 : ¬ (i : Int) < 0 := by omega
  have q2 : ¬ (ns.length : Int) ≤ (i : Int) := by omega
  have q3 : (0 : Int) ≤ (i : Int) := by omega
  have q4 : (i : Int) < (ns.length : Int) := by omega
  have d1 : decide ((i : Int) < 0) = false := decide_eq_false q1
  have d2 : decide ((ns.length : Int) ≤ (i : Int)) = false := decide_eq_false q2
  obtain ⟨n, hN⟩ : ∃ n, n = ns.length := ⟨_, rfl⟩
  rw [← hN] at c1 q2 q4 d2
  have HA : Hid _ := And.intro hA hPW
  have HW : Hid _ := hW
  clear hA hPW hbx ho hbW hW h hi hRW hN hil hlen
  go_enter Tryz.func79, Tryz.ntmps79
  go_upto_region 14 with fail
  rw [← HW.out]
  go_cut [13, 14] (fun sv se wx => sv = .string x ∧ se = .nilIface ∧ ∃ m, wx = W.drewN m)
  case first =>
    go_region_held3 (fun w' => w'.cell? ⟨g, o, none⟩ = some (.pointer (some ⟨b, 0, none⟩)) ∧ w'.cell? ⟨wr.heap.size, 2, none⟩ = some (.int .i64 (i : Int))) (go_keep)
      ((first
        | (go_at_call 117; refine (HA.out.1 _ (by repeat (first | exact Below.refl _ _ | assumption | refine Below.drew ?_ | refine Below.setCell ?_ (by simp) _ | refine Below.alloc ?_ (by simp) _))).mono ?_; rintro r8 w8 ⟨rfl, hw8⟩; obtain rfl := hw8.symm; clear hw8)
        | fail))
    all_goals (refine Met.intro ?_; apply_assumption; refine Met.intro ?_; apply_assumption; (repeat apply Exists.intro); refine ⟨?rel, rfl⟩; case rel => exact ⟨rfl, rfl, 1, rfl⟩)
  case rest =>
    obtain ⟨rfl, rfl, m, rfl⟩ := hcut
    go_wp2_with fail
    go_quiet (fail)
    go_wp2_with fail
    go_quiet (fail)
    go_wp2_with fail
    go_ret
    exact ⟨rfl, _, _, _, _, _, HA.out.2.below (by first | exact below_drewN (Below.refl _ _) _ | exact below_drewN (below_drewN (Below.refl _ _) _) _ | exact below_drewN (below_drewN (below_drewN (Below.refl _ _) _) _) _)⟩
set_option maxRecDepth 100000 in
set_option maxHeartbeats 8000000 in
theorem step_name_neg (w0 wr : World) (g bk : Nat) (who : Bool) (b : Nat) (vn vm v : Value) (ns : List ByteArray) (b' : Nat) (vn' vm' v' : Value) (ns' : List ByteArray) (wz nz : Int) (s : ByteArray) (e : Nat → Addr) (hn : nz < 0) (h : PSE w0 wr g bk who b vn vm v ns b' vn' vm' v' ns') (hE : Nn w0 e) :
    Calls Tryz.prog 79 #[.pointer (some ⟨g, oW who, none⟩), opV 3 wz nz s] wr fun r w' => r = .returned (.bool true) ∧ PSE w0 w' g bk who b vn vm v ns b' vn' vm' v' ns' := by
  unfold opV
  obtain ⟨vi, vw, ls, ws, zss, h⟩ := h
  obtain ⟨ar, kr, rfl⟩ := row_shape h.r
  obtain ⟨W, hW⟩ : ∃ W, W = wr.alloc (.cells #[.int .i64 3, .int .i64 wz, .int .i64 nz, .string s] 107) := ⟨_, rfl⟩
  have hbW : Below wr.heap.size wr W := by rw [hW]; exact (Below.refl _ _).alloc (Nat.le_refl _) _
  have hbx : W.heap[wr.heap.size]? = some (.cells #[.int .i64 3, .int .i64 wz, .int .i64 nz, .string s] 107 (0, 0)) := by rw [hW]; exact (MapKept.heap_alloc wr _).1
  have hPW := h.below hbW
  obtain ⟨c0, c1, _⟩ := cells_this hPW.arr
  obtain ⟨x0, x1, x2, x3⟩ := box4 hbx
  obtain ⟨o, ho⟩ : ∃ o, o = oW who := ⟨_, rfl⟩
  rw [← ho] at c0 c1 ⊢
  unfold pB at c0
  have hlen := hPW.t.len
  have hA := fun W' (hb : Below W.heap.size W W') => name_no b vn vm ns nz _ _ W' (hPW.t.below hb) (.inl hn) (hE.below (hPW.bl.trans (hb.mono hPW.bl.size))).I.1
  obtain ⟨n, hN⟩ : ∃ n, n = ns.length := ⟨_, rfl⟩
  rw [← hN] at c1
  have d1 : decide (nz < 0) = true := decide_eq_true hn
  have HA : Hid _ := And.intro hA (And.intro hPW hE)
  have HW : Hid _ := hW
  clear hA hPW hbx ho hE hbW hW h hN hlen
  go_enter Tryz.func79, Tryz.ntmps79
  go_upto_region 14 with fail
  rw [← HW.out]
  go_cut [13, 14] (fun sv se wx => ∃ bf, sv = .string ⟨#[]⟩ ∧ se = faultV bf ∧ ActFault wx bf (errV (e 3)) ∧ Below W.heap.size W wx)
  case first =>
    go_region_held3 (fun w' => w'.cell? ⟨g, o, none⟩ = some (.pointer (some ⟨b, 0, none⟩)) ∧ w'.cell? ⟨wr.heap.size, 2, none⟩ = some (.int .i64 nz)) (go_keep)
      ((first
        | (go_at_call 117; refine (HA.out.1 _ (by repeat (first | exact Below.refl _ _ | assumption | refine Below.drew ?_ | refine Below.setCell ?_ (by simp) _ | refine Below.alloc ?_ (by simp) _))).mono ?_; rintro r8 w8 ⟨rfl, hF8, hb8'⟩; have hb8 := below_of_drew3 hb8'; have c0 := cell_up c0 hb8; have x2 := cell_up x2 hb8; have H8 : Hid _ := And.intro hF8 hb8; clear hF8 hb8 hb8')
        | fail))
    all_goals (refine Met.intro ?_; apply_assumption; refine Met.intro ?_; apply_assumption; (repeat apply Exists.intro); refine ⟨?rel, rfl⟩; case rel => exact ⟨_, rfl, rfl, H8.out⟩)
  case rest =>
    obtain ⟨bf, rfl, rfl, hF, hb1⟩ := hcut
    have c1 := cell_up c1 hb1
    have x2 := cell_up x2 hb1
    have hTo := fun W' (hb : Below wc.heap.size wc W') => told2_3 bf e W' ((HA.out.2.2.below (HA.out.2.1.bl.trans (hb1.mono HA.out.2.1.bl.size))).below hb) ((hb.block _ (tab_lt hF)).trans hF)
    unfold faultV at hTo ⊢
    have H4 : Hid _ := And.intro hTo (HA.out.2.1.below hb1)
    clear hTo hF hb1 c0
    go_wp2_with fail
    go_quiet (fail)
    go_wp2_with fail
    refine Calls.mono (H4.out.1 _ (by first | exact below_drewN (Below.refl _ _) _ | exact Below.refl _ _)) ?_
    rintro r w9 ⟨rfl, hb9⟩
    have H9 : Hid _ := H4.out.2.below (Below.trans (by first | exact below_drewN (Below.refl _ _) _ | exact Below.refl _ _) (hb9.mono (by first | exact Nat.le_refl _ | simp)))
    clear hb9
    go_wp2_with fail
    go_ret
    exact ⟨rfl, _, _, _, _, _, H9.out⟩
set_option maxRecDepth 100000 in
set_option maxHeartbeats 8000000 in
theorem step_name_big (w0 wr : World) (g bk : Nat) (who : Bool) (b : Nat) (vn vm v : Value) (ns : List ByteArray) (b' : Nat) (vn' vm' v' : Value) (ns' : List ByteArray) (wz nz : Int) (s : ByteArray) (e : Nat → Addr) (hn : ¬ nz < 0) (hn2 : (ns.length : Int) ≤ nz) (h : PSE w0 wr g bk who b vn vm v ns b' vn' vm' v' ns') (hE : Nn w0 e) :
    Calls Tryz.prog 79 #[.pointer (some ⟨g, oW who, none⟩), opV 3 wz nz s] wr fun r w' => r = .returned (.bool true) ∧ PSE w0 w' g bk who b vn vm v ns b' vn' vm' v' ns' := by
  unfold opV
  obtain ⟨vi, vw, ls, ws, zss, h⟩ := h
  obtain ⟨ar, kr, rfl⟩ := row_shape h.r
  obtain ⟨W, hW⟩ : ∃ W, W = wr.alloc (.cells #[.int .i64 3, .int .i64 wz, .int .i64 nz, .string s] 107) := ⟨_, rfl⟩
  have hbW : Below wr.heap.size wr W := by rw [hW]; exact (Below.refl _ _).alloc (Nat.le_refl _) _
  have hbx : W.heap[wr.heap.size]? = some (.cells #[.int .i64 3, .int .i64 wz, .int .i64 nz, .string s] 107 (0, 0)) := by rw [hW]; exact (MapKept.heap_alloc wr _).1
  have hPW := h.below hbW
  obtain ⟨c0, c1, _⟩ := cells_this hPW.arr
  obtain ⟨x0, x1, x2, x3⟩ := box4 hbx
  obtain ⟨o, ho⟩ : ∃ o, o = oW who := ⟨_, rfl⟩
  rw [← ho] at c0 c1 ⊢
  unfold pB at c0
  have hlen := hPW.t.len
  have hA := fun W' (hb : Below W.heap.size W W') => name_no b vn vm ns nz _ _ W' (hPW.t.below hb) (.inr hn2) (hE.below (hPW.bl.trans (hb.mono hPW.bl.size))).I.1
  obtain ⟨n, hN⟩ : ∃ n, n = ns.length := ⟨_, rfl⟩
  rw [← hN] at c1 hn2
  have d1 : decide (nz < 0) = false := decide_eq_false hn
  have d2 : decide ((n : Int) ≤ nz) = true := decide_eq_true hn2
  have HA : Hid _ := And.intro hA (And.intro hPW hE)
  have HW : Hid _ := hW
  clear hA hPW hbx ho hE hbW hW h hN hlen
  go_enter Tryz.func79, Tryz.ntmps79
  go_upto_region 14 with fail
  rw [← HW.out]
  go_cut [13, 14] (fun sv se wx => ∃ bf, sv = .string ⟨#[]⟩ ∧ se = faultV bf ∧ ActFault wx bf (errV (e 3)) ∧ Below W.heap.size W wx)
  case first =>
    go_region_held3 (fun w' => w'.cell? ⟨g, o, none⟩ = some (.pointer (some ⟨b, 0, none⟩)) ∧ w'.cell? ⟨wr.heap.size, 2, none⟩ = some (.int .i64 nz)) (go_keep)
      ((first
        | (go_at_call 117; refine (HA.out.1 _ (by repeat (first | exact Below.refl _ _ | assumption | refine Below.drew ?_ | refine Below.setCell ?_ (by simp) _ | refine Below.alloc ?_ (by simp) _))).mono ?_; rintro r8 w8 ⟨rfl, hF8, hb8'⟩; have hb8 := below_of_drew3 hb8'; have c0 := cell_up c0 hb8; have x2 := cell_up x2 hb8; have H8 : Hid _ := And.intro hF8 hb8; clear hF8 hb8 hb8')
        | fail))
    all_goals (refine Met.intro ?_; apply_assumption; refine Met.intro ?_; apply_assumption; (repeat apply Exists.intro); refine ⟨?rel, rfl⟩; case rel => exact ⟨_, rfl, rfl, H8.out⟩)
  case rest =>
    obtain ⟨bf, rfl, rfl, hF, hb1⟩ := hcut
    have c1 := cell_up c1 hb1
    have x2 := cell_up x2 hb1
    have hTo := fun W' (hb : Below wc.heap.size wc W') => told2_3 bf e W' ((HA.out.2.2.below (HA.out.2.1.bl.trans (hb1.mono HA.out.2.1.bl.size))).below hb) ((hb.block _ (tab_lt hF)).trans hF)
    unfold faultV at hTo ⊢
    have H4 : Hid _ := And.intro hTo (HA.out.2.1.below hb1)
    clear hTo hF hb1 c0
    go_wp2_with fail
    go_quiet (fail)
    go_wp2_with fail
    refine Calls.mono (H4.out.1 _ (by first | exact below_drewN (Below.refl _ _) _ | exact Below.refl _ _)) ?_
    rintro r w9 ⟨rfl, hb9⟩
    have H9 : Hid _ := H4.out.2.below (Below.trans (by first | exact below_drewN (Below.refl _ _) _ | exact Below.refl _ _) (hb9.mono (by first | exact Nat.le_refl _ | simp)))
    clear hb9
    go_wp2_with fail
    go_ret
    exact ⟨rfl, _, _, _, _, _, H9.out⟩
set_option maxRecDepth 100000 in
set_option maxHeartbeats 8000000 in
theorem step_else (w0 wr : World) (g bk : Nat) (who : Bool) (b : Nat) (vn vm v : Value) (ns : List ByteArray) (b' : Nat) (vn' vm' v' : Value) (ns' : List ByteArray) (wz nz : Int) (s : ByteArray) (_ : Nat → Addr) (kz : Int) (h : PSE w0 wr g bk who b vn vm v ns b' vn' vm' v' ns') (h1 : kz ≠ 1) (h2 : kz ≠ 2) (h3 : kz ≠ 3) (h4 : kz ≠ 4) (h5 : kz ≠ 5) :
    Calls Tryz.prog 79 #[.pointer (some ⟨g, oW who, none⟩), opV kz wz nz s] wr fun r w' => r = .returned (.bool true) ∧ PSE w0 w' g bk who b vn vm v ns b' vn' vm' v' ns' := by
  unfold opV
  have q1 : (kz == 1) = false := by simpa using h1
  have q2 : (kz == 2) = false := by simpa using h2
  have q3 : (kz == 3) = false := by simpa using h3
  have q4 : (kz == 4) = false := by simpa using h4
  have q5 : (kz == 5) = false := by simpa using h5
  have hL := fun W (hb : Below wr.heap.size wr W) => looks_any w0 W g bk who b vn vm v ns b' vn' vm' v' ns' (h.below hb)
  have HL : Hid _ := hL
  generalize oW who = o at HL ⊢
  clear hL h h1 h2 h3 h4 h5
  go_enter Tryz.func79, Tryz.ntmps79
  go_wp2_with (go_at_call 80; refine (HL.out _ (by repeat (first | exact Below.refl _ _ | assumption | refine Below.drew ?_ | refine Below.setCell ?_ (by simp) _ | refine Below.alloc ?_ (by simp) _))).mono ?_; rintro r8 w8 ⟨rfl, hP8⟩; have H8 : Hid _ := hP8; clear hP8)
  go_ret
  exact ⟨rfl, H8.out⟩
end Go.Proofs.YthcboklkejlifaaGreatDoor
/- The play of two tables. -/
namespace Go.Proofs.YthcboklkejlifaaGreatDoor
open Go.RowKit Go.Maps
attribute [local go_sem ↓] Go.wp_at_zero Go.wp_at_succ
/-- One step, whatever it is. -/
theorem step_any (w0 wr : World) (g bk : Nat) (who : Bool) (b : Nat) (vn vm v : Value) (ns : List ByteArray) (b' : Nat) (vn' vm' v' : Value) (ns' : List ByteArray) (kz wz nz : Int) (s : ByteArray) (e : Nat → Addr) (h : PSE w0 wr g bk who b vn vm v ns b' vn' vm' v' ns') (hE : Nn w0 e) (hs : s.size ≤ maxLen) :
    Calls Tryz.prog 79 #[.pointer (some ⟨g, oW who, none⟩), opV kz wz nz s] wr fun r w' => r = .returned (.bool true) ∧ ∃ vn2 vm2 v2 ns2, PSE w0 w' g bk who b vn2 vm2 v2 ns2 b' vn' vm' v' ns' := by
  have lift : ∀ {K : Int}, Calls Tryz.prog 79 #[.pointer (some ⟨g, oW who, none⟩), opV K wz nz s] wr (fun r w' => r = .returned (.bool true) ∧ PSE w0 w' g bk who b vn vm v ns b' vn' vm' v' ns') → Calls Tryz.prog 79 #[.pointer (some ⟨g, oW who, none⟩), opV K wz nz s] wr fun r w' => r = .returned (.bool true) ∧ ∃ vn2 vm2 v2 ns2, PSE w0 w' g bk who b vn2 vm2 v2 ns2 b' vn' vm' v' ns' := fun hC => hC.mono fun r w' ⟨h1, h2⟩ => ⟨h1, vn, vm, v, ns, h2⟩
  obtain ⟨_, hT, hR, hN, _⟩ := h.this
  obtain ⟨ar, kr, hv⟩ := row_shape hR
  by_cases h1 : kz = 1
  · subst h1; exact step_add w0 wr g bk who b vn vm v ns b' vn' vm' v' ns' wz nz s e h hE hs
  by_cases h2 : kz = 2
  · subst h2
    refine lift ?_
    by_cases hi : s ∈ ns
    · obtain ⟨i, hi1, hi2⟩ := first_of hi
      refine step_find_yes w0 wr g bk who b vn vm v ns b' vn' vm' v' ns' wz nz s e i h hE (fun W ht _ => (find_yes b vn vm ns s i W ht hi1).mono fun r w' ⟨hr, hw⟩ => ⟨_, hr, .inl ⟨rfl, rfl⟩, by rw [hw]; exact Below.refl _ _⟩) (fun W hO => (rFind_any v ns s W (BTexts.Own.has hO) (by have := hT.len; omega)).mono fun r w' ⟨z, hr, hF, hb⟩ => ⟨?_, hb⟩)
      rcases hF with ⟨_, hn⟩ | ⟨j, rfl, hj, hj2⟩
      · exact absurd hi hn
      · rw [nodup_tab hT hj hi1] at hr; exact hr
    · refine step_find_no w0 wr g bk who b vn vm v ns b' vn' vm' v' ns' wz nz s e h hE (fun W ht hn => (find_no b vn vm ns s _ _ W ht hi hs hn.U.1).mono fun r w' ⟨hr, hF, hb⟩ => ⟨_, hr, .inr ⟨by simp, _, rfl, hF⟩, hb⟩) (fun W hO => (rFind_any v ns s W (BTexts.Own.has hO) (by have := hT.len; omega)).mono fun r w' ⟨z, hr, hF, hb⟩ => ⟨?_, hb⟩)
      rcases hF with ⟨rfl, _⟩ | ⟨j, rfl, hj, _⟩
      · exact hr
      · exact absurd (List.mem_of_getElem? hj) hi
  by_cases h3 : kz = 3
  · subst h3
    refine lift ?_
    by_cases hn : nz < 0
    · exact step_name_neg w0 wr g bk who b vn vm v ns b' vn' vm' v' ns' wz nz s e hn h hE
    · by_cases hn2 : (ns.length : Int) ≤ nz
      · exact step_name_big w0 wr g bk who b vn vm v ns b' vn' vm' v' ns' wz nz s e hn hn2 h hE
      · have hlt : nz.toNat < ns.length := by omega
        exact step_name_yes w0 wr g bk who b vn vm v ns b' vn' vm' v' ns' wz nz s e _ nz.toNat (List.getElem?_eq_getElem hlt) (by omega) h hE
  by_cases h4 : kz = 4
  · subst h4
    refine lift ?_
    by_cases h0 : nz = 0
    · subst h0
      exact step_text_yes w0 wr g bk who b vn vm v ns b' vn' vm' v' ns' wz 0 s e tauB h hE (fun W ht _ => (text_tau b W).mono fun r w' ⟨hr, hw⟩ => ⟨_, hr, .inl ⟨rfl, rfl⟩, by rw [hw]; exact Below.refl _ _⟩) (fun W hO => rText_tau v W ⟨ar, _, kr, hv⟩)
    · by_cases hnm : Ac.named nz = true ∧ Ac.nameN nz < (ns.length : Int)
      · have hp : 0 ≤ Ac.nameN nz := by
          have := hnm.1
          unfold Ac.named at this
          have := of_decide_eq_true this
          unfold Ac.nameN
          rw [if_pos this]; omega
        have hlt : (Ac.nameN nz).toNat < ns.length := by omega
        have hx : ns[(Ac.nameN nz).toNat]? = some (ns[(Ac.nameN nz).toNat]'hlt) := List.getElem?_eq_getElem hlt
        exact step_text_yes w0 wr g bk who b vn vm v ns b' vn' vm' v' ns' wz nz s e _ h hE (fun W ht _ => (text_yes b vn vm ns _ nz (Ac.nameN nz).toNat W ht hnm.1 (by omega) hx).mono fun r w' ⟨hr, hw⟩ => ⟨_, hr, .inl ⟨rfl, rfl⟩, by rw [hw]; exact Below.refl _ _⟩) (fun W hO => rText_yes v ns _ nz (Ac.nameN nz).toNat W (BTexts.Own.has hO) hnm.1 (by omega) hx (hT.strs _ (List.mem_of_getElem? hx)))
      · have hno : Ac.named nz = false ∨ (Ac.named nz = true ∧ (ns.length : Int) ≤ Ac.nameN nz) := by
          cases hq : Ac.named nz with
          | false => exact .inl rfl
          | true => exact .inr ⟨rfl, by have : ¬ Ac.nameN nz < (ns.length : Int) := fun e => hnm ⟨hq, e⟩; omega⟩
        exact step_text_no w0 wr g bk who b vn vm v ns b' vn' vm' v' ns' wz nz s e h hE (fun W ht hn => (text_no b vn vm ns nz _ _ W ht h0 (hno.imp_right fun e => e.2) hn.I.1).mono fun r w' ⟨hr, hF, hb⟩ => ⟨_, hr, .inr ⟨by simp, _, rfl, hF⟩, hb⟩) (fun W hO => rText_no v ns nz W (BTexts.Own.has hO) h0 hno)
  by_cases h5 : kz = 5
  · subst h5
    refine lift ?_
    by_cases ht : s = tauB
    · subst ht
      exact step_read_yes w0 wr g bk who b vn vm v ns b' vn' vm' v' ns' wz nz tauB e 0 h hE (fun W _ _ => (read_tau b W).mono fun r w' ⟨hr, hw⟩ => ⟨_, hr, .inl ⟨rfl, rfl⟩, by rw [hw]; exact Below.refl _ _⟩) (fun W hO => rRead_tau v W ⟨ar, _, kr, hv⟩)
    · obtain ⟨co, x, rfl, hco, hxs⟩ := co_split s
      have hNo : ∀ y ∈ ns, NoCo y ∧ y.size ≤ 32 := fun y hy => ⟨nameZ_noCo (hN y hy).2, hT.strs y hy⟩
      by_cases hi : x ∈ ns
      · obtain ⟨i, hi1, hi2⟩ := first_of hi
        refine step_read_yes w0 wr g bk who b vn vm v ns b' vn' vm' v' ns' wz nz _ e (Ac.label i co) h hE (fun W ht2 _ => (read_yes b vn vm ns x co i W ht2 hi1 ht hco).mono fun r w' ⟨hr, hw⟩ => ⟨_, hr, .inl ⟨rfl, rfl⟩, by rw [hw]; exact Below.refl _ _⟩) (fun W hO => (rRead_any v ns x co W (BTexts.Own.has hO) hT.len hNo ht hco).mono fun r w' ⟨z, hF, hr, hb⟩ => ⟨?_, hb⟩)
        rcases hF with ⟨_, hn⟩ | ⟨j, rfl, hj, _⟩
        · exact absurd hi hn
        · rw [nodup_tab hT hj hi1, if_neg (by omega), decide_eq_true (by omega)] at hr; exact hr
      · refine step_read_no w0 wr g bk who b vn vm v ns b' vn' vm' v' ns' wz nz _ e h hE (fun W ht2 hn => (read_no b vn vm ns x co _ _ W ht2 hi ht hco hs hn.U.1).mono fun r w' hh => ?_) (fun W hO => (rRead_any v ns x co W (BTexts.Own.has hO) hT.len hNo ht hco).mono fun r w' ⟨z, hF, hr, hb⟩ => ⟨?_, hb⟩)
        · obtain ⟨hr, hF, hb⟩ := hh
          exact ⟨_, hr, .inr ⟨by simp, _, rfl, hF⟩, hb⟩
        · rcases hF with ⟨rfl, _⟩ | ⟨j, rfl, hj, _⟩
          · exact hr
          · exact absurd (List.mem_of_getElem? hj) hi
  · exact lift (step_else w0 wr g bk who b vn vm v ns b' vn' vm' v' ns' wz nz s e kz h h1 h2 h3 h4 h5)
end Go.Proofs.YthcboklkejlifaaGreatDoor
/- The other pair becomes this one's twin; the least bit of a number. -/
namespace Go.Proofs.YthcboklkejlifaaGreatDoor
open Go.RowKit Go.Maps
theorem and_one (z : Int) : bits .and .i64 z 1 = 0 ∨ bits .and .i64 z 1 = 1 := by
  have h : bits .and .i64 z 1 = IntKind.i64.wrap (((BitVec.ofInt 64 z &&& BitVec.ofInt 64 1).toNat : Nat) : Int) := rfl
  have h1 : (BitVec.ofInt 64 1).toNat = 1 := by decide
  rw [h, BitVec.toNat_and, h1, Nat.and_one_is_mod, IntKind.wrap_i64]
  omega
def twW3 (w : World) (g o : Nat) (b2 : Nat) (v : Value) (bk : Nat) : World := ((w.setCell ⟨g, o, none⟩ (pB b2)).setCell ⟨g, o + 1, none⟩ v).setCell ⟨g, o + 2, none⟩ (pB bk)
theorem cells_twin (who : Bool) (b : Nat) (v : Value) (bk b' : Nat) (v' : Value) (b2 : Nat) : (((cellsOf who b v bk b' v').setIfInBounds (oW (!who)) (pB b2)).setIfInBounds (oW (!who) + 1) v).setIfInBounds (oW (!who) + 2) (pB bk) = cellsOf who b v bk b2 v := by cases who <;> rfl
theorem PS.twin {w0 wr w1 : World} {g bk : Nat} {who : Bool} {b : Nat} {vn vm v : Value} {ns : List ByteArray} {b' : Nat} {vn' vm' v' : Value} {ns' : List ByteArray} {vi vw : Value} {ls ws : List Value} {zss : List (List ByteArray)} (h : PS w0 wr g bk who b vn vm v ns b' vn' vm' v' ns' vi vw ls ws zss) {b2 : Nat} {vn2 vm2 : Value} (hT : Tab w1 b2 vn2 vm2 ns) (hf : ∀ i, Foot b2 vn2 vm2 i → wr.heap.size ≤ i) (hb : Below wr.heap.size wr w1) :
    PS w0 (twW3 w1 g (oW (!who)) b2 v bk) g bk who b vn vm v ns b2 vn2 vm2 v ns vi vw ls ws zss := by
  have h1 := h.below hb
  have hz := hb.size
  have kW : Kept (fun i => i = g) w1 (twW3 w1 g (oW (!who)) b2 v bk) := ((Kept.setCell w1 g _ _).trans (Kept.setCell _ g _ _)).trans (Kept.setCell _ g _ _)
  have a3 : (twW3 w1 g (oW (!who)) b2 v bk).heap[g]? = some (.cells (cellsOf who b v bk b2 v) 105 (0, 0)) := by
    have h9 := heap_setCell_same _ g (oW (!who) + 2) _ _ (pB bk) (heap_setCell_same _ g (oW (!who) + 1) _ _ v (heap_setCell_same w1 g (oW (!who)) _ _ (pB b2) h1.arr))
    rw [cells_twin] at h9
    exact h9
  have hgF : ∀ {b9 : Nat} {vn9 vm9 : Value} {ns9 : List ByteArray}, Tab w1 b9 vn9 vm9 ns9 → ∀ i, Foot b9 vn9 vm9 i → ¬ i = g := fun ht i hi e => by
    subst e
    rcases foot_typed ht hi h1.arr with e | e <;> exact absurd e (by decide)
  have hown : ∀ {x : Value} {zs : List ByteArray}, BTexts.Own w1 0 x zs → BTexts.Own (twW3 w1 g (oW (!who)) b2 v bk) 0 x zs := fun ho => own_up ho kW fun i hi e => own_bk ho h1.arr (by decide) (e ▸ hi)
  obtain ⟨cs, hcs, _⟩ := h1.bs.bt
  have hgbk : ¬ bk = g := fun e => by
    subst e
    have ha := h1.arr
    rw [hcs] at ha
    injection ha with e
    injection e with _ e
    exact absurd e (by decide)
  have hls : ∀ i, LsF ls i → i < wr.heap.size := fun i hi => BTexts.Bp.lsf_lt h.bs.p hi
  have hwl : ws.length = zss.length := by have := h.bs.rw.1; rw [Nat.mul_one] at this; exact this
  have hws : ∀ i, LsF ws i → i < wr.heap.size := fun i ⟨x, hx, hxi⟩ => by
    obtain ⟨q, hq, rfl⟩ := List.getElem_of_mem hx
    exact ((h.bs.lw q _ _ (List.getElem?_eq_getElem hq) (List.getElem?_eq_getElem (by omega))).lt i hxi).2
  refine ⟨a3, h1.t.at fun i hi => kW.block i (h1.t.foot_lt hi) (hgF h1.t i hi), hT.at fun i hi => kW.block i (hT.foot_lt hi) (hgF hT i hi), hown h1.r, hown h1.r, ?_, h1.ot.kept kW hgbk, fun i hi hj => ?_, fun i hi hS => ?_, fun i hi hS => ?_, h.nm, h.nm, fun i hi => ?_, h1.bl.trans (kW.below h1.bl.size fun i hi => h.lo i (.inr (.inr (.inl hi))))⟩
  · refine bs_keep h1.bs kW hgbk (fun i hi e => own_bk h1.bs.p.ri h1.arr (by decide) (e ▸ hi)) (fun i hi e => own_bk h1.bs.rw h1.arr (by decide) (e ▸ hi)) (fun i hi e => ?_) (fun i hi e => ?_)
    · obtain ⟨_, _, _, _, ho, hob⟩ := BTexts.Bp.typed h1.bs.p hi
      exact own_bk ho h1.arr (by decide) (e ▸ hob)
    · obtain ⟨x, hx, hxi⟩ := hi
      obtain ⟨q, hq, rfl⟩ := List.getElem_of_mem hx
      exact own_bk (h1.bs.lw q _ _ (List.getElem?_eq_getElem hq) (List.getElem?_eq_getElem (by omega))) h1.arr (by decide) (e ▸ hxi)
  · have h2 := hf i hj
    have h3 := h.t.foot_lt hi
    omega
  · rcases hS with hS | hS | hS | hS
    · exact h.s i hi (.inl hS)
    · exact h.s i hi (.inr (.inl hS))
    · exact h.s i hi (.inr (.inr (.inl hS)))
    · exact h.s i hi (.inr (.inr (.inl hS)))
  · have h2 := hf i hi
    rcases hS with hS | hS | hS | hS
    · have := hls i hS; omega
    · have := hws i hS; omega
    · have := (h.r.lt i hS).2; omega
    · have := (h.r.lt i hS).2; omega
  · rcases hi with hi | hi | hi
    · exact h.lo i (.inl hi)
    · have h2 := hf i hi; have := h.bl.size; omega
    · exact h.lo i (.inr (.inr hi))
end Go.Proofs.YthcboklkejlifaaGreatDoor
