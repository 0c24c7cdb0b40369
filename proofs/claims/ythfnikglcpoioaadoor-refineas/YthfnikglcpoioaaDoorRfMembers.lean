/- refine: Members. -/
import Derived.Test.YthfnikglcpoioaaDoorRfMembers0
namespace Go.Proofs.YthfnikglcpoioaaDoor
open Go.RowKit Go.Maps
attribute [local go_sem ↓] Go.wp_at_zero Go.wp_at_succ
theorem rgu2 {w2 wa wb : World} {a0 a1 : Addr} {x0 x1 : Value} (hb : Below wa.heap.size wa wb) (h : (wa.cell? a0 = some x0 ∧ wa.cell? a1 = some x1) ∧ Hid (Below w2.heap.size w2 wa)) : (wb.cell? a0 = some x0 ∧ wb.cell? a1 = some x1) ∧ Hid (Below w2.heap.size w2 wb) :=
  ⟨⟨cellu h.1.1 hb, cellu h.1.2 hb⟩, (h.2.out.trans (hb.mono h.2.out.size) : Below w2.heap.size w2 wb)⟩
set_option maxRecDepth 100000 in
set_option maxHeartbeats 4000000 in
theorem members_ok (g : Nat) (c : Nat → Int) (s : Pst) (b : Nat) (w0 w : World) (hP : Pt w0 w g c) (hL : Lay c s) (hO : s.Ok) (hb : b < s.nb) :
    Calls Tryd.prog 10 #[.pointer (some ⟨g, 0, none⟩), .int .i64 b] w fun r w' => ∃ u, r = .returned (.tuple #[u, .nilIface]) ∧ OwnI w' w.heap.size u (s.mem b) ∧ Below w.heap.size w w' := by
  obtain ⟨v1, v2, v3, v4⟩ := hO.iv b hb
  have hn := hO.n1
  have hf := hO.few
  have hS := blocks_any g c w0 w hP
  rw [hL.nb] at hS
  have hl := lacks_ok g b s.nb w (by omega) (by omega)
  have c0 := hP.cell (i := 3002 + b * 3) (by omega)
  rw [hL.b b hb] at c0
  have c2 := hP.cell (i := 3002 + b * 3 + 2) (by omega)
  rw [hL.d b hb] at c2
  have e0 : (0 : Int) ≤ (b : Int) := by omega
  have e1 : (b : Int) < 1000 := by omega
  have hPa := fun W => part_any g (s.B b) (s.D b) v3 (by omega) W
  have hCl : ∀ W, Pt w0 W g c → Calls Tryd.prog 22 #[.slice (some ⟨g, 2 + s.B b, none⟩) (s.D b - s.B b) (s.D b - s.B b)] W fun r w' => ∃ h k, r = .returned (.slice (some ⟨h, 0, none⟩) (s.D b - s.B b) k) ∧ OwnI w' W.heap.size (.slice (some ⟨h, 0, none⟩) (s.D b - s.B b) k) (s.room b) ∧ Below W.heap.size W w' ∧ W.heap.size ≤ h := fun W hW => by
    have h := cloneI_any ⟨g, 2 + s.B b, none⟩ (s.D b - s.B b) (s.room b) W (by rw [room_len]; omega) (by rw [room_len]; omega) (fun j u hj => by
      unfold iC at hj
      rw [List.getElem?_map] at hj
      obtain ⟨z, hz, rfl⟩ := Option.map_eq_some_iff.1 hj
      have hj2 : j < s.D b - s.B b := by rw [← room_len]; exact (List.getElem?_eq_some_iff.1 hz).1
      rw [room_at s b hj2] at hz
      have h3 := hW.cell (i := 2 + (s.B b + j)) (by omega)
      rw [hL.e _ (by omega)] at h3
      obtain rfl := Option.some.inj hz
      rw [← Nat.add_assoc] at h3
      have h4 : (⟨g, 2 + s.B b, none⟩ : Addr).add j = ⟨g, 2 + s.B b + j, none⟩ := by simp [Addr.add]
      rw [h4]
      exact h3)
    rw [room_len] at h
    exact h
  have hSo : ∀ (W : World) (B h k : Nat), OwnI W B (.slice (some ⟨h, 0, none⟩) (s.D b - s.B b) k) (s.room b) → Calls Tryd.prog 24 #[.slice (some ⟨h, 0, none⟩) (s.D b - s.B b) k] W fun e w' => e = .returned (.tuple #[]) ∧ OwnI w' B (.slice (some ⟨h, 0, none⟩) (s.D b - s.B b) k) (s.mem b) ∧ W.grownBy w' (some h) := fun W B h k hW => by
    have h1 := sortI_any W B h k (s.room b) (by rw [room_len]; exact hW) (by rw [room_len]; omega)
    rw [room_len, room_sort hO hb] at h1
    exact h1
  have HPt : Hid (Pt w0 w g c) := hP
  have H : Hid _ := And.intro hS (And.intro hl (And.intro hPa (And.intro hCl hSo)))
  clear hS hl hPa hCl hSo hP hL hn hf hb v1 v2 v3 v4
  generalize s.room b = rm at H
  generalize s.mem b = mm at H ⊢
  generalize s.D b - s.B b = n at H
  generalize s.B b = B at *
  generalize s.D b = D at *
  generalize s.nb = nb at H
  clear hO
  go_enter Tryd.func10, Tryd.ntmps10
  go_upto_region 4 with (first
    | (go_at_call 13; refine Calls.mono H.out.1 ?_; rintro r w1 ⟨rfl, hw1⟩; obtain rfl := hw1.symm; clear hw1)
    | (go_at_call 19; refine Calls.mono H.out.2.1 ?_; rintro r w1 ⟨rfl, hw1⟩; obtain rfl := hw1.symm; clear hw1))
  go_region_held3 (fun w' => (w'.cell? ⟨g, 3002 + b * 3, none⟩ = some (.int .i64 B) ∧ w'.cell? ⟨g, 3002 + b * 3 + 2, none⟩ = some (.int .i64 D)) ∧ Hid (Below w.heap.size w w')) (first | exact rgu2 hb5 (by assumption) | exact ⟨⟨c0, c2⟩, ((Below.refl _ _).drew : Below w.heap.size w w.drew)⟩ | go_keep)
    ((first
      | (go_at_call 23; refine Calls.mono (H.out.2.2.1 _) ?_; rintro r w5 ⟨rfl, hw5⟩; obtain rfl := hw5.symm; clear hw5)
      | (go_at_call 22; refine Calls.mono (H.out.2.2.2.1 _ (HPt.out.below (rgb3 (by assumption)))) ?_; rintro r w5 ⟨h, k, rfl, hO5, hb5, hh5⟩)
      | fail))
  have hbw : Below w.heap.size w w5 := rgb3 (by assumption)
  have HB : Hid (OwnI w5 w.heap.size (.slice (some ⟨h, 0, none⟩) n k) rm ∧ Below w.heap.size w w5 ∧ w.heap.size ≤ h) := ⟨hO5, hbw, hh5⟩
  rename_i hS3
  clear hS3 hO5 hb5 hh5 hbw
  go_wp2_with (go_at_call 24; refine Calls.mono (H.out.2.2.2.2 w5 w.heap.size h k HB.out.1) ?_; rintro r w6 ⟨rfl, hO6, hg6⟩; have H6 : Hid _ := And.intro hO6 (HB.out.2.1.grown hg6 HB.out.2.1.size (by intro q hq; obtain rfl := Option.some.inj hq; exact HB.out.2.2)); clear hO6 hg6)
  go_ret2
  exact ⟨_, rfl, H6.out.1, H6.out.2⟩
set_option maxHeartbeats 1000000 in
theorem members_bad (g : Nat) (c : Nat → Int) (s : Pst) (b : Int) (a1 a3 : Addr) (w0 w : World) (hP : Pt w0 w g c) (hL : Lay c s) (hE : EnvR w a1 a3) (h : b < 0 ∨ (s.nb : Int) ≤ b) :
    Calls Tryd.prog 10 #[.pointer (some ⟨g, 0, none⟩), .int .i64 b] w fun r w' => ∃ x, r = .returned (.tuple #[.slice none 0 0, x]) ∧ Chain w' 0 0 a3 [refB] x ∧ Below w.heap.size w w' := by
  have hS := blocks_any g c w0 w hP
  rw [hL.nb] at hS
  have hl := lacks_bad g b s.nb a1 a3 w hE h
  generalize s.nb = n at hS hl
  have H : Hid _ := And.intro hS hl
  clear hS hl hP hL hE h
  go_enter Tryd.func10, Tryd.ntmps10
  go_wp2_with (first
    | (go_at_call 13; refine Calls.mono H.out.1 ?_; rintro r w1 ⟨rfl, hw1⟩; obtain rfl := hw1.symm; clear hw1)
    | (go_at_call 19; refine Calls.mono H.out.2 ?_; rintro r w1 ⟨x, rfl, hC, hb⟩; have HB : Hid _ := And.intro hC hb; obtain ⟨T, v, rfl⟩ := hC.iface; clear hC hb))
  go_ret2
  exact ⟨_, rfl, HB.out.1, HB.out.2⟩
end Go.Proofs.YthfnikglcpoioaaDoor
