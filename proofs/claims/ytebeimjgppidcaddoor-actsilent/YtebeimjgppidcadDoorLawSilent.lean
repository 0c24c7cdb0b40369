/- The statement ActSilent as a call: on any text it returns true, and nothing that was there has turned. -/
import Derived.Test.YtebeimjgppidcadDoorAlive2
import Derived.Test.YtebeimjgppidcadDoorLaid2
namespace Go.Proofs.YtebeimjgppidcadDoor
open Go.RowKit Go.Maps
theorem tau_yes : (tauB.toList == [116, 97, 117]) = true := by rw [ByteArray.toList_eq]; rfl
theorem nameZ_size {s : ByteArray} (h : Lx.nameZ true s = true) : s.size ≤ 32 := by
  unfold Lx.nameZ at h
  split at h
  · simp at h; exact h.1.1
  · cases h
/-- What Add of a new table answers. -/
def SilentOut (s : ByteArray) (aW aS : Addr) (e : Value) (w : World) : Prop :=
  (s = tauB ∧ ∃ b, e = faultV b ∧ ActFault w b (.iface 69 (.pointer (some aS)))) ∨ (s ≠ tauB ∧ ∃ b, e = faultV b ∧ ActFault w b (.iface 69 (.pointer (some aW)))) ∨ (s ≠ tauB ∧ e = .nilIface)
theorem add_first (b : Nat) (s : ByteArray) (aA aL aI aW aU aS : Addr) (w : World) (hs : s.size ≤ maxLen) (hE : Six w aA aL aI aW aU aS) (hT : Tab w b (.slice none 0 0) (.map none) []) (B : Nat) (hB : B ≤ b) :
    Calls Tryd.prog 5 #[.pointer (some ⟨b, 0, none⟩), .string s] w fun r w' => ∃ k e, r = .returned (.tuple #[.int .i64 k, e]) ∧ SilentOut s aW aS e w' ∧ Below B w w' := by
  have hbw := tab_lt hT.cell
  by_cases ht : s = tauB
  · subst ht
    refine (add_tau b _ _ w hE.S.1).mono ?_
    rintro r w' ⟨rfl, hF, hb⟩
    exact ⟨0, _, rfl, .inl ⟨rfl, _, rfl, hF⟩, hb.mono (by omega)⟩
  · cases hn : Lx.nameZ true s with
    | false =>
      refine (add_word b s _ _ w hs ht hn hE.W.1).mono ?_
      rintro r w' ⟨rfl, hF, hb⟩
      exact ⟨0, _, rfl, .inr (.inl ⟨ht, _, rfl, hF⟩), hb.mono (by omega)⟩
    | true =>
      refine (add_new b _ _ [] s aU w hT (by simp) ht hn (nameZ_size hn) (by decide) hE.U.1).mono ?_
      rintro r w' ⟨rfl, vn, vm, _, hK, _⟩
      exact ⟨_, _, rfl, .inr (.inr ⟨ht, rfl⟩), hK.below (by omega) fun i hi => Nat.le_trans hB (foot_new b i hi)⟩
set_option maxRecDepth 100000 in
set_option maxHeartbeats 1000000 in
theorem lawSilent_any (s : ByteArray) (aA aL aI aW aU aS : Addr) (w : World) (hs : s.size ≤ maxLen) (hE : Six w aA aL aI aW aU aS) :
    Calls Tryd.prog 3 #[.string s] w fun e w' => e = .returned (.bool true) ∧ Below w.heap.size w w' := by
  have HE : Hid (Six w aA aL aI aW aU aS) := hE
  clear hE
  go_enter Tryd.func3, Tryd.ntmps3
  go_wp2_with fail
  refine (new_any _).mono ?_
  rintro r w1 ⟨rfl, hT1, hb1⟩
  have H1 : Hid (Six w1 aA aL aI aW aU aS ∧ Tab w1 w.heap.size (.slice none 0 0) (.map none) [] ∧ Below w.heap.size w w1) := ⟨HE.out.below hb1, hT1, hb1⟩
  clear hT1 hb1
  go_wp2_with fail
  refine (add_first w.heap.size s aA aL aI aW aU aS w1 hs H1.out.1 H1.out.2.1 w.heap.size (Nat.le_refl _)).mono ?_
  rintro r w2 ⟨k, e, rfl, hO, hb2⟩
  have H2 : Hid (Six w2 aA aL aI aW aU aS ∧ Below w.heap.size w w2 ∧ SilentOut s aW aS e w2) := ⟨(by
    have h2 : Below w.heap.size w w2 := H1.out.2.2.trans hb2
    exact HE.out.below h2), H1.out.2.2.trans hb2, hO⟩
  clear hO hb2 H1
  go_wp2_with fail
  refine (alive2_any aU w2 H2.out.1.U.1).mono ?_
  rintro r w3 ⟨rfl, hb3⟩
  have H3 : Hid (Six w3 aA aL aI aW aU aS ∧ Below w.heap.size w w3) := ⟨H2.out.1.below hb3, H2.out.2.1.trans (hb3.mono H2.out.2.1.size)⟩
  have gS := H3.out.1.S.1
  rcases H2.out.2.2 with ⟨rfl, b, rfl, hF⟩ | ⟨ht, b, rfl, hF⟩ | ⟨ht, rfl⟩
  · have hF3 := actFault_err (show ActFault w3 b _ from (hb3.block b (tab_lt hF)).trans hF)
    have q := tau_yes
    clear hF hb3 H2
    unfold faultV tauB
    unfold tauB at q
    go_wp2_with (go_at_call 7; refine (is_fault_same b aS _ hF3).mono ?_; rintro r w' ⟨rfl, hw⟩; obtain rfl := hw.symm)
    go_ret
    exact ⟨rfl, H3.out.2⟩
  · have hF3 := actFault_err (show ActFault w3 b _ from (hb3.block b (tab_lt hF)).trans hF)
    have q := tau_no ht
    obtain ⟨_, cW, tW, bW⟩ := H3.out.1.W
    obtain ⟨_, cS, tS, bS⟩ := H3.out.1.S
    have hne : aW ≠ aS := by
      have := H3.out.1.ne
      simp only [List.pairwise_cons, List.mem_cons, List.not_mem_nil, or_false, forall_eq_or_imp, forall_eq] at this
      exact this.2.2.2.1.2
    clear hF hb3 H2 ht
    unfold faultV
    go_wp2_with (go_at_call 7; refine (is_fault_other b aS aW cW cS tW tS _ hF3 hne bW bS).mono ?_; rintro r w' ⟨rfl, hw⟩; obtain rfl := hw.symm)
    go_ret
    exact ⟨rfl, H3.out.2⟩
  · have q := tau_no ht
    clear hb3 H2 ht
    go_wp2_with (go_at_call 7; refine (is_nil _ _).mono ?_; rintro r w' ⟨rfl, hw⟩; obtain rfl := hw.symm)
    go_ret
    exact ⟨rfl, H3.out.2⟩
end Go.Proofs.YtebeimjgppidcadDoor
