/- The statement LexisLines as a call: on any list of words it returns true, and nothing that was there has turned. -/
import Derived.Test.YtpefldpmdhajfaaDoorRefLines
import Derived.Test.YtpefldpmdhajfaaDoorSameLines
import Derived.Test.YtpefldpmdhajfaaDoorAlive
namespace Go.Proofs.YtpefldpmdhajfaaDoor
open Go.RowKit
/-- The value is a list of these words, with room for all of them. -/
def HasC (w : World) (v : Value) (zs : List ZTok) : Prop :=
  ∃ (ao : Option Addr) (b o cap : Nat), v = .slice ao zs.length cap ∧ zs.length ≤ cap ∧ (0 < zs.length → ao = some ⟨b, o, none⟩) ∧ Lies w b o zs
theorem linesF_rows (zs : List ZTok) : ∀ row, ∀ r ∈ linesF row zs, r.length ≤ row.length + zs.length := by
  induction zs with
  | nil =>
    intro row r hr
    simp only [linesF] at hr
    split at hr
    · simp at hr
    · simp at hr; subst hr; simp
  | cons z s ih =>
    intro row r hr
    simp only [linesF] at hr
    split at hr
    · rcases List.mem_cons.1 hr with rfl | hr
      · omega
      · have := ih [] r hr
        simp at this ⊢; omega
    · have := ih _ r hr
      simp at this ⊢; omega
theorem lines_all (ao : Option Addr) (b o cap : Nat) (zs : List ZTok) (w : World) (ha : 0 < zs.length → ao = some ⟨b, o, none⟩) (hz : Lies w b o zs) (hn : zs.length ≤ 5000) (hcap : zs.length ≤ cap) :
    Calls Tryd.prog 7 #[.slice ao zs.length cap] w fun e w' => ∃ u, e = .returned u ∧ RowsIn w' w.heap.size u (linesF [] zs) ∧ Below w.heap.size w w' := by
  by_cases h0 : 0 < zs.length
  · obtain rfl := ha h0
    exact lines_any b o cap zs w hz hn hcap h0
  · obtain rfl : zs = [] := List.length_eq_zero_iff.1 (by omega)
    exact lines_nil ao cap w
set_option maxRecDepth 100000 in
set_option maxHeartbeats 1000000 in
theorem lawLines_any (v : Value) (zs : List ZTok) (TL TW : TypeId) (uL uW : Value) (w : World) (hv : HasC w v zs) (hl : zs.length ≤ maxLen) (hL : w.cell? ⟨0, 0, none⟩ = some (.iface TL uL)) (hW : w.cell? ⟨1, 0, none⟩ = some (.iface TW uW)) :
    Calls Tryd.prog 3 #[v] w fun e w' => e = .returned (.bool true) ∧ Below w.heap.size w w' := by
  obtain ⟨ao, b, o, cap, rfl, hcap, ha, hz⟩ := hv
  have hA := alive_any TL TW uL uW w hL hW
  obtain ⟨n, hN⟩ : ∃ n, n = zs.length := ⟨_, rfl⟩
  have HH : Hid (Lies w b o zs ∧ n = zs.length ∧ zs.length ≤ cap ∧ (0 < zs.length → ao = some ⟨b, o, none⟩)) := ⟨hz, hN, hcap, ha⟩
  have HA : Hid (Calls Tryd.prog 5 #[] w fun e w' => e = .returned (.bool true) ∧ Below w.heap.size w w') := hA
  rw [← hN] at hl ⊢
  unfold maxLen at hl
  clear hz hN hcap ha hA hL hW
  by_cases h5 : 5000 < n
  · have q : (5000 : Int) < (n : Int) := by omega
    go_enter Tryd.func3, Tryd.ntmps3
    go_wp2_with (go_at_call 5; refine Calls.mono HA.out ?_; rintro e1 w1 ⟨rfl, hb⟩; have HB : Hid (Below w.heap.size w w1) := hb; clear hb)
    go_ret
    exact ⟨rfl, HB.out⟩
  · have q : ¬ (5000 : Int) < (n : Int) := by omega
    go_enter Tryd.func3, Tryd.ntmps3
    go_wp2_with (go_at_call 5; refine Calls.mono HA.out ?_; rintro e1 w1 ⟨rfl, hb⟩; have HB : Hid (Below w.heap.size w w1) := hb; clear hb)
    have hC1 := lines_all ao b o cap zs w1 HH.out.2.2.2 (HH.out.1.below HB.out) (by have := HH.out.2.1; omega) HH.out.2.2.1
    rw [← HH.out.2.1] at hC1
    refine hC1.mono ?_
    rintro r w2 ⟨u1, rfl, hR1, hb2⟩
    have H2 : Hid (RowsIn w2 w1.heap.size u1 (linesF [] zs) ∧ Below w.heap.size w w2) := ⟨hR1, HB.out.trans (hb2.mono HB.out.size)⟩
    clear hC1 hR1 hb2
    go_wp2_with fail
    have hC2 := refLines_any ao b o cap zs w2 HH.out.2.2.2 (HH.out.1.below H2.out.2) (by have := HH.out.2.1; omega)
    rw [← HH.out.2.1] at hC2
    refine hC2.mono ?_
    rintro r w3 ⟨u2, rfl, hR2, hb3⟩
    have H3 : Hid (RowsIn w3 w1.heap.size u1 (linesF [] zs) ∧ RowsIn w3 w2.heap.size u2 (linesF [] zs) ∧ Below w.heap.size w w3) := ⟨H2.out.1.below hb3, hR2, H2.out.2.trans (hb3.mono H2.out.2.size)⟩
    clear hC2 hR2 hb3
    go_wp2_with fail
    have hC3 := sameLines_q u1 u2 (linesF [] zs) w3 (by have := linesF_le zs []; have := HH.out.2.1; omega) (fun r hr => by have := linesF_rows zs [] r hr; have := HH.out.2.1; simp at *; omega) H3.out.1.hasR H3.out.2.1.hasR
    refine hC3.mono ?_
    rintro r w4 ⟨rfl, m, rfl⟩
    clear hC3
    go_wp2_with fail
    go_ret
    exact ⟨rfl, below_drewN H3.out.2.2 _⟩
end Go.Proofs.YtpefldpmdhajfaaDoor
