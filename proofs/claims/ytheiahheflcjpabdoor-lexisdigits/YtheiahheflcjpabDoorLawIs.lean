/- The statement LexisIs as a call: on any text it returns true, and nothing that was there has turned. -/
import Derived.Test.YtheiahheflcjpabDoorLong
namespace Go.Proofs.YtheiahheflcjpabDoor
open Go.RowKit
theorem fault_err {w : World} {b : Nat} {x y z e : Value} {t : TypeId} (h : w.heap[b]? = some (.cells #[x, y, z, e] t (0, 0))) : w.cell? ⟨b, 3, none⟩ = some e := by simp [World.cell?, h]
theorem alive_errs (aA aL aI aW : Addr) (w : World) (hE : Errs w aA aL aI aW) : Calls Tryd.prog 6 #[] w fun e w' => e = .returned (.bool true) ∧ Below w.heap.size w w' :=
  alive_any _ _ _ _ w hE.2.1.1 hE.2.2.2.1.1
set_option maxHeartbeats 1000000 in
theorem lawIs_any (s : ByteArray) (aA aL aI aW : Addr) (w : World) (hm : s.size ≤ maxLen) (hE : Errs w aA aL aI aW) :
    Calls Tryd.prog 4 #[.string s] w fun e w' => e = .returned (.bool true) ∧ Below w.heap.size w w' := by
  have HE : Hid (Errs w aA aL aI aW) := hE
  clear hE
  go_enter Tryd.func4, Tryd.ntmps4
  go_wp2_with fail
  refine (scan_all s aA aL aI aW _ hm HE.out).mono ?_
  rintro e w1 ⟨hb1, ⟨v, rfl⟩ | ⟨b, l, c, a, rfl, ha, hB⟩⟩
  · have HB : Hid (Below w.heap.size w w1) := hb1
    clear hb1
    go_wp2_with (go_at_call 6; refine (alive_errs aA aL aI aW _ (HE.out.below HB.out)).mono ?_; rintro e w2 ⟨rfl, hb2⟩)
    go_ret
    exact ⟨rfl, HB.out.trans (hb2.mono HB.out.size)⟩
  · have HB : Hid (Below w.heap.size w w1) := hb1
    have HF : Hid (w1.heap[b]? = some (.cells #[.string lexisS, .int .i64 l, .int .i64 c, .iface 83 (.pointer (some a))] 38 (0, 0))) := hB
    clear hb1 hB
    go_wp2_with fail
    refine (alive_errs aA aL aI aW _ (HE.out.below HB.out)).mono ?_
    rintro e w2 ⟨rfl, hb2⟩
    have HE2 := (HE.out.below HB.out).below hb2
    have hF2 : w2.cell? ⟨b, 3, none⟩ = some (.iface 83 (.pointer (some a))) := fault_err (by rw [hb2.block b (lt_of_block HF.out)]; exact HF.out)
    have HB2 : Hid (Below w.heap.size w w2) := HB.out.trans (hb2.mono HB.out.size)
    have gW := HE2.2.2.2.1.1
    have HE3 : Hid (Errs w2 aA aL aI aW) := HE2
    clear hb2 HE2
    rcases ha with rfl | rfl
    · obtain ⟨_, ⟨_, cL, tL, bL⟩, _, ⟨_, cW, tW, bW⟩, _, _, n2, _⟩ := HE3.out
      go_wp2_with fail
      refine (is_fault_other b aW a cL cW tL tW _ hF2 (fun h => n2 h.symm) bL bW).mono ?_
      rintro e w' ⟨rfl, rfl⟩
      go_wp2_with (go_at_call 8; refine (code_long b aA a aI aW _ HE3.out hF2).mono ?_; rintro e w' ⟨rfl, rfl⟩)
      go_ret
      exact ⟨rfl, HB2.out⟩
    · go_wp2_with fail
      refine (is_fault_same b a _ hF2).mono ?_
      rintro e w' ⟨rfl, rfl⟩
      go_wp2_with (go_at_call 8; refine (code_word b aA aL aI a _ HE3.out hF2).mono ?_; rintro e w' ⟨rfl, rfl⟩)
      go_ret
      exact ⟨rfl, HB2.out⟩
end Go.Proofs.YtheiahheflcjpabDoor
