/- The statement LexisPlaces: the path of an error. -/
import Derived.Test.YtpefldpmdhajfaaDoorLawPlaces
import Derived.Deep.RegionHeld3
import Derived.Deep.DrawnRows
import Derived.Laws.BitsLemmas
namespace Go.Proofs.YtpefldpmdhajfaaDoor
open Go.RowKit
attribute [local go_sem ↓] Go.wp_at_zero Go.wp_at_succ
theorem wrap_line (l : Nat) (h : l ≤ 60001) : IntKind.i64.wrap ((l : Int) + 1) = (l : Int) + 1 := by
  rw [IntKind.wrap_i64]; omega
theorem bad_cells {w0 w : World} {aA aL aI aW a : Addr} {b b' : Nat} {l c : Int} (h : BadSt w0 aA aL aI aW a b b' l c w) : w.cell? ⟨b, 1, none⟩ = some (.int .i64 l) ∧ w.cell? ⟨b, 2, none⟩ = some (.int .i64 c) ∧ w.cell? ⟨b', 1, none⟩ = some (.int .i64 (l + 1)) ∧ w.cell? ⟨b', 2, none⟩ = some (.int .i64 c) :=
  ⟨h.f.cells.1, h.f.cells.2.1, h.g.cells.1, h.g.cells.2.1⟩
set_option maxRecDepth 100000 in
set_option maxHeartbeats 4000000 in
theorem places_bad : PlacesBadSaid := by
  intro s k l c a aA aL aI aW w hs hE hl hA hB hC
  have h6 : ¬ (60000 : Int) < (s.size : Int) := by omega
  have hwr := wrap_line l hl
  have hcf := cast_fault
  have HA : Hid _ := And.intro hA (And.intro hB hC)
  clear hA hB hC
  have HE : Hid (Errs w aA aL aI aW) := hE
  clear hE
  go_enter Tryd.func4, Tryd.ntmps4
  go_wp2_with fail
  refine HA.out.1.mono ?_
  rintro r1 w1 ⟨⟨b, rfl, hF⟩, hb1⟩
  have H1 : Hid _ := And.intro hF hb1
  clear hF hb1
  go_wp2_with fail
  refine (HA.out.2.1 w1 ((HE.out : Errs w aA aL aI aW).below H1.out.2)).mono ?_
  rintro r2 w2 ⟨⟨b', rfl, hG⟩, hb2⟩
  have hS : BadSt w aA aL aI aW a b b' l c w2 := ⟨((HE.out : Errs w aA aL aI aW).below H1.out.2).below hb2, H1.out.1.below hb2, hG, H1.out.2.trans (hb2.mono H1.out.2.size)⟩
  obtain ⟨c1, c2, c3, c4⟩ := bad_cells hS
  have HS : Hid _ := hS
  clear hS hG hb2
  go_wp2_with fail
  go_region_held3 (fun w' => w'.cell? ⟨b, 1, none⟩ = some (.int .i64 l) ∧ w'.cell? ⟨b, 2, none⟩ = some (.int .i64 c) ∧ w'.cell? ⟨b', 1, none⟩ = some (.int .i64 (l + 1)) ∧ w'.cell? ⟨b', 2, none⟩ = some (.int .i64 c)) (go_keep)
    ((first
      | (go_at_call 5; refine (alive_errs0 aA aL aI aW _ (errs_drew HS.out.errs)).mono ?_; rintro r3 w3 ⟨rfl, hb3⟩; have hS3 := bad_drew HS.out hb3; clear c1 c2 c3 c4; obtain ⟨c1, c2, c3, c4⟩ := bad_cells hS3; have H3 : Hid _ := hS3; clear hS3 hb3 HS)
      | (go_at_call_of 10 (Value.iface 32 (Value.pointer (some ⟨b, 0, none⟩))); refine (HA.out.2.2 _ b H3.out.errs H3.out.f.cells.2.2).mono ?_; rintro r4 w4 ⟨rfl, hw⟩; obtain rfl := hw.symm)
      | (go_at_call_of 10 (Value.iface 32 (Value.pointer (some ⟨b', 0, none⟩))); refine (HA.out.2.2 _ b' H3.out.errs H3.out.g.cells.2.2).mono ?_; rintro r4 w4 ⟨rfl, hw⟩; obtain rfl := hw.symm)))
  all_goals go_wp2_with fail
  all_goals go_ret
  all_goals exact ⟨rfl, H3.out.bl⟩
theorem lawPlaces_any (s : ByteArray) (aA aL aI aW : Addr) (w : World) (hm : s.size ≤ maxLen) (hE : Errs w aA aL aI aW) :
    Calls Tryd.prog 4 #[.string s] w fun e w' => e = .returned (.bool true) ∧ Below w.heap.size w w' := lawPlaces_of places_bad s aA aL aI aW w hm hE
end Go.Proofs.YtpefldpmdhajfaaDoor
