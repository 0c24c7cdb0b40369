/- Contract of slices' insertion sort of edges by a view's comparison. -/
import Derived.Test.YtcjeijmphgpecaaDoorSoRow
namespace Go.Proofs.YtcjeijmphgpecaaDoor
open Go.RowKit Go.Maps
attribute [local go_sem ↓] Go.wp_at_zero Go.wp_at_succ
set_option maxRecDepth 100000 in
set_option maxHeartbeats 8000000 in
theorem insSort_any (f : Nat) (vw : Sy.Ed → Sy.Ed) (hV : ViewAt f vw) (g cap a b : Nat) (d : Array Sy.Ed) (rest : List Value) (w0 w : World) (hR : RowE w0 w g d rest) (hab : a ≤ b) (hb : b ≤ d.size) (hsz : d.size ≤ 1000000) :
    Calls Tryd.prog 75 #[.slice (some ⟨g, 0, none⟩) d.size cap, .int .i64 a, .int .i64 b, cmpV f] w fun r w' => r = .returned (.tuple #[]) ∧ RowE w0 w' g (Sort.insertionSort (ltV vw) d a b) rest := by
  obtain ⟨n, hn⟩ : ∃ n, n = d.size := ⟨_, rfl⟩
  have HR : Hid _ := And.intro hR (And.intro hn hV)
  rw [← hn] at hb hsz ⊢
  unfold cmpV Sort.insertionSort
  clear hR hn hV
  have he := enter_cmp
  go_enter Tryd.func75, Tryd.ntmps75
  go_wp2_with fail
  go_loopg [8] (b - a) (fun q iv wr => ∃ (i : Nat) (dk : Array Sy.Ed), iv = .int .i64 i ∧ a < i ∧ b + 1 - i ≤ q + 1 ∧ dk.size = n ∧ RowE w0 wr g dk rest ∧ Hid (Sort.insOuter (ltV vw) a b i dk = Sort.insOuter (ltV vw) a b (a + 1) d))
  case atStart => exact ⟨a + 1, d, by go_num, by omega, by omega, HR.out.2.1.symm, HR.out.1, rfl⟩
  case round =>
    obtain ⟨i, dk, rfl, hai, hq, hsk, hRk, HO⟩ := hrel
    by_cases hlt : i < b
    · have hltz : (i : Int) < (b : Int) := by omega
      have HK : Hid _ := And.intro hRk hsk
      clear hRk hsk
      obtain ⟨wq, rfl⟩ : ∃ wq, wq = wr := ⟨_, rfl⟩
      go_wp2_with fail
      go_loopg [9] i (fun p jv wr => ∃ (j : Nat) (dj : Array Sy.Ed), jv = .int .i64 j ∧ j ≤ i ∧ j ≤ p ∧ dj.size = n ∧ RowE w0 wr g dj rest ∧ Hid (Sort.insInner (ltV vw) a j dj = Sort.insInner (ltV vw) a i dk))
      case atStart => exact ⟨i, dk, rfl, Nat.le_refl _, Nat.le_refl _, HK.out.2, HK.out.1, rfl⟩
      case round =>
        obtain ⟨j, dj, rfl, hji, hp, hsj, hRj, HI⟩ := hrel
        by_cases hja : a < j
        · obtain ⟨jp, rfl⟩ : ∃ jp, j = jp + 1 := ⟨j - 1, by omega⟩
          obtain ⟨x0, x1, x2⟩ := hRj.cells (j := jp + 1) (by omega)
          obtain ⟨y0, y1, y2⟩ := hRj.cells (j := jp) (by omega)
          have hcm := fun W => compare_any f vw HR.out.2.2 (dj[jp + 1]!) (dj[jp]!) W
          unfold edV at hcm
          have hlt2 := cmpV_neg vw (dj[jp + 1]!) (dj[jp]!)
          have HJ : Hid _ := And.intro hRj hsj
          obtain ⟨xe, hxe⟩ : ∃ xe, xe = dj[jp + 1]! := ⟨_, rfl⟩
          obtain ⟨ye, hye⟩ : ∃ ye, ye = dj[jp]! := ⟨_, rfl⟩
          rw [← hxe] at x0 x1 x2 hcm hlt2
          rw [← hye] at y0 y1 y2 hcm hlt2
          have HE : Hid _ := And.intro hxe hye
          clear hRj hsj hxe hye
          obtain ⟨xa, xb, xc⟩ := xe
          obtain ⟨ya, yb, yc⟩ := ye
          generalize cmpE (vw (xa, xb, xc)) (vw (ya, yb, yc)) = c at hcm hlt2
          have HC : Hid _ := hcm
          have HL : Hid _ := hlt2
          clear hcm hlt2
          simp only at x0 x1 x2 y0 y1 y2
          have p0 : (0 : Int) ≤ (jp : Int) + 1 := by omega
          have p1 : (jp : Int) + 1 < (n : Int) := by have := HJ.out.2; omega
          have p2 : (0 : Int) ≤ (jp : Int) := by omega
          have p3 : (jp : Int) < (n : Int) := by omega
          have p4 : decide ((a : Int) < (jp : Int) + 1) = true := decide_eq_true (by omega)
          have p5 : ((jp : Int) + 1).toNat = jp + 1 := by omega
          have p7 : IntKind.i64.wrap (jp : Int) = (jp : Int) := by rw [IntKind.wrap_i64]; omega
          have p8 : IntKind.i64.wrap ((jp : Int) + 1 - 1) = (jp : Int) := by rw [IntKind.wrap_i64]; omega
          by_cases hc : c < 0
          · have p6 : decide (c < 0) = true := decide_eq_true hc
            go_upto_region 4 with fail
            go_region_held3 (fun w' => ((w'.cell? ⟨g, (jp + 1) * 3, none⟩ = some (.int .i64 xa) ∧ w'.cell? ⟨g, (jp + 1) * 3 + 1, none⟩ = some (.int .i64 xb) ∧ w'.cell? ⟨g, (jp + 1) * 3 + 2, none⟩ = some (.int .i64 xc)) ∧ (w'.cell? ⟨g, jp * 3, none⟩ = some (.int .i64 ya) ∧ w'.cell? ⟨g, jp * 3 + 1, none⟩ = some (.int .i64 yb) ∧ w'.cell? ⟨g, jp * 3 + 2, none⟩ = some (.int .i64 yc))) ∧ Hid (Below wr.heap.size wr w')) (first | exact rg_up6 hb3 (by assumption) | exact ⟨⟨⟨x0, x1, x2⟩, ⟨y0, y1, y2⟩⟩, ((Below.refl _ _).drew : Below wr.heap.size wr wr.drew)⟩ | go_keep)
              ((first
                | (go_at_fn 50; refine (HC.out _).mono ?_; rintro r w3 ⟨rfl, hb3⟩)
                | fail))
            have hR3 : RowE w0 w3 g dj rest := HJ.out.1.below (rg_b (by assumption))
            have HJ3 : Hid _ := And.intro hR3 HJ.out.2
            have f0 := hR3.free ((jp + 1) * 3)
            have f1 := hR3.free ((jp + 1) * 3 + 1)
            have f2 := hR3.free ((jp + 1) * 3 + 2)
            have f3 := hR3.free (jp * 3)
            have f4 := hR3.free (jp * 3 + 1)
            have f5 := hR3.free (jp * 3 + 2)
            obtain ⟨z0, z1, z2⟩ := hR3.at (z := (xa, xb, xc)) (by rw [HE.out.1]; exact getb (by have := HJ.out.2; omega))
            obtain ⟨z3, z4, z5⟩ := hR3.at (z := (ya, yb, yc)) (by rw [HE.out.2]; exact getb (by have := HJ.out.2; omega))
            simp only at z0 z1 z2 z3 z4 z5
            clear x0 x1 x2 y0 y1 y2 hb3 hR3 HC HJ
            rename_i hS3
            clear hS3
            go_wp2_with fail
            go_region
            all_goals go_wp2_with fail
            go_roundg jp
            case measure => omega
            case rel =>
              refine ⟨jp, Sort.swp dj (jp + 1) jp, by go_num, by omega, Nat.le_refl _, by rw [Sort.size_swp]; exact HJ3.out.2, HJ3.out.1.swapped (i := jp + 1) (j := jp) (x := (xa, xb, xc)) (y := (ya, yb, yc)) (by have := HJ3.out.2; omega) (by have := HJ3.out.2; omega) HE.out.1 HE.out.2, (show Hid _ from ?_)⟩
              show _ = _
              rw [← HI.out, ins_go _ _ _ _ hja (by rw [← HE.out.1, ← HE.out.2]; exact HL.out.1 hc)]
          · have p6 : decide (c < 0) = false := decide_eq_false hc
            go_upto_region 4 with fail
            go_region_held3 (fun w' => ((w'.cell? ⟨g, (jp + 1) * 3, none⟩ = some (.int .i64 xa) ∧ w'.cell? ⟨g, (jp + 1) * 3 + 1, none⟩ = some (.int .i64 xb) ∧ w'.cell? ⟨g, (jp + 1) * 3 + 2, none⟩ = some (.int .i64 xc)) ∧ (w'.cell? ⟨g, jp * 3, none⟩ = some (.int .i64 ya) ∧ w'.cell? ⟨g, jp * 3 + 1, none⟩ = some (.int .i64 yb) ∧ w'.cell? ⟨g, jp * 3 + 2, none⟩ = some (.int .i64 yc))) ∧ Hid (Below wr.heap.size wr w')) (first | exact rg_up6 hb3 (by assumption) | exact ⟨⟨⟨x0, x1, x2⟩, ⟨y0, y1, y2⟩⟩, ((Below.refl _ _).drew : Below wr.heap.size wr wr.drew)⟩ | go_keep)
              ((first
                | (go_at_fn 50; refine (HC.out _).mono ?_; rintro r w3 ⟨rfl, hb3⟩)
                | fail))
            have hR3 : RowE w0 w3 g dj rest := HJ.out.1.below (rg_b (by assumption))
            have HJ3 : Hid _ := And.intro hR3 HJ.out.2
            clear x0 x1 x2 y0 y1 y2 hb3 hR3 HC HJ
            rename_i hS3
            clear hS3
            go_wp2_with fail
            go_roundg (b - (i + 1))
            case measure => omega
            case rel =>
              refine ⟨i + 1, dj, by go_num, by omega, by omega, HJ3.out.2, HJ3.out.1, (show Hid _ from ?_)⟩
              show _ = _
              have hl : ltV vw dj[jp + 1]! dj[jp]! = false := by
                rw [← HE.out.1, ← HE.out.2]
                cases h : ltV vw (xa, xb, xc) (ya, yb, yc) with
                | false => rfl
                | true => exact absurd (HL.out.2 h) (by omega)
              rw [← HO.out, ins_next _ _ _ _ _ hlt, ← HI.out, ins_stop _ _ _ _ hl]
        · have p4 : decide ((a : Int) < (j : Int)) = false := decide_eq_false (by omega)
          have p5 : ¬ (a : Int) < (j : Int) := by omega
          have HJ3 : Hid _ := And.intro hRj hsj
          clear hRj hsj
          go_wp2_with fail
          go_region
          all_goals go_wp2_with fail
          go_roundg (b - (i + 1))
          case measure => omega
          case rel =>
            refine ⟨i + 1, dj, by go_num, by omega, by omega, HJ3.out.2, HJ3.out.1.below (Below.refl _ _).drew, (show Hid _ from ?_)⟩
            show _ = _
            rw [← HO.out, ins_next _ _ _ _ _ hlt, ← HI.out, ins_at _ _ _ _ hja]
    · have hltz : ¬ (i : Int) < (b : Int) := by omega
      go_wp2
      go_end0
      exact ⟨rfl, by rw [← HO.out, ins_end _ _ _ _ _ hlt]; exact hRk⟩
end Go.Proofs.YtcjeijmphgpecaaDoor
