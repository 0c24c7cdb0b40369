/- Texts of this claim, joined: SoHeap, SoHeap2, SoPiv2, SoPart. -/
import Derived.Test.YthcpliinddjkhaaGreatDoorPart10
import Derived.BigRegion
import Derived.Deep.CutBlock
namespace Go.Proofs.YthcpliinddjkhaaGreatDoor
section
open Go.RowKit Go.Maps
attribute [local go_sem ↓] Go.wp_at_zero Go.wp_at_succ
theorem rev_go (i j : Nat) (d : Array Sy.Ed) (h : i < j) : Sort.reverseLoop i j d = Sort.reverseLoop (i + 1) (j - 1) (Sort.swp d i j) := by rw [Sort.reverseLoop, if_pos h]
theorem rev_end (i j : Nat) (d : Array Sy.Ed) (h : ¬ i < j) : Sort.reverseLoop i j d = d := by rw [Sort.reverseLoop, if_neg h]
set_option maxRecDepth 100000 in
set_option maxHeartbeats 8000000 in
theorem reverse_any (u : Value) (g cap a b : Nat) (d : Array Sy.Ed) (rest : List Value) (w0 w : World) (hR : RowE w0 w g d rest) (hab : a < b) (hb : b <= d.size) (hsz : d.size <= 1000000) :
 Calls Tryz.prog 226 #[.slice (some ⟨g, 0, none⟩) d.size cap, .int .i64 a, .int .i64 b, u] w fun r w' => r = .returned (.tuple #[]) /\ RowE w0 w' g (Sort.reverseRange d a b) rest := by
 obtain ⟨n, hn⟩ : ∃ n, n = d.size := ⟨_, rfl⟩
 have HR : Hid _ := And.intro hR hn
 rw [<- hn] at hb hsz ⊢
 unfold Sort.reverseRange
 clear hR hn
 go_enter Tryz.func226, Tryz.ntmps226
 go_wp2_with fail
 go_loopg [8, 9] (b - a) (fun q iv jv wr => ∃ (i j : Nat) (dk : Array Sy.Ed), iv = .int .i64 i /\ jv = .int .i64 j /\ i <= n /\ j < n /\ j - i <= q /\ dk.size = n /\ RowE w0 wr g dk rest /\ Hid (Sort.reverseLoop i j dk = Sort.reverseLoop a (b - 1) d))
 case atStart => exact ⟨a, b - 1, d, rfl, by first | go_num | (congr 1; omega), by omega, by omega, by omega, HR.out.2.symm, HR.out.1, rfl⟩
 case round =>
  obtain ⟨i, j, dk, rfl, rfl, hi, hj, hq, hsk, hRk, HO⟩ := hrel
  by_cases hlt : i < j
  ·obtain ⟨jp, rfl⟩ : ∃ jp, j = jp + 1 := ⟨j - 1, by omega⟩
   have r0 : (0 : Int) <= (i : Int) := by omega
   have r1 : (i : Int) < (n : Int) := by omega
   have r2 : (0 : Int) <= (jp : Int) + 1 := by omega
   have r3 : (jp : Int) + 1 < (n : Int) := by omega
   have r4 : ((jp : Int) + 1).toNat = jp + 1 := by omega
   have r5 : (i : Int) < (jp : Int) + 1 := by omega
   have r6 : IntKind.i64.wrap ((jp : Int) + 1 - 1) = (jp : Int) := by rw [IntKind.wrap_i64]; omega
   have r7 : IntKind.i64.wrap (jp : Int) = (jp : Int) := by rw [IntKind.wrap_i64]; omega
   have f0 := hRk.free (i * 3)
   have f1 := hRk.free (i * 3 + 1)
   have f2 := hRk.free (i * 3 + 2)
   have f3 := hRk.free ((jp + 1) * 3)
   have f4 := hRk.free ((jp + 1) * 3 + 1)
   have f5 := hRk.free ((jp + 1) * 3 + 2)
   obtain ⟨z0, z1, z2⟩ := hRk.cells (j := i) (by omega)
   obtain ⟨z3, z4, z5⟩ := hRk.cells (j := (jp + 1)) (by omega)
   obtain ⟨xe2, hxe2⟩ : ∃ xe, xe = dk[i]! := ⟨_, rfl⟩
   obtain ⟨ye2, hye2⟩ : ∃ ye, ye = dk[(jp + 1)]! := ⟨_, rfl⟩
   rw [<- hxe2] at z0 z1 z2
   rw [<- hye2] at z3 z4 z5
   have HE2 : Hid _ := And.intro hxe2 hye2
   clear hxe2 hye2
   obtain ⟨sa, sb, sc⟩ := xe2
   obtain ⟨ta, tb, tc⟩ := ye2
   simp only at z0 z1 z2 z3 z4 z5
   have HK : Hid _ := And.intro hRk hsk
   clear hRk hsk
   go_wp2_with fail
   go_region
   all_goals go_wp2_with fail
   go_roundg (jp - (i + 1))
   case measure => omega
   case rel =>
    refine ⟨i + 1, jp, Sort.swp dk i (jp + 1), by go_num, by go_num, by omega, by omega, Nat.le_refl _, by rw [Sort.size_swp]; exact HK.out.2, HK.out.1.swapped (i := i) (j := jp + 1) (x := (sa, sb, sc)) (y := (ta, tb, tc)) (by have := HK.out.2; omega) (by have := HK.out.2; omega) HE2.out.1 HE2.out.2, (show Hid _ from ?_)⟩
    show _ = _
    rw [<- HO.out, rev_go _ _ _ hlt]
    rfl
  ·have r5 : ¬ (i : Int) < (j : Int) := by omega
   go_wp2
   go_end0
   exact ⟨rfl, by rw [<- HO.out, rev_end _ _ _ hlt]; exact hRk⟩
theorem sd_end {lt : Sy.Ed -> Sy.Ed -> Bool} {hi first root : Nat} {d : Array Sy.Ed} (h : hi <= 2 * root + 1) : Sort.siftDown lt hi first root d = d := by rw [Sort.siftDown, dif_pos h]
theorem sd_two {lt : Sy.Ed -> Sy.Ed -> Bool} {hi first root : Nat} {d : Array Sy.Ed} (h2 : 2 * root + 2 < hi) (hl : lt d[first + (2 * root + 1)]! d[first + (2 * root + 1) + 1]! = true) (hc : lt d[first + root]! d[first + (2 * root + 2)]! = true) : Sort.siftDown lt hi first root d = Sort.siftDown lt hi first (2 * root + 2) (Sort.swp d (first + root) (first + (2 * root + 2))) := by
 rw [Sort.siftDown, dif_neg (by omega), if_pos (by simp [hl]; omega), if_neg (by simp [hc]), dif_pos h2]
theorem sd_two_stop {lt : Sy.Ed -> Sy.Ed -> Bool} {hi first root : Nat} {d : Array Sy.Ed} (h2 : 2 * root + 2 < hi) (hl : lt d[first + (2 * root + 1)]! d[first + (2 * root + 1) + 1]! = true) (hc : lt d[first + root]! d[first + (2 * root + 2)]! = false) : Sort.siftDown lt hi first root d = d := by
 rw [Sort.siftDown, dif_neg (by omega), if_pos (by simp [hl]; omega), if_pos (by simp [hc])]
theorem sd_one {lt : Sy.Ed -> Sy.Ed -> Bool} {hi first root : Nat} {d : Array Sy.Ed} (h1 : 2 * root + 1 < hi) (hn : ¬ (2 * root + 2 < hi /\ lt d[first + (2 * root + 1)]! d[first + (2 * root + 1) + 1]! = true)) (hc : lt d[first + root]! d[first + (2 * root + 1)]! = true) : Sort.siftDown lt hi first root d = Sort.siftDown lt hi first (2 * root + 1) (Sort.swp d (first + root) (first + (2 * root + 1))) := by
 rw [Sort.siftDown, dif_neg (by omega), if_neg (by simpa using hn), if_neg (by simp [hc])]
theorem sd_one_stop {lt : Sy.Ed -> Sy.Ed -> Bool} {hi first root : Nat} {d : Array Sy.Ed} (h1 : 2 * root + 1 < hi) (hn : ¬ (2 * root + 2 < hi /\ lt d[first + (2 * root + 1)]! d[first + (2 * root + 1) + 1]! = true)) (hc : lt d[first + root]! d[first + (2 * root + 1)]! = false) : Sort.siftDown lt hi first root d = d := by
 rw [Sort.siftDown, dif_neg (by omega), if_neg (by simpa using hn), if_pos (by simp [hc])]
set_option maxRecDepth 100000 in
set_option maxHeartbeats 16000000 in
theorem sift_any (f : Nat) (vw : Sy.Ed -> Sy.Ed) (hV : ViewAt f vw) (g cap lo hi first : Nat) (d : Array Sy.Ed) (rest : List Value) (w0 w : World) (hR : RowE w0 w g d rest) (hlo : lo <= hi) (hb : first + hi <= d.size) (hsz : d.size <= 1000000) :
 Calls Tryz.prog 237 #[.slice (some ⟨g, 0, none⟩) d.size cap, .int .i64 lo, .int .i64 hi, .int .i64 first, cmpV f] w fun r w' => r = .returned (.tuple #[]) /\ RowE w0 w' g (Sort.siftDown (ltV vw) hi first lo d) rest /\ (Sort.siftDown (ltV vw) hi first lo d).size = d.size := by
 obtain ⟨n, hn⟩ : ∃ n, n = d.size := ⟨_, rfl⟩
 have HR : Hid _ := And.intro hR (And.intro hn hV)
 rw [<- hn] at hb hsz ⊢
 unfold cmpV
 have he := enter_cmp
 clear hR hn hV
 go_enter Tryz.func237, Tryz.ntmps237
 go_wp2_with fail
 go_loopg [10] hi (fun q rv wr => ∃ (root : Nat) (dk : Array Sy.Ed), rv = .int .i64 root /\ root <= hi /\ hi - root <= q /\ dk.size = n /\ RowE w0 wr g dk rest /\ Hid (Sort.siftDown (ltV vw) hi first root dk = Sort.siftDown (ltV vw) hi first lo d))
 case atStart => exact ⟨lo, d, rfl, hlo, by omega, HR.out.2.1.symm, HR.out.1, rfl⟩
 case round =>
  obtain ⟨root, dk, rfl, hro, hq, hsk, hRk, HO⟩ := hrel
  have m1 : IntKind.i64.wrap (2 * (root : Int)) = 2 * (root : Int) := by rw [IntKind.wrap_i64]; omega
  have m2 : IntKind.i64.wrap (2 * (root : Int) + 1) = 2 * (root : Int) + 1 := by rw [IntKind.wrap_i64]; omega
  have m3 : IntKind.i64.wrap (2 * (root : Int) + 1 + 1) = 2 * (root : Int) + 1 + 1 := by rw [IntKind.wrap_i64]; omega
  obtain ⟨w4, hw4⟩ : ∃ w4, w4 = wr := ⟨_, rfl⟩
  by_cases h1 : 2 * root + 1 < hi
  ·have q1 : ¬ (hi : Int) <= 2 * (root : Int) + 1 := by omega
   by_cases h2 : 2 * root + 2 < hi
   ·have q2 : decide (2 * (root : Int) + 1 + 1 < (hi : Int)) = true := decide_eq_true (by omega)
    have q3 : 2 * (root : Int) + 1 + 1 < (hi : Int) := by omega
    have u1 : (first : Int) + (2 * (root : Int) + 1) < (n : Int) := by omega
    have u2 : (0 : Int) <= (first : Int) + (2 * (root : Int) + 1) := by omega
    have u3 : ((first : Int) + (2 * (root : Int) + 1)).toNat = first + (2 * root + 1) := by omega
    have u4 : IntKind.i64.wrap ((first : Int) + (2 * (root : Int) + 1)) = (first : Int) + (2 * (root : Int) + 1) := by rw [IntKind.wrap_i64]; omega
    have u5 : (first : Int) + (2 * (root : Int) + 1) + 1 < (n : Int) := by omega
    have u6 : (0 : Int) <= (first : Int) + (2 * (root : Int) + 1) + 1 := by omega
    have u7 : ((first : Int) + (2 * (root : Int) + 1) + 1).toNat = first + (2 * root + 1) + 1 := by omega
    have u8 : IntKind.i64.wrap ((first : Int) + (2 * (root : Int) + 1) + 1) = (first : Int) + (2 * (root : Int) + 1) + 1 := by rw [IntKind.wrap_i64]; omega
    obtain ⟨x0, x1, x2⟩ := hRk.cells (j := (first + (2 * root + 1))) (by omega)
    obtain ⟨y0, y1, y2⟩ := hRk.cells (j := (first + (2 * root + 1) + 1)) (by omega)
    have hcm := fun W => compare_any f vw HR.out.2.2 (dk[(first + (2 * root + 1))]!) (dk[(first + (2 * root + 1) + 1)]!) W
    unfold edV at hcm
    have hlt2 := cmpV_neg vw (dk[(first + (2 * root + 1))]!) (dk[(first + (2 * root + 1) + 1)]!)
    obtain ⟨xe, hxe⟩ : ∃ xe, xe = dk[(first + (2 * root + 1))]! := ⟨_, rfl⟩
    obtain ⟨ye, hye⟩ : ∃ ye, ye = dk[(first + (2 * root + 1) + 1)]! := ⟨_, rfl⟩
    rw [<- hxe] at x0 x1 x2 hcm hlt2
    rw [<- hye] at y0 y1 y2 hcm hlt2
    have HE : Hid _ := And.intro hxe hye
    clear hxe hye
    obtain ⟨xa, xb, xc⟩ := xe
    obtain ⟨ya, yb, yc⟩ := ye
    generalize cmpE (vw (xa, xb, xc)) (vw (ya, yb, yc)) = c at hcm hlt2
    have HC : Hid _ := hcm
    have HL : Hid _ := hlt2
    clear hcm hlt2
    simp only at x0 x1 x2 y0 y1 y2
    have HK : Hid _ := And.intro hRk hsk
    clear hRk hsk hw4
    by_cases hc1 : c < 0
    ·have p7 : decide (c < 0) = true := decide_eq_true hc1
     go_upto_region 3 with fail
     go_region_held3 (fun w' => ((w'.cell? ⟨g, (first + (2 * root + 1)) * 3, none⟩ = some (.int .i64 xa) /\ w'.cell? ⟨g, (first + (2 * root + 1)) * 3 + 1, none⟩ = some (.int .i64 xb) /\ w'.cell? ⟨g, (first + (2 * root + 1)) * 3 + 2, none⟩ = some (.int .i64 xc)) /\ (w'.cell? ⟨g, (first + (2 * root + 1) + 1) * 3, none⟩ = some (.int .i64 ya) /\ w'.cell? ⟨g, (first + (2 * root + 1) + 1) * 3 + 1, none⟩ = some (.int .i64 yb) /\ w'.cell? ⟨g, (first + (2 * root + 1) + 1) * 3 + 2, none⟩ = some (.int .i64 yc))) /\ Hid (Below wr.heap.size wr w')) (first | exact rg_up6 hb3 (by assumption) | exact ⟨⟨⟨x0, x1, x2⟩, ⟨y0, y1, y2⟩⟩, ((Below.refl _ _).drew : Below wr.heap.size wr wr.drew)⟩ | go_keep)
      ((first
        | (go_at_fn 195; refine (HC.out _).mono ?_; rintro r w3 ⟨rfl, hb3⟩)
        | fail))
     have hbq : Below wr.heap.size wr w3 := rg_b (by assumption)
     clear x0 x1 x2 y0 y1 y2 hb3 HC
     rename_i hS3
     clear hS3
     have hll : ltV vw dk[first + (2 * root + 1)]! dk[first + (2 * root + 1) + 1]! = true := by rw [<- HE.out.1, <- HE.out.2]; exact HL.out.1 hc1
     have hR4 := HK.out.1.below hbq
     obtain ⟨w4, hw4⟩ : ∃ w4, w4 = w3 := ⟨_, rfl⟩
     rw [<- hw4] at hR4 ⊢
     have HLL : Hid _ := hll
     clear hbq hw4 HE HL hll hc1 p7 u1 u2 u3 u4 u5 u6 u7 u8
     have hCn : first + (2 * root + 2) < n := by omega
     have t1 : (first : Int) + (root : Int) < (n : Int) := by omega
     have t2 : (0 : Int) <= (first : Int) + (root : Int) := by omega
     have t3 : ((first : Int) + (root : Int)).toNat = first + root := by omega
     have t4 : IntKind.i64.wrap ((first : Int) + (root : Int)) = (first : Int) + (root : Int) := by rw [IntKind.wrap_i64]; omega
     have t5 : (first : Int) + (2 * (root : Int) + 1 + 1) < (n : Int) := by omega
     have t6 : (0 : Int) <= (first : Int) + (2 * (root : Int) + 1 + 1) := by omega
     have t7 : ((first : Int) + (2 * (root : Int) + 1 + 1)).toNat = first + (2 * root + 2) := by omega
     have t8 : IntKind.i64.wrap ((first : Int) + (2 * (root : Int) + 1 + 1)) = (first : Int) + (2 * (root : Int) + 1 + 1) := by rw [IntKind.wrap_i64]; omega
     obtain ⟨x0, x1, x2⟩ := hR4.cells (j := (first + root)) (by have := HK.out.2; omega)
     obtain ⟨y0, y1, y2⟩ := hR4.cells (j := (first + (2 * root + 2))) (by have := HK.out.2; omega)
     have hcm := fun W => compare_any f vw HR.out.2.2 (dk[(first + root)]!) (dk[(first + (2 * root + 2))]!) W
     unfold edV at hcm
     have hlt2 := cmpV_neg vw (dk[(first + root)]!) (dk[(first + (2 * root + 2))]!)
     obtain ⟨xe, hxe⟩ : ∃ xe, xe = dk[(first + root)]! := ⟨_, rfl⟩
     obtain ⟨ye, hye⟩ : ∃ ye, ye = dk[(first + (2 * root + 2))]! := ⟨_, rfl⟩
     rw [<- hxe] at x0 x1 x2 hcm hlt2
     rw [<- hye] at y0 y1 y2 hcm hlt2
     have HE : Hid _ := And.intro hxe hye
     clear hxe hye
     obtain ⟨xa, xb, xc⟩ := xe
     obtain ⟨ya, yb, yc⟩ := ye
     generalize cmpE (vw (xa, xb, xc)) (vw (ya, yb, yc)) = c at hcm hlt2
     have HC : Hid _ := hcm
     have HL : Hid _ := hlt2
     clear hcm hlt2
     simp only at x0 x1 x2 y0 y1 y2
     have H4 : Hid (RowE w0 w4 g dk rest) := hR4
     clear hR4
     by_cases hc2 : c < 0
     ·have p6 : decide (c < 0) = true := decide_eq_true hc2
      go_upto_region 5 with fail
      go_region_held3 (fun w' => ((w'.cell? ⟨g, (first + root) * 3, none⟩ = some (.int .i64 xa) /\ w'.cell? ⟨g, (first + root) * 3 + 1, none⟩ = some (.int .i64 xb) /\ w'.cell? ⟨g, (first + root) * 3 + 2, none⟩ = some (.int .i64 xc)) /\ (w'.cell? ⟨g, (first + (2 * root + 2)) * 3, none⟩ = some (.int .i64 ya) /\ w'.cell? ⟨g, (first + (2 * root + 2)) * 3 + 1, none⟩ = some (.int .i64 yb) /\ w'.cell? ⟨g, (first + (2 * root + 2)) * 3 + 2, none⟩ = some (.int .i64 yc))) /\ Hid (Below w4.heap.size w4 w')) (first | exact rg_up6 hb3 (by assumption) | exact ⟨⟨⟨x0, x1, x2⟩, ⟨y0, y1, y2⟩⟩, ((Below.refl _ _).drew : Below w4.heap.size w4 w4.drew)⟩ | go_keep)
       ((first
         | (go_at_fn 195; refine (HC.out _).mono ?_; rintro r w3 ⟨rfl, hb3⟩)
         | fail))
      have hbq : Below w4.heap.size w4 w3 := rg_b (by assumption)
      clear x0 x1 x2 y0 y1 y2 hb3 HC
      rename_i hS3
      clear hS3
      have hR5 := H4.out.below hbq
      clear hbq
      obtain ⟨w5, hw5⟩ : ∃ w5, w5 = w3 := ⟨_, rfl⟩
      rw [<- hw5] at hR5 ⊢
      clear hw5
      have f0 := hR5.free ((first + root) * 3)
      have f1 := hR5.free ((first + root) * 3 + 1)
      have f2 := hR5.free ((first + root) * 3 + 2)
      have f3 := hR5.free ((first + (2 * root + 2)) * 3)
      have f4 := hR5.free ((first + (2 * root + 2)) * 3 + 1)
      have f5 := hR5.free ((first + (2 * root + 2)) * 3 + 2)
      obtain ⟨z0, z1, z2⟩ := hR5.cells (j := (first + root)) (by have := HK.out.2; omega)
      obtain ⟨z3, z4, z5⟩ := hR5.cells (j := (first + (2 * root + 2))) (by have := HK.out.2; omega)
      obtain ⟨xe2, hxe2⟩ : ∃ xe, xe = dk[(first + root)]! := ⟨_, rfl⟩
      obtain ⟨ye2, hye2⟩ : ∃ ye, ye = dk[(first + (2 * root + 2))]! := ⟨_, rfl⟩
      rw [<- hxe2] at z0 z1 z2
      rw [<- hye2] at z3 z4 z5
      have HE2 : Hid _ := And.intro hxe2 hye2
      clear hxe2 hye2
      obtain ⟨sa, sb, sc⟩ := xe2
      obtain ⟨ta, tb, tc⟩ := ye2
      simp only at z0 z1 z2 z3 z4 z5
      have H5 : Hid (RowE w0 w5 g dk rest) := hR5
      clear hR5
      go_wp2_with fail
      go_region
      all_goals go_wp2_with fail
      go_roundg (hi - ((2 * root + 2)))
      case measure => omega
      case rel =>
       refine ⟨(2 * root + 2), Sort.swp dk (first + root) (first + (2 * root + 2)), by first | rfl | go_num | (congr 1; omega), by omega, Nat.le_refl _, by rw [Sort.size_swp]; exact HK.out.2, H5.out.swapped (i := first + root) (j := first + (2 * root + 2)) (x := (sa, sb, sc)) (y := (ta, tb, tc)) (by have := HK.out.2; omega) (by have := HK.out.2; omega) HE2.out.1 HE2.out.2, (show Hid _ from ?_)⟩
       show _ = _
       rw [<- HO.out, sd_two h2 HLL.out (by rw [<- HE.out.1, <- HE.out.2]; exact HL.out.1 hc2)]
     ·have p6 : decide (c < 0) = false := decide_eq_false hc2
      go_upto_region 5 with fail
      go_region_held3 (fun w' => ((w'.cell? ⟨g, (first + root) * 3, none⟩ = some (.int .i64 xa) /\ w'.cell? ⟨g, (first + root) * 3 + 1, none⟩ = some (.int .i64 xb) /\ w'.cell? ⟨g, (first + root) * 3 + 2, none⟩ = some (.int .i64 xc)) /\ (w'.cell? ⟨g, (first + (2 * root + 2)) * 3, none⟩ = some (.int .i64 ya) /\ w'.cell? ⟨g, (first + (2 * root + 2)) * 3 + 1, none⟩ = some (.int .i64 yb) /\ w'.cell? ⟨g, (first + (2 * root + 2)) * 3 + 2, none⟩ = some (.int .i64 yc))) /\ Hid (Below w4.heap.size w4 w')) (first | exact rg_up6 hb3 (by assumption) | exact ⟨⟨⟨x0, x1, x2⟩, ⟨y0, y1, y2⟩⟩, ((Below.refl _ _).drew : Below w4.heap.size w4 w4.drew)⟩ | go_keep)
       ((first
         | (go_at_fn 195; refine (HC.out _).mono ?_; rintro r w3 ⟨rfl, hb3⟩)
         | fail))
      have hbq : Below w4.heap.size w4 w3 := rg_b (by assumption)
      clear x0 x1 x2 y0 y1 y2 hb3 HC
      rename_i hS3
      clear hS3
      have H5 : Hid (RowE w0 w3 g dk rest) := H4.out.below hbq
      clear hbq
      go_wp2_with fail
      (try simp only [Exit.inBlock, Exit.then])
      refine bodyPost_ret (results_none rfl _ _ _) rfl ?_
      refine ⟨rfl, ?_⟩
      have hl : ltV vw dk[first + root]! dk[first + (2 * root + 2)]! = false := by
       rw [<- HE.out.1, <- HE.out.2]
       cases h : ltV vw (xa, xb, xc) (ya, yb, yc) with
       | false => rfl
       | true => exact absurd (HL.out.2 h) (by omega)
      rw [<- HO.out, sd_two_stop h2 HLL.out hl]
      exact ⟨H5.out, HK.out.2⟩
    ·have p7 : decide (c < 0) = false := decide_eq_false hc1
     go_upto_region 3 with fail
     go_region_held3 (fun w' => ((w'.cell? ⟨g, (first + (2 * root + 1)) * 3, none⟩ = some (.int .i64 xa) /\ w'.cell? ⟨g, (first + (2 * root + 1)) * 3 + 1, none⟩ = some (.int .i64 xb) /\ w'.cell? ⟨g, (first + (2 * root + 1)) * 3 + 2, none⟩ = some (.int .i64 xc)) /\ (w'.cell? ⟨g, (first + (2 * root + 1) + 1) * 3, none⟩ = some (.int .i64 ya) /\ w'.cell? ⟨g, (first + (2 * root + 1) + 1) * 3 + 1, none⟩ = some (.int .i64 yb) /\ w'.cell? ⟨g, (first + (2 * root + 1) + 1) * 3 + 2, none⟩ = some (.int .i64 yc))) /\ Hid (Below wr.heap.size wr w')) (first | exact rg_up6 hb3 (by assumption) | exact ⟨⟨⟨x0, x1, x2⟩, ⟨y0, y1, y2⟩⟩, ((Below.refl _ _).drew : Below wr.heap.size wr wr.drew)⟩ | go_keep)
      ((first
        | (go_at_fn 195; refine (HC.out _).mono ?_; rintro r w3 ⟨rfl, hb3⟩)
        | fail))
     have hbq : Below wr.heap.size wr w3 := rg_b (by assumption)
     clear x0 x1 x2 y0 y1 y2 hb3 HC
     rename_i hS3
     clear hS3
     have hll : ¬ (2 * root + 2 < hi /\ ltV vw dk[first + (2 * root + 1)]! dk[first + (2 * root + 1) + 1]! = true) := fun h => by
      rw [<- HE.out.1, <- HE.out.2] at h
      have := HL.out.2 h.2
      omega
     have hR4 := HK.out.1.below hbq
     obtain ⟨w4, hw4⟩ : ∃ w4, w4 = w3 := ⟨_, rfl⟩
     rw [<- hw4] at hR4 ⊢
     have HLL : Hid _ := hll
     clear hbq hw4 HE HL hll hc1 p7 u1 u2 u3 u4 u5 u6 u7 u8
     have hCn : first + (2 * root + 1) < n := by omega
     have t1 : (first : Int) + (root : Int) < (n : Int) := by omega
     have t2 : (0 : Int) <= (first : Int) + (root : Int) := by omega
     have t3 : ((first : Int) + (root : Int)).toNat = first + root := by omega
     have t4 : IntKind.i64.wrap ((first : Int) + (root : Int)) = (first : Int) + (root : Int) := by rw [IntKind.wrap_i64]; omega
     have t5 : (first : Int) + (2 * (root : Int) + 1) < (n : Int) := by omega
     have t6 : (0 : Int) <= (first : Int) + (2 * (root : Int) + 1) := by omega
     have t7 : ((first : Int) + (2 * (root : Int) + 1)).toNat = first + (2 * root + 1) := by omega
     have t8 : IntKind.i64.wrap ((first : Int) + (2 * (root : Int) + 1)) = (first : Int) + (2 * (root : Int) + 1) := by rw [IntKind.wrap_i64]; omega
     obtain ⟨x0, x1, x2⟩ := hR4.cells (j := (first + root)) (by have := HK.out.2; omega)
     obtain ⟨y0, y1, y2⟩ := hR4.cells (j := (first + (2 * root + 1))) (by have := HK.out.2; omega)
     have hcm := fun W => compare_any f vw HR.out.2.2 (dk[(first + root)]!) (dk[(first + (2 * root + 1))]!) W
     unfold edV at hcm
     have hlt2 := cmpV_neg vw (dk[(first + root)]!) (dk[(first + (2 * root + 1))]!)
     obtain ⟨xe, hxe⟩ : ∃ xe, xe = dk[(first + root)]! := ⟨_, rfl⟩
     obtain ⟨ye, hye⟩ : ∃ ye, ye = dk[(first + (2 * root + 1))]! := ⟨_, rfl⟩
     rw [<- hxe] at x0 x1 x2 hcm hlt2
     rw [<- hye] at y0 y1 y2 hcm hlt2
     have HE : Hid _ := And.intro hxe hye
     clear hxe hye
     obtain ⟨xa, xb, xc⟩ := xe
     obtain ⟨ya, yb, yc⟩ := ye
     generalize cmpE (vw (xa, xb, xc)) (vw (ya, yb, yc)) = c at hcm hlt2
     have HC : Hid _ := hcm
     have HL : Hid _ := hlt2
     clear hcm hlt2
     simp only at x0 x1 x2 y0 y1 y2
     have H4 : Hid (RowE w0 w4 g dk rest) := hR4
     clear hR4
     by_cases hc2 : c < 0
     ·have p6 : decide (c < 0) = true := decide_eq_true hc2
      go_upto_region 5 with fail
      go_region_held3 (fun w' => ((w'.cell? ⟨g, (first + root) * 3, none⟩ = some (.int .i64 xa) /\ w'.cell? ⟨g, (first + root) * 3 + 1, none⟩ = some (.int .i64 xb) /\ w'.cell? ⟨g, (first + root) * 3 + 2, none⟩ = some (.int .i64 xc)) /\ (w'.cell? ⟨g, (first + (2 * root + 1)) * 3, none⟩ = some (.int .i64 ya) /\ w'.cell? ⟨g, (first + (2 * root + 1)) * 3 + 1, none⟩ = some (.int .i64 yb) /\ w'.cell? ⟨g, (first + (2 * root + 1)) * 3 + 2, none⟩ = some (.int .i64 yc))) /\ Hid (Below w4.heap.size w4 w')) (first | exact rg_up6 hb3 (by assumption) | exact ⟨⟨⟨x0, x1, x2⟩, ⟨y0, y1, y2⟩⟩, ((Below.refl _ _).drew : Below w4.heap.size w4 w4.drew)⟩ | go_keep)
       ((first
         | (go_at_fn 195; refine (HC.out _).mono ?_; rintro r w3 ⟨rfl, hb3⟩)
         | fail))
      have hbq : Below w4.heap.size w4 w3 := rg_b (by assumption)
      clear x0 x1 x2 y0 y1 y2 hb3 HC
      rename_i hS3
      clear hS3
      have hR5 := H4.out.below hbq
      clear hbq
      obtain ⟨w5, hw5⟩ : ∃ w5, w5 = w3 := ⟨_, rfl⟩
      rw [<- hw5] at hR5 ⊢
      clear hw5
      have f0 := hR5.free ((first + root) * 3)
      have f1 := hR5.free ((first + root) * 3 + 1)
      have f2 := hR5.free ((first + root) * 3 + 2)
      have f3 := hR5.free ((first + (2 * root + 1)) * 3)
      have f4 := hR5.free ((first + (2 * root + 1)) * 3 + 1)
      have f5 := hR5.free ((first + (2 * root + 1)) * 3 + 2)
      obtain ⟨z0, z1, z2⟩ := hR5.cells (j := (first + root)) (by have := HK.out.2; omega)
      obtain ⟨z3, z4, z5⟩ := hR5.cells (j := (first + (2 * root + 1))) (by have := HK.out.2; omega)
      obtain ⟨xe2, hxe2⟩ : ∃ xe, xe = dk[(first + root)]! := ⟨_, rfl⟩
      obtain ⟨ye2, hye2⟩ : ∃ ye, ye = dk[(first + (2 * root + 1))]! := ⟨_, rfl⟩
      rw [<- hxe2] at z0 z1 z2
      rw [<- hye2] at z3 z4 z5
      have HE2 : Hid _ := And.intro hxe2 hye2
      clear hxe2 hye2
      obtain ⟨sa, sb, sc⟩ := xe2
      obtain ⟨ta, tb, tc⟩ := ye2
      simp only at z0 z1 z2 z3 z4 z5
      have H5 : Hid (RowE w0 w5 g dk rest) := hR5
      clear hR5
      go_wp2_with fail
      go_region
      all_goals go_wp2_with fail
      go_roundg (hi - ((2 * root + 1)))
      case measure => omega
      case rel =>
       refine ⟨(2 * root + 1), Sort.swp dk (first + root) (first + (2 * root + 1)), by first | rfl | go_num | (congr 1; omega), by omega, Nat.le_refl _, by rw [Sort.size_swp]; exact HK.out.2, H5.out.swapped (i := first + root) (j := first + (2 * root + 1)) (x := (sa, sb, sc)) (y := (ta, tb, tc)) (by have := HK.out.2; omega) (by have := HK.out.2; omega) HE2.out.1 HE2.out.2, (show Hid _ from ?_)⟩
       show _ = _
       rw [<- HO.out, sd_one h1 HLL.out (by rw [<- HE.out.1, <- HE.out.2]; exact HL.out.1 hc2)]
     ·have p6 : decide (c < 0) = false := decide_eq_false hc2
      go_upto_region 5 with fail
      go_region_held3 (fun w' => ((w'.cell? ⟨g, (first + root) * 3, none⟩ = some (.int .i64 xa) /\ w'.cell? ⟨g, (first + root) * 3 + 1, none⟩ = some (.int .i64 xb) /\ w'.cell? ⟨g, (first + root) * 3 + 2, none⟩ = some (.int .i64 xc)) /\ (w'.cell? ⟨g, (first + (2 * root + 1)) * 3, none⟩ = some (.int .i64 ya) /\ w'.cell? ⟨g, (first + (2 * root + 1)) * 3 + 1, none⟩ = some (.int .i64 yb) /\ w'.cell? ⟨g, (first + (2 * root + 1)) * 3 + 2, none⟩ = some (.int .i64 yc))) /\ Hid (Below w4.heap.size w4 w')) (first | exact rg_up6 hb3 (by assumption) | exact ⟨⟨⟨x0, x1, x2⟩, ⟨y0, y1, y2⟩⟩, ((Below.refl _ _).drew : Below w4.heap.size w4 w4.drew)⟩ | go_keep)
       ((first
         | (go_at_fn 195; refine (HC.out _).mono ?_; rintro r w3 ⟨rfl, hb3⟩)
         | fail))
      have hbq : Below w4.heap.size w4 w3 := rg_b (by assumption)
      clear x0 x1 x2 y0 y1 y2 hb3 HC
      rename_i hS3
      clear hS3
      have H5 : Hid (RowE w0 w3 g dk rest) := H4.out.below hbq
      clear hbq
      go_wp2_with fail
      (try simp only [Exit.inBlock, Exit.then])
      refine bodyPost_ret (results_none rfl _ _ _) rfl ?_
      refine ⟨rfl, ?_⟩
      have hl : ltV vw dk[first + root]! dk[first + (2 * root + 1)]! = false := by
       rw [<- HE.out.1, <- HE.out.2]
       cases h : ltV vw (xa, xb, xc) (ya, yb, yc) with
       | false => rfl
       | true => exact absurd (HL.out.2 h) (by omega)
      rw [<- HO.out, sd_one_stop h1 HLL.out hl]
      exact ⟨H5.out, HK.out.2⟩
   ·have q2 : decide (2 * (root : Int) + 1 + 1 < (hi : Int)) = false := decide_eq_false (by omega)
    have q3 : ¬ 2 * (root : Int) + 1 + 1 < (hi : Int) := by omega
    have hll : ¬ (2 * root + 2 < hi /\ ltV vw dk[first + (2 * root + 1)]! dk[first + (2 * root + 1) + 1]! = true) := fun h => h2 h.1
    have HLL : Hid _ := hll
    have HK : Hid _ := And.intro hRk hsk
    clear hRk hsk hw4 hll
    go_wp2_with fail
    go_region
    all_goals go_wp2_with fail
    have hR4 := HK.out.1.below (Below.refl _ _).drew
    obtain ⟨w4, hw4⟩ : ∃ w4, w4 = wr.drew := ⟨_, rfl⟩
    rw [<- hw4] at hR4 ⊢
    clear hw4
    have hCn : first + (2 * root + 1) < n := by omega
    have t1 : (first : Int) + (root : Int) < (n : Int) := by omega
    have t2 : (0 : Int) <= (first : Int) + (root : Int) := by omega
    have t3 : ((first : Int) + (root : Int)).toNat = first + root := by omega
    have t4 : IntKind.i64.wrap ((first : Int) + (root : Int)) = (first : Int) + (root : Int) := by rw [IntKind.wrap_i64]; omega
    have t5 : (first : Int) + (2 * (root : Int) + 1) < (n : Int) := by omega
    have t6 : (0 : Int) <= (first : Int) + (2 * (root : Int) + 1) := by omega
    have t7 : ((first : Int) + (2 * (root : Int) + 1)).toNat = first + (2 * root + 1) := by omega
    have t8 : IntKind.i64.wrap ((first : Int) + (2 * (root : Int) + 1)) = (first : Int) + (2 * (root : Int) + 1) := by rw [IntKind.wrap_i64]; omega
    obtain ⟨x0, x1, x2⟩ := hR4.cells (j := (first + root)) (by have := HK.out.2; omega)
    obtain ⟨y0, y1, y2⟩ := hR4.cells (j := (first + (2 * root + 1))) (by have := HK.out.2; omega)
    have hcm := fun W => compare_any f vw HR.out.2.2 (dk[(first + root)]!) (dk[(first + (2 * root + 1))]!) W
    unfold edV at hcm
    have hlt2 := cmpV_neg vw (dk[(first + root)]!) (dk[(first + (2 * root + 1))]!)
    obtain ⟨xe, hxe⟩ : ∃ xe, xe = dk[(first + root)]! := ⟨_, rfl⟩
    obtain ⟨ye, hye⟩ : ∃ ye, ye = dk[(first + (2 * root + 1))]! := ⟨_, rfl⟩
    rw [<- hxe] at x0 x1 x2 hcm hlt2
    rw [<- hye] at y0 y1 y2 hcm hlt2
    have HE : Hid _ := And.intro hxe hye
    clear hxe hye
    obtain ⟨xa, xb, xc⟩ := xe
    obtain ⟨ya, yb, yc⟩ := ye
    generalize cmpE (vw (xa, xb, xc)) (vw (ya, yb, yc)) = c at hcm hlt2
    have HC : Hid _ := hcm
    have HL : Hid _ := hlt2
    clear hcm hlt2
    simp only at x0 x1 x2 y0 y1 y2
    have H4 : Hid (RowE w0 w4 g dk rest) := hR4
    clear hR4
    by_cases hc2 : c < 0
    ·have p6 : decide (c < 0) = true := decide_eq_true hc2
     go_upto_region 5 with fail
     go_region_held3 (fun w' => ((w'.cell? ⟨g, (first + root) * 3, none⟩ = some (.int .i64 xa) /\ w'.cell? ⟨g, (first + root) * 3 + 1, none⟩ = some (.int .i64 xb) /\ w'.cell? ⟨g, (first + root) * 3 + 2, none⟩ = some (.int .i64 xc)) /\ (w'.cell? ⟨g, (first + (2 * root + 1)) * 3, none⟩ = some (.int .i64 ya) /\ w'.cell? ⟨g, (first + (2 * root + 1)) * 3 + 1, none⟩ = some (.int .i64 yb) /\ w'.cell? ⟨g, (first + (2 * root + 1)) * 3 + 2, none⟩ = some (.int .i64 yc))) /\ Hid (Below w4.heap.size w4 w')) (first | exact rg_up6 hb3 (by assumption) | exact ⟨⟨⟨x0, x1, x2⟩, ⟨y0, y1, y2⟩⟩, ((Below.refl _ _).drew : Below w4.heap.size w4 w4.drew)⟩ | go_keep)
      ((first
        | (go_at_fn 195; refine (HC.out _).mono ?_; rintro r w3 ⟨rfl, hb3⟩)
        | fail))
     have hbq : Below w4.heap.size w4 w3 := rg_b (by assumption)
     clear x0 x1 x2 y0 y1 y2 hb3 HC
     rename_i hS3
     clear hS3
     have hR5 := H4.out.below hbq
     clear hbq
     obtain ⟨w5, hw5⟩ : ∃ w5, w5 = w3 := ⟨_, rfl⟩
     rw [<- hw5] at hR5 ⊢
     clear hw5
     have f0 := hR5.free ((first + root) * 3)
     have f1 := hR5.free ((first + root) * 3 + 1)
     have f2 := hR5.free ((first + root) * 3 + 2)
     have f3 := hR5.free ((first + (2 * root + 1)) * 3)
     have f4 := hR5.free ((first + (2 * root + 1)) * 3 + 1)
     have f5 := hR5.free ((first + (2 * root + 1)) * 3 + 2)
     obtain ⟨z0, z1, z2⟩ := hR5.cells (j := (first + root)) (by have := HK.out.2; omega)
     obtain ⟨z3, z4, z5⟩ := hR5.cells (j := (first + (2 * root + 1))) (by have := HK.out.2; omega)
     obtain ⟨xe2, hxe2⟩ : ∃ xe, xe = dk[(first + root)]! := ⟨_, rfl⟩
     obtain ⟨ye2, hye2⟩ : ∃ ye, ye = dk[(first + (2 * root + 1))]! := ⟨_, rfl⟩
     rw [<- hxe2] at z0 z1 z2
     rw [<- hye2] at z3 z4 z5
     have HE2 : Hid _ := And.intro hxe2 hye2
     clear hxe2 hye2
     obtain ⟨sa, sb, sc⟩ := xe2
     obtain ⟨ta, tb, tc⟩ := ye2
     simp only at z0 z1 z2 z3 z4 z5
     have H5 : Hid (RowE w0 w5 g dk rest) := hR5
     clear hR5
     go_wp2_with fail
     go_region
     all_goals go_wp2_with fail
     go_roundg (hi - ((2 * root + 1)))
     case measure => omega
     case rel =>
      refine ⟨(2 * root + 1), Sort.swp dk (first + root) (first + (2 * root + 1)), by first | rfl | go_num | (congr 1; omega), by omega, Nat.le_refl _, by rw [Sort.size_swp]; exact HK.out.2, H5.out.swapped (i := first + root) (j := first + (2 * root + 1)) (x := (sa, sb, sc)) (y := (ta, tb, tc)) (by have := HK.out.2; omega) (by have := HK.out.2; omega) HE2.out.1 HE2.out.2, (show Hid _ from ?_)⟩
      show _ = _
      rw [<- HO.out, sd_one h1 HLL.out (by rw [<- HE.out.1, <- HE.out.2]; exact HL.out.1 hc2)]
    ·have p6 : decide (c < 0) = false := decide_eq_false hc2
     go_upto_region 5 with fail
     go_region_held3 (fun w' => ((w'.cell? ⟨g, (first + root) * 3, none⟩ = some (.int .i64 xa) /\ w'.cell? ⟨g, (first + root) * 3 + 1, none⟩ = some (.int .i64 xb) /\ w'.cell? ⟨g, (first + root) * 3 + 2, none⟩ = some (.int .i64 xc)) /\ (w'.cell? ⟨g, (first + (2 * root + 1)) * 3, none⟩ = some (.int .i64 ya) /\ w'.cell? ⟨g, (first + (2 * root + 1)) * 3 + 1, none⟩ = some (.int .i64 yb) /\ w'.cell? ⟨g, (first + (2 * root + 1)) * 3 + 2, none⟩ = some (.int .i64 yc))) /\ Hid (Below w4.heap.size w4 w')) (first | exact rg_up6 hb3 (by assumption) | exact ⟨⟨⟨x0, x1, x2⟩, ⟨y0, y1, y2⟩⟩, ((Below.refl _ _).drew : Below w4.heap.size w4 w4.drew)⟩ | go_keep)
      ((first
        | (go_at_fn 195; refine (HC.out _).mono ?_; rintro r w3 ⟨rfl, hb3⟩)
        | fail))
     have hbq : Below w4.heap.size w4 w3 := rg_b (by assumption)
     clear x0 x1 x2 y0 y1 y2 hb3 HC
     rename_i hS3
     clear hS3
     have H5 : Hid (RowE w0 w3 g dk rest) := H4.out.below hbq
     clear hbq
     go_wp2_with fail
     (try simp only [Exit.inBlock, Exit.then])
     refine bodyPost_ret (results_none rfl _ _ _) rfl ?_
     refine ⟨rfl, ?_⟩
     have hl : ltV vw dk[first + root]! dk[first + (2 * root + 1)]! = false := by
      rw [<- HE.out.1, <- HE.out.2]
      cases h : ltV vw (xa, xb, xc) (ya, yb, yc) with
      | false => rfl
      | true => exact absurd (HL.out.2 h) (by omega)
     rw [<- HO.out, sd_one_stop h1 HLL.out hl]
     exact ⟨H5.out, HK.out.2⟩
  ·have q1 : (hi : Int) <= 2 * (root : Int) + 1 := by omega
   go_wp2
   go_end0
   refine ⟨rfl, ?_⟩
   rw [<- HO.out, sd_end (by omega)]
   exact ⟨hRk, hsk⟩
end
section
open Go.RowKit Go.Maps
attribute [local go_sem ↓] Go.wp_at_zero Go.wp_at_succ
set_option maxRecDepth 100000 in
set_option maxHeartbeats 16000000 in
theorem heap_any (f : Nat) (vw : Sy.Ed -> Sy.Ed) (hV : ViewAt f vw) (g cap a b : Nat) (d : Array Sy.Ed) (rest : List Value) (w0 w : World) (hR : RowE w0 w g d rest) (hab : a < b) (hb : b <= d.size) (hsz : d.size <= 1000000) :
 Calls Tryz.prog 223 #[.slice (some ⟨g, 0, none⟩) d.size cap, .int .i64 a, .int .i64 b, cmpV f] w fun r w' => r = .returned (.tuple #[]) /\ RowE w0 w' g (Sort.heapSort (ltV vw) d a b) rest := by
 obtain ⟨M, hbM⟩ : ∃ M, b = a + (M + 1) := ⟨b - a - 1, by omega⟩
 obtain ⟨n, hn⟩ : ∃ n, n = d.size := ⟨_, rfl⟩
 have HR : Hid _ := And.intro hR (And.intro hn hV)
 rw [<- hn] at hb hsz ⊢
 have hSi : ∀ (lo hi : Nat) (dk : Array Sy.Ed) (W : World), dk.size = n -> RowE w0 W g dk rest -> lo <= hi -> a + hi <= n -> Calls Tryz.prog 237 #[.slice (some ⟨g, 0, none⟩) n cap, .int .i64 lo, .int .i64 hi, .int .i64 a, cmpV f] W fun r w' => r = .returned (.tuple #[]) /\ RowE w0 w' g (Sort.siftDown (ltV vw) hi a lo dk) rest /\ (Sort.siftDown (ltV vw) hi a lo dk).size = n := fun lo hi dk W hs h h1 h2 => by
  have h9 := sift_any f vw hV g cap lo hi a dk rest w0 W h h1 (by omega) (by omega)
  rw [hs] at h9
  exact h9
 have HS : Hid _ := hSi
 unfold cmpV at HS ⊢
 unfold Sort.heapSort
 have eM : b - a = M + 1 := by omega
 rw [eM, Nat.add_sub_cancel]
 have hbn : a + (M + 1) <= n := by omega
 have e0 : (b : Int) - (a : Int) = (M : Int) + 1 := by omega
 have e1 : IntKind.i64.wrap ((b : Int) - (a : Int)) = (M : Int) + 1 := by rw [IntKind.wrap_i64]; omega
 have e2 : IntKind.i64.wrap ((M : Int) + 1 - 1) = (M : Int) := by rw [IntKind.wrap_i64]; omega
 have e3 : IntKind.i64.wrap (M : Int) = (M : Int) := by rw [IntKind.wrap_i64]; omega
 have e4 : IntKind.i64.wrap ((M : Int) / 2) = ((M / 2 : Nat) : Int) := by rw [IntKind.wrap_i64]; omega
 clear hR hn hV hSi eM hbM hab hb
 go_enter Tryz.func223, Tryz.ntmps223
 go_wp2_with fail
 go_loopg [11] (M / 2 + 1) (fun q iv wr => ∃ (k : Nat) (dk : Array Sy.Ed), iv = .int .i64 ((k : Int) - 1) /\ k <= M / 2 + 1 /\ k <= q /\ dk.size = n /\ RowE w0 wr g dk rest /\ Hid (Sort.heapBuild (ltV vw) (M + 1) a k dk = Sort.heapBuild (ltV vw) (M + 1) a (M / 2 + 1) d))
 case atStart => exact ⟨M / 2 + 1, d, by congr 1; omega, Nat.le_refl _, Nat.le_refl _, HR.out.2.1.symm, HR.out.1, rfl⟩
 case round =>
  obtain ⟨k, dk, rfl, hk, hq, hsk, hRk, HO⟩ := hrel
  cases k with
  | succ k =>
    have q3 : ((k + 1 : Nat) : Int) - 1 = (k : Int) := by omega
    have q4 : IntKind.i64.wrap ((k : Int) - 1) = (k : Int) - 1 := by rw [IntKind.wrap_i64]; omega
    have q5 : (0 : Int) <= (k : Int) := by omega
    rw [q3]
    have hC := HS.out k (M + 1) dk wr hsk hRk (by omega) (by omega)
    simp only [Int.natCast_add, Int.natCast_one] at hC
    have HC : Hid _ := And.intro hC trivial
    clear hC hRk q3 hsk e1 e2 e3 e4 e0
    go_wp2_with fail
    refine Calls.mono HC.out.1 ?_
    rintro r w3 ⟨rfl, hR3, hs3⟩
    have H3 : Hid _ := And.intro hR3 hs3
    clear hR3 hs3
    go_wp2_with fail
    go_roundg k
    case measure => omega
    case rel => exact ⟨k, _, rfl, by omega, Nat.le_refl _, H3.out.2, H3.out.1, HO.out⟩
  | zero =>
    have q2 : ((0 : Nat) : Int) - 1 = -1 := by omega
    rw [q2]
    have hO := HO.out
    rw [Sort.heapBuild] at hO
    have HO2 : Hid (dk = Sort.heapBuild (ltV vw) (M + 1) a (M / 2 + 1) d) := hO
    have HK : Hid (RowE w0 wr g dk rest /\ dk.size = n) := ⟨hRk, hsk⟩
    clear hO hRk hsk HO
    go_wp2_with fail
    go_loopg [12] (M + 1) (fun q iv wr => ∃ (k : Nat) (dj : Array Sy.Ed), iv = .int .i64 ((k : Int) - 1) /\ k <= M + 1 /\ k <= q /\ dj.size = n /\ RowE w0 wr g dj rest /\ Hid (Sort.heapPop (ltV vw) a k dj = Sort.heapPop (ltV vw) a (M + 1) dk))
    case atStart => exact ⟨M + 1, dk, by congr 1; omega, Nat.le_refl _, Nat.le_refl _, HK.out.2, HK.out.1, rfl⟩
    case round =>
     obtain ⟨k, dj, rfl, hk, hq, hsj, hRj, HP⟩ := hrel
     cases k with
     | succ k =>
       have q3 : ((k + 1 : Nat) : Int) - 1 = (k : Int) := by omega
       rw [q3]
       rcases Nat.eq_zero_or_pos k with hk0 | hkp
       ·subst hk0
        have t5 : (0 : Int) <= (a : Int) := by omega
        have t6 : (a : Int) < (n : Int) := by omega
        have f0 := hRj.free (a * 3)
        have f1 := hRj.free (a * 3 + 1)
        have f2 := hRj.free (a * 3 + 2)
        have f3 := hRj.free (a * 3)
        have f4 := hRj.free (a * 3 + 1)
        have f5 := hRj.free (a * 3 + 2)
        obtain ⟨z0, z1, z2⟩ := hRj.cells (j := a) (by omega)
        obtain ⟨z3, z4, z5⟩ := hRj.cells (j := a) (by omega)
        obtain ⟨xe2, hxe2⟩ : ∃ xe, xe = dj[a]! := ⟨_, rfl⟩
        obtain ⟨ye2, hye2⟩ : ∃ ye, ye = dj[a]! := ⟨_, rfl⟩
        rw [<- hxe2] at z0 z1 z2
        rw [<- hye2] at z3 z4 z5
        have HE2 : Hid _ := And.intro hxe2 hye2
        clear hxe2 hye2
        obtain ⟨sa, sb, sc⟩ := xe2
        obtain ⟨ta, tb, tc⟩ := ye2
        simp only at z0 z1 z2 z3 z4 z5
        have HJ : Hid (RowE w0 wr g dj rest /\ dj.size = n) := ⟨hRj, hsj⟩
        clear hRj hsj q2 q3
        rw [show ((0 : Nat) : Int) = 0 from rfl]
        go_wp2_with fail
        go_region
        all_goals go_wp2_with fail
        have hRs := HJ.out.1.swapped (i := a) (j := a) (x := (sa, sb, sc)) (y := (sa, sb, sc)) (by have := HJ.out.2; omega) (by have := HJ.out.2; omega) HE2.out.1 HE2.out.1
        have hC := HS.out 0 0 (Sort.swp dj a a) _ (by rw [Sort.size_swp]; exact HJ.out.2) hRs (by omega) (by omega)
        rw [show ((0 : Nat) : Int) = 0 from rfl] at hC
        refine Calls.mono hC ?_
        rintro r w3 ⟨rfl, hR3, hs3⟩
        have H3 : Hid _ := And.intro hR3 hs3
        clear hR3 hs3 hC hRs
        go_wp2_with fail
        go_roundg 0
        case measure => omega
        case rel => exact ⟨0, _, rfl, by omega, Nat.le_refl _, H3.out.2, H3.out.1, HP.out⟩
       ·have q4 : IntKind.i64.wrap ((k : Int) - 1) = (k : Int) - 1 := by rw [IntKind.wrap_i64]; omega
        have q5 : (0 : Int) <= (k : Int) := by omega
        have t1 : (a : Int) + (k : Int) < (n : Int) := by omega
        have t2 : (0 : Int) <= (a : Int) + (k : Int) := by omega
        have t3 : ((a : Int) + (k : Int)).toNat = a + k := by omega
        have t4 : IntKind.i64.wrap ((a : Int) + (k : Int)) = (a : Int) + (k : Int) := by rw [IntKind.wrap_i64]; omega
        have t5 : (0 : Int) <= (a : Int) := by omega
        have t6 : (a : Int) < (n : Int) := by omega
        obtain ⟨ak, hak⟩ : ∃ ak, ak = a + k := ⟨_, rfl⟩
        have hne : ¬ a = ak := by omega
        have hne2 : ¬ ak = a := by omega
        rw [<- hak] at t3
        have hakn : ak < n := by omega
        have f0 := hRj.free (a * 3)
        have f1 := hRj.free (a * 3 + 1)
        have f2 := hRj.free (a * 3 + 2)
        have f3 := hRj.free (ak * 3)
        have f4 := hRj.free (ak * 3 + 1)
        have f5 := hRj.free (ak * 3 + 2)
        obtain ⟨z0, z1, z2⟩ := hRj.cells (j := a) (by omega)
        obtain ⟨z3, z4, z5⟩ := hRj.cells (j := ak) (by omega)
        obtain ⟨xe2, hxe2⟩ : ∃ xe, xe = dj[a]! := ⟨_, rfl⟩
        obtain ⟨ye2, hye2⟩ : ∃ ye, ye = dj[ak]! := ⟨_, rfl⟩
        rw [<- hxe2] at z0 z1 z2
        rw [<- hye2] at z3 z4 z5
        have HE2 : Hid _ := And.intro hxe2 hye2
        clear hxe2 hye2
        obtain ⟨sa, sb, sc⟩ := xe2
        obtain ⟨ta, tb, tc⟩ := ye2
        simp only at z0 z1 z2 z3 z4 z5
        have HJ : Hid (RowE w0 wr g dj rest /\ dj.size = n /\ ak = a + k) := ⟨hRj, hsj, hak⟩
        clear hRj hsj q2 q3 hak
        go_wp2_with fail
        go_region
        all_goals go_wp2_with fail
        have hRs := HJ.out.1.swapped (i := a) (j := ak) (x := (sa, sb, sc)) (y := (ta, tb, tc)) (by have := HJ.out.2; omega) (by have := HJ.out.2; omega) HE2.out.1 HE2.out.2
        have hC := HS.out 0 k (Sort.swp dj a ak) _ (by rw [Sort.size_swp]; exact HJ.out.2.1) hRs (by omega) (by omega)
        rw [show ((0 : Nat) : Int) = 0 from rfl] at hC
        refine Calls.mono hC ?_
        rintro r w3 ⟨rfl, hR3, hs3⟩
        have H3 : Hid _ := And.intro hR3 hs3
        clear hR3 hs3 hC hRs
        go_wp2_with fail
        go_roundg k
        case measure => omega
        case rel => exact ⟨k, _, rfl, by omega, Nat.le_refl _, H3.out.2, H3.out.1, by rw [HJ.out.2.2]; exact HP.out⟩
     | zero =>
       have q2 : ((0 : Nat) : Int) - 1 = -1 := by omega
       rw [q2]
       go_wp2_with fail
       go_end0
       refine ⟨rfl, ?_⟩
       rw [<- HO2.out, <- HP.out, Sort.heapPop]
       exact hRj
end
section
open Go.RowKit Go.Maps
attribute [local go_sem ↓] Go.wp_at_zero Go.wp_at_succ
def hintC : Sort.Hint -> Int
 | .unknown => 0
 | .increasing => 1
 | .decreasing => 2
def hintS (s : Nat) : Sort.Hint := if s = 0 then .increasing else if s = 12 then .decreasing else .unknown
theorem med_lt {lt : Sy.Ed -> Sy.Ed -> Bool} {d : Array Sy.Ed} {a b c s n : Nat} (ha : a < n) (hb : b < n) (hc : c < n) : (Sort.median lt d a b c s).1 < n /\ (Sort.median lt d a b c s).2 <= s + 3 := by
 unfold Sort.median
 obtain ⟨l1, l2, l3⟩ := o2_lt (lt := lt) (d := d) (s := s) ha hb
 obtain ⟨l4, l5, l6⟩ := o2_lt (lt := lt) (d := d) (s := (Sort.order2 lt d a b s).2.2) l2 hc
 obtain ⟨l7, l8, l9⟩ := o2_lt (lt := lt) (d := d) (s := (Sort.order2 lt d (Sort.order2 lt d a b s).2.1 c (Sort.order2 lt d a b s).2.2).2.2) l1 l4
 dsimp only
 exact ⟨l8, by omega⟩
theorem adj_lt {lt : Sy.Ed -> Sy.Ed -> Bool} {d : Array Sy.Ed} {a s n : Nat} (ha : 1 <= a) (hb : a + 1 < n) : (Sort.medianAdjacent lt d a s).1 < n /\ (Sort.medianAdjacent lt d a s).2 <= s + 3 := by
 unfold Sort.medianAdjacent
 exact med_lt (by omega) (by omega) hb
set_option maxRecDepth 100000 in
set_option maxHeartbeats 4000000 in
theorem pivot_any (f : Nat) (vw : Sy.Ed -> Sy.Ed) (hV : ViewAt f vw) (g cap a b : Nat) (d : Array Sy.Ed) (rest : List Value) (w0 w : World) (hR : RowE w0 w g d rest) (hab : a + 12 < b) (hb : b <= d.size) (hsz : d.size <= 1000000) :
 Calls Tryz.prog 225 #[.slice (some ⟨g, 0, none⟩) d.size cap, .int .i64 a, .int .i64 b, cmpV f] w fun r w' => r = .returned (.tuple #[.int .i64 (Sort.choosePivot (ltV vw) d a b).1, .int .i64 (hintC (Sort.choosePivot (ltV vw) d a b).2)]) /\ RowE w0 w' g d rest := by
 obtain ⟨L, hL⟩ : ∃ L, L = b - a := ⟨_, rfl⟩
 obtain ⟨Q, hQ⟩ : ∃ Q, Q = L / 4 := ⟨_, rfl⟩
 obtain ⟨I, hI⟩ : ∃ I, I = a + Q * 1 := ⟨_, rfl⟩
 obtain ⟨J, hJ⟩ : ∃ J, J = a + Q * 2 := ⟨_, rfl⟩
 obtain ⟨K, hK⟩ : ∃ K, K = a + Q * 3 := ⟨_, rfl⟩
 have hCn : CnE w0 (w.alloc (.cells #[.int .i64 0] 3)) g d rest w.heap.size 0 := ⟨hR.below ((Below.refl _ _).alloc (Nat.le_refl _) _), heap_alloc_new w _, hR.bl.size⟩
 have hp : Sort.choosePivot (ltV vw) d a b = (if 50 <= L then (fun r : Nat × Nat => (r.1, hintS r.2)) (Sort.median (ltV vw) d (Sort.medianAdjacent (ltV vw) d I 0).1 (Sort.medianAdjacent (ltV vw) d J (Sort.medianAdjacent (ltV vw) d I 0).2).1 (Sort.medianAdjacent (ltV vw) d K (Sort.medianAdjacent (ltV vw) d J (Sort.medianAdjacent (ltV vw) d I 0).2).2).1 (Sort.medianAdjacent (ltV vw) d K (Sort.medianAdjacent (ltV vw) d J (Sort.medianAdjacent (ltV vw) d I 0).2).2).2) else (fun r : Nat × Nat => (r.1, hintS r.2)) (Sort.median (ltV vw) d I J K 0)) := by
  unfold Sort.choosePivot hintS
  simp only [<- hL, <- hQ, <- hI, <- hJ, <- hK]
  rw [if_pos (by omega)]
  split <;> rfl
 rw [hp]
 have w1 : IntKind.i64.wrap ((b : Int) - (a : Int)) = (L : Int) := by rw [IntKind.wrap_i64]; omega
 have w1' : (b : Int) - (a : Int) = (L : Int) := by omega
 have w2 : IntKind.i64.wrap ((L : Int) / 4) = (Q : Int) := by rw [IntKind.wrap_i64]; omega
 have w3 : IntKind.i64.wrap ((a : Int) + (Q : Int)) = (I : Int) := by rw [IntKind.wrap_i64]; omega
 have w3' : (a : Int) + (Q : Int) = (I : Int) := by omega
 have w4 : IntKind.i64.wrap ((Q : Int) * 2) = (Q : Int) * 2 := by rw [IntKind.wrap_i64]; omega
 have w5 : IntKind.i64.wrap ((Q : Int) * 3) = (Q : Int) * 3 := by rw [IntKind.wrap_i64]; omega
 have w6 : IntKind.i64.wrap ((a : Int) + (Q : Int) * 2) = (J : Int) := by rw [IntKind.wrap_i64]; omega
 have w6' : (a : Int) + (Q : Int) * 2 = (J : Int) := by omega
 have w7 : IntKind.i64.wrap ((a : Int) + (Q : Int) * 3) = (K : Int) := by rw [IntKind.wrap_i64]; omega
 have w7' : (a : Int) + (Q : Int) * 3 = (K : Int) := by omega
 have w8 : IntKind.i64.wrap (Q : Int) = (Q : Int) := by rw [IntKind.wrap_i64]; omega
 have g8 : (8 : Int) <= (L : Int) := by omega
 have hLb : L <= 1000000 := by omega
 have hQb : Q <= 1000000 := by omega
 have hIb : I <= 1000000 := by omega
 have hJb : J <= 1000000 := by omega
 have hKb : K <= 1000000 := by omega
 have wL : IntKind.i64.wrap (L : Int) = (L : Int) := by rw [IntKind.wrap_i64]; omega
 have wQ : (L : Int) / 4 = (Q : Int) := by omega
 have bI : 1 <= I /\ I + 1 < d.size := by omega
 have bJ : 1 <= J /\ J + 1 < d.size := by omega
 have bK : 1 <= K /\ K + 1 < d.size := by omega
 have hMA := fun (x s : Nat) (W : World) (h : CnE w0 W g d rest w.heap.size s) (h1 : 1 <= x) (h2 : x + 1 < d.size) (h3 : s + 3 <= 1000000) => medianAdj_any f vw hV g cap x w.heap.size s d rest w0 W h h1 h2 hsz h3
 have hMD := fun (x y z s : Nat) (W : World) (h : CnE w0 W g d rest w.heap.size s) (h1 : x < d.size) (h2 : y < d.size) (h4 : z < d.size) (h3 : s + 3 <= 1000000) => median_any f vw hV g cap x y z w.heap.size s d rest w0 W h h1 h2 h4 h3
 have HM : Hid _ := And.intro hMA (And.intro hMD hCn)
 unfold cmpV at HM ⊢
 obtain ⟨n, hn⟩ : ∃ n, n = d.size := ⟨_, rfl⟩
 rw [<- hn] at hsz bI bJ bK HM ⊢
 clear hR hV hMA hMD hCn hp hL hQ hI hJ hK hb hab hn
 have fin : ∀ (s : Nat), s <= 1000 -> (s = 0 /\ hintC (hintS s) = 1) \/ (s ≠ 0 /\ s = 12 /\ hintC (hintS s) = 2) \/ (s ≠ 0 /\ s ≠ 12 /\ hintC (hintS s) = 0) := fun s _ => by
  unfold hintS
  by_cases h1 : s = 0
  ·left; simp [h1, hintC]
  ·by_cases h2 : s = 12
   ·right; left; simp [h2, hintC]
   ·right; right; simp [h1, h2, hintC]
 have HF : Hid _ := fin
 clear fin
 by_cases h50 : 50 <= L
 ·rw [if_pos h50]
  have g50 : (50 : Int) <= (L : Int) := by omega
  have h1 := HM.out.1 I 0 _ HM.out.2.2 (by omega) (by omega) (by omega)
  have l1 := adj_lt (lt := ltV vw) (d := d) (s := 0) (n := n) (a := I) (by omega) (by omega)
  generalize Sort.medianAdjacent (ltV vw) d I 0 = r1 at h1 l1 ⊢
  obtain ⟨I2, s1⟩ := r1
  simp only at h1 l1 ⊢
  have h2 := fun W (h : CnE w0 W g d rest w.heap.size s1) => HM.out.1 J s1 W h (by omega) (by omega) (by omega)
  have l2 := adj_lt (lt := ltV vw) (d := d) (s := s1) (n := n) (a := J) (by omega) (by omega)
  generalize Sort.medianAdjacent (ltV vw) d J s1 = r2 at h2 l2 ⊢
  obtain ⟨J2, s2⟩ := r2
  simp only at h2 l2 ⊢
  have h3 := fun W (h : CnE w0 W g d rest w.heap.size s2) => HM.out.1 K s2 W h (by omega) (by omega) (by omega)
  have l3 := adj_lt (lt := ltV vw) (d := d) (s := s2) (n := n) (a := K) (by omega) (by omega)
  generalize Sort.medianAdjacent (ltV vw) d K s2 = r3 at h3 l3 ⊢
  obtain ⟨K2, s3⟩ := r3
  simp only at h3 l3 ⊢
  have hD := fun W (h : CnE w0 W g d rest w.heap.size s3) => HM.out.2.1 I2 J2 K2 s3 W h (by omega) (by omega) (by omega) (by omega)
  obtain ⟨_, hs3⟩ := med_lt (lt := ltV vw) (d := d) (s := s3) (n := n) (a := I2) (b := J2) (c := K2) (by omega) (by omega) (by omega)
  generalize Sort.median (ltV vw) d I2 J2 K2 s3 = r4 at hD hs3 ⊢
  obtain ⟨p, s⟩ := r4
  simp only at hD hs3 ⊢
  have HD : Hid _ := And.intro h1 (And.intro h2 (And.intro h3 hD))
  have hs9 : s <= 100 := by omega
  clear h1 h2 h3 hD l1 l2 l3 hs3
  go_enter Tryz.func225, Tryz.ntmps225
  go_wp2_with fail
  refine Calls.mono HD.out.1 ?_
  rintro r w4 ⟨rfl, hC4⟩
  go_wp2_with fail
  refine Calls.mono (HD.out.2.1 _ hC4) ?_
  rintro r w5 ⟨rfl, hC5⟩
  clear hC4
  go_wp2_with fail
  refine Calls.mono (HD.out.2.2.1 _ hC5) ?_
  rintro r w6 ⟨rfl, hC6⟩
  clear hC5
  go_wp2_with fail
  refine Calls.mono (HD.out.2.2.2 _ hC6) ?_
  rintro r w9 ⟨rfl, hC9⟩
  clear hC6
  have c9 : w9.cell? ⟨w.heap.size, 0, none⟩ = some (.int .i64 s) := cell0_of hC9.cell rfl
  have H9 : Hid _ := And.intro hC9.row trivial
  clear hC9
  rcases HF.out s (by omega) with ⟨h1, h2⟩ | ⟨h1, h2, h3⟩ | ⟨h1, h2, h3⟩
  ·have e1 : ((s : Int) == 0) = true := by simp [h1]
   have HH : Hid (hintC (hintS s) = 1) := h2
   clear h1 h2
   go_wp2_with fail
   go_ret2
   exact ⟨by rw [HH.out]; rfl, H9.out.1⟩
  ·have e1 : ((s : Int) == 0) = false := by simp; omega
   have e2 : ((s : Int) == 12) = true := by simp; omega
   have HH : Hid (hintC (hintS s) = 2) := h3
   clear h1 h2 h3
   go_wp2_with fail
   go_ret2
   exact ⟨by rw [HH.out]; rfl, H9.out.1⟩
  ·have e1 : ((s : Int) == 0) = false := by simp; omega
   have e2 : ((s : Int) == 12) = false := by simp; omega
   have HH : Hid (hintC (hintS s) = 0) := h3
   clear h1 h2 h3
   go_wp2_with fail
   go_ret2
   exact ⟨by rw [HH.out]; rfl, H9.out.1⟩
 ·rw [if_neg h50]
  have g50 : ¬ (50 : Int) <= (L : Int) := by omega
  have hD := HM.out.2.1 I J K 0 _ HM.out.2.2 (by omega) (by omega) (by omega) (by omega)
  obtain ⟨_, hs3⟩ := med_lt (lt := ltV vw) (d := d) (s := 0) (n := n) (a := I) (b := J) (c := K) (by omega) (by omega) (by omega)
  generalize Sort.median (ltV vw) d I J K 0 = r1 at hD hs3 ⊢
  obtain ⟨p, s⟩ := r1
  simp only at hD hs3 ⊢
  have HD : Hid _ := And.intro hD trivial
  clear hD
  go_enter Tryz.func225, Tryz.ntmps225
  go_wp2_with fail
  refine Calls.mono HD.out.1 ?_
  rintro r w9 ⟨rfl, hC9⟩
  have c9 : w9.cell? ⟨w.heap.size, 0, none⟩ = some (.int .i64 s) := cell0_of hC9.cell rfl
  have H9 : Hid _ := And.intro hC9.row trivial
  clear hC9
  rcases HF.out s (by omega) with ⟨h1, h2⟩ | ⟨h1, h2, h3⟩ | ⟨h1, h2, h3⟩
  ·have e1 : ((s : Int) == 0) = true := by simp [h1]
   have HH : Hid (hintC (hintS s) = 1) := h2
   clear h1 h2
   go_wp2_with fail
   go_ret2
   exact ⟨by rw [HH.out]; rfl, H9.out.1⟩
  ·have e1 : ((s : Int) == 0) = false := by simp; omega
   have e2 : ((s : Int) == 12) = true := by simp; omega
   have HH : Hid (hintC (hintS s) = 2) := h3
   clear h1 h2 h3
   go_wp2_with fail
   go_ret2
   exact ⟨by rw [HH.out]; rfl, H9.out.1⟩
  ·have e1 : ((s : Int) == 0) = false := by simp; omega
   have e2 : ((s : Int) == 12) = false := by simp; omega
   have HH : Hid (hintC (hintS s) = 0) := h3
   clear h1 h2 h3
   go_wp2_with fail
   go_ret2
   exact ⟨by rw [HH.out]; rfl, H9.out.1⟩
end
section
open Go.RowKit Go.Maps
attribute [local go_sem ↓] Go.wp_at_zero Go.wp_at_succ
theorem su_go {p : Sy.Ed -> Bool} {d : Array Sy.Ed} {j i : Nat} (h : i <= j) (hp : p d[i]! = true) : Sort.scanUp p d j i = Sort.scanUp p d j (i + 1) := by rw [Sort.scanUp, if_pos (by simp [h, hp])]
theorem su_far {p : Sy.Ed -> Bool} {d : Array Sy.Ed} {j i : Nat} (h : ¬ i <= j) : Sort.scanUp p d j i = i := by rw [Sort.scanUp, if_neg (by simp; omega)]
theorem su_stop {p : Sy.Ed -> Bool} {d : Array Sy.Ed} {j i : Nat} (hp : p d[i]! = false) : Sort.scanUp p d j i = i := by rw [Sort.scanUp, if_neg (by simp [hp])]
theorem sn_go {p : Sy.Ed -> Bool} {d : Array Sy.Ed} {i j : Nat} (h : i <= j + 1) (hp : p d[j + 1]! = true) : Sort.scanDown p d i (j + 1) = Sort.scanDown p d i j := by rw [Sort.scanDown, if_pos (by simp [h, hp])]
theorem sn_far {p : Sy.Ed -> Bool} {d : Array Sy.Ed} {i j : Nat} (h : ¬ i <= j) : Sort.scanDown p d i j = j := by
 cases j with
 | zero => rfl
 | succ j => rw [Sort.scanDown, if_neg (by simp; omega)]
theorem sn_stop {p : Sy.Ed -> Bool} {d : Array Sy.Ed} {i j : Nat} (hp : p d[j]! = false) : Sort.scanDown p d i j = j := by
 cases j with
 | zero => rfl
 | succ j => rw [Sort.scanDown, if_neg (by simp [hp])]
theorem su_ge (p : Sy.Ed -> Bool) (d : Array Sy.Ed) (j : Nat) : ∀ (q i : Nat), j + 1 - i <= q -> i <= Sort.scanUp p d j i /\ Sort.scanUp p d j i <= max i (j + 1) := by
 intro q
 induction q with
 | zero => intro i h; rw [su_far (by omega)]; omega
 | succ q ih =>
   intro i h
   by_cases h1 : i <= j
   ·cases hp : p d[i]! with
    | true => rw [su_go h1 hp]; have := ih (i + 1) (by omega); omega
    | false => rw [su_stop hp]; omega
   ·rw [su_far h1]; omega
theorem sn_le (p : Sy.Ed -> Bool) (d : Array Sy.Ed) (i : Nat) : ∀ j, Sort.scanDown p d i j <= j /\ (i <= j + 1 -> i <= Sort.scanDown p d i j + 1) := by
 intro j
 induction j with
 | zero => exact ⟨Nat.le_refl _, fun h => h⟩
 | succ j ih =>
   by_cases h1 : i <= j + 1
   ·cases hp : p d[j + 1]! with
    | true => rw [sn_go h1 hp]; exact ⟨by omega, fun _ => ih.2 h1⟩
    | false => rw [sn_stop hp]; omega
   ·rw [sn_far h1]; omega
theorem pe_break {lt : Sy.Ed -> Sy.Ed -> Bool} {a i j i2 j2 : Nat} {d : Array Sy.Ed} (hi : i2 = Sort.scanUp (fun x => !lt d[a]! x) d j i) (hj : j2 = Sort.scanDown (fun x => lt d[a]! x) d i2 j) (h : j2 < i2) : Sort.partEqLoop lt a i j d = (i2, d) := by
 rw [Sort.partEqLoop, <- hi, <- hj, if_pos h]
theorem pe_next {lt : Sy.Ed -> Sy.Ed -> Bool} {a i j i2 j2 : Nat} {d : Array Sy.Ed} (hi : i2 = Sort.scanUp (fun x => !lt d[a]! x) d j i) (hj : j2 = Sort.scanDown (fun x => lt d[a]! x) d i2 j) (h : ¬ j2 < i2) (h1 : i <= i2) (h2 : j2 <= j) : Sort.partEqLoop lt a i j d = Sort.partEqLoop lt a (i2 + 1) (j2 - 1) (Sort.swp d i2 j2) := by
 rw [Sort.partEqLoop, <- hi, <- hj, if_neg h, dif_pos (by omega)]
set_option maxRecDepth 100000 in
set_option maxHeartbeats 16000000 in
theorem partEq_any (f : Nat) (vw : Sy.Ed -> Sy.Ed) (hV : ViewAt f vw) (g cap a b pivot : Nat) (d : Array Sy.Ed) (rest : List Value) (w0 w : World) (hR : RowE w0 w g d rest) (hap : a <= pivot) (hpb : pivot < b) (hb : b <= d.size) (hsz : d.size <= 1000000) :
 Calls Tryz.prog 228 #[.slice (some ⟨g, 0, none⟩) d.size cap, .int .i64 a, .int .i64 b, .int .i64 pivot, cmpV f] w fun r w' => r = .returned (.int .i64 (Sort.partitionEqual (ltV vw) d a b pivot).1) /\ RowE w0 w' g (Sort.partitionEqual (ltV vw) d a b pivot).2 rest := by
 obtain ⟨n, hn⟩ : ∃ n, n = d.size := ⟨_, rfl⟩
 have HR : Hid _ := And.intro hR (And.intro hn hV)
 have HRs : Hid (RowE w0 w g d rest /\ d.size = n) := ⟨hR, hn.symm⟩
 rw [<- hn] at hb hsz ⊢
 unfold cmpV Sort.partitionEqual
 have he := enter_cmp
 have ba0 : (0 : Int) <= (a : Int) := by omega
 have ba1 : (a : Int) < (n : Int) := by omega
 have bpivot0 : (0 : Int) <= (pivot : Int) := by omega
 have bpivot1 : (pivot : Int) < (n : Int) := by omega
 have f0 := hR.free (a * 3)
 have f1 := hR.free (a * 3 + 1)
 have f2 := hR.free (a * 3 + 2)
 have f3 := hR.free (pivot * 3)
 have f4 := hR.free (pivot * 3 + 1)
 have f5 := hR.free (pivot * 3 + 2)
 obtain ⟨z0, z1, z2⟩ := hR.cells (j := a) (by omega)
 obtain ⟨z3, z4, z5⟩ := hR.cells (j := pivot) (by omega)
 obtain ⟨xe2, hxe2⟩ : ∃ xe, xe = d[a]! := ⟨_, rfl⟩
 obtain ⟨ye2, hye2⟩ : ∃ ye, ye = d[pivot]! := ⟨_, rfl⟩
 rw [<- hxe2] at z0 z1 z2
 rw [<- hye2] at z3 z4 z5
 have HE2 : Hid _ := And.intro hxe2 hye2
 clear hxe2 hye2
 obtain ⟨sa, sb, sc⟩ := xe2
 obtain ⟨ta, tb, tc⟩ := ye2
 simp only at z0 z1 z2 z3 z4 z5
 clear hR hn hV
 go_enter Tryz.func228, Tryz.ntmps228
 go_upto_region 1 with fail
 go_cut [13] (fun _ wx => RowE w0 wx g (Sort.swp d a pivot) rest)
 case first =>
  by_cases hne : a = pivot
  ·subst hne
   go_region
   all_goals go_wp2_with fail
   all_goals (go_meet; case rel => exact HRs.out.1.swapped (i := a) (j := a) (x := (sa, sb, sc)) (y := (sa, sb, sc)) (by have := HRs.out.2; omega) (by have := HRs.out.2; omega) HE2.out.1 HE2.out.1)
  ·have hne2 : ¬ pivot = a := fun e => hne e.symm
   go_region
   all_goals go_wp2_with fail
   all_goals (go_meet; case rel => exact HRs.out.1.swapped (i := a) (j := pivot) (x := (sa, sb, sc)) (y := (ta, tb, tc)) (by have := HRs.out.2; omega) (by have := HRs.out.2; omega) HE2.out.1 HE2.out.2)
 case rest =>
  have HS : Hid (RowE w0 wc g (Sort.swp d a pivot) rest) := hcut
  clear hcut f0 f1 f2 f3 f4 f5 z0 z1 z2 z3 z4 z5
  have e1 : IntKind.i64.wrap ((b : Int) - 1) = ((b - 1 : Nat) : Int) := by rw [IntKind.wrap_i64]; omega
  have e1' : (b : Int) - 1 = ((b - 1 : Nat) : Int) := by omega
  go_wp2_with fail
  go_loopg [11, 12] (n + 2) (fun q iv jv wr => ∃ (i j : Nat) (dk : Array Sy.Ed), iv = .int .i64 i /\ jv = .int .i64 j /\ a + 1 <= i /\ i <= j + 2 /\ j < n /\ j + 2 - i <= q /\ dk.size = n /\ RowE w0 wr g dk rest /\ Hid (Sort.partEqLoop (ltV vw) a i j dk = Sort.partEqLoop (ltV vw) a (a + 1) (b - 1) (Sort.swp d a pivot)))
  case atStart => exact ⟨a + 1, b - 1, Sort.swp d a pivot, by go_num, by first | rfl | (congr 1; omega), Nat.le_refl _, by omega, by omega, by omega, by rw [Sort.size_swp]; exact HR.out.2.1.symm, HS.out, rfl⟩
  case round =>
   obtain ⟨i, j, dk, rfl, rfl, hai, hij, hjn, hq, hsk, hRk, HO⟩ := hrel
   have HK : Hid (True /\ dk.size = n) := ⟨trivial, hsk⟩
   have HRk : Hid (RowE w0 wr g dk rest) := hRk
   obtain ⟨wq, rfl⟩ : ∃ wq, wq = wr := ⟨_, rfl⟩
   clear hRk hsk e1 e1'
   go_upto_block 2 with fail
   go_cut [11] (fun iv wx => iv = .int .i64 ((Sort.scanUp (fun x => !ltV vw dk[a]! x) dk j i : Nat) : Int) /\ RowE w0 wx g dk rest)
   case first =>
    go_wp2_with fail
    go_loopg [11] (j + 1) (fun q iv wr => ∃ i1 : Nat, iv = .int .i64 i1 /\ i <= i1 /\ i1 <= j + 2 /\ j + 1 - i1 <= q /\ RowE w0 wr g dk rest /\ Hid (Sort.scanUp (fun x => !ltV vw dk[a]! x) dk j i1 = Sort.scanUp (fun x => !ltV vw dk[a]! x) dk j i))
    case atStart => exact ⟨i, rfl, Nat.le_refl _, by omega, by omega, HRk.out, rfl⟩
    case round =>
     obtain ⟨i1, rfl, hi1, hi2, hq1, hR1, HU⟩ := hrel
     by_cases hle : i1 <= j
     ·have g1 : decide ((i1 : Int) <= (j : Int)) = true := decide_eq_true (by omega)
      have g2 : (i1 : Int) <= (j : Int) := by omega
      have hx1 : i1 < n := by omega
      have bi10 : (0 : Int) <= (i1 : Int) := by omega
      have bi11 : (i1 : Int) < (n : Int) := by omega
      have ba0 : (0 : Int) <= (a : Int) := by omega
      have ba1 : (a : Int) < (n : Int) := by omega
      obtain ⟨x0, x1, x2⟩ := hR1.cells (j := a) (by have := HK.out.2; omega)
      obtain ⟨y0, y1, y2⟩ := hR1.cells (j := i1) (by have := HK.out.2; omega)
      have hcm := fun W => compare_any f vw HR.out.2.2 (dk[a]!) (dk[i1]!) W
      unfold edV at hcm
      have hlt2 := cmpV_neg vw (dk[a]!) (dk[i1]!)
      obtain ⟨xe, hxe⟩ : ∃ xe, xe = dk[a]! := ⟨_, rfl⟩
      obtain ⟨ye, hye⟩ : ∃ ye, ye = dk[i1]! := ⟨_, rfl⟩
      rw [<- hxe] at x0 x1 x2 hcm hlt2
      rw [<- hye] at y0 y1 y2 hcm hlt2
      have HE : Hid _ := And.intro hxe hye
      clear hxe hye
      obtain ⟨xa, xb, xc⟩ := xe
      obtain ⟨ya, yb, yc⟩ := ye
      generalize cmpE (vw (xa, xb, xc)) (vw (ya, yb, yc)) = c at hcm hlt2
      have HC : Hid _ := hcm
      have HL : Hid _ := hlt2
      clear hcm hlt2
      simp only at x0 x1 x2 y0 y1 y2
      have H1 : Hid (RowE w0 wr g dk rest) := hR1
      clear hR1
      by_cases hc : c < 0
      ·have p6 : decide (c < 0) = true := decide_eq_true hc
       go_upto_region 3 with fail
       go_region_held3 (fun w' => ((w'.cell? ⟨g, a * 3, none⟩ = some (.int .i64 xa) /\ w'.cell? ⟨g, a * 3 + 1, none⟩ = some (.int .i64 xb) /\ w'.cell? ⟨g, a * 3 + 2, none⟩ = some (.int .i64 xc)) /\ (w'.cell? ⟨g, i1 * 3, none⟩ = some (.int .i64 ya) /\ w'.cell? ⟨g, i1 * 3 + 1, none⟩ = some (.int .i64 yb) /\ w'.cell? ⟨g, i1 * 3 + 2, none⟩ = some (.int .i64 yc))) /\ Hid (Below wr.heap.size wr w')) (first | exact rg_up6 hb3 (by assumption) | exact ⟨⟨⟨x0, x1, x2⟩, ⟨y0, y1, y2⟩⟩, ((Below.refl _ _).drew : Below wr.heap.size wr wr.drew)⟩ | go_keep)
        ((first
          | (go_at_fn 195; refine (HC.out _).mono ?_; rintro r w3 ⟨rfl, hb3⟩)
          | fail))
       have hbq : Below wr.heap.size wr w3 := rg_b (by assumption)
       clear x0 x1 x2 y0 y1 y2 hb3 HC
       rename_i hS3
       clear hS3
       have H3 : Hid (RowE w0 w3 g dk rest) := H1.out.below hbq
       clear hbq
       go_wp2_with fail
       go_meet
       case rel => exact ⟨by rw [<- HU.out, su_stop (by have h7 : ltV vw dk[a]! dk[i1]! = true := (by rw [<- HE.out.1, <- HE.out.2]; exact HL.out.1 hc); simp [h7])], H3.out⟩
      ·have p6 : decide (c < 0) = false := decide_eq_false hc
       go_upto_region 3 with fail
       go_region_held3 (fun w' => ((w'.cell? ⟨g, a * 3, none⟩ = some (.int .i64 xa) /\ w'.cell? ⟨g, a * 3 + 1, none⟩ = some (.int .i64 xb) /\ w'.cell? ⟨g, a * 3 + 2, none⟩ = some (.int .i64 xc)) /\ (w'.cell? ⟨g, i1 * 3, none⟩ = some (.int .i64 ya) /\ w'.cell? ⟨g, i1 * 3 + 1, none⟩ = some (.int .i64 yb) /\ w'.cell? ⟨g, i1 * 3 + 2, none⟩ = some (.int .i64 yc))) /\ Hid (Below wr.heap.size wr w')) (first | exact rg_up6 hb3 (by assumption) | exact ⟨⟨⟨x0, x1, x2⟩, ⟨y0, y1, y2⟩⟩, ((Below.refl _ _).drew : Below wr.heap.size wr wr.drew)⟩ | go_keep)
        ((first
          | (go_at_fn 195; refine (HC.out _).mono ?_; rintro r w3 ⟨rfl, hb3⟩)
          | fail))
       have hbq : Below wr.heap.size wr w3 := rg_b (by assumption)
       clear x0 x1 x2 y0 y1 y2 hb3 HC
       rename_i hS3
       clear hS3
       have H3 : Hid (RowE w0 w3 g dk rest) := H1.out.below hbq
       clear hbq
       go_wp2_with fail
       go_roundg (j + 1 - (i1 + 1))
       case measure => omega
       case rel =>
        refine ⟨i1 + 1, by go_num, by omega, by omega, Nat.le_refl _, H3.out, (show Hid _ from ?_)⟩
        show _ = _
        rw [<- HU.out, su_go hle (by have h7 : ltV vw dk[a]! dk[i1]! = false := (by rw [<- HE.out.1, <- HE.out.2]; cases h : ltV vw (xa, xb, xc) (ya, yb, yc) with | false => rfl | true => exact absurd (HL.out.2 h) (by omega)); simp [h7])]
     ·have g1 : decide ((i1 : Int) <= (j : Int)) = false := decide_eq_false (by omega)
      have g2 : ¬ (i1 : Int) <= (j : Int) := by omega
      have H1 : Hid (RowE w0 wr g dk rest) := hR1
      clear hR1
      go_wp2_with fail
      go_region
      all_goals go_wp2_with fail
      all_goals (go_meet; case rel => exact ⟨by rw [<- HU.out, su_far hle], H1.out.below (Below.refl _ _).drew⟩)
   case rest =>
    obtain ⟨rfl, hRk⟩ := hcut
    obtain ⟨wd, rfl⟩ : ∃ wd, wd = wc := ⟨_, rfl⟩
    have hge := su_ge (fun x => !ltV vw dk[a]! x) dk j (j + 1) i (by omega)
    obtain ⟨i2, hI2⟩ : ∃ i2, i2 = Sort.scanUp (fun x => !ltV vw dk[a]! x) dk j i := ⟨_, rfl⟩
    rw [<- hI2] at hge ⊢
    have HI2 : Hid _ := And.intro hI2 trivial
    have HRk : Hid (RowE w0 wd g dk rest) := hRk
    clear hRk hI2
    go_upto_block 4 with fail
    go_cut [12] (fun iv wx => iv = .int .i64 ((Sort.scanDown (fun x => ltV vw dk[a]! x) dk i2 j : Nat) : Int) /\ RowE w0 wx g dk rest)
    case first =>
     go_wp2_with fail
     go_loopg [12] (j + 1) (fun q jv wr => ∃ j1 : Nat, jv = .int .i64 j1 /\ j1 <= j /\ i2 <= j1 + 2 /\ j1 < n /\ j1 <= q /\ RowE w0 wr g dk rest /\ Hid (Sort.scanDown (fun x => ltV vw dk[a]! x) dk i2 j1 = Sort.scanDown (fun x => ltV vw dk[a]! x) dk i2 j))
     case atStart => exact ⟨j, rfl, Nat.le_refl _, by omega, by omega, by omega, HRk.out, rfl⟩
     case round =>
      obtain ⟨j1, rfl, hj1, hj2, hj3, hq1, hR1, HU⟩ := hrel
      by_cases hle : i2 <= j1
      ·have g1 : decide ((i2 : Int) <= (j1 : Int)) = true := decide_eq_true (by omega)
       have g2 : (i2 : Int) <= (j1 : Int) := by omega
       have hx1 : j1 < n := by omega
       have bj10 : (0 : Int) <= (j1 : Int) := by omega
       have bj11 : (j1 : Int) < (n : Int) := by omega
       have ba0 : (0 : Int) <= (a : Int) := by omega
       have ba1 : (a : Int) < (n : Int) := by omega
       obtain ⟨x0, x1, x2⟩ := hR1.cells (j := a) (by have := HK.out.2; omega)
       obtain ⟨y0, y1, y2⟩ := hR1.cells (j := j1) (by have := HK.out.2; omega)
       have hcm := fun W => compare_any f vw HR.out.2.2 (dk[a]!) (dk[j1]!) W
       unfold edV at hcm
       have hlt2 := cmpV_neg vw (dk[a]!) (dk[j1]!)
       obtain ⟨xe, hxe⟩ : ∃ xe, xe = dk[a]! := ⟨_, rfl⟩
       obtain ⟨ye, hye⟩ : ∃ ye, ye = dk[j1]! := ⟨_, rfl⟩
       rw [<- hxe] at x0 x1 x2 hcm hlt2
       rw [<- hye] at y0 y1 y2 hcm hlt2
       have HE : Hid _ := And.intro hxe hye
       clear hxe hye
       obtain ⟨xa, xb, xc⟩ := xe
       obtain ⟨ya, yb, yc⟩ := ye
       generalize cmpE (vw (xa, xb, xc)) (vw (ya, yb, yc)) = c at hcm hlt2
       have HC : Hid _ := hcm
       have HL : Hid _ := hlt2
       clear hcm hlt2
       simp only at x0 x1 x2 y0 y1 y2
       have H1 : Hid (RowE w0 wr g dk rest) := hR1
       clear hR1
       by_cases hc : c < 0
       ·have p6 : decide (c < 0) = true := decide_eq_true hc
        go_upto_region 5 with fail
        go_region_held3 (fun w' => ((w'.cell? ⟨g, a * 3, none⟩ = some (.int .i64 xa) /\ w'.cell? ⟨g, a * 3 + 1, none⟩ = some (.int .i64 xb) /\ w'.cell? ⟨g, a * 3 + 2, none⟩ = some (.int .i64 xc)) /\ (w'.cell? ⟨g, j1 * 3, none⟩ = some (.int .i64 ya) /\ w'.cell? ⟨g, j1 * 3 + 1, none⟩ = some (.int .i64 yb) /\ w'.cell? ⟨g, j1 * 3 + 2, none⟩ = some (.int .i64 yc))) /\ Hid (Below wr.heap.size wr w')) (first | exact rg_up6 hb3 (by assumption) | exact ⟨⟨⟨x0, x1, x2⟩, ⟨y0, y1, y2⟩⟩, ((Below.refl _ _).drew : Below wr.heap.size wr wr.drew)⟩ | go_keep)
         ((first
           | (go_at_fn 195; refine (HC.out _).mono ?_; rintro r w3 ⟨rfl, hb3⟩)
           | fail))
        have hbq : Below wr.heap.size wr w3 := rg_b (by assumption)
        clear x0 x1 x2 y0 y1 y2 hb3 HC
        rename_i hS3
        clear hS3
        have H3 : Hid (RowE w0 w3 g dk rest) := H1.out.below hbq
        clear hbq
        go_wp2_with fail
        go_roundg (j1 - 1)
        case measure => omega
        case rel =>
         refine ⟨j1 - 1, by first | go_num | (congr 1; omega), by omega, by omega, by omega, Nat.le_refl _, H3.out, (show Hid _ from ?_)⟩
         show _ = _
         have h8 : (fun x => ltV vw dk[a]! x) dk[j1]! = true := by have h7 : ltV vw dk[a]! dk[j1]! = true := (by rw [<- HE.out.1, <- HE.out.2]; exact HL.out.1 hc); simp [h7]
         obtain ⟨jq, rfl⟩ : ∃ jq, j1 = jq + 1 := ⟨j1 - 1, by omega⟩
         rw [<- HU.out, sn_go hle h8]
         rfl
       ·have p6 : decide (c < 0) = false := decide_eq_false hc
        go_upto_region 5 with fail
        go_region_held3 (fun w' => ((w'.cell? ⟨g, a * 3, none⟩ = some (.int .i64 xa) /\ w'.cell? ⟨g, a * 3 + 1, none⟩ = some (.int .i64 xb) /\ w'.cell? ⟨g, a * 3 + 2, none⟩ = some (.int .i64 xc)) /\ (w'.cell? ⟨g, j1 * 3, none⟩ = some (.int .i64 ya) /\ w'.cell? ⟨g, j1 * 3 + 1, none⟩ = some (.int .i64 yb) /\ w'.cell? ⟨g, j1 * 3 + 2, none⟩ = some (.int .i64 yc))) /\ Hid (Below wr.heap.size wr w')) (first | exact rg_up6 hb3 (by assumption) | exact ⟨⟨⟨x0, x1, x2⟩, ⟨y0, y1, y2⟩⟩, ((Below.refl _ _).drew : Below wr.heap.size wr wr.drew)⟩ | go_keep)
         ((first
           | (go_at_fn 195; refine (HC.out _).mono ?_; rintro r w3 ⟨rfl, hb3⟩)
           | fail))
        have hbq : Below wr.heap.size wr w3 := rg_b (by assumption)
        clear x0 x1 x2 y0 y1 y2 hb3 HC
        rename_i hS3
        clear hS3
        have H3 : Hid (RowE w0 w3 g dk rest) := H1.out.below hbq
        clear hbq
        go_wp2_with fail
        go_meet
        case rel => exact ⟨by rw [<- HU.out, sn_stop (by have h7 : ltV vw dk[a]! dk[j1]! = false := (by rw [<- HE.out.1, <- HE.out.2]; cases h : ltV vw (xa, xb, xc) (ya, yb, yc) with | false => rfl | true => exact absurd (HL.out.2 h) (by omega)); simp [h7])], H3.out⟩
      ·have g1 : decide ((i2 : Int) <= (j1 : Int)) = false := decide_eq_false (by omega)
       have g2 : ¬ (i2 : Int) <= (j1 : Int) := by omega
       have H1 : Hid (RowE w0 wr g dk rest) := hR1
       clear hR1
       go_wp2_with fail
       go_region
       all_goals go_wp2_with fail
       all_goals (go_meet; case rel => exact ⟨by rw [<- HU.out, sn_far hle], H1.out.below (Below.refl _ _).drew⟩)
    case rest =>
     obtain ⟨rfl, hRk⟩ := hcut
     obtain ⟨we, rfl⟩ : ∃ we, we = wc := ⟨_, rfl⟩
     have hle2 := sn_le (fun x => ltV vw dk[a]! x) dk i2 j
     obtain ⟨j2, hJ2⟩ : ∃ j2, j2 = Sort.scanDown (fun x => ltV vw dk[a]! x) dk i2 j := ⟨_, rfl⟩
     rw [<- hJ2] at hle2 ⊢
     have HJ2 : Hid _ := And.intro hJ2 trivial
     clear hJ2
     by_cases hgt : j2 < i2
     ·have g1 : (j2 : Int) < (i2 : Int) := by omega
      have HRk : Hid (RowE w0 we g dk rest) := hRk
      clear hRk
      go_wp2_with fail
      go_ret
      have hf := pe_break (lt := ltV vw) HI2.out.1 HJ2.out.1 hgt
      rw [HO.out] at hf
      rw [hf]
      exact ⟨rfl, HRk.out⟩
     ·have g1 : ¬ (j2 : Int) < (i2 : Int) := by omega
      obtain ⟨j3, rfl⟩ : ∃ j3, j2 = j3 + 1 := ⟨j2 - 1, by omega⟩
      have r0 : (0 : Int) <= (i2 : Int) := by omega
      have r1 : (i2 : Int) < (n : Int) := by omega
      have r2 : (0 : Int) <= (j3 : Int) + 1 := by omega
      have r3 : (j3 : Int) + 1 < (n : Int) := by omega
      have r4 : ((j3 : Int) + 1).toNat = j3 + 1 := by omega
      have r6 : IntKind.i64.wrap ((j3 : Int) + 1 - 1) = (j3 : Int) := by rw [IntKind.wrap_i64]; omega
      have r7 : IntKind.i64.wrap (j3 : Int) = (j3 : Int) := by rw [IntKind.wrap_i64]; omega
      have hnx := pe_next (lt := ltV vw) HI2.out.1 HJ2.out.1 hgt hge.1 hle2.1
      rw [Nat.add_sub_cancel] at hnx
      have HNX : Hid _ := And.intro hnx trivial
      clear hnx
      have f0 := hRk.free (i2 * 3)
      have f1 := hRk.free (i2 * 3 + 1)
      have f2 := hRk.free (i2 * 3 + 2)
      have f3 := hRk.free ((j3 + 1) * 3)
      have f4 := hRk.free ((j3 + 1) * 3 + 1)
      have f5 := hRk.free ((j3 + 1) * 3 + 2)
      obtain ⟨z0, z1, z2⟩ := hRk.cells (j := i2) (by have := HK.out.2; omega)
      obtain ⟨z3, z4, z5⟩ := hRk.cells (j := (j3 + 1)) (by have := HK.out.2; omega)
      obtain ⟨xe2, hxe2⟩ : ∃ xe, xe = dk[i2]! := ⟨_, rfl⟩
      obtain ⟨ye2, hye2⟩ : ∃ ye, ye = dk[(j3 + 1)]! := ⟨_, rfl⟩
      rw [<- hxe2] at z0 z1 z2
      rw [<- hye2] at z3 z4 z5
      have HE2 : Hid _ := And.intro hxe2 hye2
      clear hxe2 hye2
      obtain ⟨sa, sb, sc⟩ := xe2
      obtain ⟨ta, tb, tc⟩ := ye2
      simp only at z0 z1 z2 z3 z4 z5
      have HRk : Hid (RowE w0 we g dk rest) := hRk
      clear hRk
      by_cases hne : i2 = j3 + 1
      ·subst hne
       have HB : Hid _ := And.intro hge (And.intro hle2 (And.intro hq hij))
       clear z3 z4 z5 f3 f4 f5 hgt g1 hge hle2 hq hij
       have g1 : ¬ (j3 : Int) + 1 < (j3 : Int) + 1 := by omega
       go_wp2_with fail
       go_region
       all_goals go_wp2_with fail
       go_roundg (j3 + 2 - (j3 + 1 + 1))
       case measure => obtain ⟨h1, h2, h3, h4⟩ := HB.out; omega
       case rel =>
        obtain ⟨h1, h2, h3, h4⟩ := HB.out
        refine ⟨j3 + 1 + 1, j3, Sort.swp dk (j3 + 1) (j3 + 1), by go_num, by go_num, by omega, by omega, by omega, Nat.le_refl _, by rw [Sort.size_swp]; exact HK.out.2, HRk.out.swapped (i := j3 + 1) (j := j3 + 1) (x := (sa, sb, sc)) (y := (sa, sb, sc)) (by have := HK.out.2; omega) (by have := HK.out.2; omega) HE2.out.1 HE2.out.1, (show Hid _ from ?_)⟩
        show _ = _
        rw [<- HO.out, HNX.out.1]
      ·have hne2 : ¬ j3 + 1 = i2 := fun e => hne e.symm
       go_wp2_with fail
       go_region
       all_goals go_wp2_with fail
       go_roundg (j3 + 2 - (i2 + 1))
       case measure => omega
       case rel =>
        refine ⟨i2 + 1, j3, Sort.swp dk i2 (j3 + 1), by go_num, by go_num, by omega, by omega, by omega, Nat.le_refl _, by rw [Sort.size_swp]; exact HK.out.2, HRk.out.swapped (i := i2) (j := j3 + 1) (x := (sa, sb, sc)) (y := (ta, tb, tc)) (by have := HK.out.2; omega) (by have := HK.out.2; omega) HE2.out.1 HE2.out.2, (show Hid _ from ?_)⟩
        show _ = _
        rw [<- HO.out, HNX.out.1]
end
end Go.Proofs.YthcpliinddjkhaaGreatDoor
