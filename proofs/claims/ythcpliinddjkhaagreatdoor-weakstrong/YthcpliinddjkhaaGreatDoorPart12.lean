/- Texts of this claim, joined: SoPt, SoPis, SoRnd. -/
import Derived.Test.YthcpliinddjkhaaGreatDoorPart11
import Derived.Sort.Walk7a
namespace Go.Proofs.YthcpliinddjkhaaGreatDoor
section
open Go.RowKit Go.Maps
attribute [local go_sem ↓] Go.wp_at_zero Go.wp_at_succ
theorem pl_break {lt : Sy.Ed -> Sy.Ed -> Bool} {a i j i2 j2 : Nat} {d : Array Sy.Ed} (hi : i2 = Sort.scanUp (fun x => lt x d[a]!) d j i) (hj : j2 = Sort.scanDown (fun x => !lt x d[a]!) d i2 j) (h : j2 < i2) : Sort.partLoop lt a i j d = (j2, d) := by
 rw [Sort.partLoop, <- hi, <- hj, if_pos h]
theorem pl_next {lt : Sy.Ed -> Sy.Ed -> Bool} {a i j i2 j2 : Nat} {d : Array Sy.Ed} (hi : i2 = Sort.scanUp (fun x => lt x d[a]!) d j i) (hj : j2 = Sort.scanDown (fun x => !lt x d[a]!) d i2 j) (h : ¬ j2 < i2) (h1 : i <= i2) (h2 : j2 <= j) : Sort.partLoop lt a i j d = Sort.partLoop lt a (i2 + 1) (j2 - 1) (Sort.swp d i2 j2) := by
 rw [Sort.partLoop, <- hi, <- hj, if_neg h, dif_pos (by omega)]
theorem pt_early {lt : Sy.Ed -> Sy.Ed -> Bool} {a b pivot i j i2 j2 : Nat} {d dk : Array Sy.Ed} (hd : dk = Sort.swp d a pivot) (h0 : i = a + 1) (h1 : j = b - 1) (hi : i2 = Sort.scanUp (fun x => lt x dk[a]!) dk j i) (hj : j2 = Sort.scanDown (fun x => !lt x dk[a]!) dk i2 j) (h : j2 < i2) : Sort.partition lt d a b pivot = (j2, true, Sort.swp dk j2 a) := by
 subst hd h0 h1
 simp only [Sort.partition, <- hi, <- hj]
 rw [if_pos h]
theorem pt_late {lt : Sy.Ed -> Sy.Ed -> Bool} {a b pivot i j i2 j2 : Nat} {d dk : Array Sy.Ed} (hd : dk = Sort.swp d a pivot) (h0 : i = a + 1) (h1 : j = b - 1) (hi : i2 = Sort.scanUp (fun x => lt x dk[a]!) dk j i) (hj : j2 = Sort.scanDown (fun x => !lt x dk[a]!) dk i2 j) (h : ¬ j2 < i2) : Sort.partition lt d a b pivot = ((Sort.partLoop lt a (i2 + 1) (j2 - 1) (Sort.swp dk i2 j2)).1, false, Sort.swp (Sort.partLoop lt a (i2 + 1) (j2 - 1) (Sort.swp dk i2 j2)).2 (Sort.partLoop lt a (i2 + 1) (j2 - 1) (Sort.swp dk i2 j2)).1 a) := by
 subst hd h0 h1
 simp only [Sort.partition, <- hi, <- hj]
 rw [if_neg h]
set_option maxRecDepth 100000 in
set_option maxHeartbeats 32000000 in
theorem partition_any (f : Nat) (vw : Sy.Ed -> Sy.Ed) (hV : ViewAt f vw) (g cap a b pivot : Nat) (d : Array Sy.Ed) (rest : List Value) (w0 w : World) (hR : RowE w0 w g d rest) (hap : a <= pivot) (hpb : pivot < b) (hb : b <= d.size) (hsz : d.size <= 1000000) :
 Calls Tryz.prog 229 #[.slice (some ⟨g, 0, none⟩) d.size cap, .int .i64 a, .int .i64 b, .int .i64 pivot, cmpV f] w fun r w' => r = .returned (.tuple #[.int .i64 (Sort.partition (ltV vw) d a b pivot).1, .bool (Sort.partition (ltV vw) d a b pivot).2.1]) /\ RowE w0 w' g (Sort.partition (ltV vw) d a b pivot).2.2 rest := by
 obtain ⟨n, hn⟩ : ∃ n, n = d.size := ⟨_, rfl⟩
 have HR : Hid _ := And.intro hR (And.intro hn hV)
 have HRs : Hid (RowE w0 w g d rest /\ d.size = n) := ⟨hR, hn.symm⟩
 rw [<- hn] at hb hsz ⊢
 unfold cmpV
 have he := enter_cmp
 have ba0 : (0 : Int) <= (a : Int) := by omega
 have ba1 : (a : Int) < (n : Int) := by omega
 have bpivot0 : (0 : Int) <= (pivot : Int) := by omega
 have bpivot1 : (pivot : Int) < (n : Int) := by omega
 have f0 := hR.free (a * 3)
 have f1 := hR.free (a * 3 + 1)
 have f2 := hR.free (a * 3 + 2)
 have f3 := hR.free (pivot * 3)
 have f4 := hR.free (pivot * 3 + 1)
 have f5 := hR.free (pivot * 3 + 2)
 obtain ⟨z0, z1, z2⟩ := hR.cells (j := a) (by omega)
 obtain ⟨z3, z4, z5⟩ := hR.cells (j := pivot) (by omega)
 obtain ⟨xe2, hxe2⟩ : ∃ xe, xe = d[a]! := ⟨_, rfl⟩
 obtain ⟨ye2, hye2⟩ : ∃ ye, ye = d[pivot]! := ⟨_, rfl⟩
 rw [<- hxe2] at z0 z1 z2
 rw [<- hye2] at z3 z4 z5
 have HE2 : Hid _ := And.intro hxe2 hye2
 clear hxe2 hye2
 obtain ⟨sa, sb, sc⟩ := xe2
 obtain ⟨ta, tb, tc⟩ := ye2
 simp only at z0 z1 z2 z3 z4 z5
 clear hR hn hV
 go_enter Tryz.func229, Tryz.ntmps229
 go_upto_region 1 with fail
 go_cut [13] (fun _ wx => RowE w0 wx g (Sort.swp d a pivot) rest)
 case first =>
  by_cases hne : a = pivot
  ·subst hne
   go_region
   all_goals go_wp2_with fail
   all_goals (go_meet; case rel => exact HRs.out.1.swapped (i := a) (j := a) (x := (sa, sb, sc)) (y := (sa, sb, sc)) (by have := HRs.out.2; omega) (by have := HRs.out.2; omega) HE2.out.1 HE2.out.1)
  ·have hne2 : ¬ pivot = a := fun e => hne e.symm
   go_region
   all_goals go_wp2_with fail
   all_goals (go_meet; case rel => exact HRs.out.1.swapped (i := a) (j := pivot) (x := (sa, sb, sc)) (y := (ta, tb, tc)) (by have := HRs.out.2; omega) (by have := HRs.out.2; omega) HE2.out.1 HE2.out.2)
 case rest =>
  obtain ⟨dk, hdk⟩ : ∃ dk, dk = Sort.swp d a pivot := ⟨_, rfl⟩
  have HK : Hid (True /\ dk.size = n) := ⟨trivial, by rw [hdk, Sort.size_swp]; exact HR.out.2.1.symm⟩
  rw [<- hdk] at hcut
  have HDK : Hid _ := And.intro hdk trivial
  obtain ⟨wq, rfl⟩ : ∃ wq, wq = wc := ⟨_, rfl⟩
  have HRk : Hid (RowE w0 wq g dk rest) := hcut
  clear hcut hdk f0 f1 f2 f3 f4 f5 z0 z1 z2 z3 z4 z5 HE2 HRs
  obtain ⟨i, hi0⟩ : ∃ i, i = a + 1 := ⟨_, rfl⟩
  obtain ⟨j, hj0⟩ : ∃ j, j = b - 1 := ⟨_, rfl⟩
  have hai : a + 1 <= i := by omega
  have hij : i <= j + 1 := by omega
  have hjn : j < n := by omega
  have haj : a <= j := by omega
  have e1 : IntKind.i64.wrap ((b : Int) - 1) = ((b - 1 : Nat) : Int) := by rw [IntKind.wrap_i64]; omega
  have e1' : (b : Int) - 1 = ((b - 1 : Nat) : Int) := by omega
  have HIJ : Hid (i = a + 1 /\ j = b - 1) := ⟨hi0, hj0⟩
  clear hi0 hj0
  go_upto_region 2 with fail
  go_cut [12, 13] (fun iv jv wx => iv = .int .i64 i /\ jv = .int .i64 j /\ RowE w0 wx g dk rest)
  case first =>
   go_wp2_with fail
   go_meet
   case rel => exact ⟨by rw [HIJ.out.1]; go_num, by rw [HIJ.out.2], HRk.out⟩
  case rest =>
  obtain ⟨rfl, rfl, hRk⟩ := hcut
  obtain ⟨wq, rfl⟩ : ∃ wq, wq = wc := ⟨_, rfl⟩
  clear HRk e1 e1'
  have HRk : Hid (RowE w0 wq g dk rest) := hRk
  clear hRk
  go_upto_block 0 with fail
  go_cut [12] (fun iv wx => iv = .int .i64 ((Sort.scanUp (fun x => ltV vw x dk[a]!) dk j i : Nat) : Int) /\ RowE w0 wx g dk rest)
  case first =>
   go_wp2_with fail
   go_loopg [12] (j + 1) (fun q iv wr => ∃ i1 : Nat, iv = .int .i64 i1 /\ i <= i1 /\ i1 <= j + 2 /\ j + 1 - i1 <= q /\ RowE w0 wr g dk rest /\ Hid (Sort.scanUp (fun x => ltV vw x dk[a]!) dk j i1 = Sort.scanUp (fun x => ltV vw x dk[a]!) dk j i))
   case atStart => exact ⟨i, rfl, Nat.le_refl _, by omega, by omega, HRk.out, rfl⟩
   case round =>
    obtain ⟨i1, rfl, hi1, hi2, hq1, hR1, HU⟩ := hrel
    by_cases hle : i1 <= j
    ·have g1 : decide ((i1 : Int) <= (j : Int)) = true := decide_eq_true (by omega)
     have g2 : (i1 : Int) <= (j : Int) := by omega
     have hx1 : i1 < n := by omega
     have bi10 : (0 : Int) <= (i1 : Int) := by omega
     have bi11 : (i1 : Int) < (n : Int) := by omega
     have ba0 : (0 : Int) <= (a : Int) := by omega
     have ba1 : (a : Int) < (n : Int) := by omega
     obtain ⟨x0, x1, x2⟩ := hR1.cells (j := i1) (by have := HK.out.2; omega)
     obtain ⟨y0, y1, y2⟩ := hR1.cells (j := a) (by have := HK.out.2; omega)
     have hcm := fun W => compare_any f vw HR.out.2.2 (dk[i1]!) (dk[a]!) W
     unfold edV at hcm
     have hlt2 := cmpV_neg vw (dk[i1]!) (dk[a]!)
     obtain ⟨xe, hxe⟩ : ∃ xe, xe = dk[i1]! := ⟨_, rfl⟩
     obtain ⟨ye, hye⟩ : ∃ ye, ye = dk[a]! := ⟨_, rfl⟩
     rw [<- hxe] at x0 x1 x2 hcm hlt2
     rw [<- hye] at y0 y1 y2 hcm hlt2
     have HE : Hid _ := And.intro hxe hye
     clear hxe hye
     obtain ⟨xa, xb, xc⟩ := xe
     obtain ⟨ya, yb, yc⟩ := ye
     generalize cmpE (vw (xa, xb, xc)) (vw (ya, yb, yc)) = c at hcm hlt2
     have HC : Hid _ := hcm
     have HL : Hid _ := hlt2
     clear hcm hlt2
     simp only at x0 x1 x2 y0 y1 y2
     have H1 : Hid (RowE w0 wr g dk rest) := hR1
     clear hR1
     by_cases hc : c < 0
     ·have p6 : decide (c < 0) = true := decide_eq_true hc
      go_upto_region 3 with fail
      go_region_held3 (fun w' => ((w'.cell? ⟨g, i1 * 3, none⟩ = some (.int .i64 xa) /\ w'.cell? ⟨g, i1 * 3 + 1, none⟩ = some (.int .i64 xb) /\ w'.cell? ⟨g, i1 * 3 + 2, none⟩ = some (.int .i64 xc)) /\ (w'.cell? ⟨g, a * 3, none⟩ = some (.int .i64 ya) /\ w'.cell? ⟨g, a * 3 + 1, none⟩ = some (.int .i64 yb) /\ w'.cell? ⟨g, a * 3 + 2, none⟩ = some (.int .i64 yc))) /\ Hid (Below wr.heap.size wr w')) (first | exact rg_up6 hb3 (by assumption) | exact ⟨⟨⟨x0, x1, x2⟩, ⟨y0, y1, y2⟩⟩, ((Below.refl _ _).drew : Below wr.heap.size wr wr.drew)⟩ | go_keep)
       ((first
         | (go_at_fn 195; refine (HC.out _).mono ?_; rintro r w3 ⟨rfl, hb3⟩)
         | fail))
      have hbq : Below wr.heap.size wr w3 := rg_b (by assumption)
      clear x0 x1 x2 y0 y1 y2 hb3 HC
      rename_i hS3
      clear hS3
      have H3 : Hid (RowE w0 w3 g dk rest) := H1.out.below hbq
      clear hbq
      go_wp2_with fail
      go_roundg (j + 1 - (i1 + 1))
      case measure => omega
      case rel =>
       refine ⟨i1 + 1, by go_num, by omega, by omega, Nat.le_refl _, H3.out, (show Hid _ from ?_)⟩
       show _ = _
       rw [<- HU.out, su_go hle (by have h7 : ltV vw dk[i1]! dk[a]! = true := (by rw [<- HE.out.1, <- HE.out.2]; exact HL.out.1 hc); simp [h7])]
     ·have p6 : decide (c < 0) = false := decide_eq_false hc
      go_upto_region 3 with fail
      go_region_held3 (fun w' => ((w'.cell? ⟨g, i1 * 3, none⟩ = some (.int .i64 xa) /\ w'.cell? ⟨g, i1 * 3 + 1, none⟩ = some (.int .i64 xb) /\ w'.cell? ⟨g, i1 * 3 + 2, none⟩ = some (.int .i64 xc)) /\ (w'.cell? ⟨g, a * 3, none⟩ = some (.int .i64 ya) /\ w'.cell? ⟨g, a * 3 + 1, none⟩ = some (.int .i64 yb) /\ w'.cell? ⟨g, a * 3 + 2, none⟩ = some (.int .i64 yc))) /\ Hid (Below wr.heap.size wr w')) (first | exact rg_up6 hb3 (by assumption) | exact ⟨⟨⟨x0, x1, x2⟩, ⟨y0, y1, y2⟩⟩, ((Below.refl _ _).drew : Below wr.heap.size wr wr.drew)⟩ | go_keep)
       ((first
         | (go_at_fn 195; refine (HC.out _).mono ?_; rintro r w3 ⟨rfl, hb3⟩)
         | fail))
      have hbq : Below wr.heap.size wr w3 := rg_b (by assumption)
      clear x0 x1 x2 y0 y1 y2 hb3 HC
      rename_i hS3
      clear hS3
      have H3 : Hid (RowE w0 w3 g dk rest) := H1.out.below hbq
      clear hbq
      go_wp2_with fail
      go_meet
      case rel => exact ⟨by rw [<- HU.out, su_stop (by have h7 : ltV vw dk[i1]! dk[a]! = false := (by rw [<- HE.out.1, <- HE.out.2]; cases h : ltV vw (xa, xb, xc) (ya, yb, yc) with | false => rfl | true => exact absurd (HL.out.2 h) (by omega)); simp [h7])], H3.out⟩
    ·have g1 : decide ((i1 : Int) <= (j : Int)) = false := decide_eq_false (by omega)
     have g2 : ¬ (i1 : Int) <= (j : Int) := by omega
     have H1 : Hid (RowE w0 wr g dk rest) := hR1
     clear hR1
     go_wp2_with fail
     go_region
     all_goals go_wp2_with fail
     all_goals (go_meet; case rel => exact ⟨by rw [<- HU.out, su_far hle], H1.out.below (Below.refl _ _).drew⟩)
  case rest =>
   obtain ⟨rfl, hRk⟩ := hcut
   obtain ⟨wd, rfl⟩ : ∃ wd, wd = wc := ⟨_, rfl⟩
   have hge := su_ge (fun x => ltV vw x dk[a]!) dk j (j + 1) i (by omega)
   obtain ⟨i2, hI2⟩ : ∃ i2, i2 = Sort.scanUp (fun x => ltV vw x dk[a]!) dk j i := ⟨_, rfl⟩
   rw [<- hI2] at hge ⊢
   have HI2 : Hid _ := And.intro hI2 trivial
   have HRk : Hid (RowE w0 wd g dk rest) := hRk
   clear hRk hI2
   go_upto_block 2 with fail
   go_cut [13] (fun iv wx => iv = .int .i64 ((Sort.scanDown (fun x => !ltV vw x dk[a]!) dk i2 j : Nat) : Int) /\ RowE w0 wx g dk rest)
   case first =>
    go_wp2_with fail
    go_loopg [13] (j + 1) (fun q jv wr => ∃ j1 : Nat, jv = .int .i64 j1 /\ j1 <= j /\ i2 <= j1 + 2 /\ j1 < n /\ j1 <= q /\ RowE w0 wr g dk rest /\ Hid (Sort.scanDown (fun x => !ltV vw x dk[a]!) dk i2 j1 = Sort.scanDown (fun x => !ltV vw x dk[a]!) dk i2 j))
    case atStart => exact ⟨j, rfl, Nat.le_refl _, by omega, by omega, by omega, HRk.out, rfl⟩
    case round =>
     obtain ⟨j1, rfl, hj1, hj2, hj3, hq1, hR1, HU⟩ := hrel
     by_cases hle : i2 <= j1
     ·have g1 : decide ((i2 : Int) <= (j1 : Int)) = true := decide_eq_true (by omega)
      have g2 : (i2 : Int) <= (j1 : Int) := by omega
      have hx1 : j1 < n := by omega
      have bj10 : (0 : Int) <= (j1 : Int) := by omega
      have bj11 : (j1 : Int) < (n : Int) := by omega
      have ba0 : (0 : Int) <= (a : Int) := by omega
      have ba1 : (a : Int) < (n : Int) := by omega
      obtain ⟨x0, x1, x2⟩ := hR1.cells (j := j1) (by have := HK.out.2; omega)
      obtain ⟨y0, y1, y2⟩ := hR1.cells (j := a) (by have := HK.out.2; omega)
      have hcm := fun W => compare_any f vw HR.out.2.2 (dk[j1]!) (dk[a]!) W
      unfold edV at hcm
      have hlt2 := cmpV_neg vw (dk[j1]!) (dk[a]!)
      obtain ⟨xe, hxe⟩ : ∃ xe, xe = dk[j1]! := ⟨_, rfl⟩
      obtain ⟨ye, hye⟩ : ∃ ye, ye = dk[a]! := ⟨_, rfl⟩
      rw [<- hxe] at x0 x1 x2 hcm hlt2
      rw [<- hye] at y0 y1 y2 hcm hlt2
      have HE : Hid _ := And.intro hxe hye
      clear hxe hye
      obtain ⟨xa, xb, xc⟩ := xe
      obtain ⟨ya, yb, yc⟩ := ye
      generalize cmpE (vw (xa, xb, xc)) (vw (ya, yb, yc)) = c at hcm hlt2
      have HC : Hid _ := hcm
      have HL : Hid _ := hlt2
      clear hcm hlt2
      simp only at x0 x1 x2 y0 y1 y2
      have H1 : Hid (RowE w0 wr g dk rest) := hR1
      clear hR1
      by_cases hc : c < 0
      ·have p6 : decide (c < 0) = true := decide_eq_true hc
       go_upto_region 5 with fail
       go_region_held3 (fun w' => ((w'.cell? ⟨g, j1 * 3, none⟩ = some (.int .i64 xa) /\ w'.cell? ⟨g, j1 * 3 + 1, none⟩ = some (.int .i64 xb) /\ w'.cell? ⟨g, j1 * 3 + 2, none⟩ = some (.int .i64 xc)) /\ (w'.cell? ⟨g, a * 3, none⟩ = some (.int .i64 ya) /\ w'.cell? ⟨g, a * 3 + 1, none⟩ = some (.int .i64 yb) /\ w'.cell? ⟨g, a * 3 + 2, none⟩ = some (.int .i64 yc))) /\ Hid (Below wr.heap.size wr w')) (first | exact rg_up6 hb3 (by assumption) | exact ⟨⟨⟨x0, x1, x2⟩, ⟨y0, y1, y2⟩⟩, ((Below.refl _ _).drew : Below wr.heap.size wr wr.drew)⟩ | go_keep)
        ((first
          | (go_at_fn 195; refine (HC.out _).mono ?_; rintro r w3 ⟨rfl, hb3⟩)
          | fail))
       have hbq : Below wr.heap.size wr w3 := rg_b (by assumption)
       clear x0 x1 x2 y0 y1 y2 hb3 HC
       rename_i hS3
       clear hS3
       have H3 : Hid (RowE w0 w3 g dk rest) := H1.out.below hbq
       clear hbq
       go_wp2_with fail
       go_meet
       case rel => exact ⟨by rw [<- HU.out, sn_stop (by have h7 : ltV vw dk[j1]! dk[a]! = true := (by rw [<- HE.out.1, <- HE.out.2]; exact HL.out.1 hc); simp [h7])], H3.out⟩
      ·have p6 : decide (c < 0) = false := decide_eq_false hc
       go_upto_region 5 with fail
       go_region_held3 (fun w' => ((w'.cell? ⟨g, j1 * 3, none⟩ = some (.int .i64 xa) /\ w'.cell? ⟨g, j1 * 3 + 1, none⟩ = some (.int .i64 xb) /\ w'.cell? ⟨g, j1 * 3 + 2, none⟩ = some (.int .i64 xc)) /\ (w'.cell? ⟨g, a * 3, none⟩ = some (.int .i64 ya) /\ w'.cell? ⟨g, a * 3 + 1, none⟩ = some (.int .i64 yb) /\ w'.cell? ⟨g, a * 3 + 2, none⟩ = some (.int .i64 yc))) /\ Hid (Below wr.heap.size wr w')) (first | exact rg_up6 hb3 (by assumption) | exact ⟨⟨⟨x0, x1, x2⟩, ⟨y0, y1, y2⟩⟩, ((Below.refl _ _).drew : Below wr.heap.size wr wr.drew)⟩ | go_keep)
        ((first
          | (go_at_fn 195; refine (HC.out _).mono ?_; rintro r w3 ⟨rfl, hb3⟩)
          | fail))
       have hbq : Below wr.heap.size wr w3 := rg_b (by assumption)
       clear x0 x1 x2 y0 y1 y2 hb3 HC
       rename_i hS3
       clear hS3
       have H3 : Hid (RowE w0 w3 g dk rest) := H1.out.below hbq
       clear hbq
       go_wp2_with fail
       go_roundg (j1 - 1)
       case measure => omega
       case rel =>
        refine ⟨j1 - 1, by first | go_num | (congr 1; omega), by omega, by omega, by omega, Nat.le_refl _, H3.out, (show Hid _ from ?_)⟩
        show _ = _
        have h8 : (fun x => !ltV vw x dk[a]!) dk[j1]! = true := by have h7 : ltV vw dk[j1]! dk[a]! = false := (by rw [<- HE.out.1, <- HE.out.2]; cases h : ltV vw (xa, xb, xc) (ya, yb, yc) with | false => rfl | true => exact absurd (HL.out.2 h) (by omega)); simp [h7]
        obtain ⟨jq, rfl⟩ : ∃ jq, j1 = jq + 1 := ⟨j1 - 1, by omega⟩
        rw [<- HU.out, sn_go hle h8]
        rfl
     ·have g1 : decide ((i2 : Int) <= (j1 : Int)) = false := decide_eq_false (by omega)
      have g2 : ¬ (i2 : Int) <= (j1 : Int) := by omega
      have H1 : Hid (RowE w0 wr g dk rest) := hR1
      clear hR1
      go_wp2_with fail
      go_region
      all_goals go_wp2_with fail
      all_goals (go_meet; case rel => exact ⟨by rw [<- HU.out, sn_far hle], H1.out.below (Below.refl _ _).drew⟩)
   case rest =>
    obtain ⟨rfl, hRk⟩ := hcut
    obtain ⟨we, rfl⟩ : ∃ we, we = wc := ⟨_, rfl⟩
    have hle2 := sn_le (fun x => !ltV vw x dk[a]!) dk i2 j
    have hfar : ¬ i2 <= j -> Sort.scanDown (fun x => !ltV vw x dk[a]!) dk i2 j = j := fun h => sn_far h
    obtain ⟨j2, hJ2⟩ : ∃ j2, j2 = Sort.scanDown (fun x => !ltV vw x dk[a]!) dk i2 j := ⟨_, rfl⟩
    rw [<- hJ2] at hle2 hfar ⊢
    have hja : a <= j2 := by
     by_cases h : i2 <= j
     ·have := hle2.2 (by omega); omega
     ·rw [hfar h]; exact haj
    have HJ2 : Hid _ := And.intro hJ2 trivial
    clear hJ2 hfar
    by_cases hgt : j2 < i2
    ·have g1 : (j2 : Int) < (i2 : Int) := by omega
     have hfin := pt_early (lt := ltV vw) (b := b) HDK.out.1 HIJ.out.1 HIJ.out.2 HI2.out.1 HJ2.out.1 hgt
     have HF : Hid _ := And.intro hfin trivial
     clear hfin
     have r0 : (0 : Int) <= (j2 : Int) := by omega
     have r1 : (j2 : Int) < (n : Int) := by omega
     have r2 : (0 : Int) <= (a : Int) := by omega
     have r3 : (a : Int) < (n : Int) := by omega
     have f0 := hRk.free (j2 * 3)
     have f1 := hRk.free (j2 * 3 + 1)
     have f2 := hRk.free (j2 * 3 + 2)
     have f3 := hRk.free (a * 3)
     have f4 := hRk.free (a * 3 + 1)
     have f5 := hRk.free (a * 3 + 2)
     obtain ⟨z0, z1, z2⟩ := hRk.cells (j := j2) (by have := HK.out.2; omega)
     obtain ⟨z3, z4, z5⟩ := hRk.cells (j := a) (by have := HK.out.2; omega)
     obtain ⟨xe2, hxe2⟩ : ∃ xe, xe = dk[j2]! := ⟨_, rfl⟩
     obtain ⟨ye2, hye2⟩ : ∃ ye, ye = dk[a]! := ⟨_, rfl⟩
     rw [<- hxe2] at z0 z1 z2
     rw [<- hye2] at z3 z4 z5
     have HE2 : Hid _ := And.intro hxe2 hye2
     clear hxe2 hye2
     obtain ⟨sa, sb, sc⟩ := xe2
     obtain ⟨ta, tb, tc⟩ := ye2
     simp only at z0 z1 z2 z3 z4 z5
     have HRk : Hid (RowE w0 we g dk rest) := hRk
     clear hRk
     by_cases hne : j2 = a
     ·subst hne
      clear z3 z4 z5 f3 f4 f5
      go_wp2_with fail
      go_region
      all_goals go_wp2_with fail
      all_goals (go_ret2; rw [HF.out.1]; exact ⟨rfl, HRk.out.swapped (i := j2) (j := j2) (x := (sa, sb, sc)) (y := (sa, sb, sc)) (by have := HK.out.2; omega) (by have := HK.out.2; omega) HE2.out.1 HE2.out.1⟩)
     ·have hne2 : ¬ a = j2 := fun e => hne e.symm
      go_wp2_with fail
      go_region
      all_goals go_wp2_with fail
      all_goals (go_ret2; rw [HF.out.1]; exact ⟨rfl, HRk.out.swapped (i := j2) (j := a) (x := (sa, sb, sc)) (y := (ta, tb, tc)) (by have := HK.out.2; omega) (by have := HK.out.2; omega) HE2.out.1 HE2.out.2⟩)
    ·have hfin := pt_late (lt := ltV vw) (b := b) HDK.out.1 HIJ.out.1 HIJ.out.2 HI2.out.1 HJ2.out.1 hgt
     have HF : Hid _ := And.intro hfin trivial
     clear hfin
     have g1 : ¬ (j2 : Int) < (i2 : Int) := by omega
     obtain ⟨j3, rfl⟩ : ∃ j3, j2 = j3 + 1 := ⟨j2 - 1, by omega⟩
     have r0 : (0 : Int) <= (i2 : Int) := by omega
     have r1 : (i2 : Int) < (n : Int) := by omega
     have r2 : (0 : Int) <= (j3 : Int) + 1 := by omega
     have r3 : (j3 : Int) + 1 < (n : Int) := by omega
     have r4 : ((j3 : Int) + 1).toNat = j3 + 1 := by omega
     have r6 : IntKind.i64.wrap ((j3 : Int) + 1 - 1) = (j3 : Int) := by rw [IntKind.wrap_i64]; omega
     have r7 : IntKind.i64.wrap (j3 : Int) = (j3 : Int) := by rw [IntKind.wrap_i64]; omega
     rw [Nat.add_sub_cancel] at HF
     have f0 := hRk.free (i2 * 3)
     have f1 := hRk.free (i2 * 3 + 1)
     have f2 := hRk.free (i2 * 3 + 2)
     have f3 := hRk.free ((j3 + 1) * 3)
     have f4 := hRk.free ((j3 + 1) * 3 + 1)
     have f5 := hRk.free ((j3 + 1) * 3 + 2)
     obtain ⟨z0, z1, z2⟩ := hRk.cells (j := i2) (by have := HK.out.2; omega)
     obtain ⟨z3, z4, z5⟩ := hRk.cells (j := (j3 + 1)) (by have := HK.out.2; omega)
     obtain ⟨xe2, hxe2⟩ : ∃ xe, xe = dk[i2]! := ⟨_, rfl⟩
     obtain ⟨ye2, hye2⟩ : ∃ ye, ye = dk[(j3 + 1)]! := ⟨_, rfl⟩
     rw [<- hxe2] at z0 z1 z2
     rw [<- hye2] at z3 z4 z5
     have HE2 : Hid _ := And.intro hxe2 hye2
     clear hxe2 hye2
     obtain ⟨sa, sb, sc⟩ := xe2
     obtain ⟨ta, tb, tc⟩ := ye2
     simp only at z0 z1 z2 z3 z4 z5
     have HRk : Hid (RowE w0 we g dk rest) := hRk
     clear hRk
     go_upto_region 10 with fail
     go_cut [99] (fun _ wx => RowE w0 wx g (Sort.swp dk i2 (j3 + 1)) rest)
     case first =>
      by_cases hne : i2 = j3 + 1
      ·subst hne
       clear z3 z4 z5 f3 f4 f5 hgt g1 hge hle2 hij
       go_region
       all_goals go_wp2_with fail
       all_goals (go_meet; case rel => exact HRk.out.swapped (i := j3 + 1) (j := j3 + 1) (x := (sa, sb, sc)) (y := (sa, sb, sc)) (by have := HK.out.2; omega) (by have := HK.out.2; omega) HE2.out.1 HE2.out.1)
      ·have hne2 : ¬ j3 + 1 = i2 := fun e => hne e.symm
       go_region
       all_goals go_wp2_with fail
       all_goals (go_meet; case rel => exact HRk.out.swapped (i := i2) (j := j3 + 1) (x := (sa, sb, sc)) (y := (ta, tb, tc)) (by have := HK.out.2; omega) (by have := HK.out.2; omega) HE2.out.1 HE2.out.2)
     case rest =>
      have HS : Hid (RowE w0 wc g (Sort.swp dk i2 (j3 + 1)) rest) := hcut
      clear hcut f0 f1 f2 f3 f4 f5 z0 z1 z2 z3 z4 z5 HE2 HRk
      generalize hdl : Sort.swp dk i2 (j3 + 1) = dl at HS HF
      have hsl : dl.size = n := by rw [<- hdl, Sort.size_swp]; exact HK.out.2
      have HSL : Hid (True /\ dl.size = n) := ⟨trivial, hsl⟩
      clear hdl hsl HK HDK HI2 HJ2
      obtain ⟨i0, hi9⟩ : ∃ i0, i0 = i2 + 1 := ⟨_, rfl⟩
      have hb9 : a + 1 <= i0 /\ i0 <= j3 + 2 /\ j3 < n /\ a <= j3 := by omega
      rw [<- hi9] at HF
      clear hgt hge hle2 hij hai hjn haj hja HIJ
      go_wp2_with fail
      go_loopg [12, 13] (n + 2) (fun q iv jv wr => ∃ (i j : Nat) (dk : Array Sy.Ed), iv = .int .i64 i /\ jv = .int .i64 j /\ a + 1 <= i /\ i <= j + 2 /\ j < n /\ a <= j /\ j + 2 - i <= q /\ dk.size = n /\ RowE w0 wr g dk rest /\ Hid (Sort.partLoop (ltV vw) a i j dk = Sort.partLoop (ltV vw) a i0 j3 dl))
      case atStart => exact ⟨i0, j3, dl, by rw [hi9]; go_num, by first | rfl | go_num, hb9.1, hb9.2.1, hb9.2.2.1, hb9.2.2.2, by omega, HSL.out.2, HS.out, rfl⟩
      case round =>
       obtain ⟨i, j, dk, rfl, rfl, hai, hij, hjn, haj, hq, hsk, hRk, HO⟩ := hrel
       have HK : Hid (True /\ dk.size = n) := ⟨trivial, hsk⟩
       have HRk : Hid (RowE w0 wr g dk rest) := hRk
       obtain ⟨wq, rfl⟩ : ∃ wq, wq = wr := ⟨_, rfl⟩
       clear hRk hsk r0 r1 r2 r3 r4 r6 r7 g1
       go_upto_block 6 with fail
       go_cut [12] (fun iv wx => iv = .int .i64 ((Sort.scanUp (fun x => ltV vw x dk[a]!) dk j i : Nat) : Int) /\ RowE w0 wx g dk rest)
       case first =>
        go_wp2_with fail
        go_loopg [12] (j + 1) (fun q iv wr => ∃ i1 : Nat, iv = .int .i64 i1 /\ i <= i1 /\ i1 <= j + 2 /\ j + 1 - i1 <= q /\ RowE w0 wr g dk rest /\ Hid (Sort.scanUp (fun x => ltV vw x dk[a]!) dk j i1 = Sort.scanUp (fun x => ltV vw x dk[a]!) dk j i))
        case atStart => exact ⟨i, rfl, Nat.le_refl _, by omega, by omega, HRk.out, rfl⟩
        case round =>
         obtain ⟨i1, rfl, hi1, hi2, hq1, hR1, HU⟩ := hrel
         by_cases hle : i1 <= j
         ·have g1 : decide ((i1 : Int) <= (j : Int)) = true := decide_eq_true (by omega)
          have g2 : (i1 : Int) <= (j : Int) := by omega
          have hx1 : i1 < n := by omega
          have bi10 : (0 : Int) <= (i1 : Int) := by omega
          have bi11 : (i1 : Int) < (n : Int) := by omega
          have ba0 : (0 : Int) <= (a : Int) := by omega
          have ba1 : (a : Int) < (n : Int) := by omega
          obtain ⟨x0, x1, x2⟩ := hR1.cells (j := i1) (by have := HK.out.2; omega)
          obtain ⟨y0, y1, y2⟩ := hR1.cells (j := a) (by have := HK.out.2; omega)
          have hcm := fun W => compare_any f vw HR.out.2.2 (dk[i1]!) (dk[a]!) W
          unfold edV at hcm
          have hlt2 := cmpV_neg vw (dk[i1]!) (dk[a]!)
          obtain ⟨xe, hxe⟩ : ∃ xe, xe = dk[i1]! := ⟨_, rfl⟩
          obtain ⟨ye, hye⟩ : ∃ ye, ye = dk[a]! := ⟨_, rfl⟩
          rw [<- hxe] at x0 x1 x2 hcm hlt2
          rw [<- hye] at y0 y1 y2 hcm hlt2
          have HE : Hid _ := And.intro hxe hye
          clear hxe hye
          obtain ⟨xa, xb, xc⟩ := xe
          obtain ⟨ya, yb, yc⟩ := ye
          generalize cmpE (vw (xa, xb, xc)) (vw (ya, yb, yc)) = c at hcm hlt2
          have HC : Hid _ := hcm
          have HL : Hid _ := hlt2
          clear hcm hlt2
          simp only at x0 x1 x2 y0 y1 y2
          have H1 : Hid (RowE w0 wr g dk rest) := hR1
          clear hR1
          by_cases hc : c < 0
          ·have p6 : decide (c < 0) = true := decide_eq_true hc
           go_upto_region 13 with fail
           go_region_held3 (fun w' => ((w'.cell? ⟨g, i1 * 3, none⟩ = some (.int .i64 xa) /\ w'.cell? ⟨g, i1 * 3 + 1, none⟩ = some (.int .i64 xb) /\ w'.cell? ⟨g, i1 * 3 + 2, none⟩ = some (.int .i64 xc)) /\ (w'.cell? ⟨g, a * 3, none⟩ = some (.int .i64 ya) /\ w'.cell? ⟨g, a * 3 + 1, none⟩ = some (.int .i64 yb) /\ w'.cell? ⟨g, a * 3 + 2, none⟩ = some (.int .i64 yc))) /\ Hid (Below wr.heap.size wr w')) (first | exact rg_up6 hb3 (by assumption) | exact ⟨⟨⟨x0, x1, x2⟩, ⟨y0, y1, y2⟩⟩, ((Below.refl _ _).drew : Below wr.heap.size wr wr.drew)⟩ | go_keep)
            ((first
              | (go_at_fn 195; refine (HC.out _).mono ?_; rintro r w3 ⟨rfl, hb3⟩)
              | fail))
           have hbq : Below wr.heap.size wr w3 := rg_b (by assumption)
           clear x0 x1 x2 y0 y1 y2 hb3 HC
           rename_i hS3
           clear hS3
           have H3 : Hid (RowE w0 w3 g dk rest) := H1.out.below hbq
           clear hbq
           go_wp2_with fail
           go_roundg (j + 1 - (i1 + 1))
           case measure => omega
           case rel =>
            refine ⟨i1 + 1, by go_num, by omega, by omega, Nat.le_refl _, H3.out, (show Hid _ from ?_)⟩
            show _ = _
            rw [<- HU.out, su_go hle (by have h7 : ltV vw dk[i1]! dk[a]! = true := (by rw [<- HE.out.1, <- HE.out.2]; exact HL.out.1 hc); simp [h7])]
          ·have p6 : decide (c < 0) = false := decide_eq_false hc
           go_upto_region 13 with fail
           go_region_held3 (fun w' => ((w'.cell? ⟨g, i1 * 3, none⟩ = some (.int .i64 xa) /\ w'.cell? ⟨g, i1 * 3 + 1, none⟩ = some (.int .i64 xb) /\ w'.cell? ⟨g, i1 * 3 + 2, none⟩ = some (.int .i64 xc)) /\ (w'.cell? ⟨g, a * 3, none⟩ = some (.int .i64 ya) /\ w'.cell? ⟨g, a * 3 + 1, none⟩ = some (.int .i64 yb) /\ w'.cell? ⟨g, a * 3 + 2, none⟩ = some (.int .i64 yc))) /\ Hid (Below wr.heap.size wr w')) (first | exact rg_up6 hb3 (by assumption) | exact ⟨⟨⟨x0, x1, x2⟩, ⟨y0, y1, y2⟩⟩, ((Below.refl _ _).drew : Below wr.heap.size wr wr.drew)⟩ | go_keep)
            ((first
              | (go_at_fn 195; refine (HC.out _).mono ?_; rintro r w3 ⟨rfl, hb3⟩)
              | fail))
           have hbq : Below wr.heap.size wr w3 := rg_b (by assumption)
           clear x0 x1 x2 y0 y1 y2 hb3 HC
           rename_i hS3
           clear hS3
           have H3 : Hid (RowE w0 w3 g dk rest) := H1.out.below hbq
           clear hbq
           go_wp2_with fail
           go_meet
           case rel => exact ⟨by rw [<- HU.out, su_stop (by have h7 : ltV vw dk[i1]! dk[a]! = false := (by rw [<- HE.out.1, <- HE.out.2]; cases h : ltV vw (xa, xb, xc) (ya, yb, yc) with | false => rfl | true => exact absurd (HL.out.2 h) (by omega)); simp [h7])], H3.out⟩
         ·have g1 : decide ((i1 : Int) <= (j : Int)) = false := decide_eq_false (by omega)
          have g2 : ¬ (i1 : Int) <= (j : Int) := by omega
          have H1 : Hid (RowE w0 wr g dk rest) := hR1
          clear hR1
          go_wp2_with fail
          go_region
          all_goals go_wp2_with fail
          all_goals (go_meet; case rel => exact ⟨by rw [<- HU.out, su_far hle], H1.out.below (Below.refl _ _).drew⟩)
       case rest =>
        obtain ⟨rfl, hRk⟩ := hcut
        obtain ⟨wd, rfl⟩ : ∃ wd, wd = wc := ⟨_, rfl⟩
        have hge := su_ge (fun x => ltV vw x dk[a]!) dk j (j + 1) i (by omega)
        obtain ⟨i2, hI2⟩ : ∃ i2, i2 = Sort.scanUp (fun x => ltV vw x dk[a]!) dk j i := ⟨_, rfl⟩
        rw [<- hI2] at hge ⊢
        have HI2 : Hid _ := And.intro hI2 trivial
        have HRk : Hid (RowE w0 wd g dk rest) := hRk
        clear hRk hI2
        go_upto_block 8 with fail
        go_cut [13] (fun iv wx => iv = .int .i64 ((Sort.scanDown (fun x => !ltV vw x dk[a]!) dk i2 j : Nat) : Int) /\ RowE w0 wx g dk rest)
        case first =>
         go_wp2_with fail
         go_loopg [13] (j + 1) (fun q jv wr => ∃ j1 : Nat, jv = .int .i64 j1 /\ j1 <= j /\ i2 <= j1 + 2 /\ j1 < n /\ j1 <= q /\ RowE w0 wr g dk rest /\ Hid (Sort.scanDown (fun x => !ltV vw x dk[a]!) dk i2 j1 = Sort.scanDown (fun x => !ltV vw x dk[a]!) dk i2 j))
         case atStart => exact ⟨j, rfl, Nat.le_refl _, by omega, by omega, by omega, HRk.out, rfl⟩
         case round =>
          obtain ⟨j1, rfl, hj1, hj2, hj3, hq1, hR1, HU⟩ := hrel
          by_cases hle : i2 <= j1
          ·have g1 : decide ((i2 : Int) <= (j1 : Int)) = true := decide_eq_true (by omega)
           have g2 : (i2 : Int) <= (j1 : Int) := by omega
           have hx1 : j1 < n := by omega
           have bj10 : (0 : Int) <= (j1 : Int) := by omega
           have bj11 : (j1 : Int) < (n : Int) := by omega
           have ba0 : (0 : Int) <= (a : Int) := by omega
           have ba1 : (a : Int) < (n : Int) := by omega
           obtain ⟨x0, x1, x2⟩ := hR1.cells (j := j1) (by have := HK.out.2; omega)
           obtain ⟨y0, y1, y2⟩ := hR1.cells (j := a) (by have := HK.out.2; omega)
           have hcm := fun W => compare_any f vw HR.out.2.2 (dk[j1]!) (dk[a]!) W
           unfold edV at hcm
           have hlt2 := cmpV_neg vw (dk[j1]!) (dk[a]!)
           obtain ⟨xe, hxe⟩ : ∃ xe, xe = dk[j1]! := ⟨_, rfl⟩
           obtain ⟨ye, hye⟩ : ∃ ye, ye = dk[a]! := ⟨_, rfl⟩
           rw [<- hxe] at x0 x1 x2 hcm hlt2
           rw [<- hye] at y0 y1 y2 hcm hlt2
           have HE : Hid _ := And.intro hxe hye
           clear hxe hye
           obtain ⟨xa, xb, xc⟩ := xe
           obtain ⟨ya, yb, yc⟩ := ye
           generalize cmpE (vw (xa, xb, xc)) (vw (ya, yb, yc)) = c at hcm hlt2
           have HC : Hid _ := hcm
           have HL : Hid _ := hlt2
           clear hcm hlt2
           simp only at x0 x1 x2 y0 y1 y2
           have H1 : Hid (RowE w0 wr g dk rest) := hR1
           clear hR1
           by_cases hc : c < 0
           ·have p6 : decide (c < 0) = true := decide_eq_true hc
            go_upto_region 15 with fail
            go_region_held3 (fun w' => ((w'.cell? ⟨g, j1 * 3, none⟩ = some (.int .i64 xa) /\ w'.cell? ⟨g, j1 * 3 + 1, none⟩ = some (.int .i64 xb) /\ w'.cell? ⟨g, j1 * 3 + 2, none⟩ = some (.int .i64 xc)) /\ (w'.cell? ⟨g, a * 3, none⟩ = some (.int .i64 ya) /\ w'.cell? ⟨g, a * 3 + 1, none⟩ = some (.int .i64 yb) /\ w'.cell? ⟨g, a * 3 + 2, none⟩ = some (.int .i64 yc))) /\ Hid (Below wr.heap.size wr w')) (first | exact rg_up6 hb3 (by assumption) | exact ⟨⟨⟨x0, x1, x2⟩, ⟨y0, y1, y2⟩⟩, ((Below.refl _ _).drew : Below wr.heap.size wr wr.drew)⟩ | go_keep)
             ((first
               | (go_at_fn 195; refine (HC.out _).mono ?_; rintro r w3 ⟨rfl, hb3⟩)
               | fail))
            have hbq : Below wr.heap.size wr w3 := rg_b (by assumption)
            clear x0 x1 x2 y0 y1 y2 hb3 HC
            rename_i hS3
            clear hS3
            have H3 : Hid (RowE w0 w3 g dk rest) := H1.out.below hbq
            clear hbq
            go_wp2_with fail
            go_meet
            case rel => exact ⟨by rw [<- HU.out, sn_stop (by have h7 : ltV vw dk[j1]! dk[a]! = true := (by rw [<- HE.out.1, <- HE.out.2]; exact HL.out.1 hc); simp [h7])], H3.out⟩
           ·have p6 : decide (c < 0) = false := decide_eq_false hc
            go_upto_region 15 with fail
            go_region_held3 (fun w' => ((w'.cell? ⟨g, j1 * 3, none⟩ = some (.int .i64 xa) /\ w'.cell? ⟨g, j1 * 3 + 1, none⟩ = some (.int .i64 xb) /\ w'.cell? ⟨g, j1 * 3 + 2, none⟩ = some (.int .i64 xc)) /\ (w'.cell? ⟨g, a * 3, none⟩ = some (.int .i64 ya) /\ w'.cell? ⟨g, a * 3 + 1, none⟩ = some (.int .i64 yb) /\ w'.cell? ⟨g, a * 3 + 2, none⟩ = some (.int .i64 yc))) /\ Hid (Below wr.heap.size wr w')) (first | exact rg_up6 hb3 (by assumption) | exact ⟨⟨⟨x0, x1, x2⟩, ⟨y0, y1, y2⟩⟩, ((Below.refl _ _).drew : Below wr.heap.size wr wr.drew)⟩ | go_keep)
             ((first
               | (go_at_fn 195; refine (HC.out _).mono ?_; rintro r w3 ⟨rfl, hb3⟩)
               | fail))
            have hbq : Below wr.heap.size wr w3 := rg_b (by assumption)
            clear x0 x1 x2 y0 y1 y2 hb3 HC
            rename_i hS3
            clear hS3
            have H3 : Hid (RowE w0 w3 g dk rest) := H1.out.below hbq
            clear hbq
            go_wp2_with fail
            go_roundg (j1 - 1)
            case measure => omega
            case rel =>
             refine ⟨j1 - 1, by first | go_num | (congr 1; omega), by omega, by omega, by omega, Nat.le_refl _, H3.out, (show Hid _ from ?_)⟩
             show _ = _
             have h8 : (fun x => !ltV vw x dk[a]!) dk[j1]! = true := by have h7 : ltV vw dk[j1]! dk[a]! = false := (by rw [<- HE.out.1, <- HE.out.2]; cases h : ltV vw (xa, xb, xc) (ya, yb, yc) with | false => rfl | true => exact absurd (HL.out.2 h) (by omega)); simp [h7]
             obtain ⟨jq, rfl⟩ : ∃ jq, j1 = jq + 1 := ⟨j1 - 1, by omega⟩
             rw [<- HU.out, sn_go hle h8]
             rfl
          ·have g1 : decide ((i2 : Int) <= (j1 : Int)) = false := decide_eq_false (by omega)
           have g2 : ¬ (i2 : Int) <= (j1 : Int) := by omega
           have H1 : Hid (RowE w0 wr g dk rest) := hR1
           clear hR1
           go_wp2_with fail
           go_region
           all_goals go_wp2_with fail
           all_goals (go_meet; case rel => exact ⟨by rw [<- HU.out, sn_far hle], H1.out.below (Below.refl _ _).drew⟩)
        case rest =>
         obtain ⟨rfl, hRk⟩ := hcut
         obtain ⟨we, rfl⟩ : ∃ we, we = wc := ⟨_, rfl⟩
         have hle2 := sn_le (fun x => !ltV vw x dk[a]!) dk i2 j
         have hfar : ¬ i2 <= j -> Sort.scanDown (fun x => !ltV vw x dk[a]!) dk i2 j = j := fun h => sn_far h
         obtain ⟨j2, hJ2⟩ : ∃ j2, j2 = Sort.scanDown (fun x => !ltV vw x dk[a]!) dk i2 j := ⟨_, rfl⟩
         rw [<- hJ2] at hle2 hfar ⊢
         have hja : a <= j2 := by
          by_cases h : i2 <= j
          ·have := hle2.2 (by omega); omega
          ·rw [hfar h]; exact haj
         have HJ2 : Hid _ := And.intro hJ2 trivial
         clear hJ2 hfar
         by_cases hgt : j2 < i2
         ·have g1 : (j2 : Int) < (i2 : Int) := by omega
          have hf := pl_break (lt := ltV vw) HI2.out.1 HJ2.out.1 hgt
          rw [HO.out] at hf
          rw [hf] at HF
          clear hf
          have r0 : (0 : Int) <= (j2 : Int) := by omega
          have r1 : (j2 : Int) < (n : Int) := by omega
          have r2 : (0 : Int) <= (a : Int) := by omega
          have r3 : (a : Int) < (n : Int) := by omega
          have f0 := hRk.free (j2 * 3)
          have f1 := hRk.free (j2 * 3 + 1)
          have f2 := hRk.free (j2 * 3 + 2)
          have f3 := hRk.free (a * 3)
          have f4 := hRk.free (a * 3 + 1)
          have f5 := hRk.free (a * 3 + 2)
          obtain ⟨z0, z1, z2⟩ := hRk.cells (j := j2) (by have := HK.out.2; omega)
          obtain ⟨z3, z4, z5⟩ := hRk.cells (j := a) (by have := HK.out.2; omega)
          obtain ⟨xe2, hxe2⟩ : ∃ xe, xe = dk[j2]! := ⟨_, rfl⟩
          obtain ⟨ye2, hye2⟩ : ∃ ye, ye = dk[a]! := ⟨_, rfl⟩
          rw [<- hxe2] at z0 z1 z2
          rw [<- hye2] at z3 z4 z5
          have HE2 : Hid _ := And.intro hxe2 hye2
          clear hxe2 hye2
          obtain ⟨sa, sb, sc⟩ := xe2
          obtain ⟨ta, tb, tc⟩ := ye2
          simp only at z0 z1 z2 z3 z4 z5
          have HRk : Hid (RowE w0 we g dk rest) := hRk
          clear hRk
          by_cases hne : j2 = a
          ·subst hne
           clear z3 z4 z5 f3 f4 f5
           go_wp2_with fail
           go_region
           all_goals go_wp2_with fail
           all_goals (go_ret2; rw [HF.out.1]; exact ⟨rfl, HRk.out.swapped (i := j2) (j := j2) (x := (sa, sb, sc)) (y := (sa, sb, sc)) (by have := HK.out.2; omega) (by have := HK.out.2; omega) HE2.out.1 HE2.out.1⟩)
          ·have hne2 : ¬ a = j2 := fun e => hne e.symm
           go_wp2_with fail
           go_region
           all_goals go_wp2_with fail
           all_goals (go_ret2; rw [HF.out.1]; exact ⟨rfl, HRk.out.swapped (i := j2) (j := a) (x := (sa, sb, sc)) (y := (ta, tb, tc)) (by have := HK.out.2; omega) (by have := HK.out.2; omega) HE2.out.1 HE2.out.2⟩)
         ·have hnx := pl_next (lt := ltV vw) HI2.out.1 HJ2.out.1 hgt hge.1 hle2.1
          have g1 : ¬ (j2 : Int) < (i2 : Int) := by omega
          obtain ⟨j4, rfl⟩ : ∃ j4, j2 = j4 + 1 := ⟨j2 - 1, by omega⟩
          have r0 : (0 : Int) <= (i2 : Int) := by omega
          have r1 : (i2 : Int) < (n : Int) := by omega
          have r2 : (0 : Int) <= (j4 : Int) + 1 := by omega
          have r3 : (j4 : Int) + 1 < (n : Int) := by omega
          have r4 : ((j4 : Int) + 1).toNat = j4 + 1 := by omega
          have r6 : IntKind.i64.wrap ((j4 : Int) + 1 - 1) = (j4 : Int) := by rw [IntKind.wrap_i64]; omega
          have r7 : IntKind.i64.wrap (j4 : Int) = (j4 : Int) := by rw [IntKind.wrap_i64]; omega
          rw [Nat.add_sub_cancel] at hnx
          have HNX : Hid _ := And.intro hnx trivial
          clear hnx
          have f0 := hRk.free (i2 * 3)
          have f1 := hRk.free (i2 * 3 + 1)
          have f2 := hRk.free (i2 * 3 + 2)
          have f3 := hRk.free ((j4 + 1) * 3)
          have f4 := hRk.free ((j4 + 1) * 3 + 1)
          have f5 := hRk.free ((j4 + 1) * 3 + 2)
          obtain ⟨z0, z1, z2⟩ := hRk.cells (j := i2) (by have := HK.out.2; omega)
          obtain ⟨z3, z4, z5⟩ := hRk.cells (j := (j4 + 1)) (by have := HK.out.2; omega)
          obtain ⟨xe2, hxe2⟩ : ∃ xe, xe = dk[i2]! := ⟨_, rfl⟩
          obtain ⟨ye2, hye2⟩ : ∃ ye, ye = dk[(j4 + 1)]! := ⟨_, rfl⟩
          rw [<- hxe2] at z0 z1 z2
          rw [<- hye2] at z3 z4 z5
          have HE2 : Hid _ := And.intro hxe2 hye2
          clear hxe2 hye2
          obtain ⟨sa, sb, sc⟩ := xe2
          obtain ⟨ta, tb, tc⟩ := ye2
          simp only at z0 z1 z2 z3 z4 z5
          have HRk : Hid (RowE w0 we g dk rest) := hRk
          clear hRk
          by_cases hne : i2 = j4 + 1
          ·subst hne
           have HB : Hid _ := And.intro hge (And.intro hle2 (And.intro hq hij))
           clear z3 z4 z5 f3 f4 f5 hgt g1 hge hle2 hq hij
           have g1 : ¬ (j4 : Int) + 1 < (j4 : Int) + 1 := by omega
           go_wp2_with fail
           go_region
           all_goals go_wp2_with fail
           go_roundg (j4 + 2 - (j4 + 1 + 1))
           case measure => obtain ⟨h1, h2, h3, h4⟩ := HB.out; omega
           case rel =>
            obtain ⟨h1, h2, h3, h4⟩ := HB.out
            refine ⟨j4 + 1 + 1, j4, Sort.swp dk (j4 + 1) (j4 + 1), by go_num, by go_num, by omega, by omega, by omega, by omega, Nat.le_refl _, by rw [Sort.size_swp]; exact HK.out.2, HRk.out.swapped (i := j4 + 1) (j := j4 + 1) (x := (sa, sb, sc)) (y := (sa, sb, sc)) (by have := HK.out.2; omega) (by have := HK.out.2; omega) HE2.out.1 HE2.out.1, (show Hid _ from ?_)⟩
            show _ = _
            rw [<- HO.out, HNX.out.1]
          ·have hne2 : ¬ j4 + 1 = i2 := fun e => hne e.symm
           go_wp2_with fail
           go_region
           all_goals go_wp2_with fail
           go_roundg (j4 + 2 - (i2 + 1))
           case measure => omega
           case rel =>
            refine ⟨i2 + 1, j4, Sort.swp dk i2 (j4 + 1), by go_num, by go_num, by omega, by omega, by omega, by omega, Nat.le_refl _, by rw [Sort.size_swp]; exact HK.out.2, HRk.out.swapped (i := i2) (j := j4 + 1) (x := (sa, sb, sc)) (y := (ta, tb, tc)) (by have := HK.out.2; omega) (by have := HK.out.2; omega) HE2.out.1 HE2.out.2, (show Hid _ from ?_)⟩
            show _ = _
            rw [<- HO.out, HNX.out.1]
end
section
open Go.RowKit Go.Maps
attribute [local go_sem ↓] Go.wp_at_zero Go.wp_at_succ
theorem ss_go {lt : Sy.Ed -> Sy.Ed -> Bool} {d : Array Sy.Ed} {b i : Nat} (h : i + 1 < b) (hp : lt d[i + 1]! d[i]! = false) : Sort.scanSorted lt d b (i + 1) = Sort.scanSorted lt d b (i + 1 + 1) := by rw [Sort.scanSorted, if_pos (by simp [h, hp])]
theorem ss_far {lt : Sy.Ed -> Sy.Ed -> Bool} {d : Array Sy.Ed} {b i : Nat} (h : ¬ i < b) : Sort.scanSorted lt d b i = i := by rw [Sort.scanSorted, if_neg (by simp; omega)]
theorem ss_stop {lt : Sy.Ed -> Sy.Ed -> Bool} {d : Array Sy.Ed} {b i : Nat} (hp : lt d[i + 1]! d[i]! = true) : Sort.scanSorted lt d b (i + 1) = i + 1 := by rw [Sort.scanSorted, if_neg (by simp [hp])]
theorem ss_ge (lt : Sy.Ed -> Sy.Ed -> Bool) (d : Array Sy.Ed) (b : Nat) : ∀ (q i : Nat), b - i <= q -> 1 <= i -> i <= b -> i <= Sort.scanSorted lt d b i /\ Sort.scanSorted lt d b i <= b := by
 intro q
 induction q with
 | zero => intro i h h1 h2; rw [ss_far (by omega)]; omega
 | succ q ih =>
   intro i h h1 h2
   by_cases h3 : i < b
   ·obtain ⟨i, rfl⟩ : ∃ x, i = x + 1 := ⟨i - 1, by omega⟩
    cases hp : lt d[i + 1]! d[i]! with
    | false => rw [ss_go h3 hp]; have := ih (i + 1 + 1) (by omega) (by omega) (by omega); omega
    | true => rw [ss_stop hp]; omega
   ·rw [ss_far h3]; omega
theorem sd_go {lt : Sy.Ed -> Sy.Ed -> Bool} {d : Array Sy.Ed} {j : Nat} (hp : lt d[j + 1]! d[j]! = true) : Sort.shiftDown lt (j + 1) d = Sort.shiftDown lt j (Sort.swp d (j + 1) j) := by rw [Sort.shiftDown, if_neg (by simp [hp])]
theorem sd_stop {lt : Sy.Ed -> Sy.Ed -> Bool} {d : Array Sy.Ed} {j : Nat} (hp : lt d[j + 1]! d[j]! = false) : Sort.shiftDown lt (j + 1) d = d := by rw [Sort.shiftDown, if_pos (by simp [hp])]
theorem sp_go {lt : Sy.Ed -> Sy.Ed -> Bool} {d : Array Sy.Ed} {b j : Nat} (h : j + 1 < b) (hp : lt d[j + 1]! d[j]! = true) : Sort.shiftUp lt b (j + 1) d = Sort.shiftUp lt b (j + 1 + 1) (Sort.swp d (j + 1) j) := by rw [Sort.shiftUp, if_pos h, if_neg (by simp [hp])]; rfl
theorem sp_stop {lt : Sy.Ed -> Sy.Ed -> Bool} {d : Array Sy.Ed} {b j : Nat} (h : j + 1 < b) (hp : lt d[j + 1]! d[j]! = false) : Sort.shiftUp lt b (j + 1) d = d := by rw [Sort.shiftUp, if_pos h, if_pos (by simp [hp])]
theorem sp_far {lt : Sy.Ed -> Sy.Ed -> Bool} {d : Array Sy.Ed} {b j : Nat} (h : ¬ j < b) : Sort.shiftUp lt b j d = d := by rw [Sort.shiftUp, if_neg h]
theorem size_sd (lt : Sy.Ed -> Sy.Ed -> Bool) : ∀ (j : Nat) (d : Array Sy.Ed), (Sort.shiftDown lt j d).size = d.size := by
 intro j
 induction j with
 | zero => intro d; rfl
 | succ j ih =>
   intro d
   cases hp : lt d[j + 1]! d[j]! with
   | false => rw [sd_stop hp]
   | true => rw [sd_go hp, ih, Sort.size_swp]
theorem size_sp (lt : Sy.Ed -> Sy.Ed -> Bool) (b : Nat) : ∀ (q j : Nat) (d : Array Sy.Ed), b - j <= q -> 1 <= j -> (Sort.shiftUp lt b j d).size = d.size := by
 intro q
 induction q with
 | zero => intro j d h h1; rw [sp_far (by omega)]
 | succ q ih =>
   intro j d h h1
   by_cases h3 : j < b
   ·obtain ⟨j, rfl⟩ : ∃ x, j = x + 1 := ⟨j - 1, by omega⟩
    cases hp : lt d[j + 1]! d[j]! with
    | false => rw [sp_stop h3 hp]
    | true => rw [sp_go h3 hp, ih _ _ (by omega) (by omega), Sort.size_swp]
   ·rw [sp_far h3]
theorem pi_sorted {lt : Sy.Ed -> Sy.Ed -> Bool} {a b k i i2 : Nat} {d : Array Sy.Ed} (hk : k < 5) (hi : i2 = Sort.scanSorted lt d b i) (h : i2 = b) : Sort.partialIns lt a b (5 - k) i d = (d, true) := by
 rw [show 5 - k = (5 - (k + 1)) + 1 by omega, Sort.partialIns]
 simp only [<- hi]
 rw [if_pos h]
theorem pi_short {lt : Sy.Ed -> Sy.Ed -> Bool} {a b k i i2 : Nat} {d : Array Sy.Ed} (hk : k < 5) (hi : i2 = Sort.scanSorted lt d b i) (h : ¬ i2 = b) (h5 : b - a < 50) : Sort.partialIns lt a b (5 - k) i d = (d, false) := by
 rw [show 5 - k = (5 - (k + 1)) + 1 by omega, Sort.partialIns]
 simp only [<- hi]
 rw [if_neg h, if_pos h5]
theorem pi_next {lt : Sy.Ed -> Sy.Ed -> Bool} {a b k i ip : Nat} {d d1 d2 d3 : Array Sy.Ed} (hk : k < 5) (hi : ip + 1 = Sort.scanSorted lt d b i) (h : ¬ ip + 1 = b) (h5 : ¬ b - a < 50) (e1 : d1 = Sort.swp d (ip + 1) ip) (e2 : d2 = if ip + 1 - a >= 2 then Sort.shiftDown lt ip d1 else d1) (e3 : d3 = if b - (ip + 1) >= 2 then Sort.shiftUp lt b (ip + 1 + 1) d2 else d2) : Sort.partialIns lt a b (5 - k) i d = Sort.partialIns lt a b (5 - (k + 1)) (ip + 1) d3 := by
 rw [show 5 - k = (5 - (k + 1)) + 1 by omega, Sort.partialIns]
 simp only [<- hi, Nat.add_sub_cancel]
 rw [if_neg h, if_neg h5, <- e1, <- e2, <- e3]
set_option maxRecDepth 100000 in
set_option maxHeartbeats 32000000 in
theorem pis_any (f : Nat) (vw : Sy.Ed -> Sy.Ed) (hV : ViewAt f vw) (g cap a b : Nat) (d : Array Sy.Ed) (rest : List Value) (w0 w : World) (hR : RowE w0 w g d rest) (hab : a < b) (hb : b <= d.size) (hsz : d.size <= 1000000) :
 Calls Tryz.prog 227 #[.slice (some ⟨g, 0, none⟩) d.size cap, .int .i64 a, .int .i64 b, cmpV f] w fun r w' => r = .returned (.bool (Sort.partialInsertionSort (ltV vw) d a b).2) /\ RowE w0 w' g (Sort.partialInsertionSort (ltV vw) d a b).1 rest := by
 obtain ⟨n, hn⟩ : ∃ n, n = d.size := ⟨_, rfl⟩
 have HR : Hid _ := And.intro hR (And.intro hn hV)
 rw [<- hn] at hb hsz ⊢
 unfold cmpV Sort.partialInsertionSort
 have he := enter_cmp
 clear hR hn hV
 go_enter Tryz.func227, Tryz.ntmps227
 go_wp2_with fail
 go_loopg [9, 10] 5 (fun q iv kv wr => ∃ (i k : Nat) (dk : Array Sy.Ed), iv = .int .i64 i /\ kv = .int .i64 k /\ a + 1 <= i /\ i <= b /\ k <= 5 /\ 5 - k <= q /\ dk.size = n /\ RowE w0 wr g dk rest /\ Hid (Sort.partialIns (ltV vw) a b (5 - k) i dk = Sort.partialIns (ltV vw) a b 5 (a + 1) d))
 case atStart => exact ⟨a + 1, 0, d, by go_num, by first | rfl | go_num, Nat.le_refl _, by omega, by omega, by omega, HR.out.2.1.symm, HR.out.1, rfl⟩
 case round =>
  obtain ⟨i, k, dk, rfl, rfl, hai, hib, hk5, hq, hsk, hRk, HO⟩ := hrel
  have HRk : Hid (RowE w0 wr g dk rest /\ dk.size = n) := ⟨hRk, hsk⟩
  clear hRk hsk
  by_cases hk : k < 5
  ·have gk : (k : Int) < 5 := by omega
   obtain ⟨wq, rfl⟩ : ∃ wq, wq = wr := ⟨_, rfl⟩
   go_upto_block 2 with fail
   go_cut [9] (fun iv wx => iv = .int .i64 ((Sort.scanSorted (ltV vw) dk b i : Nat) : Int) /\ RowE w0 wx g dk rest)
   case first =>
    go_wp2_with fail
    go_loopg [9] b (fun q iv wr => ∃ i1 : Nat, iv = .int .i64 i1 /\ i <= i1 /\ i1 <= b /\ b - i1 <= q /\ RowE w0 wr g dk rest /\ Hid (Sort.scanSorted (ltV vw) dk b i1 = Sort.scanSorted (ltV vw) dk b i))
    case atStart => exact ⟨i, rfl, Nat.le_refl _, hib, by omega, HRk.out.1, rfl⟩
    case round =>
     obtain ⟨i1, rfl, hi1, hi2, hq1, hR1, HU⟩ := hrel
     by_cases hlt : i1 < b
     ·obtain ⟨jp, rfl⟩ : ∃ jp, i1 = jp + 1 := ⟨i1 - 1, by omega⟩
      have g1 : decide ((jp : Int) + 1 < (b : Int)) = true := decide_eq_true (by omega)
      have g2 : (jp : Int) + 1 < (b : Int) := by omega
      have hs1 := HRk.out.2
      have p0 : (0 : Int) <= (jp : Int) + 1 := by omega
      have p1 : (jp : Int) + 1 < (n : Int) := by omega
      have p2 : (0 : Int) <= (jp : Int) := by omega
      have p3 : (jp : Int) < (n : Int) := by omega
      have p5 : ((jp : Int) + 1).toNat = jp + 1 := by omega
      have p7 : IntKind.i64.wrap (jp : Int) = (jp : Int) := by rw [IntKind.wrap_i64]; omega
      have p8 : IntKind.i64.wrap ((jp : Int) + 1 - 1) = (jp : Int) := by rw [IntKind.wrap_i64]; omega
      obtain ⟨x0, x1, x2⟩ := hR1.cells (j := (jp + 1)) (by omega)
      obtain ⟨y0, y1, y2⟩ := hR1.cells (j := jp) (by omega)
      have hcm := fun W => compare_any f vw HR.out.2.2 (dk[(jp + 1)]!) (dk[jp]!) W
      unfold edV at hcm
      have hlt2 := cmpV_neg vw (dk[(jp + 1)]!) (dk[jp]!)
      obtain ⟨xe, hxe⟩ : ∃ xe, xe = dk[(jp + 1)]! := ⟨_, rfl⟩
      obtain ⟨ye, hye⟩ : ∃ ye, ye = dk[jp]! := ⟨_, rfl⟩
      rw [<- hxe] at x0 x1 x2 hcm hlt2
      rw [<- hye] at y0 y1 y2 hcm hlt2
      have HE : Hid _ := And.intro hxe hye
      clear hxe hye
      obtain ⟨xa, xb, xc⟩ := xe
      obtain ⟨ya, yb, yc⟩ := ye
      generalize cmpE (vw (xa, xb, xc)) (vw (ya, yb, yc)) = c at hcm hlt2
      have HC : Hid _ := hcm
      have HL : Hid _ := hlt2
      clear hcm hlt2
      simp only at x0 x1 x2 y0 y1 y2
      have H1 : Hid (RowE w0 wr g dk rest /\ dk.size = n) := ⟨hR1, hs1⟩
      clear hR1 hs1
      by_cases hc : c < 0
      ·have p6 : decide (c < 0) = true := decide_eq_true hc
       go_upto_region 5 with fail
       go_region_held3 (fun w' => ((w'.cell? ⟨g, (jp + 1) * 3, none⟩ = some (.int .i64 xa) /\ w'.cell? ⟨g, (jp + 1) * 3 + 1, none⟩ = some (.int .i64 xb) /\ w'.cell? ⟨g, (jp + 1) * 3 + 2, none⟩ = some (.int .i64 xc)) /\ (w'.cell? ⟨g, jp * 3, none⟩ = some (.int .i64 ya) /\ w'.cell? ⟨g, jp * 3 + 1, none⟩ = some (.int .i64 yb) /\ w'.cell? ⟨g, jp * 3 + 2, none⟩ = some (.int .i64 yc))) /\ Hid (Below wr.heap.size wr w')) (first | exact rg_up6 hb3 (by assumption) | exact ⟨⟨⟨x0, x1, x2⟩, ⟨y0, y1, y2⟩⟩, ((Below.refl _ _).drew : Below wr.heap.size wr wr.drew)⟩ | go_keep)
        ((first
          | (go_at_fn 195; refine (HC.out _).mono ?_; rintro r w3 ⟨rfl, hb3⟩)
          | fail))
       have hbq : Below wr.heap.size wr w3 := rg_b (by assumption)
       clear x0 x1 x2 y0 y1 y2 hb3 HC
       rename_i hS3
       clear hS3
       have H3 : Hid (RowE w0 w3 g dk rest /\ dk.size = n) := ⟨H1.out.1.below hbq, H1.out.2⟩
       clear hbq
       go_wp2_with fail
       go_meet
       case rel => exact ⟨by have h7 : ltV vw dk[jp + 1]! dk[jp]! = true := (by rw [<- HE.out.1, <- HE.out.2]; exact HL.out.1 hc); rw [<- HU.out, ss_stop h7]; go_num, H3.out.1⟩
      ·have p6 : decide (c < 0) = false := decide_eq_false hc
       go_upto_region 5 with fail
       go_region_held3 (fun w' => ((w'.cell? ⟨g, (jp + 1) * 3, none⟩ = some (.int .i64 xa) /\ w'.cell? ⟨g, (jp + 1) * 3 + 1, none⟩ = some (.int .i64 xb) /\ w'.cell? ⟨g, (jp + 1) * 3 + 2, none⟩ = some (.int .i64 xc)) /\ (w'.cell? ⟨g, jp * 3, none⟩ = some (.int .i64 ya) /\ w'.cell? ⟨g, jp * 3 + 1, none⟩ = some (.int .i64 yb) /\ w'.cell? ⟨g, jp * 3 + 2, none⟩ = some (.int .i64 yc))) /\ Hid (Below wr.heap.size wr w')) (first | exact rg_up6 hb3 (by assumption) | exact ⟨⟨⟨x0, x1, x2⟩, ⟨y0, y1, y2⟩⟩, ((Below.refl _ _).drew : Below wr.heap.size wr wr.drew)⟩ | go_keep)
        ((first
          | (go_at_fn 195; refine (HC.out _).mono ?_; rintro r w3 ⟨rfl, hb3⟩)
          | fail))
       have hbq : Below wr.heap.size wr w3 := rg_b (by assumption)
       clear x0 x1 x2 y0 y1 y2 hb3 HC
       rename_i hS3
       clear hS3
       have H3 : Hid (RowE w0 w3 g dk rest /\ dk.size = n) := ⟨H1.out.1.below hbq, H1.out.2⟩
       clear hbq
       go_wp2_with fail
       go_roundg (b - (jp + 1 + 1))
       case measure => omega
       case rel =>
        refine ⟨jp + 1 + 1, by go_num, by omega, by omega, Nat.le_refl _, H3.out.1, (show Hid _ from ?_)⟩
        show _ = _
        have h7 : ltV vw dk[jp + 1]! dk[jp]! = false := (by rw [<- HE.out.1, <- HE.out.2]; cases h : ltV vw (xa, xb, xc) (ya, yb, yc) with | false => rfl | true => exact absurd (HL.out.2 h) (by omega))
        rw [<- HU.out, ss_go hlt h7]
     ·have g1 : decide ((i1 : Int) < (b : Int)) = false := decide_eq_false (by omega)
      have g2 : ¬ (i1 : Int) < (b : Int) := by omega
      have H1 : Hid (RowE w0 wr g dk rest) := hR1
      clear hR1
      go_wp2_with fail
      go_region
      all_goals go_wp2_with fail
      all_goals (go_meet; case rel => exact ⟨by rw [<- HU.out, ss_far hlt], H1.out.below (Below.refl _ _).drew⟩)
   case rest =>
    obtain ⟨rfl, hRk⟩ := hcut
    obtain ⟨wd, rfl⟩ : ∃ wd, wd = wc := ⟨_, rfl⟩
    have hge := ss_ge (ltV vw) dk b b i (by omega) (by omega) hib
    obtain ⟨i2, hI2⟩ : ∃ i2, i2 = Sort.scanSorted (ltV vw) dk b i := ⟨_, rfl⟩
    rw [<- hI2] at hge ⊢
    have HI2 : Hid _ := And.intro hI2 HRk.out.2
    clear hI2 HRk
    have HRk : Hid (RowE w0 wd g dk rest) := hRk
    clear hRk
    by_cases h1 : i2 = b
    ·have g1 : ((i2 : Int) == (b : Int)) = true := by simp; omega
     have hf := pi_sorted (lt := ltV vw) (a := a) hk HI2.out.1 h1
     rw [HO.out] at hf
     have HF : Hid _ := And.intro hf trivial
     clear hf h1
     go_wp2_with fail
     go_ret
     rw [HF.out.1]
     exact ⟨rfl, HRk.out⟩
    ·have g1 : ((i2 : Int) == (b : Int)) = false := by simp; omega
     by_cases h5 : b - a < 50
     ·have g5 : (b : Int) - (a : Int) < 50 := by omega
      have hf := pi_short (lt := ltV vw) hk HI2.out.1 h1 h5
      rw [HO.out] at hf
      have HF : Hid _ := And.intro hf trivial
      clear hf h1
      go_wp2_with fail
      go_ret
      rw [HF.out.1]
      exact ⟨rfl, HRk.out⟩
     ·have g5 : ¬ (b : Int) - (a : Int) < 50 := by omega
      obtain ⟨jp, rfl⟩ : ∃ jp, i2 = jp + 1 := ⟨i2 - 1, by omega⟩
      obtain ⟨d1, e1⟩ : ∃ d1, d1 = Sort.swp dk (jp + 1) jp := ⟨_, rfl⟩
      obtain ⟨d2, e2⟩ : ∃ d2, d2 = if jp + 1 - a >= 2 then Sort.shiftDown (ltV vw) jp d1 else d1 := ⟨_, rfl⟩
      obtain ⟨d3, e3⟩ : ∃ d3, d3 = if b - (jp + 1) >= 2 then Sort.shiftUp (ltV vw) b (jp + 1 + 1) d2 else d2 := ⟨_, rfl⟩
      have hnx := pi_next (lt := ltV vw) hk HI2.out.1 h1 h5 e1 e2 e3
      have hz1 : d1.size = n := by rw [e1, Sort.size_swp]; exact HI2.out.2
      have hz2 : d2.size = n := by rw [e2]; split <;> first | (rw [size_sd]; exact hz1) | exact hz1
      have hz3 : d3.size = n := by rw [e3]; split <;> first | (rw [size_sp (ltV vw) b b _ _ (by omega) (by omega)]; exact hz2) | exact hz2
      have HNX : Hid _ := And.intro hnx (And.intro e1 (And.intro e2 e3))
      have HZ : Hid (d1.size = n /\ d2.size = n /\ d3.size = n) := ⟨hz1, hz2, hz3⟩
      clear hnx e1 e2 e3 hz1 hz2 hz3
      have p0 : (0 : Int) <= (jp : Int) + 1 := by omega
      have p1 : (jp : Int) + 1 < (n : Int) := by omega
      have p2 : (0 : Int) <= (jp : Int) := by omega
      have p3 : (jp : Int) < (n : Int) := by omega
      have p5 : ((jp : Int) + 1).toNat = jp + 1 := by omega
      have p7 : IntKind.i64.wrap (jp : Int) = (jp : Int) := by rw [IntKind.wrap_i64]; omega
      have p8 : IntKind.i64.wrap ((jp : Int) + 1 - 1) = (jp : Int) := by rw [IntKind.wrap_i64]; omega
      have hR4 := HRk.out
      have hs4 := HI2.out.2
      have f0 := hR4.free ((jp + 1) * 3)
      have f1 := hR4.free ((jp + 1) * 3 + 1)
      have f2 := hR4.free ((jp + 1) * 3 + 2)
      have f3 := hR4.free (jp * 3)
      have f4 := hR4.free (jp * 3 + 1)
      have f5 := hR4.free (jp * 3 + 2)
      obtain ⟨z0, z1, z2⟩ := hR4.cells (j := (jp + 1)) (by omega)
      obtain ⟨z3, z4, z5⟩ := hR4.cells (j := jp) (by omega)
      obtain ⟨xe2, hxe2⟩ : ∃ xe, xe = dk[(jp + 1)]! := ⟨_, rfl⟩
      obtain ⟨ye2, hye2⟩ : ∃ ye, ye = dk[jp]! := ⟨_, rfl⟩
      rw [<- hxe2] at z0 z1 z2
      rw [<- hye2] at z3 z4 z5
      have HE2 : Hid _ := And.intro hxe2 hye2
      clear hxe2 hye2
      obtain ⟨sa, sb, sc⟩ := xe2
      obtain ⟨ta, tb, tc⟩ := ye2
      simp only at z0 z1 z2 z3 z4 z5
      clear hR4 hs4
      have hne : ¬ jp + 1 = jp := by omega
      have hne2 : ¬ jp = jp + 1 := by omega
      go_upto_region 11 with fail
      go_cut [54] (fun _ wx => RowE w0 wx g d1 rest)
      case first =>
       go_region
       all_goals go_wp2_with fail
       all_goals (go_meet; case rel => rw [HNX.out.2.1]; exact HRk.out.swapped (i := jp + 1) (j := jp) (x := (sa, sb, sc)) (y := (ta, tb, tc)) (by have := HI2.out.2; omega) (by have := HI2.out.2; omega) HE2.out.1 HE2.out.2)
      case rest =>
       have HS : Hid (RowE w0 wc g d1 rest) := hcut
       clear hcut f0 f1 f2 f3 f4 f5 z0 z1 z2 z3 z4 z5 HE2 HRk
       obtain ⟨we, rfl⟩ : ∃ we, we = wc := ⟨_, rfl⟩
       go_upto_if 65 with fail
       go_cut [11] (fun _ wx => RowE w0 wx g d2 rest)
       case first =>
        obtain ⟨ip, hip⟩ : ∃ ip, ip = jp := ⟨_, rfl⟩
        by_cases h2 : 2 <= jp + 1 - a
        ·have g6 : (2 : Int) <= (jp : Int) + 1 - (a : Int) := by omega
         have h9 : d2 = Sort.shiftDown (ltV vw) jp d1 := by rw [HNX.out.2.2.1, if_pos h2]
         have H9 : Hid _ := h9
         clear h9
         go_wp2_with fail
         go_loopg [11] jp (fun q jv wr => ∃ (j : Nat) (dj : Array Sy.Ed), jv = .int .i64 j /\ j <= jp /\ j <= q /\ dj.size = n /\ RowE w0 wr g dj rest /\ Hid (Sort.shiftDown (ltV vw) j dj = Sort.shiftDown (ltV vw) jp d1))
         case atStart => exact ⟨jp, d1, by first | rfl | go_num, Nat.le_refl _, Nat.le_refl _, HZ.out.1, HS.out, rfl⟩
         case round =>
          obtain ⟨j, dj, rfl, hj1, hj2, hs1, hR1, HU⟩ := hrel
          have HP : Hid _ := And.intro hge hj1
          by_cases hj0 : 1 <= j
          ·obtain ⟨jq, rfl⟩ : ∃ jq, j = jq + 1 := ⟨j - 1, by omega⟩
           have g7 : (1 : Int) <= (jq : Int) + 1 := by omega
           have p0 : (0 : Int) <= (jq : Int) + 1 := by omega
           have p1 : (jq : Int) + 1 < (n : Int) := by omega
           have p2 : (0 : Int) <= (jq : Int) := by omega
           have p3 : (jq : Int) < (n : Int) := by omega
           have p5 : ((jq : Int) + 1).toNat = jq + 1 := by omega
           have p7 : IntKind.i64.wrap (jq : Int) = (jq : Int) := by rw [IntKind.wrap_i64]; omega
           have p8 : IntKind.i64.wrap ((jq : Int) + 1 - 1) = (jq : Int) := by rw [IntKind.wrap_i64]; omega
           obtain ⟨x0, x1, x2⟩ := hR1.cells (j := (jq + 1)) (by omega)
           obtain ⟨y0, y1, y2⟩ := hR1.cells (j := jq) (by omega)
           have hcm := fun W => compare_any f vw HR.out.2.2 (dj[(jq + 1)]!) (dj[jq]!) W
           unfold edV at hcm
           have hlt2 := cmpV_neg vw (dj[(jq + 1)]!) (dj[jq]!)
           obtain ⟨xe, hxe⟩ : ∃ xe, xe = dj[(jq + 1)]! := ⟨_, rfl⟩
           obtain ⟨ye, hye⟩ : ∃ ye, ye = dj[jq]! := ⟨_, rfl⟩
           rw [<- hxe] at x0 x1 x2 hcm hlt2
           rw [<- hye] at y0 y1 y2 hcm hlt2
           have HE : Hid _ := And.intro hxe hye
           clear hxe hye
           obtain ⟨xa, xb, xc⟩ := xe
           obtain ⟨ya, yb, yc⟩ := ye
           generalize cmpE (vw (xa, xb, xc)) (vw (ya, yb, yc)) = c at hcm hlt2
           have HC : Hid _ := hcm
           have HL : Hid _ := hlt2
           clear hcm hlt2
           simp only at x0 x1 x2 y0 y1 y2
           have H1 : Hid (RowE w0 wr g dj rest /\ dj.size = n) := ⟨hR1, hs1⟩
           clear hR1 hs1
           by_cases hc : c < 0
           ·have p6 : decide (c < 0) = true := decide_eq_true hc
            go_upto_region 16 with fail
            go_region_held3 (fun w' => ((w'.cell? ⟨g, (jq + 1) * 3, none⟩ = some (.int .i64 xa) /\ w'.cell? ⟨g, (jq + 1) * 3 + 1, none⟩ = some (.int .i64 xb) /\ w'.cell? ⟨g, (jq + 1) * 3 + 2, none⟩ = some (.int .i64 xc)) /\ (w'.cell? ⟨g, jq * 3, none⟩ = some (.int .i64 ya) /\ w'.cell? ⟨g, jq * 3 + 1, none⟩ = some (.int .i64 yb) /\ w'.cell? ⟨g, jq * 3 + 2, none⟩ = some (.int .i64 yc))) /\ Hid (Below wr.heap.size wr w')) (first | exact rg_up6 hb3 (by assumption) | exact ⟨⟨⟨x0, x1, x2⟩, ⟨y0, y1, y2⟩⟩, ((Below.refl _ _).drew : Below wr.heap.size wr wr.drew)⟩ | go_keep)
             ((first
               | (go_at_fn 195; refine (HC.out _).mono ?_; rintro r w3 ⟨rfl, hb3⟩)
               | fail))
            have hbq : Below wr.heap.size wr w3 := rg_b (by assumption)
            clear x0 x1 x2 y0 y1 y2 hb3 HC
            rename_i hS3
            clear hS3
            have H3 : Hid (RowE w0 w3 g dj rest /\ dj.size = n) := ⟨H1.out.1.below hbq, H1.out.2⟩
            clear hbq
            have hR4 := H3.out.1
            have hs4 := H3.out.2
            have f0 := hR4.free ((jq + 1) * 3)
            have f1 := hR4.free ((jq + 1) * 3 + 1)
            have f2 := hR4.free ((jq + 1) * 3 + 2)
            have f3 := hR4.free (jq * 3)
            have f4 := hR4.free (jq * 3 + 1)
            have f5 := hR4.free (jq * 3 + 2)
            obtain ⟨z0, z1, z2⟩ := hR4.cells (j := (jq + 1)) (by omega)
            obtain ⟨z3, z4, z5⟩ := hR4.cells (j := jq) (by omega)
            obtain ⟨xe2, hxe2⟩ : ∃ xe, xe = dj[(jq + 1)]! := ⟨_, rfl⟩
            obtain ⟨ye2, hye2⟩ : ∃ ye, ye = dj[jq]! := ⟨_, rfl⟩
            rw [<- hxe2] at z0 z1 z2
            rw [<- hye2] at z3 z4 z5
            have HE2 : Hid _ := And.intro hxe2 hye2
            clear hxe2 hye2
            obtain ⟨sa, sb, sc⟩ := xe2
            obtain ⟨ta, tb, tc⟩ := ye2
            simp only at z0 z1 z2 z3 z4 z5
            clear hR4 hs4
            have hne : ¬ jq + 1 = jq := by omega
            have hne2 : ¬ jq = jq + 1 := by omega
            go_wp2_with fail
            go_region
            all_goals go_wp2_with fail
            go_roundg jq
            case measure => omega
            case rel =>
             refine ⟨jq, Sort.swp dj (jq + 1) jq, by go_num, by omega, Nat.le_refl _, by rw [Sort.size_swp]; exact H3.out.2, H3.out.1.swapped (i := jq + 1) (j := jq) (x := (sa, sb, sc)) (y := (ta, tb, tc)) (by have := H3.out.2; omega) (by have := H3.out.2; omega) HE2.out.1 HE2.out.2, (show Hid _ from ?_)⟩
             show _ = _
             have h7 : ltV vw dj[jq + 1]! dj[jq]! = true := (by rw [<- HE.out.1, <- HE.out.2]; exact HL.out.1 hc)
             rw [<- HU.out, sd_go h7]
           ·have p6 : decide (c < 0) = false := decide_eq_false hc
            go_upto_region 16 with fail
            go_region_held3 (fun w' => ((w'.cell? ⟨g, (jq + 1) * 3, none⟩ = some (.int .i64 xa) /\ w'.cell? ⟨g, (jq + 1) * 3 + 1, none⟩ = some (.int .i64 xb) /\ w'.cell? ⟨g, (jq + 1) * 3 + 2, none⟩ = some (.int .i64 xc)) /\ (w'.cell? ⟨g, jq * 3, none⟩ = some (.int .i64 ya) /\ w'.cell? ⟨g, jq * 3 + 1, none⟩ = some (.int .i64 yb) /\ w'.cell? ⟨g, jq * 3 + 2, none⟩ = some (.int .i64 yc))) /\ Hid (Below wr.heap.size wr w')) (first | exact rg_up6 hb3 (by assumption) | exact ⟨⟨⟨x0, x1, x2⟩, ⟨y0, y1, y2⟩⟩, ((Below.refl _ _).drew : Below wr.heap.size wr wr.drew)⟩ | go_keep)
             ((first
               | (go_at_fn 195; refine (HC.out _).mono ?_; rintro r w3 ⟨rfl, hb3⟩)
               | fail))
            have hbq : Below wr.heap.size wr w3 := rg_b (by assumption)
            clear x0 x1 x2 y0 y1 y2 hb3 HC
            rename_i hS3
            clear hS3
            have H3 : Hid (RowE w0 w3 g dj rest /\ dj.size = n) := ⟨H1.out.1.below hbq, H1.out.2⟩
            clear hbq
            go_wp2_with fail
            go_meet
            case rel =>
             have h7 : ltV vw dj[jq + 1]! dj[jq]! = false := (by rw [<- HE.out.1, <- HE.out.2]; cases h : ltV vw (xa, xb, xc) (ya, yb, yc) with | false => rfl | true => exact absurd (HL.out.2 h) (by omega))
             rw [H9.out, <- HU.out, sd_stop h7]
             exact H3.out.1
          ·have g7 : ¬ (1 : Int) <= (j : Int) := by omega
           have H3 : Hid _ := hR1
           clear hR1
           go_wp2_with fail
           go_meet
           case rel =>
            have h0 : j = 0 := by omega
            subst h0
            rw [H9.out, <- HU.out]
            exact H3.out
        ·have g6 : ¬ (2 : Int) <= (jp : Int) + 1 - (a : Int) := by omega
         have h9 : d2 = d1 := by rw [HNX.out.2.2.1, if_neg h2]
         have H9 : Hid _ := h9
         clear h9
         go_wp2_with fail
         go_meet
         case rel => rw [H9.out]; exact HS.out
       case rest =>
        have HS2 : Hid (RowE w0 wc g d2 rest) := hcut
        clear hcut HS
        obtain ⟨wf, rfl⟩ : ∃ wf, wf = wc := ⟨_, rfl⟩
        by_cases h2 : 2 <= b - (jp + 1)
        ·have g6 : (2 : Int) <= (b : Int) - ((jp : Int) + 1) := by omega
         have h9 : d3 = Sort.shiftUp (ltV vw) b (jp + 1 + 1) d2 := by rw [HNX.out.2.2.2, if_pos h2]
         have H9 : Hid _ := h9
         clear h9
         go_wp2_with fail
         go_loopg [12] b (fun q jv wr => ∃ (j : Nat) (dj : Array Sy.Ed), jv = .int .i64 j /\ jp + 2 <= j /\ j <= b /\ b - j <= q /\ dj.size = n /\ RowE w0 wr g dj rest /\ Hid (Sort.shiftUp (ltV vw) b j dj = Sort.shiftUp (ltV vw) b (jp + 1 + 1) d2))
         case atStart => exact ⟨jp + 1 + 1, d2, by first | rfl | go_num, Nat.le_refl _, by omega, by omega, HZ.out.2.1, HS2.out, rfl⟩
         case round =>
          obtain ⟨j, dj, rfl, hj1, hj2, hj3, hs1, hR1, HU⟩ := hrel
          by_cases hj0 : j < b
          ·obtain ⟨jq, rfl⟩ : ∃ jq, j = jq + 1 := ⟨j - 1, by omega⟩
           have g7 : (jq : Int) + 1 < (b : Int) := by omega
           have p0 : (0 : Int) <= (jq : Int) + 1 := by omega
           have p1 : (jq : Int) + 1 < (n : Int) := by omega
           have p2 : (0 : Int) <= (jq : Int) := by omega
           have p3 : (jq : Int) < (n : Int) := by omega
           have p5 : ((jq : Int) + 1).toNat = jq + 1 := by omega
           have p7 : IntKind.i64.wrap (jq : Int) = (jq : Int) := by rw [IntKind.wrap_i64]; omega
           have p8 : IntKind.i64.wrap ((jq : Int) + 1 - 1) = (jq : Int) := by rw [IntKind.wrap_i64]; omega
           obtain ⟨x0, x1, x2⟩ := hR1.cells (j := (jq + 1)) (by omega)
           obtain ⟨y0, y1, y2⟩ := hR1.cells (j := jq) (by omega)
           have hcm := fun W => compare_any f vw HR.out.2.2 (dj[(jq + 1)]!) (dj[jq]!) W
           unfold edV at hcm
           have hlt2 := cmpV_neg vw (dj[(jq + 1)]!) (dj[jq]!)
           obtain ⟨xe, hxe⟩ : ∃ xe, xe = dj[(jq + 1)]! := ⟨_, rfl⟩
           obtain ⟨ye, hye⟩ : ∃ ye, ye = dj[jq]! := ⟨_, rfl⟩
           rw [<- hxe] at x0 x1 x2 hcm hlt2
           rw [<- hye] at y0 y1 y2 hcm hlt2
           have HE : Hid _ := And.intro hxe hye
           clear hxe hye
           obtain ⟨xa, xb, xc⟩ := xe
           obtain ⟨ya, yb, yc⟩ := ye
           generalize cmpE (vw (xa, xb, xc)) (vw (ya, yb, yc)) = c at hcm hlt2
           have HC : Hid _ := hcm
           have HL : Hid _ := hlt2
           clear hcm hlt2
           simp only at x0 x1 x2 y0 y1 y2
           have H1 : Hid (RowE w0 wr g dj rest /\ dj.size = n) := ⟨hR1, hs1⟩
           clear hR1 hs1
           by_cases hc : c < 0
           ·have p6 : decide (c < 0) = true := decide_eq_true hc
            go_upto_region 22 with fail
            go_region_held3 (fun w' => ((w'.cell? ⟨g, (jq + 1) * 3, none⟩ = some (.int .i64 xa) /\ w'.cell? ⟨g, (jq + 1) * 3 + 1, none⟩ = some (.int .i64 xb) /\ w'.cell? ⟨g, (jq + 1) * 3 + 2, none⟩ = some (.int .i64 xc)) /\ (w'.cell? ⟨g, jq * 3, none⟩ = some (.int .i64 ya) /\ w'.cell? ⟨g, jq * 3 + 1, none⟩ = some (.int .i64 yb) /\ w'.cell? ⟨g, jq * 3 + 2, none⟩ = some (.int .i64 yc))) /\ Hid (Below wr.heap.size wr w')) (first | exact rg_up6 hb3 (by assumption) | exact ⟨⟨⟨x0, x1, x2⟩, ⟨y0, y1, y2⟩⟩, ((Below.refl _ _).drew : Below wr.heap.size wr wr.drew)⟩ | go_keep)
             ((first
               | (go_at_fn 195; refine (HC.out _).mono ?_; rintro r w3 ⟨rfl, hb3⟩)
               | fail))
            have hbq : Below wr.heap.size wr w3 := rg_b (by assumption)
            clear x0 x1 x2 y0 y1 y2 hb3 HC
            rename_i hS3
            clear hS3
            have H3 : Hid (RowE w0 w3 g dj rest /\ dj.size = n) := ⟨H1.out.1.below hbq, H1.out.2⟩
            clear hbq
            have hR4 := H3.out.1
            have hs4 := H3.out.2
            have f0 := hR4.free ((jq + 1) * 3)
            have f1 := hR4.free ((jq + 1) * 3 + 1)
            have f2 := hR4.free ((jq + 1) * 3 + 2)
            have f3 := hR4.free (jq * 3)
            have f4 := hR4.free (jq * 3 + 1)
            have f5 := hR4.free (jq * 3 + 2)
            obtain ⟨z0, z1, z2⟩ := hR4.cells (j := (jq + 1)) (by omega)
            obtain ⟨z3, z4, z5⟩ := hR4.cells (j := jq) (by omega)
            obtain ⟨xe2, hxe2⟩ : ∃ xe, xe = dj[(jq + 1)]! := ⟨_, rfl⟩
            obtain ⟨ye2, hye2⟩ : ∃ ye, ye = dj[jq]! := ⟨_, rfl⟩
            rw [<- hxe2] at z0 z1 z2
            rw [<- hye2] at z3 z4 z5
            have HE2 : Hid _ := And.intro hxe2 hye2
            clear hxe2 hye2
            obtain ⟨sa, sb, sc⟩ := xe2
            obtain ⟨ta, tb, tc⟩ := ye2
            simp only at z0 z1 z2 z3 z4 z5
            clear hR4 hs4
            have hne : ¬ jq + 1 = jq := by omega
            have hne2 : ¬ jq = jq + 1 := by omega
            go_wp2_with fail
            go_region
            all_goals go_wp2_with fail
            go_roundg (b - (jq + 1 + 1))
            case measure => omega
            case rel =>
             refine ⟨jq + 1 + 1, Sort.swp dj (jq + 1) jq, by go_num, by omega, by omega, Nat.le_refl _, by rw [Sort.size_swp]; exact H3.out.2, H3.out.1.swapped (i := jq + 1) (j := jq) (x := (sa, sb, sc)) (y := (ta, tb, tc)) (by have := H3.out.2; omega) (by have := H3.out.2; omega) HE2.out.1 HE2.out.2, (show Hid _ from ?_)⟩
             show _ = _
             have h7 : ltV vw dj[jq + 1]! dj[jq]! = true := (by rw [<- HE.out.1, <- HE.out.2]; exact HL.out.1 hc)
             rw [<- HU.out, sp_go hj0 h7]
           ·have p6 : decide (c < 0) = false := decide_eq_false hc
            go_upto_region 22 with fail
            go_region_held3 (fun w' => ((w'.cell? ⟨g, (jq + 1) * 3, none⟩ = some (.int .i64 xa) /\ w'.cell? ⟨g, (jq + 1) * 3 + 1, none⟩ = some (.int .i64 xb) /\ w'.cell? ⟨g, (jq + 1) * 3 + 2, none⟩ = some (.int .i64 xc)) /\ (w'.cell? ⟨g, jq * 3, none⟩ = some (.int .i64 ya) /\ w'.cell? ⟨g, jq * 3 + 1, none⟩ = some (.int .i64 yb) /\ w'.cell? ⟨g, jq * 3 + 2, none⟩ = some (.int .i64 yc))) /\ Hid (Below wr.heap.size wr w')) (first | exact rg_up6 hb3 (by assumption) | exact ⟨⟨⟨x0, x1, x2⟩, ⟨y0, y1, y2⟩⟩, ((Below.refl _ _).drew : Below wr.heap.size wr wr.drew)⟩ | go_keep)
             ((first
               | (go_at_fn 195; refine (HC.out _).mono ?_; rintro r w3 ⟨rfl, hb3⟩)
               | fail))
            have hbq : Below wr.heap.size wr w3 := rg_b (by assumption)
            clear x0 x1 x2 y0 y1 y2 hb3 HC
            rename_i hS3
            clear hS3
            have H3 : Hid (RowE w0 w3 g dj rest /\ dj.size = n) := ⟨H1.out.1.below hbq, H1.out.2⟩
            clear hbq
            go_wp2_with fail
            go_roundg (5 - (k + 1))
            case measure => omega
            case rel =>
             refine ⟨jp + 1, k + 1, d3, by first | rfl | go_num, by go_num, by omega, by omega, by omega, Nat.le_refl _, HZ.out.2.2, ?_, (show Hid _ from ?_)⟩
             ·have h7 : ltV vw dj[jq + 1]! dj[jq]! = false := (by rw [<- HE.out.1, <- HE.out.2]; cases h : ltV vw (xa, xb, xc) (ya, yb, yc) with | false => rfl | true => exact absurd (HL.out.2 h) (by omega))
              rw [H9.out, <- HU.out, sp_stop hj0 h7]
              exact H3.out.1
             ·show _ = _
              rw [<- HO.out, HNX.out.1]
          ·have g7 : ¬ (j : Int) < (b : Int) := by omega
           have H3 : Hid _ := hR1
           clear hR1
           go_wp2_with fail
           go_roundg (5 - (k + 1))
           case measure => omega
           case rel =>
            refine ⟨jp + 1, k + 1, d3, by first | rfl | go_num, by go_num, by omega, by omega, by omega, Nat.le_refl _, HZ.out.2.2, ?_, (show Hid _ from ?_)⟩
            ·rw [H9.out, <- HU.out, sp_far hj0]
             exact H3.out
            ·show _ = _
             rw [<- HO.out, HNX.out.1]
        ·have g6 : ¬ (2 : Int) <= (b : Int) - ((jp : Int) + 1) := by omega
         have h9 : d3 = d2 := by rw [HNX.out.2.2.2, if_neg h2]
         have H9 : Hid _ := h9
         clear h9
         go_wp2_with fail
         go_roundg (5 - (k + 1))
         case measure => omega
         case rel =>
          refine ⟨jp + 1, k + 1, d3, by first | rfl | go_num, by go_num, by omega, by omega, by omega, Nat.le_refl _, HZ.out.2.2, ?_, (show Hid _ from ?_)⟩
          ·rw [H9.out]
           exact HS2.out
          ·show _ = _
           rw [<- HO.out, HNX.out.1]
  ·have gk : ¬ (k : Int) < 5 := by omega
   go_wp2_with fail
   go_ret
   have h5 : k = 5 := by omega
   subst h5
   rw [<- HO.out]
   exact ⟨rfl, HRk.out.1⟩
end
section
open Go.RowKit Go.Maps
attribute [local go_sem ↓] Go.wp_at_zero Go.wp_at_succ
set_option maxRecDepth 100000 in
set_option maxHeartbeats 4000000 in
theorem xNext_any (rb X : Nat) (hX : X < 18446744073709551616) (w : World) (hc : w.cell? ⟨rb, 0, none⟩ = some (.int .u64 X)) (hf : w.frozen? ⟨rb, 0, none⟩ = false) :
 Calls Tryz.prog 234 #[.pointer (some ⟨rb, 0, none⟩)] w fun r w' => r = .returned (.int .u64 (Sort.xorNextN X : Nat)) /\ w' = (w.setCell ⟨rb, 0, none⟩ (.int .u64 (Sort.xorNextN X : Nat))).drewN 3 := by
 obtain ⟨p, q, hp, hq, h1, h2, h3⟩ : ∃ p q : Nat, p < 18446744073709551616 /\ q < 18446744073709551616 /\ p = X ^^^ (X * 8192 % 18446744073709551616) /\ q = p ^^^ (p / 128) /\ Sort.xorNextN X = q ^^^ (q * 131072 % 18446744073709551616) :=
  ⟨_, _, Nat.xor_lt_two_pow (n := 64) (by omega) (by omega), Nat.xor_lt_two_pow (n := 64) (Nat.xor_lt_two_pow (n := 64) (by omega) (by omega)) (Nat.lt_of_le_of_lt (Nat.div_le_self _ _) (Nat.xor_lt_two_pow (n := 64) (by omega) (by omega))), rfl, rfl, rfl⟩
 generalize Sort.xorNextN X = z at h3 ⊢
 have e1 : bits .xor .u64 (X : Int) (IntKind.u64.wrap ((X : Int) * 8192)) = (p : Int) := by
  rw [IntKind.wrap_u64, show ((X : Int) * 8192 % 18446744073709551616) = ((X * 8192 % 18446744073709551616 : Nat) : Int) by omega, bits_xor_u64_nat _ _ hX (by omega), h1]
 have e2 : bits .xor .u64 (p : Int) ((p : Int) / 128) = (q : Int) := by
  rw [show ((p : Int) / 128) = ((p / 128 : Nat) : Int) by omega, bits_xor_u64_nat _ _ hp (by omega), h2]
 have e3 : bits .xor .u64 (q : Int) (IntKind.u64.wrap ((q : Int) * 131072)) = (z : Int) := by
  rw [IntKind.wrap_u64, show ((q : Int) * 131072 % 18446744073709551616) = ((q * 131072 % 18446744073709551616 : Nat) : Int) by omega, bits_xor_u64_nat _ _ hq (by omega), h3]
 clear h1 h2 h3
 have hss := setCell_setCell w rb 0
 go_enter Tryz.func234, Tryz.ntmps234
 go_wp2_with fail
 go_region
 all_goals go_wp2_with fail
 all_goals go_region
 all_goals go_wp2_with fail
 all_goals go_region
 all_goals go_wp2_with fail
 go_ret
 exact ⟨rfl, rfl⟩
set_option maxRecDepth 100000 in
set_option maxHeartbeats 4000000 in
theorem nextPow_any (n : Nat) (hn : n <= 1000000) (w : World) :
 Calls Tryz.prog 233 #[.int .i64 n] w fun r w' => r = .returned (.int .u64 ((1 <<< Sort.bitsLen n : Nat) : Int)) /\ w' = w := by
 have hL := Tryz.bits_Len (n : Int) w (by omega) (by omega)
 rw [Int.toNat_natCast, bitLen_eq _ (by omega)] at hL
 have hk : Sort.bitsLen n <= 62 := (Sort.bitsLen_le_iff n 62).2 (by omega)
 have hp := wrap_two_pow (Sort.bitsLen n) hk
 generalize Sort.bitsLen n = k at hL hk hp ⊢
 have hm : min k 64 = k := by omega
 have hm' : min (k : Int) 64 = (k : Int) := by omega
 have HI : Hid _ := hL
 clear hL
 go_enter Tryz.func233, Tryz.ntmps233
 go_wp2_with (first
  | (go_at_call 199; refine Calls.mono HI.out ?_; rintro r w1 ⟨rfl, hw1⟩; obtain rfl := hw1.symm))
 go_ret
 exact ⟨rfl, rfl⟩
end
end Go.Proofs.YthcpliinddjkhaaGreatDoor
