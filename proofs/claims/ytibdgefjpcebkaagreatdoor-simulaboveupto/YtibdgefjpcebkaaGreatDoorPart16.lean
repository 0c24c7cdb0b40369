/- Texts of this claim, joined: SoPart, SoPt. -/
import Derived.Test.YtibdgefjpcebkaaGreatDoorPart15
import Derived.Deep.CutBlock
namespace Go.Proofs.YtibdgefjpcebkaaGreatDoor
section
open Go.RowKit Go.Maps
attribute [local go_sem ↓] Go.wp_at_zero Go.wp_at_succ
theorem su_go {p : Sy.Ed → Bool} {d : Array Sy.Ed} {j i : Nat} (h : i ≤ j) (hp : p d[i]! = true) : Sort.scanUp p d j i = Sort.scanUp p d j (i + 1) := by rw [Sort.scanUp, if_pos (by simp [h, hp])]
theorem su_far {p : Sy.Ed → Bool} {d : Array Sy.Ed} {j i : Nat} (h : ¬ i ≤ j) : Sort.scanUp p d j i = i := by rw [Sort.scanUp, if_neg (by simp; omega)]
theorem su_stop {p : Sy.Ed → Bool} {d : Array Sy.Ed} {j i : Nat} (hp : p d[i]! = false) : Sort.scanUp p d j i = i := by rw [Sort.scanUp, if_neg (by simp [hp])]
theorem sn_go {p : Sy.Ed → Bool} {d : Array Sy.Ed} {i j : Nat} (h : i ≤ j + 1) (hp : p d[j + 1]! = true) : Sort.scanDown p d i (j + 1) = Sort.scanDown p d i j := by rw [Sort.scanDown, if_pos (by simp [h, hp])]
theorem sn_far {p : Sy.Ed → Bool} {d : Array Sy.Ed} {i j : Nat} (h : ¬ i ≤ j) : Sort.scanDown p d i j = j := by
  cases j with
  | zero => rfl
  | succ j => rw [Sort.scanDown, if_neg (by simp; omega)]
theorem sn_stop {p : Sy.Ed → Bool} {d : Array Sy.Ed} {i j : Nat} (hp : p d[j]! = false) : Sort.scanDown p d i j = j := by
  cases j with
  | zero => rfl
  | succ j => rw [Sort.scanDown, if_neg (by simp [hp])]
theorem su_ge (p : Sy.Ed → Bool) (d : Array Sy.Ed) (j : Nat) : ∀ (q i : Nat), j + 1 - i ≤ q → i ≤ Sort.scanUp p d j i ∧ Sort.scanUp p d j i ≤ max i (j + 1) := by
  intro q
  induction q with
  | zero => intro i h; rw [su_far (by omega)]; omega
  | succ q ih =>
    intro i h
    by_cases h1 : i ≤ j
    · cases hp : p d[i]! with
      | true => rw [su_go h1 hp]; have := ih (i + 1) (by omega); omega
      | false => rw [su_stop hp]; omega
    · rw [su_far h1]; omega
theorem sn_le (p : Sy.Ed → Bool) (d : Array Sy.Ed) (i : Nat) : ∀ j, Sort.scanDown p d i j ≤ j ∧ (i ≤ j + 1 → i ≤ Sort.scanDown p d i j + 1) := by
  intro j
  induction j with
  | zero => exact ⟨Nat.le_refl _, fun h => h⟩
  | succ j ih =>
    by_cases h1 : i ≤ j + 1
    · cases hp : p d[j + 1]! with
      | true => rw [sn_go h1 hp]; exact ⟨by omega, fun _ => ih.2 h1⟩
      | false => rw [sn_stop hp]; omega
    · rw [sn_far h1]; omega
theorem pe_break {lt : Sy.Ed → Sy.Ed → Bool} {a i j i2 j2 : Nat} {d : Array Sy.Ed} (hi : i2 = Sort.scanUp (fun x => !lt d[a]! x) d j i) (hj : j2 = Sort.scanDown (fun x => lt d[a]! x) d i2 j) (h : j2 < i2) : Sort.partEqLoop lt a i j d = (i2, d) := by
  rw [Sort.partEqLoop, ← hi, ← hj, if_pos h]
theorem pe_next {lt : Sy.Ed → Sy.Ed → Bool} {a i j i2 j2 : Nat} {d : Array Sy.Ed} (hi : i2 = Sort.scanUp (fun x => !lt d[a]! x) d j i) (hj : j2 = Sort.scanDown (fun x => lt d[a]! x) d i2 j) (h : ¬ j2 < i2) (h1 : i ≤ i2) (h2 : j2 ≤ j) : Sort.partEqLoop lt a i j d = Sort.partEqLoop lt a (i2 + 1) (j2 - 1) (Sort.swp d i2 j2) := by
  rw [Sort.partEqLoop, ← hi, ← hj, if_neg h, dif_pos (by omega)]
set_option maxRecDepth 100000 in
set_option maxHeartbeats 16000000 in
theorem partEq_any (f : Nat) (vw : Sy.Ed → Sy.Ed) (hV : ViewAt f vw) (g cap a b pivot : Nat) (d : Array Sy.Ed) (rest : List Value) (w0 w : World) (hR : RowE w0 w g d rest) (hap : a ≤ pivot) (hpb : pivot < b) (hb : b ≤ d.size) (hsz : d.size ≤ 1000000) :
    Calls Tryz.prog 160 #[.slice (some ⟨g, 0, none⟩) d.size cap, .int .i64 a, .int .i64 b, .int .i64 pivot, cmpV f] w fun r w' => r = .returned (.int .i64 (Sort.partitionEqual (ltV vw) d a b pivot).1) ∧ RowE w0 w' g (Sort.partitionEqual (ltV vw) d a b pivot).2 rest := by
  obtain ⟨n, hn⟩ : ∃ n, n = d.size := ⟨_, rfl⟩
  have HR : Hid _ := And.intro hR (And.intro hn hV)
  have HRs : Hid (RowE w0 w g d rest ∧ d.size = n) := ⟨hR, hn.symm⟩
  rw [← hn] at hb hsz ⊢
  unfold cmpV Sort.partitionEqual
  have he := enter_cmp
  have ba0 : (0 : Int) ≤ (a : Int) := by omega
  have ba1 : (a : Int) < (n : Int) := by omega
  have bpivot0 : (0 : Int) ≤ (pivot : Int) := by omega
  have bpivot1 : (pivot : Int) < (n : Int) := by omega
  have f0 := hR.free (a * 3)
  have f1 := hR.free (a * 3 + 1)
  have f2 := hR.free (a * 3 + 2)
  have f3 := hR.free (pivot * 3)
  have f4 := hR.free (pivot * 3 + 1)
  have f5 := hR.free (pivot * 3 + 2)
  obtain ⟨z0, z1, z2⟩ := hR.cells (j := a) (by omega)
  obtain ⟨z3, z4, z5⟩ := hR.cells (j := pivot) (by omega)
  obtain ⟨xe2, hxe2⟩ : ∃ xe, xe = d[a]! := ⟨_, rfl⟩
  obtain ⟨ye2, hye2⟩ : ∃ ye, ye = d[pivot]! := ⟨_, rfl⟩
  rw [← hxe2] at z0 z1 z2
  rw [← hye2] at z3 z4 z5
  have HE2 : Hid _ := And.intro hxe2 hye2
  clear hxe2 hye2
  obtain ⟨sa, sb, sc⟩ := xe2
  obtain ⟨ta, tb, tc⟩ := ye2
  simp only at z0 z1 z2 z3 z4 z5
  clear hR hn hV
  go_enter Tryz.func160, Tryz.ntmps160
  go_upto_region 1 with fail
  go_cut [13] (fun _ wx => RowE w0 wx g (Sort.swp d a pivot) rest)
  case first =>
    by_cases hne : a = pivot
    · subst hne
      go_region
      all_goals go_wp2_with fail
      all_goals (go_meet; case rel => exact HRs.out.1.swapped (i := a) (j := a) (x := (sa, sb, sc)) (y := (sa, sb, sc)) (by have := HRs.out.2; omega) (by have := HRs.out.2; omega) HE2.out.1 HE2.out.1)
    · have hne2 : ¬ pivot = a := fun e => hne e.symm
      go_region
      all_goals go_wp2_with fail
      all_goals (go_meet; case rel => exact HRs.out.1.swapped (i := a) (j := pivot) (x := (sa, sb, sc)) (y := (ta, tb, tc)) (by have := HRs.out.2; omega) (by have := HRs.out.2; omega) HE2.out.1 HE2.out.2)
  case rest =>
    have HS : Hid (RowE w0 wc g (Sort.swp d a pivot) rest) := hcut
    clear hcut f0 f1 f2 f3 f4 f5 z0 z1 z2 z3 z4 z5
    have e1 : IntKind.i64.wrap ((b : Int) - 1) = ((b - 1 : Nat) : Int) := by rw [IntKind.wrap_i64]; omega
    have e1' : (b : Int) - 1 = ((b - 1 : Nat) : Int) := by omega
    go_wp2_with fail
    go_loopg [11, 12] (n + 2) (fun q iv jv wr => ∃ (i j : Nat) (dk : Array Sy.Ed), iv = .int .i64 i ∧ jv = .int .i64 j ∧ a + 1 ≤ i ∧ i ≤ j + 2 ∧ j < n ∧ j + 2 - i ≤ q ∧ dk.size = n ∧ RowE w0 wr g dk rest ∧ Hid (Sort.partEqLoop (ltV vw) a i j dk = Sort.partEqLoop (ltV vw) a (a + 1) (b - 1) (Sort.swp d a pivot)))
    case atStart => exact ⟨a + 1, b - 1, Sort.swp d a pivot, by go_num, by first | rfl | (congr 1; omega), Nat.le_refl _, by omega, by omega, by omega, by rw [Sort.size_swp]; exact HR.out.2.1.symm, HS.out, rfl⟩
    case round =>
      obtain ⟨i, j, dk, rfl, rfl, hai, hij, hjn, hq, hsk, hRk, HO⟩ := hrel
      have HK : Hid (True ∧ dk.size = n) := ⟨trivial, hsk⟩
      have HRk : Hid (RowE w0 wr g dk rest) := hRk
      obtain ⟨wq, rfl⟩ : ∃ wq, wq = wr := ⟨_, rfl⟩
      clear hRk hsk e1 e1'
      go_upto_block 2 with fail
      go_cut [11] (fun iv wx => iv = .int .i64 ((Sort.scanUp (fun x => !ltV vw dk[a]! x) dk j i : Nat) : Int) ∧ RowE w0 wx g dk rest)
      case first =>
        go_wp2_with fail
        go_loopg [11] (j + 1) (fun q iv wr => ∃ i1 : Nat, iv = .int .i64 i1 ∧ i ≤ i1 ∧ i1 ≤ j + 2 ∧ j + 1 - i1 ≤ q ∧ RowE w0 wr g dk rest ∧ Hid (Sort.scanUp (fun x => !ltV vw dk[a]! x) dk j i1 = Sort.scanUp (fun x => !ltV vw dk[a]! x) dk j i))
        case atStart => exact ⟨i, rfl, Nat.le_refl _, by omega, by omega, HRk.out, rfl⟩
        case round =>
          obtain ⟨i1, rfl, hi1, hi2, hq1, hR1, HU⟩ := hrel
          by_cases hle : i1 ≤ j
          · have g1 : decide ((i1 : Int) ≤ (j : Int)) = true := decide_eq_true (by omega)
            have g2 : (i1 : Int) ≤ (j : Int) := by omega
            have hx1 : i1 < n := by omega
            have bi10 : (0 : Int) ≤ (i1 : Int) := by omega
            have bi11 : (i1 : Int) < (n : Int) := by omega
            have ba0 : (0 : Int) ≤ (a : Int) := by omega
            have ba1 : (a : Int) < (n : Int) := by omega
            obtain ⟨x0, x1, x2⟩ := hR1.cells (j := a) (by have := HK.out.2; omega)
            obtain ⟨y0, y1, y2⟩ := hR1.cells (j := i1) (by have := HK.out.2; omega)
            have hcm := fun W => compare_any f vw HR.out.2.2 (dk[a]!) (dk[i1]!) W
            unfold edV at hcm
            have hlt2 := cmpV_neg vw (dk[a]!) (dk[i1]!)
            obtain ⟨xe, hxe⟩ : ∃ xe, xe = dk[a]! := ⟨_, rfl⟩
            obtain ⟨ye, hye⟩ : ∃ ye, ye = dk[i1]! := ⟨_, rfl⟩
            rw [← hxe] at x0 x1 x2 hcm hlt2
            rw [← hye] at y0 y1 y2 hcm hlt2
            have HE : Hid _ := And.intro hxe hye
            clear hxe hye
            obtain ⟨xa, xb, xc⟩ := xe
            obtain ⟨ya, yb, yc⟩ := ye
            generalize cmpE (vw (xa, xb, xc)) (vw (ya, yb, yc)) = c at hcm hlt2
            have HC : Hid _ := hcm
            have HL : Hid _ := hlt2
            clear hcm hlt2
            simp only at x0 x1 x2 y0 y1 y2
            have H1 : Hid (RowE w0 wr g dk rest) := hR1
            clear hR1
            by_cases hc : c < 0
            · have p6 : decide (c < 0) = true := decide_eq_true hc
              go_upto_region 3 with fail
              go_region_held3 (fun w' => ((w'.cell? ⟨g, a * 3, none⟩ = some (.int .i64 xa) ∧ w'.cell? ⟨g, a * 3 + 1, none⟩ = some (.int .i64 xb) ∧ w'.cell? ⟨g, a * 3 + 2, none⟩ = some (.int .i64 xc)) ∧ (w'.cell? ⟨g, i1 * 3, none⟩ = some (.int .i64 ya) ∧ w'.cell? ⟨g, i1 * 3 + 1, none⟩ = some (.int .i64 yb) ∧ w'.cell? ⟨g, i1 * 3 + 2, none⟩ = some (.int .i64 yc))) ∧ Hid (Below wr.heap.size wr w')) (first | exact rg_up6 hb3 (by assumption) | exact ⟨⟨⟨x0, x1, x2⟩, ⟨y0, y1, y2⟩⟩, ((Below.refl _ _).drew : Below wr.heap.size wr wr.drew)⟩ | go_keep)
                ((first
                  | (go_at_fn 133; refine (HC.out _).mono ?_; rintro r w3 ⟨rfl, hb3⟩)
                  | fail))
              have hbq : Below wr.heap.size wr w3 := rg_b (by assumption)
              clear x0 x1 x2 y0 y1 y2 hb3 HC
              rename_i hS3
              clear hS3
              have H3 : Hid (RowE w0 w3 g dk rest) := H1.out.below hbq
              clear hbq
              go_wp2_with fail
              go_meet
              case rel => exact ⟨by rw [← HU.out, su_stop (by have h7 : ltV vw dk[a]! dk[i1]! = true := (by rw [← HE.out.1, ← HE.out.2]; exact HL.out.1 hc); simp [h7])], H3.out⟩
            · have p6 : decide (c < 0) = false := decide_eq_false hc
              go_upto_region 3 with fail
              go_region_held3 (fun w' => ((w'.cell? ⟨g, a * 3, none⟩ = some (.int .i64 xa) ∧ w'.cell? ⟨g, a * 3 + 1, none⟩ = some (.int .i64 xb) ∧ w'.cell? ⟨g, a * 3 + 2, none⟩ = some (.int .i64 xc)) ∧ (w'.cell? ⟨g, i1 * 3, none⟩ = some (.int .i64 ya) ∧ w'.cell? ⟨g, i1 * 3 + 1, none⟩ = some (.int .i64 yb) ∧ w'.cell? ⟨g, i1 * 3 + 2, none⟩ = some (.int .i64 yc))) ∧ Hid (Below wr.heap.size wr w')) (first | exact rg_up6 hb3 (by assumption) | exact ⟨⟨⟨x0, x1, x2⟩, ⟨y0, y1, y2⟩⟩, ((Below.refl _ _).drew : Below wr.heap.size wr wr.drew)⟩ | go_keep)
                ((first
                  | (go_at_fn 133; refine (HC.out _).mono ?_; rintro r w3 ⟨rfl, hb3⟩)
                  | fail))
              have hbq : Below wr.heap.size wr w3 := rg_b (by assumption)
              clear x0 x1 x2 y0 y1 y2 hb3 HC
              rename_i hS3
              clear hS3
              have H3 : Hid (RowE w0 w3 g dk rest) := H1.out.below hbq
              clear hbq
              go_wp2_with fail
              go_roundg (j + 1 - (i1 + 1))
              case measure => omega
              case rel =>
                refine ⟨i1 + 1, by go_num, by omega, by omega, Nat.le_refl _, H3.out, (show Hid _ from ?_)⟩
                show _ = _
                rw [← HU.out, su_go hle (by have h7 : ltV vw dk[a]! dk[i1]! = false := (by rw [← HE.out.1, ← HE.out.2]; cases h : ltV vw (xa, xb, xc) (ya, yb, yc) with | false => rfl | true => exact absurd (HL.out.2 h) (by omega)); simp [h7])]
          · have g1 : decide ((i1 : Int) ≤ (j : Int)) = false := decide_eq_false (by omega)
            have g2 : ¬ (i1 : Int) ≤ (j : Int) := by omega
            have H1 : Hid (RowE w0 wr g dk rest) := hR1
            clear hR1
            go_wp2_with fail
            go_region
            all_goals go_wp2_with fail
            all_goals (go_meet; case rel => exact ⟨by rw [← HU.out, su_far hle], H1.out.below (Below.refl _ _).drew⟩)
      case rest =>
        obtain ⟨rfl, hRk⟩ := hcut
        obtain ⟨wd, rfl⟩ : ∃ wd, wd = wc := ⟨_, rfl⟩
        have hge := su_ge (fun x => !ltV vw dk[a]! x) dk j (j + 1) i (by omega)
        obtain ⟨i2, hI2⟩ : ∃ i2, i2 = Sort.scanUp (fun x => !ltV vw dk[a]! x) dk j i := ⟨_, rfl⟩
        rw [← hI2] at hge ⊢
        have HI2 : Hid _ := And.intro hI2 trivial
        have HRk : Hid (RowE w0 wd g dk rest) := hRk
        clear hRk hI2
        go_upto_block 4 with fail
        go_cut [12] (fun iv wx => iv = .int .i64 ((Sort.scanDown (fun x => ltV vw dk[a]! x) dk i2 j : Nat) : Int) ∧ RowE w0 wx g dk rest)
        case first =>
          go_wp2_with fail
          go_loopg [12] (j + 1) (fun q jv wr => ∃ j1 : Nat, jv = .int .i64 j1 ∧ j1 ≤ j ∧ i2 ≤ j1 + 2 ∧ j1 < n ∧ j1 ≤ q ∧ RowE w0 wr g dk rest ∧ Hid (Sort.scanDown (fun x => ltV vw dk[a]! x) dk i2 j1 = Sort.scanDown (fun x => ltV vw dk[a]! x) dk i2 j))
          case atStart => exact ⟨j, rfl, Nat.le_refl _, by omega, by omega, by omega, HRk.out, rfl⟩
          case round =>
            obtain ⟨j1, rfl, hj1, hj2, hj3, hq1, hR1, HU⟩ := hrel
            by_cases hle : i2 ≤ j1
            · have g1 : decide ((i2 : Int) ≤ (j1 : Int)) = true := decide_eq_true (by omega)
              have g2 : (i2 : Int) ≤ (j1 : Int) := by omega
              have hx1 : j1 < n := by omega
              have bj10 : (0 : Int) ≤ (j1 : Int) := by omega
              have bj11 : (j1 : Int) < (n : Int) := by omega
              have ba0 : (0 : Int) ≤ (a : Int) := by omega
              have ba1 : (a : Int) < (n : Int) := by omega
              obtain ⟨x0, x1, x2⟩ := hR1.cells (j := a) (by have := HK.out.2; omega)
              obtain ⟨y0, y1, y2⟩ := hR1.cells (j := j1) (by have := HK.out.2; omega)
              have hcm := fun W => compare_any f vw HR.out.2.2 (dk[a]!) (dk[j1]!) W
              unfold edV at hcm
              have hlt2 := cmpV_neg vw (dk[a]!) (dk[j1]!)
              obtain ⟨xe, hxe⟩ : ∃ xe, xe = dk[a]! := ⟨_, rfl⟩
              obtain ⟨ye, hye⟩ : ∃ ye, ye = dk[j1]! := ⟨_, rfl⟩
              rw [← hxe] at x0 x1 x2 hcm hlt2
              rw [← hye] at y0 y1 y2 hcm hlt2
              have HE : Hid _ := And.intro hxe hye
              clear hxe hye
              obtain ⟨xa, xb, xc⟩ := xe
              obtain ⟨ya, yb, yc⟩ := ye
              generalize cmpE (vw (xa, xb, xc)) (vw (ya, yb, yc)) = c at hcm hlt2
              have HC : Hid _ := hcm
              have HL : Hid _ := hlt2
              clear hcm hlt2
              simp only at x0 x1 x2 y0 y1 y2
              have H1 : Hid (RowE w0 wr g dk rest) := hR1
              clear hR1
              by_cases hc : c < 0
              · have p6 : decide (c < 0) = true := decide_eq_true hc
                go_upto_region 5 with fail
                go_region_held3 (fun w' => ((w'.cell? ⟨g, a * 3, none⟩ = some (.int .i64 xa) ∧ w'.cell? ⟨g, a * 3 + 1, none⟩ = some (.int .i64 xb) ∧ w'.cell? ⟨g, a * 3 + 2, none⟩ = some (.int .i64 xc)) ∧ (w'.cell? ⟨g, j1 * 3, none⟩ = some (.int .i64 ya) ∧ w'.cell? ⟨g, j1 * 3 + 1, none⟩ = some (.int .i64 yb) ∧ w'.cell? ⟨g, j1 * 3 + 2, none⟩ = some (.int .i64 yc))) ∧ Hid (Below wr.heap.size wr w')) (first | exact rg_up6 hb3 (by assumption) | exact ⟨⟨⟨x0, x1, x2⟩, ⟨y0, y1, y2⟩⟩, ((Below.refl _ _).drew : Below wr.heap.size wr wr.drew)⟩ | go_keep)
                  ((first
                    | (go_at_fn 133; refine (HC.out _).mono ?_; rintro r w3 ⟨rfl, hb3⟩)
                    | fail))
                have hbq : Below wr.heap.size wr w3 := rg_b (by assumption)
                clear x0 x1 x2 y0 y1 y2 hb3 HC
                rename_i hS3
                clear hS3
                have H3 : Hid (RowE w0 w3 g dk rest) := H1.out.below hbq
                clear hbq
                go_wp2_with fail
                go_roundg (j1 - 1)
                case measure => omega
                case rel =>
                  refine ⟨j1 - 1, by first | go_num | (congr 1; omega), by omega, by omega, by omega, Nat.le_refl _, H3.out, (show Hid _ from ?_)⟩
                  show _ = _
                  have h8 : (fun x => ltV vw dk[a]! x) dk[j1]! = true := by have h7 : ltV vw dk[a]! dk[j1]! = true := (by rw [← HE.out.1, ← HE.out.2]; exact HL.out.1 hc); simp [h7]
                  obtain ⟨jq, rfl⟩ : ∃ jq, j1 = jq + 1 := ⟨j1 - 1, by omega⟩
                  rw [← HU.out, sn_go hle h8]
                  rfl
              · have p6 : decide (c < 0) = false := decide_eq_false hc
                go_upto_region 5 with fail
                go_region_held3 (fun w' => ((w'.cell? ⟨g, a * 3, none⟩ = some (.int .i64 xa) ∧ w'.cell? ⟨g, a * 3 + 1, none⟩ = some (.int .i64 xb) ∧ w'.cell? ⟨g, a * 3 + 2, none⟩ = some (.int .i64 xc)) ∧ (w'.cell? ⟨g, j1 * 3, none⟩ = some (.int .i64 ya) ∧ w'.cell? ⟨g, j1 * 3 + 1, none⟩ = some (.int .i64 yb) ∧ w'.cell? ⟨g, j1 * 3 + 2, none⟩ = some (.int .i64 yc))) ∧ Hid (Below wr.heap.size wr w')) (first | exact rg_up6 hb3 (by assumption) | exact ⟨⟨⟨x0, x1, x2⟩, ⟨y0, y1, y2⟩⟩, ((Below.refl _ _).drew : Below wr.heap.size wr wr.drew)⟩ | go_keep)
                  ((first
                    | (go_at_fn 133; refine (HC.out _).mono ?_; rintro r w3 ⟨rfl, hb3⟩)
                    | fail))
                have hbq : Below wr.heap.size wr w3 := rg_b (by assumption)
                clear x0 x1 x2 y0 y1 y2 hb3 HC
                rename_i hS3
                clear hS3
                have H3 : Hid (RowE w0 w3 g dk rest) := H1.out.below hbq
                clear hbq
                go_wp2_with fail
                go_meet
                case rel => exact ⟨by rw [← HU.out, sn_stop (by have h7 : ltV vw dk[a]! dk[j1]! = false := (by rw [← HE.out.1, ← HE.out.2]; cases h : ltV vw (xa, xb, xc) (ya, yb, yc) with | false => rfl | true => exact absurd (HL.out.2 h) (by omega)); simp [h7])], H3.out⟩
            · have g1 : decide ((i2 : Int) ≤ (j1 : Int)) = false := decide_eq_false (by omega)
              have g2 : ¬ (i2 : Int) ≤ (j1 : Int) := by omega
              have H1 : Hid (RowE w0 wr g dk rest) := hR1
              clear hR1
              go_wp2_with fail
              go_region
              all_goals go_wp2_with fail
              all_goals (go_meet; case rel => exact ⟨by rw [← HU.out, sn_far hle], H1.out.below (Below.refl _ _).drew⟩)
        case rest =>
          obtain ⟨rfl, hRk⟩ := hcut
          obtain ⟨we, rfl⟩ : ∃ we, we = wc := ⟨_, rfl⟩
          have hle2 := sn_le (fun x => ltV vw dk[a]! x) dk i2 j
          obtain ⟨j2, hJ2⟩ : ∃ j2, j2 = Sort.scanDown (fun x => ltV vw dk[a]! x) dk i2 j := ⟨_, rfl⟩
          rw [← hJ2] at hle2 ⊢
          have HJ2 : Hid _ := And.intro hJ2 trivial
          clear hJ2
          by_cases hgt : j2 < i2
          · have g1 : (j2 : Int) < (i2 : Int) := by omega
            have HRk : Hid (RowE w0 we g dk rest) := hRk
            clear hRk
            go_wp2_with fail
            go_ret
            have hf := pe_break (lt := ltV vw) HI2.out.1 HJ2.out.1 hgt
            rw [HO.out] at hf
            rw [hf]
            exact ⟨rfl, HRk.out⟩
          · have g1 : ¬ (j2 : Int) < (i2 : Int) := by omega
            obtain ⟨j3, rfl⟩ : ∃ j3, j2 = j3 + 1 := ⟨j2 - 1, by omega⟩
            have r0 : (0 : Int) ≤ (i2 : Int) := by omega
            have r1 : (i2 : Int) < (n : Int) := by omega
            have r2 : (0 : Int) ≤ (j3 : Int) + 1 := by omega
            have r3 : (j3 : Int) + 1 < (n : Int) := by omega
            have r4 : ((j3 : Int) + 1).toNat = j3 + 1 := by omega
            have r6 : IntKind.i64.wrap ((j3 : Int) + 1 - 1) = (j3 : Int) := by rw [IntKind.wrap_i64]; omega
            have r7 : IntKind.i64.wrap (j3 : Int) = (j3 : Int) := by rw [IntKind.wrap_i64]; omega
            have hnx := pe_next (lt := ltV vw) HI2.out.1 HJ2.out.1 hgt hge.1 hle2.1
            rw [Nat.add_sub_cancel] at hnx
            have HNX : Hid _ := And.intro hnx trivial
            clear hnx
            have f0 := hRk.free (i2 * 3)
            have f1 := hRk.free (i2 * 3 + 1)
            have f2 := hRk.free (i2 * 3 + 2)
            have f3 := hRk.free ((j3 + 1) * 3)
            have f4 := hRk.free ((j3 + 1) * 3 + 1)
            have f5 := hRk.free ((j3 + 1) * 3 + 2)
            obtain ⟨z0, z1, z2⟩ := hRk.cells (j := i2) (by have := HK.out.2; omega)
            obtain ⟨z3, z4, z5⟩ := hRk.cells (j := (j3 + 1)) (by have := HK.out.2; omega)
            obtain ⟨xe2, hxe2⟩ : ∃ xe, xe = dk[i2]! := ⟨_, rfl⟩
            obtain ⟨ye2, hye2⟩ : ∃ ye, ye = dk[(j3 + 1)]! := ⟨_, rfl⟩
            rw [← hxe2] at z0 z1 z2
            rw [← hye2] at z3 z4 z5
            have HE2 : Hid _ := And.intro hxe2 hye2
            clear hxe2 hye2
            obtain ⟨sa, sb, sc⟩ := xe2
            obtain ⟨ta, tb, tc⟩ := ye2
            simp only at z0 z1 z2 z3 z4 z5
            have HRk : Hid (RowE w0 we g dk rest) := hRk
            clear hRk
            by_cases hne : i2 = j3 + 1
            · subst hne
              have HB : Hid _ := And.intro hge (And.intro hle2 (And.intro hq hij))
              clear z3 z4 z5 f3 f4 f5 hgt g1 hge hle2 hq hij
              have g1 : ¬ (j3 : Int) + 1 < (j3 : Int) + 1 := by omega
              go_wp2_with fail
              go_region
              all_goals go_wp2_with fail
              go_roundg (j3 + 2 - (j3 + 1 + 1))
              case measure => obtain ⟨h1, h2, h3, h4⟩ := HB.out; omega
              case rel =>
                obtain ⟨h1, h2, h3, h4⟩ := HB.out
                refine ⟨j3 + 1 + 1, j3, Sort.swp dk (j3 + 1) (j3 + 1), by go_num, by go_num, by omega, by omega, by omega, Nat.le_refl _, by rw [Sort.size_swp]; exact HK.out.2, HRk.out.swapped (i := j3 + 1) (j := j3 + 1) (x := (sa, sb, sc)) (y := (sa, sb, sc)) (by have := HK.out.2; omega) (by have := HK.out.2; omega) HE2.out.1 HE2.out.1, (show Hid _ from ?_)⟩
                show _ = _
                rw [← HO.out, HNX.out.1]
            · have hne2 : ¬ j3 + 1 = i2 := fun e => hne e.symm
              go_wp2_with fail
              go_region
              all_goals go_wp2_with fail
              go_roundg (j3 + 2 - (i2 + 1))
              case measure => omega
              case rel =>
                refine ⟨i2 + 1, j3, Sort.swp dk i2 (j3 + 1), by go_num, by go_num, by omega, by omega, by omega, Nat.le_refl _, by rw [Sort.size_swp]; exact HK.out.2, HRk.out.swapped (i := i2) (j := j3 + 1) (x := (sa, sb, sc)) (y := (ta, tb, tc)) (by have := HK.out.2; omega) (by have := HK.out.2; omega) HE2.out.1 HE2.out.2, (show Hid _ from ?_)⟩
                show _ = _
                rw [← HO.out, HNX.out.1]
end
section
open Go.RowKit Go.Maps
attribute [local go_sem ↓] Go.wp_at_zero Go.wp_at_succ
theorem pl_break {lt : Sy.Ed → Sy.Ed → Bool} {a i j i2 j2 : Nat} {d : Array Sy.Ed} (hi : i2 = Sort.scanUp (fun x => lt x d[a]!) d j i) (hj : j2 = Sort.scanDown (fun x => !lt x d[a]!) d i2 j) (h : j2 < i2) : Sort.partLoop lt a i j d = (j2, d) := by
  rw [Sort.partLoop, ← hi, ← hj, if_pos h]
theorem pl_next {lt : Sy.Ed → Sy.Ed → Bool} {a i j i2 j2 : Nat} {d : Array Sy.Ed} (hi : i2 = Sort.scanUp (fun x => lt x d[a]!) d j i) (hj : j2 = Sort.scanDown (fun x => !lt x d[a]!) d i2 j) (h : ¬ j2 < i2) (h1 : i ≤ i2) (h2 : j2 ≤ j) : Sort.partLoop lt a i j d = Sort.partLoop lt a (i2 + 1) (j2 - 1) (Sort.swp d i2 j2) := by
  rw [Sort.partLoop, ← hi, ← hj, if_neg h, dif_pos (by omega)]
theorem pt_early {lt : Sy.Ed → Sy.Ed → Bool} {a b pivot i j i2 j2 : Nat} {d dk : Array Sy.Ed} (hd : dk = Sort.swp d a pivot) (h0 : i = a + 1) (h1 : j = b - 1) (hi : i2 = Sort.scanUp (fun x => lt x dk[a]!) dk j i) (hj : j2 = Sort.scanDown (fun x => !lt x dk[a]!) dk i2 j) (h : j2 < i2) : Sort.partition lt d a b pivot = (j2, true, Sort.swp dk j2 a) := by
  subst hd h0 h1
  simp only [Sort.partition, ← hi, ← hj]
  rw [if_pos h]
theorem pt_late {lt : Sy.Ed → Sy.Ed → Bool} {a b pivot i j i2 j2 : Nat} {d dk : Array Sy.Ed} (hd : dk = Sort.swp d a pivot) (h0 : i = a + 1) (h1 : j = b - 1) (hi : i2 = Sort.scanUp (fun x => lt x dk[a]!) dk j i) (hj : j2 = Sort.scanDown (fun x => !lt x dk[a]!) dk i2 j) (h : ¬ j2 < i2) : Sort.partition lt d a b pivot = ((Sort.partLoop lt a (i2 + 1) (j2 - 1) (Sort.swp dk i2 j2)).1, false, Sort.swp (Sort.partLoop lt a (i2 + 1) (j2 - 1) (Sort.swp dk i2 j2)).2 (Sort.partLoop lt a (i2 + 1) (j2 - 1) (Sort.swp dk i2 j2)).1 a) := by
  subst hd h0 h1
  simp only [Sort.partition, ← hi, ← hj]
  rw [if_neg h]
set_option maxRecDepth 100000 in
set_option maxHeartbeats 32000000 in
theorem partition_any (f : Nat) (vw : Sy.Ed → Sy.Ed) (hV : ViewAt f vw) (g cap a b pivot : Nat) (d : Array Sy.Ed) (rest : List Value) (w0 w : World) (hR : RowE w0 w g d rest) (hap : a ≤ pivot) (hpb : pivot < b) (hb : b ≤ d.size) (hsz : d.size ≤ 1000000) :
    Calls Tryz.prog 161 #[.slice (some ⟨g, 0, none⟩) d.size cap, .int .i64 a, .int .i64 b, .int .i64 pivot, cmpV f] w fun r w' => r = .returned (.tuple #[.int .i64 (Sort.partition (ltV vw) d a b pivot).1, .bool (Sort.partition (ltV vw) d a b pivot).2.1]) ∧ RowE w0 w' g (Sort.partition (ltV vw) d a b pivot).2.2 rest := by
  obtain ⟨n, hn⟩ : ∃ n, n = d.size := ⟨_, rfl⟩
  have HR : Hid _ := And.intro hR (And.intro hn hV)
  have HRs : Hid (RowE w0 w g d rest ∧ d.size = n) := ⟨hR, hn.symm⟩
  rw [← hn] at hb hsz ⊢
  unfold cmpV
  have he := enter_cmp
  have ba0 : (0 : Int) ≤ (a : Int) := by omega
  have ba1 : (a : Int) < (n : Int) := by omega
  have bpivot0 : (0 : Int) ≤ (pivot : Int) := by omega
  have bpivot1 : (pivot : Int) < (n : Int) := by omega
  have f0 := hR.free (a * 3)
  have f1 := hR.free (a * 3 + 1)
  have f2 := hR.free (a * 3 + 2)
  have f3 := hR.free (pivot * 3)
  have f4 := hR.free (pivot * 3 + 1)
  have f5 := hR.free (pivot * 3 + 2)
  obtain ⟨z0, z1, z2⟩ := hR.cells (j := a) (by omega)
  obtain ⟨z3, z4, z5⟩ := hR.cells (j := pivot) (by omega)
  obtain ⟨xe2, hxe2⟩ : ∃ xe, xe = d[a]! := ⟨_, rfl⟩
  obtain ⟨ye2, hye2⟩ : ∃ ye, ye = d[pivot]! := ⟨_, rfl⟩
  rw [← hxe2] at z0 z1 z2
  rw [← hye2] at z3 z4 z5
  have HE2 : Hid _ := And.intro hxe2 hye2
  clear hxe2 hye2
  obtain ⟨sa, sb, sc⟩ := xe2
  obtain ⟨ta, tb, tc⟩ := ye2
  simp only at z0 z1 z2 z3 z4 z5
  clear hR hn hV
  go_enter Tryz.func161, Tryz.ntmps161
  go_upto_region 1 with fail
  go_cut [13] (fun _ wx => RowE w0 wx g (Sort.swp d a pivot) rest)
  case first =>
    by_cases hne : a = pivot
    · subst hne
      go_region
      all_goals go_wp2_with fail
      all_goals (go_meet; case rel => exact HRs.out.1.swapped (i := a) (j := a) (x := (sa, sb, sc)) (y := (sa, sb, sc)) (by have := HRs.out.2; omega) (by have := HRs.out.2; omega) HE2.out.1 HE2.out.1)
    · have hne2 : ¬ pivot = a := fun e => hne e.symm
      go_region
      all_goals go_wp2_with fail
      all_goals (go_meet; case rel => exact HRs.out.1.swapped (i := a) (j := pivot) (x := (sa, sb, sc)) (y := (ta, tb, tc)) (by have := HRs.out.2; omega) (by have := HRs.out.2; omega) HE2.out.1 HE2.out.2)
  case rest =>
    obtain ⟨dk, hdk⟩ : ∃ dk, dk = Sort.swp d a pivot := ⟨_, rfl⟩
    have HK : Hid (True ∧ dk.size = n) := ⟨trivial, by rw [hdk, Sort.size_swp]; exact HR.out.2.1.symm⟩
    rw [← hdk] at hcut
    have HDK : Hid _ := And.intro hdk trivial
    obtain ⟨wq, rfl⟩ : ∃ wq, wq = wc := ⟨_, rfl⟩
    have HRk : Hid (RowE w0 wq g dk rest) := hcut
    clear hcut hdk f0 f1 f2 f3 f4 f5 z0 z1 z2 z3 z4 z5 HE2 HRs
    obtain ⟨i, hi0⟩ : ∃ i, i = a + 1 := ⟨_, rfl⟩
    obtain ⟨j, hj0⟩ : ∃ j, j = b - 1 := ⟨_, rfl⟩
    have hai : a + 1 ≤ i := by omega
    have hij : i ≤ j + 1 := by omega
    have hjn : j < n := by omega
    have haj : a ≤ j := by omega
    have e1 : IntKind.i64.wrap ((b : Int) - 1) = ((b - 1 : Nat) : Int) := by rw [IntKind.wrap_i64]; omega
    have e1' : (b : Int) - 1 = ((b - 1 : Nat) : Int) := by omega
    have HIJ : Hid (i = a + 1 ∧ j = b - 1) := ⟨hi0, hj0⟩
    clear hi0 hj0
    go_upto_region 2 with fail
    go_cut [12, 13] (fun iv jv wx => iv = .int .i64 i ∧ jv = .int .i64 j ∧ RowE w0 wx g dk rest)
    case first =>
      go_wp2_with fail
      go_meet
      case rel => exact ⟨by rw [HIJ.out.1]; go_num, by rw [HIJ.out.2], HRk.out⟩
    case rest =>
    obtain ⟨rfl, rfl, hRk⟩ := hcut
    obtain ⟨wq, rfl⟩ : ∃ wq, wq = wc := ⟨_, rfl⟩
    clear HRk e1 e1'
    have HRk : Hid (RowE w0 wq g dk rest) := hRk
    clear hRk
    go_upto_block 0 with fail
    go_cut [12] (fun iv wx => iv = .int .i64 ((Sort.scanUp (fun x => ltV vw x dk[a]!) dk j i : Nat) : Int) ∧ RowE w0 wx g dk rest)
    case first =>
      go_wp2_with fail
      go_loopg [12] (j + 1) (fun q iv wr => ∃ i1 : Nat, iv = .int .i64 i1 ∧ i ≤ i1 ∧ i1 ≤ j + 2 ∧ j + 1 - i1 ≤ q ∧ RowE w0 wr g dk rest ∧ Hid (Sort.scanUp (fun x => ltV vw x dk[a]!) dk j i1 = Sort.scanUp (fun x => ltV vw x dk[a]!) dk j i))
      case atStart => exact ⟨i, rfl, Nat.le_refl _, by omega, by omega, HRk.out, rfl⟩
      case round =>
        obtain ⟨i1, rfl, hi1, hi2, hq1, hR1, HU⟩ := hrel
        by_cases hle : i1 ≤ j
        · have g1 : decide ((i1 : Int) ≤ (j : Int)) = true := decide_eq_true (by omega)
          have g2 : (i1 : Int) ≤ (j : Int) := by omega
          have hx1 : i1 < n := by omega
          have bi10 : (0 : Int) ≤ (i1 : Int) := by omega
          have bi11 : (i1 : Int) < (n : Int) := by omega
          have ba0 : (0 : Int) ≤ (a : Int) := by omega
          have ba1 : (a : Int) < (n : Int) := by omega
          obtain ⟨x0, x1, x2⟩ := hR1.cells (j := i1) (by have := HK.out.2; omega)
          obtain ⟨y0, y1, y2⟩ := hR1.cells (j := a) (by have := HK.out.2; omega)
          have hcm := fun W => compare_any f vw HR.out.2.2 (dk[i1]!) (dk[a]!) W
          unfold edV at hcm
          have hlt2 := cmpV_neg vw (dk[i1]!) (dk[a]!)
          obtain ⟨xe, hxe⟩ : ∃ xe, xe = dk[i1]! := ⟨_, rfl⟩
          obtain ⟨ye, hye⟩ : ∃ ye, ye = dk[a]! := ⟨_, rfl⟩
          rw [← hxe] at x0 x1 x2 hcm hlt2
          rw [← hye] at y0 y1 y2 hcm hlt2
          have HE : Hid _ := And.intro hxe hye
          clear hxe hye
          obtain ⟨xa, xb, xc⟩ := xe
          obtain ⟨ya, yb, yc⟩ := ye
          generalize cmpE (vw (xa, xb, xc)) (vw (ya, yb, yc)) = c at hcm hlt2
          have HC : Hid _ := hcm
          have HL : Hid _ := hlt2
          clear hcm hlt2
          simp only at x0 x1 x2 y0 y1 y2
          have H1 : Hid (RowE w0 wr g dk rest) := hR1
          clear hR1
          by_cases hc : c < 0
          · have p6 : decide (c < 0) = true := decide_eq_true hc
            go_upto_region 3 with fail
            go_region_held3 (fun w' => ((w'.cell? ⟨g, i1 * 3, none⟩ = some (.int .i64 xa) ∧ w'.cell? ⟨g, i1 * 3 + 1, none⟩ = some (.int .i64 xb) ∧ w'.cell? ⟨g, i1 * 3 + 2, none⟩ = some (.int .i64 xc)) ∧ (w'.cell? ⟨g, a * 3, none⟩ = some (.int .i64 ya) ∧ w'.cell? ⟨g, a * 3 + 1, none⟩ = some (.int .i64 yb) ∧ w'.cell? ⟨g, a * 3 + 2, none⟩ = some (.int .i64 yc))) ∧ Hid (Below wr.heap.size wr w')) (first | exact rg_up6 hb3 (by assumption) | exact ⟨⟨⟨x0, x1, x2⟩, ⟨y0, y1, y2⟩⟩, ((Below.refl _ _).drew : Below wr.heap.size wr wr.drew)⟩ | go_keep)
              ((first
                | (go_at_fn 133; refine (HC.out _).mono ?_; rintro r w3 ⟨rfl, hb3⟩)
                | fail))
            have hbq : Below wr.heap.size wr w3 := rg_b (by assumption)
            clear x0 x1 x2 y0 y1 y2 hb3 HC
            rename_i hS3
            clear hS3
            have H3 : Hid (RowE w0 w3 g dk rest) := H1.out.below hbq
            clear hbq
            go_wp2_with fail
            go_roundg (j + 1 - (i1 + 1))
            case measure => omega
            case rel =>
              refine ⟨i1 + 1, by go_num, by omega, by omega, Nat.le_refl _, H3.out, (show Hid _ from ?_)⟩
              show _ = _
              rw [← HU.out, su_go hle (by have h7 : ltV vw dk[i1]! dk[a]! = true := (by rw [← HE.out.1, ← HE.out.2]; exact HL.out.1 hc); simp [h7])]
          · have p6 : decide (c < 0) = false := decide_eq_false hc
            go_upto_region 3 with fail
            go_region_held3 (fun w' => ((w'.cell? ⟨g, i1 * 3, none⟩ = some (.int .i64 xa) ∧ w'.cell? ⟨g, i1 * 3 + 1, none⟩ = some (.int .i64 xb) ∧ w'.cell? ⟨g, i1 * 3 + 2, none⟩ = some (.int .i64 xc)) ∧ (w'.cell? ⟨g, a * 3, none⟩ = some (.int .i64 ya) ∧ w'.cell? ⟨g, a * 3 + 1, none⟩ = some (.int .i64 yb) ∧ w'.cell? ⟨g, a * 3 + 2, none⟩ = some (.int .i64 yc))) ∧ Hid (Below wr.heap.size wr w')) (first | exact rg_up6 hb3 (by assumption) | exact ⟨⟨⟨x0, x1, x2⟩, ⟨y0, y1, y2⟩⟩, ((Below.refl _ _).drew : Below wr.heap.size wr wr.drew)⟩ | go_keep)
              ((first
                | (go_at_fn 133; refine (HC.out _).mono ?_; rintro r w3 ⟨rfl, hb3⟩)
                | fail))
            have hbq : Below wr.heap.size wr w3 := rg_b (by assumption)
            clear x0 x1 x2 y0 y1 y2 hb3 HC
            rename_i hS3
            clear hS3
            have H3 : Hid (RowE w0 w3 g dk rest) := H1.out.below hbq
            clear hbq
            go_wp2_with fail
            go_meet
            case rel => exact ⟨by rw [← HU.out, su_stop (by have h7 : ltV vw dk[i1]! dk[a]! = false := (by rw [← HE.out.1, ← HE.out.2]; cases h : ltV vw (xa, xb, xc) (ya, yb, yc) with | false => rfl | true => exact absurd (HL.out.2 h) (by omega)); simp [h7])], H3.out⟩
        · have g1 : decide ((i1 : Int) ≤ (j : Int)) = false := decide_eq_false (by omega)
          have g2 : ¬ (i1 : Int) ≤ (j : Int) := by omega
          have H1 : Hid (RowE w0 wr g dk rest) := hR1
          clear hR1
          go_wp2_with fail
          go_region
          all_goals go_wp2_with fail
          all_goals (go_meet; case rel => exact ⟨by rw [← HU.out, su_far hle], H1.out.below (Below.refl _ _).drew⟩)
    case rest =>
      obtain ⟨rfl, hRk⟩ := hcut
      obtain ⟨wd, rfl⟩ : ∃ wd, wd = wc := ⟨_, rfl⟩
      have hge := su_ge (fun x => ltV vw x dk[a]!) dk j (j + 1) i (by omega)
      obtain ⟨i2, hI2⟩ : ∃ i2, i2 = Sort.scanUp (fun x => ltV vw x dk[a]!) dk j i := ⟨_, rfl⟩
      rw [← hI2] at hge ⊢
      have HI2 : Hid _ := And.intro hI2 trivial
      have HRk : Hid (RowE w0 wd g dk rest) := hRk
      clear hRk hI2
      go_upto_block 2 with fail
      go_cut [13] (fun iv wx => iv = .int .i64 ((Sort.scanDown (fun x => !ltV vw x dk[a]!) dk i2 j : Nat) : Int) ∧ RowE w0 wx g dk rest)
      case first =>
        go_wp2_with fail
        go_loopg [13] (j + 1) (fun q jv wr => ∃ j1 : Nat, jv = .int .i64 j1 ∧ j1 ≤ j ∧ i2 ≤ j1 + 2 ∧ j1 < n ∧ j1 ≤ q ∧ RowE w0 wr g dk rest ∧ Hid (Sort.scanDown (fun x => !ltV vw x dk[a]!) dk i2 j1 = Sort.scanDown (fun x => !ltV vw x dk[a]!) dk i2 j))
        case atStart => exact ⟨j, rfl, Nat.le_refl _, by omega, by omega, by omega, HRk.out, rfl⟩
        case round =>
          obtain ⟨j1, rfl, hj1, hj2, hj3, hq1, hR1, HU⟩ := hrel
          by_cases hle : i2 ≤ j1
          · have g1 : decide ((i2 : Int) ≤ (j1 : Int)) = true := decide_eq_true (by omega)
            have g2 : (i2 : Int) ≤ (j1 : Int) := by omega
            have hx1 : j1 < n := by omega
            have bj10 : (0 : Int) ≤ (j1 : Int) := by omega
            have bj11 : (j1 : Int) < (n : Int) := by omega
            have ba0 : (0 : Int) ≤ (a : Int) := by omega
            have ba1 : (a : Int) < (n : Int) := by omega
            obtain ⟨x0, x1, x2⟩ := hR1.cells (j := j1) (by have := HK.out.2; omega)
            obtain ⟨y0, y1, y2⟩ := hR1.cells (j := a) (by have := HK.out.2; omega)
            have hcm := fun W => compare_any f vw HR.out.2.2 (dk[j1]!) (dk[a]!) W
            unfold edV at hcm
            have hlt2 := cmpV_neg vw (dk[j1]!) (dk[a]!)
            obtain ⟨xe, hxe⟩ : ∃ xe, xe = dk[j1]! := ⟨_, rfl⟩
            obtain ⟨ye, hye⟩ : ∃ ye, ye = dk[a]! := ⟨_, rfl⟩
            rw [← hxe] at x0 x1 x2 hcm hlt2
            rw [← hye] at y0 y1 y2 hcm hlt2
            have HE : Hid _ := And.intro hxe hye
            clear hxe hye
            obtain ⟨xa, xb, xc⟩ := xe
            obtain ⟨ya, yb, yc⟩ := ye
            generalize cmpE (vw (xa, xb, xc)) (vw (ya, yb, yc)) = c at hcm hlt2
            have HC : Hid _ := hcm
            have HL : Hid _ := hlt2
            clear hcm hlt2
            simp only at x0 x1 x2 y0 y1 y2
            have H1 : Hid (RowE w0 wr g dk rest) := hR1
            clear hR1
            by_cases hc : c < 0
            · have p6 : decide (c < 0) = true := decide_eq_true hc
              go_upto_region 5 with fail
              go_region_held3 (fun w' => ((w'.cell? ⟨g, j1 * 3, none⟩ = some (.int .i64 xa) ∧ w'.cell? ⟨g, j1 * 3 + 1, none⟩ = some (.int .i64 xb) ∧ w'.cell? ⟨g, j1 * 3 + 2, none⟩ = some (.int .i64 xc)) ∧ (w'.cell? ⟨g, a * 3, none⟩ = some (.int .i64 ya) ∧ w'.cell? ⟨g, a * 3 + 1, none⟩ = some (.int .i64 yb) ∧ w'.cell? ⟨g, a * 3 + 2, none⟩ = some (.int .i64 yc))) ∧ Hid (Below wr.heap.size wr w')) (first | exact rg_up6 hb3 (by assumption) | exact ⟨⟨⟨x0, x1, x2⟩, ⟨y0, y1, y2⟩⟩, ((Below.refl _ _).drew : Below wr.heap.size wr wr.drew)⟩ | go_keep)
                ((first
                  | (go_at_fn 133; refine (HC.out _).mono ?_; rintro r w3 ⟨rfl, hb3⟩)
                  | fail))
              have hbq : Below wr.heap.size wr w3 := rg_b (by assumption)
              clear x0 x1 x2 y0 y1 y2 hb3 HC
              rename_i hS3
              clear hS3
              have H3 : Hid (RowE w0 w3 g dk rest) := H1.out.below hbq
              clear hbq
              go_wp2_with fail
              go_meet
              case rel => exact ⟨by rw [← HU.out, sn_stop (by have h7 : ltV vw dk[j1]! dk[a]! = true := (by rw [← HE.out.1, ← HE.out.2]; exact HL.out.1 hc); simp [h7])], H3.out⟩
            · have p6 : decide (c < 0) = false := decide_eq_false hc
              go_upto_region 5 with fail
              go_region_held3 (fun w' => ((w'.cell? ⟨g, j1 * 3, none⟩ = some (.int .i64 xa) ∧ w'.cell? ⟨g, j1 * 3 + 1, none⟩ = some (.int .i64 xb) ∧ w'.cell? ⟨g, j1 * 3 + 2, none⟩ = some (.int .i64 xc)) ∧ (w'.cell? ⟨g, a * 3, none⟩ = some (.int .i64 ya) ∧ w'.cell? ⟨g, a * 3 + 1, none⟩ = some (.int .i64 yb) ∧ w'.cell? ⟨g, a * 3 + 2, none⟩ = some (.int .i64 yc))) ∧ Hid (Below wr.heap.size wr w')) (first | exact rg_up6 hb3 (by assumption) | exact ⟨⟨⟨x0, x1, x2⟩, ⟨y0, y1, y2⟩⟩, ((Below.refl _ _).drew : Below wr.heap.size wr wr.drew)⟩ | go_keep)
                ((first
                  | (go_at_fn 133; refine (HC.out _).mono ?_; rintro r w3 ⟨rfl, hb3⟩)
                  | fail))
              have hbq : Below wr.heap.size wr w3 := rg_b (by assumption)
              clear x0 x1 x2 y0 y1 y2 hb3 HC
              rename_i hS3
              clear hS3
              have H3 : Hid (RowE w0 w3 g dk rest) := H1.out.below hbq
              clear hbq
              go_wp2_with fail
              go_roundg (j1 - 1)
              case measure => omega
              case rel =>
                refine ⟨j1 - 1, by first | go_num | (congr 1; omega), by omega, by omega, by omega, Nat.le_refl _, H3.out, (show Hid _ from ?_)⟩
                show _ = _
                have h8 : (fun x => !ltV vw x dk[a]!) dk[j1]! = true := by have h7 : ltV vw dk[j1]! dk[a]! = false := (by rw [← HE.out.1, ← HE.out.2]; cases h : ltV vw (xa, xb, xc) (ya, yb, yc) with | false => rfl | true => exact absurd (HL.out.2 h) (by omega)); simp [h7]
                obtain ⟨jq, rfl⟩ : ∃ jq, j1 = jq + 1 := ⟨j1 - 1, by omega⟩
                rw [← HU.out, sn_go hle h8]
                rfl
          · have g1 : decide ((i2 : Int) ≤ (j1 : Int)) = false := decide_eq_false (by omega)
            have g2 : ¬ (i2 : Int) ≤ (j1 : Int) := by omega
            have H1 : Hid (RowE w0 wr g dk rest) := hR1
            clear hR1
            go_wp2_with fail
            go_region
            all_goals go_wp2_with fail
            all_goals (go_meet; case rel => exact ⟨by rw [← HU.out, sn_far hle], H1.out.below (Below.refl _ _).drew⟩)
      case rest =>
        obtain ⟨rfl, hRk⟩ := hcut
        obtain ⟨we, rfl⟩ : ∃ we, we = wc := ⟨_, rfl⟩
        have hle2 := sn_le (fun x => !ltV vw x dk[a]!) dk i2 j
        have hfar : ¬ i2 ≤ j → Sort.scanDown (fun x => !ltV vw x dk[a]!) dk i2 j = j := fun h => sn_far h
        obtain ⟨j2, hJ2⟩ : ∃ j2, j2 = Sort.scanDown (fun x => !ltV vw x dk[a]!) dk i2 j := ⟨_, rfl⟩
        rw [← hJ2] at hle2 hfar ⊢
        have hja : a ≤ j2 := by
          by_cases h : i2 ≤ j
          · have := hle2.2 (by omega); omega
          · rw [hfar h]; exact haj
        have HJ2 : Hid _ := And.intro hJ2 trivial
        clear hJ2 hfar
        by_cases hgt : j2 < i2
        · have g1 : (j2 : Int) < (i2 : Int) := by omega
          have hfin := pt_early (lt := ltV vw) (b := b) HDK.out.1 HIJ.out.1 HIJ.out.2 HI2.out.1 HJ2.out.1 hgt
          have HF : Hid _ := And.intro hfin trivial
          clear hfin
          have r0 : (0 : Int) ≤ (j2 : Int) := by omega
          have r1 : (j2 : Int) < (n : Int) := by omega
          have r2 : (0 : Int) ≤ (a : Int) := by omega
          have r3 : (a : Int) < (n : Int) := by omega
          have f0 := hRk.free (j2 * 3)
          have f1 := hRk.free (j2 * 3 + 1)
          have f2 := hRk.free (j2 * 3 + 2)
          have f3 := hRk.free (a * 3)
          have f4 := hRk.free (a * 3 + 1)
          have f5 := hRk.free (a * 3 + 2)
          obtain ⟨z0, z1, z2⟩ := hRk.cells (j := j2) (by have := HK.out.2; omega)
          obtain ⟨z3, z4, z5⟩ := hRk.cells (j := a) (by have := HK.out.2; omega)
          obtain ⟨xe2, hxe2⟩ : ∃ xe, xe = dk[j2]! := ⟨_, rfl⟩
          obtain ⟨ye2, hye2⟩ : ∃ ye, ye = dk[a]! := ⟨_, rfl⟩
          rw [← hxe2] at z0 z1 z2
          rw [← hye2] at z3 z4 z5
          have HE2 : Hid _ := And.intro hxe2 hye2
          clear hxe2 hye2
          obtain ⟨sa, sb, sc⟩ := xe2
          obtain ⟨ta, tb, tc⟩ := ye2
          simp only at z0 z1 z2 z3 z4 z5
          have HRk : Hid (RowE w0 we g dk rest) := hRk
          clear hRk
          by_cases hne : j2 = a
          · subst hne
            clear z3 z4 z5 f3 f4 f5
            go_wp2_with fail
            go_region
            all_goals go_wp2_with fail
            all_goals (go_ret2; rw [HF.out.1]; exact ⟨rfl, HRk.out.swapped (i := j2) (j := j2) (x := (sa, sb, sc)) (y := (sa, sb, sc)) (by have := HK.out.2; omega) (by have := HK.out.2; omega) HE2.out.1 HE2.out.1⟩)
          · have hne2 : ¬ a = j2 := fun e => hne e.symm
            go_wp2_with fail
            go_region
            all_goals go_wp2_with fail
            all_goals (go_ret2; rw [HF.out.1]; exact ⟨rfl, HRk.out.swapped (i := j2) (j := a) (x := (sa, sb, sc)) (y := (ta, tb, tc)) (by have := HK.out.2; omega) (by have := HK.out.2; omega) HE2.out.1 HE2.out.2⟩)
        · have hfin := pt_late (lt := ltV vw) (b := b) HDK.out.1 HIJ.out.1 HIJ.out.2 HI2.out.1 HJ2.out.1 hgt
          have HF : Hid _ := And.intro hfin trivial
          clear hfin
          have g1 : ¬ (j2 : Int) < (i2 : Int) := by omega
          obtain ⟨j3, rfl⟩ : ∃ j3, j2 = j3 + 1 := ⟨j2 - 1, by omega⟩
          have r0 : (0 : Int) ≤ (i2 : Int) := by omega
          have r1 : (i2 : Int) < (n : Int) := by omega
          have r2 : (0 : Int) ≤ (j3 : Int) + 1 := by omega
          have r3 : (j3 : Int) + 1 < (n : Int) := by omega
          have r4 : ((j3 : Int) + 1).toNat = j3 + 1 := by omega
          have r6 : IntKind.i64.wrap ((j3 : Int) + 1 - 1) = (j3 : Int) := by rw [IntKind.wrap_i64]; omega
          have r7 : IntKind.i64.wrap (j3 : Int) = (j3 : Int) := by rw [IntKind.wrap_i64]; omega
          rw [Nat.add_sub_cancel] at HF
          have f0 := hRk.free (i2 * 3)
          have f1 := hRk.free (i2 * 3 + 1)
          have f2 := hRk.free (i2 * 3 + 2)
          have f3 := hRk.free ((j3 + 1) * 3)
          have f4 := hRk.free ((j3 + 1) * 3 + 1)
          have f5 := hRk.free ((j3 + 1) * 3 + 2)
          obtain ⟨z0, z1, z2⟩ := hRk.cells (j := i2) (by have := HK.out.2; omega)
          obtain ⟨z3, z4, z5⟩ := hRk.cells (j := (j3 + 1)) (by have := HK.out.2; omega)
          obtain ⟨xe2, hxe2⟩ : ∃ xe, xe = dk[i2]! := ⟨_, rfl⟩
          obtain ⟨ye2, hye2⟩ : ∃ ye, ye = dk[(j3 + 1)]! := ⟨_, rfl⟩
          rw [← hxe2] at z0 z1 z2
          rw [← hye2] at z3 z4 z5
          have HE2 : Hid _ := And.intro hxe2 hye2
          clear hxe2 hye2
          obtain ⟨sa, sb, sc⟩ := xe2
          obtain ⟨ta, tb, tc⟩ := ye2
          simp only at z0 z1 z2 z3 z4 z5
          have HRk : Hid (RowE w0 we g dk rest) := hRk
          clear hRk
          go_upto_region 10 with fail
          go_cut [99] (fun _ wx => RowE w0 wx g (Sort.swp dk i2 (j3 + 1)) rest)
          case first =>
            by_cases hne : i2 = j3 + 1
            · subst hne
              clear z3 z4 z5 f3 f4 f5 hgt g1 hge hle2 hij
              go_region
              all_goals go_wp2_with fail
              all_goals (go_meet; case rel => exact HRk.out.swapped (i := j3 + 1) (j := j3 + 1) (x := (sa, sb, sc)) (y := (sa, sb, sc)) (by have := HK.out.2; omega) (by have := HK.out.2; omega) HE2.out.1 HE2.out.1)
            · have hne2 : ¬ j3 + 1 = i2 := fun e => hne e.symm
              go_region
              all_goals go_wp2_with fail
              all_goals (go_meet; case rel => exact HRk.out.swapped (i := i2) (j := j3 + 1) (x := (sa, sb, sc)) (y := (ta, tb, tc)) (by have := HK.out.2; omega) (by have := HK.out.2; omega) HE2.out.1 HE2.out.2)
          case rest =>
            have HS : Hid (RowE w0 wc g (Sort.swp dk i2 (j3 + 1)) rest) := hcut
            clear hcut f0 f1 f2 f3 f4 f5 z0 z1 z2 z3 z4 z5 HE2 HRk
            generalize hdl : Sort.swp dk i2 (j3 + 1) = dl at HS HF
            have hsl : dl.size = n := by rw [← hdl, Sort.size_swp]; exact HK.out.2
            have HSL : Hid (True ∧ dl.size = n) := ⟨trivial, hsl⟩
            clear hdl hsl HK HDK HI2 HJ2
            obtain ⟨i0, hi9⟩ : ∃ i0, i0 = i2 + 1 := ⟨_, rfl⟩
            have hb9 : a + 1 ≤ i0 ∧ i0 ≤ j3 + 2 ∧ j3 < n ∧ a ≤ j3 := by omega
            rw [← hi9] at HF
            clear hgt hge hle2 hij hai hjn haj hja HIJ
            go_wp2_with fail
            go_loopg [12, 13] (n + 2) (fun q iv jv wr => ∃ (i j : Nat) (dk : Array Sy.Ed), iv = .int .i64 i ∧ jv = .int .i64 j ∧ a + 1 ≤ i ∧ i ≤ j + 2 ∧ j < n ∧ a ≤ j ∧ j + 2 - i ≤ q ∧ dk.size = n ∧ RowE w0 wr g dk rest ∧ Hid (Sort.partLoop (ltV vw) a i j dk = Sort.partLoop (ltV vw) a i0 j3 dl))
            case atStart => exact ⟨i0, j3, dl, by rw [hi9]; go_num, by first | rfl | go_num, hb9.1, hb9.2.1, hb9.2.2.1, hb9.2.2.2, by omega, HSL.out.2, HS.out, rfl⟩
            case round =>
              obtain ⟨i, j, dk, rfl, rfl, hai, hij, hjn, haj, hq, hsk, hRk, HO⟩ := hrel
              have HK : Hid (True ∧ dk.size = n) := ⟨trivial, hsk⟩
              have HRk : Hid (RowE w0 wr g dk rest) := hRk
              obtain ⟨wq, rfl⟩ : ∃ wq, wq = wr := ⟨_, rfl⟩
              clear hRk hsk r0 r1 r2 r3 r4 r6 r7 g1
              go_upto_block 6 with fail
              go_cut [12] (fun iv wx => iv = .int .i64 ((Sort.scanUp (fun x => ltV vw x dk[a]!) dk j i : Nat) : Int) ∧ RowE w0 wx g dk rest)
              case first =>
                go_wp2_with fail
                go_loopg [12] (j + 1) (fun q iv wr => ∃ i1 : Nat, iv = .int .i64 i1 ∧ i ≤ i1 ∧ i1 ≤ j + 2 ∧ j + 1 - i1 ≤ q ∧ RowE w0 wr g dk rest ∧ Hid (Sort.scanUp (fun x => ltV vw x dk[a]!) dk j i1 = Sort.scanUp (fun x => ltV vw x dk[a]!) dk j i))
                case atStart => exact ⟨i, rfl, Nat.le_refl _, by omega, by omega, HRk.out, rfl⟩
                case round =>
                  obtain ⟨i1, rfl, hi1, hi2, hq1, hR1, HU⟩ := hrel
                  by_cases hle : i1 ≤ j
                  · have g1 : decide ((i1 : Int) ≤ (j : Int)) = true := decide_eq_true (by omega)
                    have g2 : (i1 : Int) ≤ (j : Int) := by omega
                    have hx1 : i1 < n := by omega
                    have bi10 : (0 : Int) ≤ (i1 : Int) := by omega
                    have bi11 : (i1 : Int) < (n : Int) := by omega
                    have ba0 : (0 : Int) ≤ (a : Int) := by omega
                    have ba1 : (a : Int) < (n : Int) := by omega
                    obtain ⟨x0, x1, x2⟩ := hR1.cells (j := i1) (by have := HK.out.2; omega)
                    obtain ⟨y0, y1, y2⟩ := hR1.cells (j := a) (by have := HK.out.2; omega)
                    have hcm := fun W => compare_any f vw HR.out.2.2 (dk[i1]!) (dk[a]!) W
                    unfold edV at hcm
                    have hlt2 := cmpV_neg vw (dk[i1]!) (dk[a]!)
                    obtain ⟨xe, hxe⟩ : ∃ xe, xe = dk[i1]! := ⟨_, rfl⟩
                    obtain ⟨ye, hye⟩ : ∃ ye, ye = dk[a]! := ⟨_, rfl⟩
                    rw [← hxe] at x0 x1 x2 hcm hlt2
                    rw [← hye] at y0 y1 y2 hcm hlt2
                    have HE : Hid _ := And.intro hxe hye
                    clear hxe hye
                    obtain ⟨xa, xb, xc⟩ := xe
                    obtain ⟨ya, yb, yc⟩ := ye
                    generalize cmpE (vw (xa, xb, xc)) (vw (ya, yb, yc)) = c at hcm hlt2
                    have HC : Hid _ := hcm
                    have HL : Hid _ := hlt2
                    clear hcm hlt2
                    simp only at x0 x1 x2 y0 y1 y2
                    have H1 : Hid (RowE w0 wr g dk rest) := hR1
                    clear hR1
                    by_cases hc : c < 0
                    · have p6 : decide (c < 0) = true := decide_eq_true hc
                      go_upto_region 13 with fail
                      go_region_held3 (fun w' => ((w'.cell? ⟨g, i1 * 3, none⟩ = some (.int .i64 xa) ∧ w'.cell? ⟨g, i1 * 3 + 1, none⟩ = some (.int .i64 xb) ∧ w'.cell? ⟨g, i1 * 3 + 2, none⟩ = some (.int .i64 xc)) ∧ (w'.cell? ⟨g, a * 3, none⟩ = some (.int .i64 ya) ∧ w'.cell? ⟨g, a * 3 + 1, none⟩ = some (.int .i64 yb) ∧ w'.cell? ⟨g, a * 3 + 2, none⟩ = some (.int .i64 yc))) ∧ Hid (Below wr.heap.size wr w')) (first | exact rg_up6 hb3 (by assumption) | exact ⟨⟨⟨x0, x1, x2⟩, ⟨y0, y1, y2⟩⟩, ((Below.refl _ _).drew : Below wr.heap.size wr wr.drew)⟩ | go_keep)
                        ((first
                          | (go_at_fn 133; refine (HC.out _).mono ?_; rintro r w3 ⟨rfl, hb3⟩)
                          | fail))
                      have hbq : Below wr.heap.size wr w3 := rg_b (by assumption)
                      clear x0 x1 x2 y0 y1 y2 hb3 HC
                      rename_i hS3
                      clear hS3
                      have H3 : Hid (RowE w0 w3 g dk rest) := H1.out.below hbq
                      clear hbq
                      go_wp2_with fail
                      go_roundg (j + 1 - (i1 + 1))
                      case measure => omega
                      case rel =>
                        refine ⟨i1 + 1, by go_num, by omega, by omega, Nat.le_refl _, H3.out, (show Hid _ from ?_)⟩
                        show _ = _
                        rw [← HU.out, su_go hle (by have h7 : ltV vw dk[i1]! dk[a]! = true := (by rw [← HE.out.1, ← HE.out.2]; exact HL.out.1 hc); simp [h7])]
                    · have p6 : decide (c < 0) = false := decide_eq_false hc
                      go_upto_region 13 with fail
                      go_region_held3 (fun w' => ((w'.cell? ⟨g, i1 * 3, none⟩ = some (.int .i64 xa) ∧ w'.cell? ⟨g, i1 * 3 + 1, none⟩ = some (.int .i64 xb) ∧ w'.cell? ⟨g, i1 * 3 + 2, none⟩ = some (.int .i64 xc)) ∧ (w'.cell? ⟨g, a * 3, none⟩ = some (.int .i64 ya) ∧ w'.cell? ⟨g, a * 3 + 1, none⟩ = some (.int .i64 yb) ∧ w'.cell? ⟨g, a * 3 + 2, none⟩ = some (.int .i64 yc))) ∧ Hid (Below wr.heap.size wr w')) (first | exact rg_up6 hb3 (by assumption) | exact ⟨⟨⟨x0, x1, x2⟩, ⟨y0, y1, y2⟩⟩, ((Below.refl _ _).drew : Below wr.heap.size wr wr.drew)⟩ | go_keep)
                        ((first
                          | (go_at_fn 133; refine (HC.out _).mono ?_; rintro r w3 ⟨rfl, hb3⟩)
                          | fail))
                      have hbq : Below wr.heap.size wr w3 := rg_b (by assumption)
                      clear x0 x1 x2 y0 y1 y2 hb3 HC
                      rename_i hS3
                      clear hS3
                      have H3 : Hid (RowE w0 w3 g dk rest) := H1.out.below hbq
                      clear hbq
                      go_wp2_with fail
                      go_meet
                      case rel => exact ⟨by rw [← HU.out, su_stop (by have h7 : ltV vw dk[i1]! dk[a]! = false := (by rw [← HE.out.1, ← HE.out.2]; cases h : ltV vw (xa, xb, xc) (ya, yb, yc) with | false => rfl | true => exact absurd (HL.out.2 h) (by omega)); simp [h7])], H3.out⟩
                  · have g1 : decide ((i1 : Int) ≤ (j : Int)) = false := decide_eq_false (by omega)
                    have g2 : ¬ (i1 : Int) ≤ (j : Int) := by omega
                    have H1 : Hid (RowE w0 wr g dk rest) := hR1
                    clear hR1
                    go_wp2_with fail
                    go_region
                    all_goals go_wp2_with fail
                    all_goals (go_meet; case rel => exact ⟨by rw [← HU.out, su_far hle], H1.out.below (Below.refl _ _).drew⟩)
              case rest =>
                obtain ⟨rfl, hRk⟩ := hcut
                obtain ⟨wd, rfl⟩ : ∃ wd, wd = wc := ⟨_, rfl⟩
                have hge := su_ge (fun x => ltV vw x dk[a]!) dk j (j + 1) i (by omega)
                obtain ⟨i2, hI2⟩ : ∃ i2, i2 = Sort.scanUp (fun x => ltV vw x dk[a]!) dk j i := ⟨_, rfl⟩
                rw [← hI2] at hge ⊢
                have HI2 : Hid _ := And.intro hI2 trivial
                have HRk : Hid (RowE w0 wd g dk rest) := hRk
                clear hRk hI2
                go_upto_block 8 with fail
                go_cut [13] (fun iv wx => iv = .int .i64 ((Sort.scanDown (fun x => !ltV vw x dk[a]!) dk i2 j : Nat) : Int) ∧ RowE w0 wx g dk rest)
                case first =>
                  go_wp2_with fail
                  go_loopg [13] (j + 1) (fun q jv wr => ∃ j1 : Nat, jv = .int .i64 j1 ∧ j1 ≤ j ∧ i2 ≤ j1 + 2 ∧ j1 < n ∧ j1 ≤ q ∧ RowE w0 wr g dk rest ∧ Hid (Sort.scanDown (fun x => !ltV vw x dk[a]!) dk i2 j1 = Sort.scanDown (fun x => !ltV vw x dk[a]!) dk i2 j))
                  case atStart => exact ⟨j, rfl, Nat.le_refl _, by omega, by omega, by omega, HRk.out, rfl⟩
                  case round =>
                    obtain ⟨j1, rfl, hj1, hj2, hj3, hq1, hR1, HU⟩ := hrel
                    by_cases hle : i2 ≤ j1
                    · have g1 : decide ((i2 : Int) ≤ (j1 : Int)) = true := decide_eq_true (by omega)
                      have g2 : (i2 : Int) ≤ (j1 : Int) := by omega
                      have hx1 : j1 < n := by omega
                      have bj10 : (0 : Int) ≤ (j1 : Int) := by omega
                      have bj11 : (j1 : Int) < (n : Int) := by omega
                      have ba0 : (0 : Int) ≤ (a : Int) := by omega
                      have ba1 : (a : Int) < (n : Int) := by omega
                      obtain ⟨x0, x1, x2⟩ := hR1.cells (j := j1) (by have := HK.out.2; omega)
                      obtain ⟨y0, y1, y2⟩ := hR1.cells (j := a) (by have := HK.out.2; omega)
                      have hcm := fun W => compare_any f vw HR.out.2.2 (dk[j1]!) (dk[a]!) W
                      unfold edV at hcm
                      have hlt2 := cmpV_neg vw (dk[j1]!) (dk[a]!)
                      obtain ⟨xe, hxe⟩ : ∃ xe, xe = dk[j1]! := ⟨_, rfl⟩
                      obtain ⟨ye, hye⟩ : ∃ ye, ye = dk[a]! := ⟨_, rfl⟩
                      rw [← hxe] at x0 x1 x2 hcm hlt2
                      rw [← hye] at y0 y1 y2 hcm hlt2
                      have HE : Hid _ := And.intro hxe hye
                      clear hxe hye
                      obtain ⟨xa, xb, xc⟩ := xe
                      obtain ⟨ya, yb, yc⟩ := ye
                      generalize cmpE (vw (xa, xb, xc)) (vw (ya, yb, yc)) = c at hcm hlt2
                      have HC : Hid _ := hcm
                      have HL : Hid _ := hlt2
                      clear hcm hlt2
                      simp only at x0 x1 x2 y0 y1 y2
                      have H1 : Hid (RowE w0 wr g dk rest) := hR1
                      clear hR1
                      by_cases hc : c < 0
                      · have p6 : decide (c < 0) = true := decide_eq_true hc
                        go_upto_region 15 with fail
                        go_region_held3 (fun w' => ((w'.cell? ⟨g, j1 * 3, none⟩ = some (.int .i64 xa) ∧ w'.cell? ⟨g, j1 * 3 + 1, none⟩ = some (.int .i64 xb) ∧ w'.cell? ⟨g, j1 * 3 + 2, none⟩ = some (.int .i64 xc)) ∧ (w'.cell? ⟨g, a * 3, none⟩ = some (.int .i64 ya) ∧ w'.cell? ⟨g, a * 3 + 1, none⟩ = some (.int .i64 yb) ∧ w'.cell? ⟨g, a * 3 + 2, none⟩ = some (.int .i64 yc))) ∧ Hid (Below wr.heap.size wr w')) (first | exact rg_up6 hb3 (by assumption) | exact ⟨⟨⟨x0, x1, x2⟩, ⟨y0, y1, y2⟩⟩, ((Below.refl _ _).drew : Below wr.heap.size wr wr.drew)⟩ | go_keep)
                          ((first
                            | (go_at_fn 133; refine (HC.out _).mono ?_; rintro r w3 ⟨rfl, hb3⟩)
                            | fail))
                        have hbq : Below wr.heap.size wr w3 := rg_b (by assumption)
                        clear x0 x1 x2 y0 y1 y2 hb3 HC
                        rename_i hS3
                        clear hS3
                        have H3 : Hid (RowE w0 w3 g dk rest) := H1.out.below hbq
                        clear hbq
                        go_wp2_with fail
                        go_meet
                        case rel => exact ⟨by rw [← HU.out, sn_stop (by have h7 : ltV vw dk[j1]! dk[a]! = true := (by rw [← HE.out.1, ← HE.out.2]; exact HL.out.1 hc); simp [h7])], H3.out⟩
                      · have p6 : decide (c < 0) = false := decide_eq_false hc
                        go_upto_region 15 with fail
                        go_region_held3 (fun w' => ((w'.cell? ⟨g, j1 * 3, none⟩ = some (.int .i64 xa) ∧ w'.cell? ⟨g, j1 * 3 + 1, none⟩ = some (.int .i64 xb) ∧ w'.cell? ⟨g, j1 * 3 + 2, none⟩ = some (.int .i64 xc)) ∧ (w'.cell? ⟨g, a * 3, none⟩ = some (.int .i64 ya) ∧ w'.cell? ⟨g, a * 3 + 1, none⟩ = some (.int .i64 yb) ∧ w'.cell? ⟨g, a * 3 + 2, none⟩ = some (.int .i64 yc))) ∧ Hid (Below wr.heap.size wr w')) (first | exact rg_up6 hb3 (by assumption) | exact ⟨⟨⟨x0, x1, x2⟩, ⟨y0, y1, y2⟩⟩, ((Below.refl _ _).drew : Below wr.heap.size wr wr.drew)⟩ | go_keep)
                          ((first
                            | (go_at_fn 133; refine (HC.out _).mono ?_; rintro r w3 ⟨rfl, hb3⟩)
                            | fail))
                        have hbq : Below wr.heap.size wr w3 := rg_b (by assumption)
                        clear x0 x1 x2 y0 y1 y2 hb3 HC
                        rename_i hS3
                        clear hS3
                        have H3 : Hid (RowE w0 w3 g dk rest) := H1.out.below hbq
                        clear hbq
                        go_wp2_with fail
                        go_roundg (j1 - 1)
                        case measure => omega
                        case rel =>
                          refine ⟨j1 - 1, by first | go_num | (congr 1; omega), by omega, by omega, by omega, Nat.le_refl _, H3.out, (show Hid _ from ?_)⟩
                          show _ = _
                          have h8 : (fun x => !ltV vw x dk[a]!) dk[j1]! = true := by have h7 : ltV vw dk[j1]! dk[a]! = false := (by rw [← HE.out.1, ← HE.out.2]; cases h : ltV vw (xa, xb, xc) (ya, yb, yc) with | false => rfl | true => exact absurd (HL.out.2 h) (by omega)); simp [h7]
                          obtain ⟨jq, rfl⟩ : ∃ jq, j1 = jq + 1 := ⟨j1 - 1, by omega⟩
                          rw [← HU.out, sn_go hle h8]
                          rfl
                    · have g1 : decide ((i2 : Int) ≤ (j1 : Int)) = false := decide_eq_false (by omega)
                      have g2 : ¬ (i2 : Int) ≤ (j1 : Int) := by omega
                      have H1 : Hid (RowE w0 wr g dk rest) := hR1
                      clear hR1
                      go_wp2_with fail
                      go_region
                      all_goals go_wp2_with fail
                      all_goals (go_meet; case rel => exact ⟨by rw [← HU.out, sn_far hle], H1.out.below (Below.refl _ _).drew⟩)
                case rest =>
                  obtain ⟨rfl, hRk⟩ := hcut
                  obtain ⟨we, rfl⟩ : ∃ we, we = wc := ⟨_, rfl⟩
                  have hle2 := sn_le (fun x => !ltV vw x dk[a]!) dk i2 j
                  have hfar : ¬ i2 ≤ j → Sort.scanDown (fun x => !ltV vw x dk[a]!) dk i2 j = j := fun h => sn_far h
                  obtain ⟨j2, hJ2⟩ : ∃ j2, j2 = Sort.scanDown (fun x => !ltV vw x dk[a]!) dk i2 j := ⟨_, rfl⟩
                  rw [← hJ2] at hle2 hfar ⊢
                  have hja : a ≤ j2 := by
                    by_cases h : i2 ≤ j
                    · have := hle2.2 (by omega); omega
                    · rw [hfar h]; exact haj
                  have HJ2 : Hid _ := And.intro hJ2 trivial
                  clear hJ2 hfar
                  by_cases hgt : j2 < i2
                  · have g1 : (j2 : Int) < (i2 : Int) := by omega
                    have hf := pl_break (lt := ltV vw) HI2.out.1 HJ2.out.1 hgt
                    rw [HO.out] at hf
                    rw [hf] at HF
                    clear hf
                    have r0 : (0 : Int) ≤ (j2 : Int) := by omega
                    have r1 : (j2 : Int) < (n : Int) := by omega
                    have r2 : (0 : Int) ≤ (a : Int) := by omega
                    have r3 : (a : Int) < (n : Int) := by omega
                    have f0 := hRk.free (j2 * 3)
                    have f1 := hRk.free (j2 * 3 + 1)
                    have f2 := hRk.free (j2 * 3 + 2)
                    have f3 := hRk.free (a * 3)
                    have f4 := hRk.free (a * 3 + 1)
                    have f5 := hRk.free (a * 3 + 2)
                    obtain ⟨z0, z1, z2⟩ := hRk.cells (j := j2) (by have := HK.out.2; omega)
                    obtain ⟨z3, z4, z5⟩ := hRk.cells (j := a) (by have := HK.out.2; omega)
                    obtain ⟨xe2, hxe2⟩ : ∃ xe, xe = dk[j2]! := ⟨_, rfl⟩
                    obtain ⟨ye2, hye2⟩ : ∃ ye, ye = dk[a]! := ⟨_, rfl⟩
                    rw [← hxe2] at z0 z1 z2
                    rw [← hye2] at z3 z4 z5
                    have HE2 : Hid _ := And.intro hxe2 hye2
                    clear hxe2 hye2
                    obtain ⟨sa, sb, sc⟩ := xe2
                    obtain ⟨ta, tb, tc⟩ := ye2
                    simp only at z0 z1 z2 z3 z4 z5
                    have HRk : Hid (RowE w0 we g dk rest) := hRk
                    clear hRk
                    by_cases hne : j2 = a
                    · subst hne
                      clear z3 z4 z5 f3 f4 f5
                      go_wp2_with fail
                      go_region
                      all_goals go_wp2_with fail
                      all_goals (go_ret2; rw [HF.out.1]; exact ⟨rfl, HRk.out.swapped (i := j2) (j := j2) (x := (sa, sb, sc)) (y := (sa, sb, sc)) (by have := HK.out.2; omega) (by have := HK.out.2; omega) HE2.out.1 HE2.out.1⟩)
                    · have hne2 : ¬ a = j2 := fun e => hne e.symm
                      go_wp2_with fail
                      go_region
                      all_goals go_wp2_with fail
                      all_goals (go_ret2; rw [HF.out.1]; exact ⟨rfl, HRk.out.swapped (i := j2) (j := a) (x := (sa, sb, sc)) (y := (ta, tb, tc)) (by have := HK.out.2; omega) (by have := HK.out.2; omega) HE2.out.1 HE2.out.2⟩)
                  · have hnx := pl_next (lt := ltV vw) HI2.out.1 HJ2.out.1 hgt hge.1 hle2.1
                    have g1 : ¬ (j2 : Int) < (i2 : Int) := by omega
                    obtain ⟨j4, rfl⟩ : ∃ j4, j2 = j4 + 1 := ⟨j2 - 1, by omega⟩
                    have r0 : (0 : Int) ≤ (i2 : Int) := by omega
                    have r1 : (i2 : Int) < (n : Int) := by omega
                    have r2 : (0 : Int) ≤ (j4 : Int) + 1 := by omega
                    have r3 : (j4 : Int) + 1 < (n : Int) := by omega
                    have r4 : ((j4 : Int) + 1).toNat = j4 + 1 := by omega
                    have r6 : IntKind.i64.wrap ((j4 : Int) + 1 - 1) = (j4 : Int) := by rw [IntKind.wrap_i64]; omega
                    have r7 : IntKind.i64.wrap (j4 : Int) = (j4 : Int) := by rw [IntKind.wrap_i64]; omega
                    rw [Nat.add_sub_cancel] at hnx
                    have HNX : Hid _ := And.intro hnx trivial
                    clear hnx
                    have f0 := hRk.free (i2 * 3)
                    have f1 := hRk.free (i2 * 3 + 1)
                    have f2 := hRk.free (i2 * 3 + 2)
                    have f3 := hRk.free ((j4 + 1) * 3)
                    have f4 := hRk.free ((j4 + 1) * 3 + 1)
                    have f5 := hRk.free ((j4 + 1) * 3 + 2)
                    obtain ⟨z0, z1, z2⟩ := hRk.cells (j := i2) (by have := HK.out.2; omega)
                    obtain ⟨z3, z4, z5⟩ := hRk.cells (j := (j4 + 1)) (by have := HK.out.2; omega)
                    obtain ⟨xe2, hxe2⟩ : ∃ xe, xe = dk[i2]! := ⟨_, rfl⟩
                    obtain ⟨ye2, hye2⟩ : ∃ ye, ye = dk[(j4 + 1)]! := ⟨_, rfl⟩
                    rw [← hxe2] at z0 z1 z2
                    rw [← hye2] at z3 z4 z5
                    have HE2 : Hid _ := And.intro hxe2 hye2
                    clear hxe2 hye2
                    obtain ⟨sa, sb, sc⟩ := xe2
                    obtain ⟨ta, tb, tc⟩ := ye2
                    simp only at z0 z1 z2 z3 z4 z5
                    have HRk : Hid (RowE w0 we g dk rest) := hRk
                    clear hRk
                    by_cases hne : i2 = j4 + 1
                    · subst hne
                      have HB : Hid _ := And.intro hge (And.intro hle2 (And.intro hq hij))
                      clear z3 z4 z5 f3 f4 f5 hgt g1 hge hle2 hq hij
                      have g1 : ¬ (j4 : Int) + 1 < (j4 : Int) + 1 := by omega
                      go_wp2_with fail
                      go_region
                      all_goals go_wp2_with fail
                      go_roundg (j4 + 2 - (j4 + 1 + 1))
                      case measure => obtain ⟨h1, h2, h3, h4⟩ := HB.out; omega
                      case rel =>
                        obtain ⟨h1, h2, h3, h4⟩ := HB.out
                        refine ⟨j4 + 1 + 1, j4, Sort.swp dk (j4 + 1) (j4 + 1), by go_num, by go_num, by omega, by omega, by omega, by omega, Nat.le_refl _, by rw [Sort.size_swp]; exact HK.out.2, HRk.out.swapped (i := j4 + 1) (j := j4 + 1) (x := (sa, sb, sc)) (y := (sa, sb, sc)) (by have := HK.out.2; omega) (by have := HK.out.2; omega) HE2.out.1 HE2.out.1, (show Hid _ from ?_)⟩
                        show _ = _
                        rw [← HO.out, HNX.out.1]
                    · have hne2 : ¬ j4 + 1 = i2 := fun e => hne e.symm
                      go_wp2_with fail
                      go_region
                      all_goals go_wp2_with fail
                      go_roundg (j4 + 2 - (i2 + 1))
                      case measure => omega
                      case rel =>
                        refine ⟨i2 + 1, j4, Sort.swp dk i2 (j4 + 1), by go_num, by go_num, by omega, by omega, by omega, by omega, Nat.le_refl _, by rw [Sort.size_swp]; exact HK.out.2, HRk.out.swapped (i := i2) (j := j4 + 1) (x := (sa, sb, sc)) (y := (ta, tb, tc)) (by have := HK.out.2; omega) (by have := HK.out.2; omega) HE2.out.1 HE2.out.2, (show Hid _ from ?_)⟩
                        show _ = _
                        rw [← HO.out, HNX.out.1]
end
end Go.Proofs.YtibdgefjpcebkaaGreatDoor
