/- Texts of this claim, joined: SoPis, SoRnd, SoBreak. -/
import Derived.Test.YtladdlkfnfdhaaaDoorSoPart
import Derived.Sort.Walk7a
import Derived.Sort.Walk7
namespace Go.Proofs.YtladdlkfnfdhaaaDoor
section
open Go.RowKit Go.Maps
attribute [local go_sem ↓] Go.wp_at_zero Go.wp_at_succ
theorem ss_go {lt : Sy.Ed → Sy.Ed → Bool} {d : Array Sy.Ed} {b i : Nat} (h : i + 1 < b) (hp : lt d[i + 1]! d[i]! = false) : Sort.scanSorted lt d b (i + 1) = Sort.scanSorted lt d b (i + 1 + 1) := by rw [Sort.scanSorted, if_pos (by simp [h, hp])]
theorem ss_far {lt : Sy.Ed → Sy.Ed → Bool} {d : Array Sy.Ed} {b i : Nat} (h : ¬ i < b) : Sort.scanSorted lt d b i = i := by rw [Sort.scanSorted, if_neg (by simp; omega)]
theorem ss_stop {lt : Sy.Ed → Sy.Ed → Bool} {d : Array Sy.Ed} {b i : Nat} (hp : lt d[i + 1]! d[i]! = true) : Sort.scanSorted lt d b (i + 1) = i + 1 := by rw [Sort.scanSorted, if_neg (by simp [hp])]
theorem ss_ge (lt : Sy.Ed → Sy.Ed → Bool) (d : Array Sy.Ed) (b : Nat) : ∀ (q i : Nat), b - i ≤ q → 1 ≤ i → i ≤ b → i ≤ Sort.scanSorted lt d b i ∧ Sort.scanSorted lt d b i ≤ b := by
  intro q
  induction q with
  | zero => intro i h h1 h2; rw [ss_far (by omega)]; omega
  | succ q ih =>
    intro i h h1 h2
    by_cases h3 : i < b
    · obtain ⟨i, rfl⟩ : ∃ x, i = x + 1 := ⟨i - 1, by omega⟩
      cases hp : lt d[i + 1]! d[i]! with
      | false => rw [ss_go h3 hp]; have := ih (i + 1 + 1) (by omega) (by omega) (by omega); omega
      | true => rw [ss_stop hp]; omega
    · rw [ss_far h3]; omega
theorem sd_go {lt : Sy.Ed → Sy.Ed → Bool} {d : Array Sy.Ed} {j : Nat} (hp : lt d[j + 1]! d[j]! = true) : Sort.shiftDown lt (j + 1) d = Sort.shiftDown lt j (Sort.swp d (j + 1) j) := by rw [Sort.shiftDown, if_neg (by simp [hp])]
theorem sd_stop {lt : Sy.Ed → Sy.Ed → Bool} {d : Array Sy.Ed} {j : Nat} (hp : lt d[j + 1]! d[j]! = false) : Sort.shiftDown lt (j + 1) d = d := by rw [Sort.shiftDown, if_pos (by simp [hp])]
theorem sp_go {lt : Sy.Ed → Sy.Ed → Bool} {d : Array Sy.Ed} {b j : Nat} (h : j + 1 < b) (hp : lt d[j + 1]! d[j]! = true) : Sort.shiftUp lt b (j + 1) d = Sort.shiftUp lt b (j + 1 + 1) (Sort.swp d (j + 1) j) := by rw [Sort.shiftUp, if_pos h, if_neg (by simp [hp])]; rfl
theorem sp_stop {lt : Sy.Ed → Sy.Ed → Bool} {d : Array Sy.Ed} {b j : Nat} (h : j + 1 < b) (hp : lt d[j + 1]! d[j]! = false) : Sort.shiftUp lt b (j + 1) d = d := by rw [Sort.shiftUp, if_pos h, if_pos (by simp [hp])]
theorem sp_far {lt : Sy.Ed → Sy.Ed → Bool} {d : Array Sy.Ed} {b j : Nat} (h : ¬ j < b) : Sort.shiftUp lt b j d = d := by rw [Sort.shiftUp, if_neg h]
theorem size_sd (lt : Sy.Ed → Sy.Ed → Bool) : ∀ (j : Nat) (d : Array Sy.Ed), (Sort.shiftDown lt j d).size = d.size := by
  intro j
  induction j with
  | zero => intro d; rfl
  | succ j ih =>
    intro d
    cases hp : lt d[j + 1]! d[j]! with
    | false => rw [sd_stop hp]
    | true => rw [sd_go hp, ih, Sort.size_swp]
theorem size_sp (lt : Sy.Ed → Sy.Ed → Bool) (b : Nat) : ∀ (q j : Nat) (d : Array Sy.Ed), b - j ≤ q → 1 ≤ j → (Sort.shiftUp lt b j d).size = d.size := by
  intro q
  induction q with
  | zero => intro j d h h1; rw [sp_far (by omega)]
  | succ q ih =>
    intro j d h h1
    by_cases h3 : j < b
    · obtain ⟨j, rfl⟩ : ∃ x, j = x + 1 := ⟨j - 1, by omega⟩
      cases hp : lt d[j + 1]! d[j]! with
      | false => rw [sp_stop h3 hp]
      | true => rw [sp_go h3 hp, ih _ _ (by omega) (by omega), Sort.size_swp]
    · rw [sp_far h3]
theorem pi_sorted {lt : Sy.Ed → Sy.Ed → Bool} {a b k i i2 : Nat} {d : Array Sy.Ed} (hk : k < 5) (hi : i2 = Sort.scanSorted lt d b i) (h : i2 = b) : Sort.partialIns lt a b (5 - k) i d = (d, true) := by
  rw [show 5 - k = (5 - (k + 1)) + 1 by omega, Sort.partialIns]
  simp only [← hi]
  rw [if_pos h]
theorem pi_short {lt : Sy.Ed → Sy.Ed → Bool} {a b k i i2 : Nat} {d : Array Sy.Ed} (hk : k < 5) (hi : i2 = Sort.scanSorted lt d b i) (h : ¬ i2 = b) (h5 : b - a < 50) : Sort.partialIns lt a b (5 - k) i d = (d, false) := by
  rw [show 5 - k = (5 - (k + 1)) + 1 by omega, Sort.partialIns]
  simp only [← hi]
  rw [if_neg h, if_pos h5]
theorem pi_next {lt : Sy.Ed → Sy.Ed → Bool} {a b k i ip : Nat} {d d1 d2 d3 : Array Sy.Ed} (hk : k < 5) (hi : ip + 1 = Sort.scanSorted lt d b i) (h : ¬ ip + 1 = b) (h5 : ¬ b - a < 50) (e1 : d1 = Sort.swp d (ip + 1) ip) (e2 : d2 = if ip + 1 - a ≥ 2 then Sort.shiftDown lt ip d1 else d1) (e3 : d3 = if b - (ip + 1) ≥ 2 then Sort.shiftUp lt b (ip + 1 + 1) d2 else d2) : Sort.partialIns lt a b (5 - k) i d = Sort.partialIns lt a b (5 - (k + 1)) (ip + 1) d3 := by
  rw [show 5 - k = (5 - (k + 1)) + 1 by omega, Sort.partialIns]
  simp only [← hi, Nat.add_sub_cancel]
  rw [if_neg h, if_neg h5, ← e1, ← e2, ← e3]
set_option maxRecDepth 100000 in
set_option maxHeartbeats 32000000 in
theorem pis_any (f : Nat) (vw : Sy.Ed → Sy.Ed) (hV : ViewAt f vw) (g cap a b : Nat) (d : Array Sy.Ed) (rest : List Value) (w0 w : World) (hR : RowE w0 w g d rest) (hab : a < b) (hb : b ≤ d.size) (hsz : d.size ≤ 1000000) :
    Calls Tryd.prog 71 #[.slice (some ⟨g, 0, none⟩) d.size cap, .int .i64 a, .int .i64 b, cmpV f] w fun r w' => r = .returned (.bool (Sort.partialInsertionSort (ltV vw) d a b).2) ∧ RowE w0 w' g (Sort.partialInsertionSort (ltV vw) d a b).1 rest := by
  obtain ⟨n, hn⟩ : ∃ n, n = d.size := ⟨_, rfl⟩
  have HR : Hid _ := And.intro hR (And.intro hn hV)
  rw [← hn] at hb hsz ⊢
  unfold cmpV Sort.partialInsertionSort
  have he := enter_cmp
  clear hR hn hV
  go_enter Tryd.func71, Tryd.ntmps71
  go_wp2_with fail
  go_loopg [9, 10] 5 (fun q iv kv wr => ∃ (i k : Nat) (dk : Array Sy.Ed), iv = .int .i64 i ∧ kv = .int .i64 k ∧ a + 1 ≤ i ∧ i ≤ b ∧ k ≤ 5 ∧ 5 - k ≤ q ∧ dk.size = n ∧ RowE w0 wr g dk rest ∧ Hid (Sort.partialIns (ltV vw) a b (5 - k) i dk = Sort.partialIns (ltV vw) a b 5 (a + 1) d))
  case atStart => exact ⟨a + 1, 0, d, by go_num, by first | rfl | go_num, Nat.le_refl _, by omega, by omega, by omega, HR.out.2.1.symm, HR.out.1, rfl⟩
  case round =>
    obtain ⟨i, k, dk, rfl, rfl, hai, hib, hk5, hq, hsk, hRk, HO⟩ := hrel
    have HRk : Hid (RowE w0 wr g dk rest ∧ dk.size = n) := ⟨hRk, hsk⟩
    clear hRk hsk
    by_cases hk : k < 5
    · have gk : (k : Int) < 5 := by omega
      obtain ⟨wq, rfl⟩ : ∃ wq, wq = wr := ⟨_, rfl⟩
      go_upto_block 2 with fail
      go_cut [9] (fun iv wx => iv = .int .i64 ((Sort.scanSorted (ltV vw) dk b i : Nat) : Int) ∧ RowE w0 wx g dk rest)
      case first =>
        go_wp2_with fail
        go_loopg [9] b (fun q iv wr => ∃ i1 : Nat, iv = .int .i64 i1 ∧ i ≤ i1 ∧ i1 ≤ b ∧ b - i1 ≤ q ∧ RowE w0 wr g dk rest ∧ Hid (Sort.scanSorted (ltV vw) dk b i1 = Sort.scanSorted (ltV vw) dk b i))
        case atStart => exact ⟨i, rfl, Nat.le_refl _, hib, by omega, HRk.out.1, rfl⟩
        case round =>
          obtain ⟨i1, rfl, hi1, hi2, hq1, hR1, HU⟩ := hrel
          by_cases hlt : i1 < b
          · obtain ⟨jp, rfl⟩ : ∃ jp, i1 = jp + 1 := ⟨i1 - 1, by omega⟩
            have g1 : decide ((jp : Int) + 1 < (b : Int)) = true := decide_eq_true (by omega)
            have g2 : (jp : Int) + 1 < (b : Int) := by omega
            have hs1 := HRk.out.2
            have p0 : (0 : Int) ≤ (jp : Int) + 1 := by omega
            have p1 : (jp : Int) + 1 < (n : Int) := by omega
            have p2 : (0 : Int) ≤ (jp : Int) := by omega
            have p3 : (jp : Int) < (n : Int) := by omega
            have p5 : ((jp : Int) + 1).toNat = jp + 1 := by omega
            have p7 : IntKind.i64.wrap (jp : Int) = (jp : Int) := by rw [IntKind.wrap_i64]; omega
            have p8 : IntKind.i64.wrap ((jp : Int) + 1 - 1) = (jp : Int) := by rw [IntKind.wrap_i64]; omega
            obtain ⟨x0, x1, x2⟩ := hR1.cells (j := (jp + 1)) (by omega)
            obtain ⟨y0, y1, y2⟩ := hR1.cells (j := jp) (by omega)
            have hcm := fun W => compare_any f vw HR.out.2.2 (dk[(jp + 1)]!) (dk[jp]!) W
            unfold edV at hcm
            have hlt2 := cmpV_neg vw (dk[(jp + 1)]!) (dk[jp]!)
            obtain ⟨xe, hxe⟩ : ∃ xe, xe = dk[(jp + 1)]! := ⟨_, rfl⟩
            obtain ⟨ye, hye⟩ : ∃ ye, ye = dk[jp]! := ⟨_, rfl⟩
            rw [← hxe] at x0 x1 x2 hcm hlt2
            rw [← hye] at y0 y1 y2 hcm hlt2
            have HE : Hid _ := And.intro hxe hye
            clear hxe hye
            obtain ⟨xa, xb, xc⟩ := xe
            obtain ⟨ya, yb, yc⟩ := ye
            generalize cmpE (vw (xa, xb, xc)) (vw (ya, yb, yc)) = c at hcm hlt2
            have HC : Hid _ := hcm
            have HL : Hid _ := hlt2
            clear hcm hlt2
            simp only at x0 x1 x2 y0 y1 y2
            have H1 : Hid (RowE w0 wr g dk rest ∧ dk.size = n) := ⟨hR1, hs1⟩
            clear hR1 hs1
            by_cases hc : c < 0
            · have p6 : decide (c < 0) = true := decide_eq_true hc
              go_upto_region 5 with fail
              go_region_held3 (fun w' => ((w'.cell? ⟨g, (jp + 1) * 3, none⟩ = some (.int .i64 xa) ∧ w'.cell? ⟨g, (jp + 1) * 3 + 1, none⟩ = some (.int .i64 xb) ∧ w'.cell? ⟨g, (jp + 1) * 3 + 2, none⟩ = some (.int .i64 xc)) ∧ (w'.cell? ⟨g, jp * 3, none⟩ = some (.int .i64 ya) ∧ w'.cell? ⟨g, jp * 3 + 1, none⟩ = some (.int .i64 yb) ∧ w'.cell? ⟨g, jp * 3 + 2, none⟩ = some (.int .i64 yc))) ∧ Hid (Below wr.heap.size wr w')) (first | exact rg_up6 hb3 (by assumption) | exact ⟨⟨⟨x0, x1, x2⟩, ⟨y0, y1, y2⟩⟩, ((Below.refl _ _).drew : Below wr.heap.size wr wr.drew)⟩ | go_keep)
                ((first
                  | (go_at_fn 39; refine (HC.out _).mono ?_; rintro r w3 ⟨rfl, hb3⟩)
                  | fail))
              have hbq : Below wr.heap.size wr w3 := rg_b (by assumption)
              clear x0 x1 x2 y0 y1 y2 hb3 HC
              rename_i hS3
              clear hS3
              have H3 : Hid (RowE w0 w3 g dk rest ∧ dk.size = n) := ⟨H1.out.1.below hbq, H1.out.2⟩
              clear hbq
              go_wp2_with fail
              go_meet
              case rel => exact ⟨by have h7 : ltV vw dk[jp + 1]! dk[jp]! = true := (by rw [← HE.out.1, ← HE.out.2]; exact HL.out.1 hc); rw [← HU.out, ss_stop h7]; go_num, H3.out.1⟩
            · have p6 : decide (c < 0) = false := decide_eq_false hc
              go_upto_region 5 with fail
              go_region_held3 (fun w' => ((w'.cell? ⟨g, (jp + 1) * 3, none⟩ = some (.int .i64 xa) ∧ w'.cell? ⟨g, (jp + 1) * 3 + 1, none⟩ = some (.int .i64 xb) ∧ w'.cell? ⟨g, (jp + 1) * 3 + 2, none⟩ = some (.int .i64 xc)) ∧ (w'.cell? ⟨g, jp * 3, none⟩ = some (.int .i64 ya) ∧ w'.cell? ⟨g, jp * 3 + 1, none⟩ = some (.int .i64 yb) ∧ w'.cell? ⟨g, jp * 3 + 2, none⟩ = some (.int .i64 yc))) ∧ Hid (Below wr.heap.size wr w')) (first | exact rg_up6 hb3 (by assumption) | exact ⟨⟨⟨x0, x1, x2⟩, ⟨y0, y1, y2⟩⟩, ((Below.refl _ _).drew : Below wr.heap.size wr wr.drew)⟩ | go_keep)
                ((first
                  | (go_at_fn 39; refine (HC.out _).mono ?_; rintro r w3 ⟨rfl, hb3⟩)
                  | fail))
              have hbq : Below wr.heap.size wr w3 := rg_b (by assumption)
              clear x0 x1 x2 y0 y1 y2 hb3 HC
              rename_i hS3
              clear hS3
              have H3 : Hid (RowE w0 w3 g dk rest ∧ dk.size = n) := ⟨H1.out.1.below hbq, H1.out.2⟩
              clear hbq
              go_wp2_with fail
              go_roundg (b - (jp + 1 + 1))
              case measure => omega
              case rel =>
                refine ⟨jp + 1 + 1, by go_num, by omega, by omega, Nat.le_refl _, H3.out.1, (show Hid _ from ?_)⟩
                show _ = _
                have h7 : ltV vw dk[jp + 1]! dk[jp]! = false := (by rw [← HE.out.1, ← HE.out.2]; cases h : ltV vw (xa, xb, xc) (ya, yb, yc) with | false => rfl | true => exact absurd (HL.out.2 h) (by omega))
                rw [← HU.out, ss_go hlt h7]
          · have g1 : decide ((i1 : Int) < (b : Int)) = false := decide_eq_false (by omega)
            have g2 : ¬ (i1 : Int) < (b : Int) := by omega
            have H1 : Hid (RowE w0 wr g dk rest) := hR1
            clear hR1
            go_wp2_with fail
            go_region
            all_goals go_wp2_with fail
            all_goals (go_meet; case rel => exact ⟨by rw [← HU.out, ss_far hlt], H1.out.below (Below.refl _ _).drew⟩)
      case rest =>
        obtain ⟨rfl, hRk⟩ := hcut
        obtain ⟨wd, rfl⟩ : ∃ wd, wd = wc := ⟨_, rfl⟩
        have hge := ss_ge (ltV vw) dk b b i (by omega) (by omega) hib
        obtain ⟨i2, hI2⟩ : ∃ i2, i2 = Sort.scanSorted (ltV vw) dk b i := ⟨_, rfl⟩
        rw [← hI2] at hge ⊢
        have HI2 : Hid _ := And.intro hI2 HRk.out.2
        clear hI2 HRk
        have HRk : Hid (RowE w0 wd g dk rest) := hRk
        clear hRk
        by_cases h1 : i2 = b
        · have g1 : ((i2 : Int) == (b : Int)) = true := by simp; omega
          have hf := pi_sorted (lt := ltV vw) (a := a) hk HI2.out.1 h1
          rw [HO.out] at hf
          have HF : Hid _ := And.intro hf trivial
          clear hf h1
          go_wp2_with fail
          go_ret
          rw [HF.out.1]
          exact ⟨rfl, HRk.out⟩
        · have g1 : ((i2 : Int) == (b : Int)) = false := by simp; omega
          by_cases h5 : b - a < 50
          · have g5 : (b : Int) - (a : Int) < 50 := by omega
            have hf := pi_short (lt := ltV vw) hk HI2.out.1 h1 h5
            rw [HO.out] at hf
            have HF : Hid _ := And.intro hf trivial
            clear hf h1
            go_wp2_with fail
            go_ret
            rw [HF.out.1]
            exact ⟨rfl, HRk.out⟩
          · have g5 : ¬ (b : Int) - (a : Int) < 50 := by omega
            obtain ⟨jp, rfl⟩ : ∃ jp, i2 = jp + 1 := ⟨i2 - 1, by omega⟩
            obtain ⟨d1, e1⟩ : ∃ d1, d1 = Sort.swp dk (jp + 1) jp := ⟨_, rfl⟩
            obtain ⟨d2, e2⟩ : ∃ d2, d2 = if jp + 1 - a ≥ 2 then Sort.shiftDown (ltV vw) jp d1 else d1 := ⟨_, rfl⟩
            obtain ⟨d3, e3⟩ : ∃ d3, d3 = if b - (jp + 1) ≥ 2 then Sort.shiftUp (ltV vw) b (jp + 1 + 1) d2 else d2 := ⟨_, rfl⟩
            have hnx := pi_next (lt := ltV vw) hk HI2.out.1 h1 h5 e1 e2 e3
            have hz1 : d1.size = n := by rw [e1, Sort.size_swp]; exact HI2.out.2
            have hz2 : d2.size = n := by rw [e2]; split; · rw [size_sd]; exact hz1
                                         · exact hz1
            have hz3 : d3.size = n := by rw [e3]; split; · rw [size_sp (ltV vw) b b _ _ (by omega) (by omega)]; exact hz2
                                         · exact hz2
            have HNX : Hid _ := And.intro hnx (And.intro e1 (And.intro e2 e3))
            have HZ : Hid (d1.size = n ∧ d2.size = n ∧ d3.size = n) := ⟨hz1, hz2, hz3⟩
            clear hnx e1 e2 e3 hz1 hz2 hz3
            have p0 : (0 : Int) ≤ (jp : Int) + 1 := by omega
            have p1 : (jp : Int) + 1 < (n : Int) := by omega
            have p2 : (0 : Int) ≤ (jp : Int) := by omega
            have p3 : (jp : Int) < (n : Int) := by omega
            have p5 : ((jp : Int) + 1).toNat = jp + 1 := by omega
            have p7 : IntKind.i64.wrap (jp : Int) = (jp : Int) := by rw [IntKind.wrap_i64]; omega
            have p8 : IntKind.i64.wrap ((jp : Int) + 1 - 1) = (jp : Int) := by rw [IntKind.wrap_i64]; omega
            have hR4 := HRk.out
            have hs4 := HI2.out.2
            have f0 := hR4.free ((jp + 1) * 3)
            have f1 := hR4.free ((jp + 1) * 3 + 1)
            have f2 := hR4.free ((jp + 1) * 3 + 2)
            have f3 := hR4.free (jp * 3)
            have f4 := hR4.free (jp * 3 + 1)
            have f5 := hR4.free (jp * 3 + 2)
            obtain ⟨z0, z1, z2⟩ := hR4.cells (j := (jp + 1)) (by omega)
            obtain ⟨z3, z4, z5⟩ := hR4.cells (j := jp) (by omega)
            obtain ⟨xe2, hxe2⟩ : ∃ xe, xe = dk[(jp + 1)]! := ⟨_, rfl⟩
            obtain ⟨ye2, hye2⟩ : ∃ ye, ye = dk[jp]! := ⟨_, rfl⟩
            rw [← hxe2] at z0 z1 z2
            rw [← hye2] at z3 z4 z5
            have HE2 : Hid _ := And.intro hxe2 hye2
            clear hxe2 hye2
            obtain ⟨sa, sb, sc⟩ := xe2
            obtain ⟨ta, tb, tc⟩ := ye2
            simp only at z0 z1 z2 z3 z4 z5
            clear hR4 hs4
            have hne : ¬ jp + 1 = jp := by omega
            have hne2 : ¬ jp = jp + 1 := by omega
            go_upto_region 11 with fail
            go_cut [54] (fun _ wx => RowE w0 wx g d1 rest)
            case first =>
              go_region
              all_goals go_wp2_with fail
              all_goals (go_meet; case rel => rw [HNX.out.2.1]; exact HRk.out.swapped (i := jp + 1) (j := jp) (x := (sa, sb, sc)) (y := (ta, tb, tc)) (by have := HI2.out.2; omega) (by have := HI2.out.2; omega) HE2.out.1 HE2.out.2)
            case rest =>
              have HS : Hid (RowE w0 wc g d1 rest) := hcut
              clear hcut f0 f1 f2 f3 f4 f5 z0 z1 z2 z3 z4 z5 HE2 HRk
              obtain ⟨we, rfl⟩ : ∃ we, we = wc := ⟨_, rfl⟩
              go_upto_if 65 with fail
              go_cut [11] (fun _ wx => RowE w0 wx g d2 rest)
              case first =>
                obtain ⟨ip, hip⟩ : ∃ ip, ip = jp := ⟨_, rfl⟩
                by_cases h2 : 2 ≤ jp + 1 - a
                · have g6 : (2 : Int) ≤ (jp : Int) + 1 - (a : Int) := by omega
                  have h9 : d2 = Sort.shiftDown (ltV vw) jp d1 := by rw [HNX.out.2.2.1, if_pos h2]
                  have H9 : Hid _ := h9
                  clear h9
                  go_wp2_with fail
                  go_loopg [11] jp (fun q jv wr => ∃ (j : Nat) (dj : Array Sy.Ed), jv = .int .i64 j ∧ j ≤ jp ∧ j ≤ q ∧ dj.size = n ∧ RowE w0 wr g dj rest ∧ Hid (Sort.shiftDown (ltV vw) j dj = Sort.shiftDown (ltV vw) jp d1))
                  case atStart => exact ⟨jp, d1, by first | rfl | go_num, Nat.le_refl _, Nat.le_refl _, HZ.out.1, HS.out, rfl⟩
                  case round =>
                    obtain ⟨j, dj, rfl, hj1, hj2, hs1, hR1, HU⟩ := hrel
                    have HP : Hid _ := And.intro hge hj1
                    by_cases hj0 : 1 ≤ j
                    · obtain ⟨jq, rfl⟩ : ∃ jq, j = jq + 1 := ⟨j - 1, by omega⟩
                      have g7 : (1 : Int) ≤ (jq : Int) + 1 := by omega
                      have p0 : (0 : Int) ≤ (jq : Int) + 1 := by omega
                      have p1 : (jq : Int) + 1 < (n : Int) := by omega
                      have p2 : (0 : Int) ≤ (jq : Int) := by omega
                      have p3 : (jq : Int) < (n : Int) := by omega
                      have p5 : ((jq : Int) + 1).toNat = jq + 1 := by omega
                      have p7 : IntKind.i64.wrap (jq : Int) = (jq : Int) := by rw [IntKind.wrap_i64]; omega
                      have p8 : IntKind.i64.wrap ((jq : Int) + 1 - 1) = (jq : Int) := by rw [IntKind.wrap_i64]; omega
                      obtain ⟨x0, x1, x2⟩ := hR1.cells (j := (jq + 1)) (by omega)
                      obtain ⟨y0, y1, y2⟩ := hR1.cells (j := jq) (by omega)
                      have hcm := fun W => compare_any f vw HR.out.2.2 (dj[(jq + 1)]!) (dj[jq]!) W
                      unfold edV at hcm
                      have hlt2 := cmpV_neg vw (dj[(jq + 1)]!) (dj[jq]!)
                      obtain ⟨xe, hxe⟩ : ∃ xe, xe = dj[(jq + 1)]! := ⟨_, rfl⟩
                      obtain ⟨ye, hye⟩ : ∃ ye, ye = dj[jq]! := ⟨_, rfl⟩
                      rw [← hxe] at x0 x1 x2 hcm hlt2
                      rw [← hye] at y0 y1 y2 hcm hlt2
                      have HE : Hid _ := And.intro hxe hye
                      clear hxe hye
                      obtain ⟨xa, xb, xc⟩ := xe
                      obtain ⟨ya, yb, yc⟩ := ye
                      generalize cmpE (vw (xa, xb, xc)) (vw (ya, yb, yc)) = c at hcm hlt2
                      have HC : Hid _ := hcm
                      have HL : Hid _ := hlt2
                      clear hcm hlt2
                      simp only at x0 x1 x2 y0 y1 y2
                      have H1 : Hid (RowE w0 wr g dj rest ∧ dj.size = n) := ⟨hR1, hs1⟩
                      clear hR1 hs1
                      by_cases hc : c < 0
                      · have p6 : decide (c < 0) = true := decide_eq_true hc
                        go_upto_region 16 with fail
                        go_region_held3 (fun w' => ((w'.cell? ⟨g, (jq + 1) * 3, none⟩ = some (.int .i64 xa) ∧ w'.cell? ⟨g, (jq + 1) * 3 + 1, none⟩ = some (.int .i64 xb) ∧ w'.cell? ⟨g, (jq + 1) * 3 + 2, none⟩ = some (.int .i64 xc)) ∧ (w'.cell? ⟨g, jq * 3, none⟩ = some (.int .i64 ya) ∧ w'.cell? ⟨g, jq * 3 + 1, none⟩ = some (.int .i64 yb) ∧ w'.cell? ⟨g, jq * 3 + 2, none⟩ = some (.int .i64 yc))) ∧ Hid (Below wr.heap.size wr w')) (first | exact rg_up6 hb3 (by assumption) | exact ⟨⟨⟨x0, x1, x2⟩, ⟨y0, y1, y2⟩⟩, ((Below.refl _ _).drew : Below wr.heap.size wr wr.drew)⟩ | go_keep)
                          ((first
                            | (go_at_fn 39; refine (HC.out _).mono ?_; rintro r w3 ⟨rfl, hb3⟩)
                            | fail))
                        have hbq : Below wr.heap.size wr w3 := rg_b (by assumption)
                        clear x0 x1 x2 y0 y1 y2 hb3 HC
                        rename_i hS3
                        clear hS3
                        have H3 : Hid (RowE w0 w3 g dj rest ∧ dj.size = n) := ⟨H1.out.1.below hbq, H1.out.2⟩
                        clear hbq
                        have hR4 := H3.out.1
                        have hs4 := H3.out.2
                        have f0 := hR4.free ((jq + 1) * 3)
                        have f1 := hR4.free ((jq + 1) * 3 + 1)
                        have f2 := hR4.free ((jq + 1) * 3 + 2)
                        have f3 := hR4.free (jq * 3)
                        have f4 := hR4.free (jq * 3 + 1)
                        have f5 := hR4.free (jq * 3 + 2)
                        obtain ⟨z0, z1, z2⟩ := hR4.cells (j := (jq + 1)) (by omega)
                        obtain ⟨z3, z4, z5⟩ := hR4.cells (j := jq) (by omega)
                        obtain ⟨xe2, hxe2⟩ : ∃ xe, xe = dj[(jq + 1)]! := ⟨_, rfl⟩
                        obtain ⟨ye2, hye2⟩ : ∃ ye, ye = dj[jq]! := ⟨_, rfl⟩
                        rw [← hxe2] at z0 z1 z2
                        rw [← hye2] at z3 z4 z5
                        have HE2 : Hid _ := And.intro hxe2 hye2
                        clear hxe2 hye2
                        obtain ⟨sa, sb, sc⟩ := xe2
                        obtain ⟨ta, tb, tc⟩ := ye2
                        simp only at z0 z1 z2 z3 z4 z5
                        clear hR4 hs4
                        have hne : ¬ jq + 1 = jq := by omega
                        have hne2 : ¬ jq = jq + 1 := by omega
                        go_wp2_with fail
                        go_region
                        all_goals go_wp2_with fail
                        go_roundg jq
                        case measure => omega
                        case rel =>
                          refine ⟨jq, Sort.swp dj (jq + 1) jq, by go_num, by omega, Nat.le_refl _, by rw [Sort.size_swp]; exact H3.out.2, H3.out.1.swapped (i := jq + 1) (j := jq) (x := (sa, sb, sc)) (y := (ta, tb, tc)) (by have := H3.out.2; omega) (by have := H3.out.2; omega) HE2.out.1 HE2.out.2, (show Hid _ from ?_)⟩
                          show _ = _
                          have h7 : ltV vw dj[jq + 1]! dj[jq]! = true := (by rw [← HE.out.1, ← HE.out.2]; exact HL.out.1 hc)
                          rw [← HU.out, sd_go h7]
                      · have p6 : decide (c < 0) = false := decide_eq_false hc
                        go_upto_region 16 with fail
                        go_region_held3 (fun w' => ((w'.cell? ⟨g, (jq + 1) * 3, none⟩ = some (.int .i64 xa) ∧ w'.cell? ⟨g, (jq + 1) * 3 + 1, none⟩ = some (.int .i64 xb) ∧ w'.cell? ⟨g, (jq + 1) * 3 + 2, none⟩ = some (.int .i64 xc)) ∧ (w'.cell? ⟨g, jq * 3, none⟩ = some (.int .i64 ya) ∧ w'.cell? ⟨g, jq * 3 + 1, none⟩ = some (.int .i64 yb) ∧ w'.cell? ⟨g, jq * 3 + 2, none⟩ = some (.int .i64 yc))) ∧ Hid (Below wr.heap.size wr w')) (first | exact rg_up6 hb3 (by assumption) | exact ⟨⟨⟨x0, x1, x2⟩, ⟨y0, y1, y2⟩⟩, ((Below.refl _ _).drew : Below wr.heap.size wr wr.drew)⟩ | go_keep)
                          ((first
                            | (go_at_fn 39; refine (HC.out _).mono ?_; rintro r w3 ⟨rfl, hb3⟩)
                            | fail))
                        have hbq : Below wr.heap.size wr w3 := rg_b (by assumption)
                        clear x0 x1 x2 y0 y1 y2 hb3 HC
                        rename_i hS3
                        clear hS3
                        have H3 : Hid (RowE w0 w3 g dj rest ∧ dj.size = n) := ⟨H1.out.1.below hbq, H1.out.2⟩
                        clear hbq
                        go_wp2_with fail
                        go_meet
                        case rel =>
                          have h7 : ltV vw dj[jq + 1]! dj[jq]! = false := (by rw [← HE.out.1, ← HE.out.2]; cases h : ltV vw (xa, xb, xc) (ya, yb, yc) with | false => rfl | true => exact absurd (HL.out.2 h) (by omega))
                          rw [H9.out, ← HU.out, sd_stop h7]
                          exact H3.out.1
                    · have g7 : ¬ (1 : Int) ≤ (j : Int) := by omega
                      have H3 : Hid _ := hR1
                      clear hR1
                      go_wp2_with fail
                      go_meet
                      case rel =>
                        have h0 : j = 0 := by omega
                        subst h0
                        rw [H9.out, ← HU.out]
                        exact H3.out
                · have g6 : ¬ (2 : Int) ≤ (jp : Int) + 1 - (a : Int) := by omega
                  have h9 : d2 = d1 := by rw [HNX.out.2.2.1, if_neg h2]
                  have H9 : Hid _ := h9
                  clear h9
                  go_wp2_with fail
                  go_meet
                  case rel => rw [H9.out]; exact HS.out
              case rest =>
                have HS2 : Hid (RowE w0 wc g d2 rest) := hcut
                clear hcut HS
                obtain ⟨wf, rfl⟩ : ∃ wf, wf = wc := ⟨_, rfl⟩
                by_cases h2 : 2 ≤ b - (jp + 1)
                · have g6 : (2 : Int) ≤ (b : Int) - ((jp : Int) + 1) := by omega
                  have h9 : d3 = Sort.shiftUp (ltV vw) b (jp + 1 + 1) d2 := by rw [HNX.out.2.2.2, if_pos h2]
                  have H9 : Hid _ := h9
                  clear h9
                  go_wp2_with fail
                  go_loopg [12] b (fun q jv wr => ∃ (j : Nat) (dj : Array Sy.Ed), jv = .int .i64 j ∧ jp + 2 ≤ j ∧ j ≤ b ∧ b - j ≤ q ∧ dj.size = n ∧ RowE w0 wr g dj rest ∧ Hid (Sort.shiftUp (ltV vw) b j dj = Sort.shiftUp (ltV vw) b (jp + 1 + 1) d2))
                  case atStart => exact ⟨jp + 1 + 1, d2, by first | rfl | go_num, Nat.le_refl _, by omega, by omega, HZ.out.2.1, HS2.out, rfl⟩
                  case round =>
                    obtain ⟨j, dj, rfl, hj1, hj2, hj3, hs1, hR1, HU⟩ := hrel
                    by_cases hj0 : j < b
                    · obtain ⟨jq, rfl⟩ : ∃ jq, j = jq + 1 := ⟨j - 1, by omega⟩
                      have g7 : (jq : Int) + 1 < (b : Int) := by omega
                      have p0 : (0 : Int) ≤ (jq : Int) + 1 := by omega
                      have p1 : (jq : Int) + 1 < (n : Int) := by omega
                      have p2 : (0 : Int) ≤ (jq : Int) := by omega
                      have p3 : (jq : Int) < (n : Int) := by omega
                      have p5 : ((jq : Int) + 1).toNat = jq + 1 := by omega
                      have p7 : IntKind.i64.wrap (jq : Int) = (jq : Int) := by rw [IntKind.wrap_i64]; omega
                      have p8 : IntKind.i64.wrap ((jq : Int) + 1 - 1) = (jq : Int) := by rw [IntKind.wrap_i64]; omega
                      obtain ⟨x0, x1, x2⟩ := hR1.cells (j := (jq + 1)) (by omega)
                      obtain ⟨y0, y1, y2⟩ := hR1.cells (j := jq) (by omega)
                      have hcm := fun W => compare_any f vw HR.out.2.2 (dj[(jq + 1)]!) (dj[jq]!) W
                      unfold edV at hcm
                      have hlt2 := cmpV_neg vw (dj[(jq + 1)]!) (dj[jq]!)
                      obtain ⟨xe, hxe⟩ : ∃ xe, xe = dj[(jq + 1)]! := ⟨_, rfl⟩
                      obtain ⟨ye, hye⟩ : ∃ ye, ye = dj[jq]! := ⟨_, rfl⟩
                      rw [← hxe] at x0 x1 x2 hcm hlt2
                      rw [← hye] at y0 y1 y2 hcm hlt2
                      have HE : Hid _ := And.intro hxe hye
                      clear hxe hye
                      obtain ⟨xa, xb, xc⟩ := xe
                      obtain ⟨ya, yb, yc⟩ := ye
                      generalize cmpE (vw (xa, xb, xc)) (vw (ya, yb, yc)) = c at hcm hlt2
                      have HC : Hid _ := hcm
                      have HL : Hid _ := hlt2
                      clear hcm hlt2
                      simp only at x0 x1 x2 y0 y1 y2
                      have H1 : Hid (RowE w0 wr g dj rest ∧ dj.size = n) := ⟨hR1, hs1⟩
                      clear hR1 hs1
                      by_cases hc : c < 0
                      · have p6 : decide (c < 0) = true := decide_eq_true hc
                        go_upto_region 22 with fail
                        go_region_held3 (fun w' => ((w'.cell? ⟨g, (jq + 1) * 3, none⟩ = some (.int .i64 xa) ∧ w'.cell? ⟨g, (jq + 1) * 3 + 1, none⟩ = some (.int .i64 xb) ∧ w'.cell? ⟨g, (jq + 1) * 3 + 2, none⟩ = some (.int .i64 xc)) ∧ (w'.cell? ⟨g, jq * 3, none⟩ = some (.int .i64 ya) ∧ w'.cell? ⟨g, jq * 3 + 1, none⟩ = some (.int .i64 yb) ∧ w'.cell? ⟨g, jq * 3 + 2, none⟩ = some (.int .i64 yc))) ∧ Hid (Below wr.heap.size wr w')) (first | exact rg_up6 hb3 (by assumption) | exact ⟨⟨⟨x0, x1, x2⟩, ⟨y0, y1, y2⟩⟩, ((Below.refl _ _).drew : Below wr.heap.size wr wr.drew)⟩ | go_keep)
                          ((first
                            | (go_at_fn 39; refine (HC.out _).mono ?_; rintro r w3 ⟨rfl, hb3⟩)
                            | fail))
                        have hbq : Below wr.heap.size wr w3 := rg_b (by assumption)
                        clear x0 x1 x2 y0 y1 y2 hb3 HC
                        rename_i hS3
                        clear hS3
                        have H3 : Hid (RowE w0 w3 g dj rest ∧ dj.size = n) := ⟨H1.out.1.below hbq, H1.out.2⟩
                        clear hbq
                        have hR4 := H3.out.1
                        have hs4 := H3.out.2
                        have f0 := hR4.free ((jq + 1) * 3)
                        have f1 := hR4.free ((jq + 1) * 3 + 1)
                        have f2 := hR4.free ((jq + 1) * 3 + 2)
                        have f3 := hR4.free (jq * 3)
                        have f4 := hR4.free (jq * 3 + 1)
                        have f5 := hR4.free (jq * 3 + 2)
                        obtain ⟨z0, z1, z2⟩ := hR4.cells (j := (jq + 1)) (by omega)
                        obtain ⟨z3, z4, z5⟩ := hR4.cells (j := jq) (by omega)
                        obtain ⟨xe2, hxe2⟩ : ∃ xe, xe = dj[(jq + 1)]! := ⟨_, rfl⟩
                        obtain ⟨ye2, hye2⟩ : ∃ ye, ye = dj[jq]! := ⟨_, rfl⟩
                        rw [← hxe2] at z0 z1 z2
                        rw [← hye2] at z3 z4 z5
                        have HE2 : Hid _ := And.intro hxe2 hye2
                        clear hxe2 hye2
                        obtain ⟨sa, sb, sc⟩ := xe2
                        obtain ⟨ta, tb, tc⟩ := ye2
                        simp only at z0 z1 z2 z3 z4 z5
                        clear hR4 hs4
                        have hne : ¬ jq + 1 = jq := by omega
                        have hne2 : ¬ jq = jq + 1 := by omega
                        go_wp2_with fail
                        go_region
                        all_goals go_wp2_with fail
                        go_roundg (b - (jq + 1 + 1))
                        case measure => omega
                        case rel =>
                          refine ⟨jq + 1 + 1, Sort.swp dj (jq + 1) jq, by go_num, by omega, by omega, Nat.le_refl _, by rw [Sort.size_swp]; exact H3.out.2, H3.out.1.swapped (i := jq + 1) (j := jq) (x := (sa, sb, sc)) (y := (ta, tb, tc)) (by have := H3.out.2; omega) (by have := H3.out.2; omega) HE2.out.1 HE2.out.2, (show Hid _ from ?_)⟩
                          show _ = _
                          have h7 : ltV vw dj[jq + 1]! dj[jq]! = true := (by rw [← HE.out.1, ← HE.out.2]; exact HL.out.1 hc)
                          rw [← HU.out, sp_go hj0 h7]
                      · have p6 : decide (c < 0) = false := decide_eq_false hc
                        go_upto_region 22 with fail
                        go_region_held3 (fun w' => ((w'.cell? ⟨g, (jq + 1) * 3, none⟩ = some (.int .i64 xa) ∧ w'.cell? ⟨g, (jq + 1) * 3 + 1, none⟩ = some (.int .i64 xb) ∧ w'.cell? ⟨g, (jq + 1) * 3 + 2, none⟩ = some (.int .i64 xc)) ∧ (w'.cell? ⟨g, jq * 3, none⟩ = some (.int .i64 ya) ∧ w'.cell? ⟨g, jq * 3 + 1, none⟩ = some (.int .i64 yb) ∧ w'.cell? ⟨g, jq * 3 + 2, none⟩ = some (.int .i64 yc))) ∧ Hid (Below wr.heap.size wr w')) (first | exact rg_up6 hb3 (by assumption) | exact ⟨⟨⟨x0, x1, x2⟩, ⟨y0, y1, y2⟩⟩, ((Below.refl _ _).drew : Below wr.heap.size wr wr.drew)⟩ | go_keep)
                          ((first
                            | (go_at_fn 39; refine (HC.out _).mono ?_; rintro r w3 ⟨rfl, hb3⟩)
                            | fail))
                        have hbq : Below wr.heap.size wr w3 := rg_b (by assumption)
                        clear x0 x1 x2 y0 y1 y2 hb3 HC
                        rename_i hS3
                        clear hS3
                        have H3 : Hid (RowE w0 w3 g dj rest ∧ dj.size = n) := ⟨H1.out.1.below hbq, H1.out.2⟩
                        clear hbq
                        go_wp2_with fail
                        go_roundg (5 - (k + 1))
                        case measure => omega
                        case rel =>
                          refine ⟨jp + 1, k + 1, d3, by first | rfl | go_num, by go_num, by omega, by omega, by omega, Nat.le_refl _, HZ.out.2.2, ?_, (show Hid _ from ?_)⟩
                          · have h7 : ltV vw dj[jq + 1]! dj[jq]! = false := (by rw [← HE.out.1, ← HE.out.2]; cases h : ltV vw (xa, xb, xc) (ya, yb, yc) with | false => rfl | true => exact absurd (HL.out.2 h) (by omega))
                            rw [H9.out, ← HU.out, sp_stop hj0 h7]
                            exact H3.out.1
                          · show _ = _
                            rw [← HO.out, HNX.out.1]
                    · have g7 : ¬ (j : Int) < (b : Int) := by omega
                      have H3 : Hid _ := hR1
                      clear hR1
                      go_wp2_with fail
                      go_roundg (5 - (k + 1))
                      case measure => omega
                      case rel =>
                        refine ⟨jp + 1, k + 1, d3, by first | rfl | go_num, by go_num, by omega, by omega, by omega, Nat.le_refl _, HZ.out.2.2, ?_, (show Hid _ from ?_)⟩
                        · rw [H9.out, ← HU.out, sp_far hj0]
                          exact H3.out
                        · show _ = _
                          rw [← HO.out, HNX.out.1]
                · have g6 : ¬ (2 : Int) ≤ (b : Int) - ((jp : Int) + 1) := by omega
                  have h9 : d3 = d2 := by rw [HNX.out.2.2.2, if_neg h2]
                  have H9 : Hid _ := h9
                  clear h9
                  go_wp2_with fail
                  go_roundg (5 - (k + 1))
                  case measure => omega
                  case rel =>
                    refine ⟨jp + 1, k + 1, d3, by first | rfl | go_num, by go_num, by omega, by omega, by omega, Nat.le_refl _, HZ.out.2.2, ?_, (show Hid _ from ?_)⟩
                    · rw [H9.out]
                      exact HS2.out
                    · show _ = _
                      rw [← HO.out, HNX.out.1]
    · have gk : ¬ (k : Int) < 5 := by omega
      go_wp2_with fail
      go_ret
      have h5 : k = 5 := by omega
      subst h5
      rw [← HO.out]
      exact ⟨rfl, HRk.out.1⟩
end
section
open Go.RowKit Go.Maps
attribute [local go_sem ↓] Go.wp_at_zero Go.wp_at_succ
set_option maxRecDepth 100000 in
set_option maxHeartbeats 4000000 in
theorem xNext_any (rb X : Nat) (hX : X < 18446744073709551616) (w : World) (hc : w.cell? ⟨rb, 0, none⟩ = some (.int .u64 X)) (hf : w.frozen? ⟨rb, 0, none⟩ = false) :
    Calls Tryd.prog 82 #[.pointer (some ⟨rb, 0, none⟩)] w fun r w' => r = .returned (.int .u64 (Sort.xorNextN X : Nat)) ∧ w' = (w.setCell ⟨rb, 0, none⟩ (.int .u64 (Sort.xorNextN X : Nat))).drewN 3 := by
  obtain ⟨p, q, hp, hq, h1, h2, h3⟩ : ∃ p q : Nat, p < 18446744073709551616 ∧ q < 18446744073709551616 ∧ p = X ^^^ (X * 8192 % 18446744073709551616) ∧ q = p ^^^ (p / 128) ∧ Sort.xorNextN X = q ^^^ (q * 131072 % 18446744073709551616) :=
    ⟨_, _, Nat.xor_lt_two_pow (n := 64) (by omega) (by omega), Nat.xor_lt_two_pow (n := 64) (Nat.xor_lt_two_pow (n := 64) (by omega) (by omega)) (Nat.lt_of_le_of_lt (Nat.div_le_self _ _) (Nat.xor_lt_two_pow (n := 64) (by omega) (by omega))), rfl, rfl, rfl⟩
  generalize Sort.xorNextN X = z at h3 ⊢
  have e1 : bits .xor .u64 (X : Int) (IntKind.u64.wrap ((X : Int) * 8192)) = (p : Int) := by
    rw [IntKind.wrap_u64, show ((X : Int) * 8192 % 18446744073709551616) = ((X * 8192 % 18446744073709551616 : Nat) : Int) by omega, bits_xor_u64_nat _ _ hX (by omega), h1]
  have e2 : bits .xor .u64 (p : Int) ((p : Int) / 128) = (q : Int) := by
    rw [show ((p : Int) / 128) = ((p / 128 : Nat) : Int) by omega, bits_xor_u64_nat _ _ hp (by omega), h2]
  have e3 : bits .xor .u64 (q : Int) (IntKind.u64.wrap ((q : Int) * 131072)) = (z : Int) := by
    rw [IntKind.wrap_u64, show ((q : Int) * 131072 % 18446744073709551616) = ((q * 131072 % 18446744073709551616 : Nat) : Int) by omega, bits_xor_u64_nat _ _ hq (by omega), h3]
  clear h1 h2 h3
  have hss := setCell_setCell w rb 0
  go_enter Tryd.func82, Tryd.ntmps82
  go_wp2_with fail
  go_region
  all_goals go_wp2_with fail
  all_goals go_region
  all_goals go_wp2_with fail
  all_goals go_region
  all_goals go_wp2_with fail
  go_ret
  exact ⟨rfl, rfl⟩
set_option maxRecDepth 100000 in
set_option maxHeartbeats 4000000 in
theorem nextPow_any (n : Nat) (hn : n ≤ 1000000) (w : World) :
    Calls Tryd.prog 81 #[.int .i64 n] w fun r w' => r = .returned (.int .u64 ((1 <<< Sort.bitsLen n : Nat) : Int)) ∧ w' = w := by
  have hL := Tryd.bits_Len (n : Int) w (by omega) (by omega)
  rw [Int.toNat_natCast, bitLen_eq _ (by omega)] at hL
  have hk : Sort.bitsLen n ≤ 62 := (Sort.bitsLen_le_iff n 62).2 (by omega)
  have hp := wrap_two_pow (Sort.bitsLen n) hk
  generalize Sort.bitsLen n = k at hL hk hp ⊢
  have hm : min k 64 = k := by omega
  have hm' : min (k : Int) 64 = (k : Int) := by omega
  have HI : Hid _ := hL
  clear hL
  go_enter Tryd.func81, Tryd.ntmps81
  go_wp2_with (first
    | (go_at_call 59; refine Calls.mono HI.out ?_; rintro r w1 ⟨rfl, hw1⟩; obtain rfl := hw1.symm))
  go_ret
  exact ⟨rfl, rfl⟩
end
section
open Go.RowKit Go.Maps
attribute [local go_sem ↓] Go.wp_at_zero Go.wp_at_succ
/-- The row, and the state of the random numbers in a block of its own. -/
structure RnE (w0 wr : World) (g : Nat) (d : Array Sy.Ed) (rest : List Value) (c s : Nat) : Prop where
  row : RowE w0 wr g d rest
  cell : wr.heap[c]? = some (.cells #[.int .u64 s] 129 (0, 0))
  up : w0.heap.size ≤ c
  ne : c ≠ g
theorem RnE.below {w0 wr w' : World} {g : Nat} {d : Array Sy.Ed} {rest : List Value} {c s : Nat} (h : RnE w0 wr g d rest c s) (hb : Below wr.heap.size wr w') : RnE w0 w' g d rest c s := ⟨h.row.below hb, (hb.block _ (t_lt h.cell)).trans h.cell, h.up, h.ne⟩
theorem RnE.bump {w0 wr : World} {g : Nat} {d : Array Sy.Ed} {rest : List Value} {c s : Nat} (h : RnE w0 wr g d rest c s) (t : Nat) : RnE w0 (wr.setCell ⟨c, 0, none⟩ (.int .u64 t)) g d rest c t :=
  ⟨Arr.kept h.row (Kept.setCell _ _ _ _) fun b e => by subst e; exact ⟨h.up, h.ne⟩, heap_setCell_same _ _ 0 _ _ _ h.cell, h.up, h.ne⟩
theorem st3_kept (w : World) (g k : Nat) (x : Sy.Ed) : Kept (fun i => i = g) w (st3 w g k x) := ((Kept.setCell _ _ _ _).trans (Kept.setCell _ _ _ _)).trans (Kept.setCell _ _ _ _)
theorem RnE.swapped {w0 wr : World} {g : Nat} {d : Array Sy.Ed} {rest : List Value} {c s : Nat} (h : RnE w0 wr g d rest c s) {i j : Nat} {x y : Sy.Ed} (hi : i < d.size) (hj : j < d.size) (hx : x = d[i]!) (hy : y = d[j]!) : RnE w0 (st3 (st3 wr g i y) g j x).drew g (Sort.swp d i j) rest c s := by
  have hk := (st3_kept wr g i y).trans (st3_kept (st3 wr g i y) g j x)
  have hz := hk.block c (t_lt h.cell) h.ne
  have hs := hk.size
  have hw := h.row.swapped hi hj hx hy
  generalize st3 (st3 wr g i y) g j x = W at hz hw hs ⊢
  exact ⟨hw, (((Below.refl W.heap.size W).drew).block c (Nat.lt_of_lt_of_le (t_lt h.cell) hs)).trans (hz.trans h.cell), h.up, h.ne⟩
set_option maxRecDepth 100000 in
set_option maxHeartbeats 16000000 in
theorem breakPat_any (g cap a b : Nat) (d : Array Sy.Ed) (rest : List Value) (u : Value) (w0 w : World) (hR : RowE w0 w g d rest) (hab : a ≤ b) (hb : b ≤ d.size) (hsz : d.size ≤ 1000000) :
    Calls Tryd.prog 68 #[.slice (some ⟨g, 0, none⟩) d.size cap, .int .i64 a, .int .i64 b, u] w fun r w' => r = .returned (.tuple #[]) ∧ RowE w0 w' g (Sort.breakPatterns d a b) rest := by
  obtain ⟨L, hL⟩ : ∃ L, b = a + L := ⟨b - a, by omega⟩
  have v1 : IntKind.i64.wrap ((b : Int) - (a : Int)) = (L : Int) := by rw [IntKind.wrap_i64]; omega
  have v1' : (b : Int) - (a : Int) = (L : Int) := by omega
  have vL : IntKind.i64.wrap (L : Int) = (L : Int) := by rw [IntKind.wrap_i64]; omega
  by_cases h8 : 8 ≤ L
  · have g8 : (8 : Int) ≤ (L : Int) := by omega
    obtain ⟨Q, hQ⟩ : ∃ Q, Q = L / 4 := ⟨_, rfl⟩
    obtain ⟨J, hJ⟩ : ∃ J, J = a + Q * 2 := ⟨_, rfl⟩
    obtain ⟨I0, hI⟩ : ∃ I0, I0 = J - 1 := ⟨_, rfl⟩
    obtain ⟨M, hM⟩ : ∃ M : Nat, M = 1 <<< Sort.bitsLen L := ⟨_, rfl⟩
    have hM1 : 1 ≤ M := by rw [hM, Nat.one_shiftLeft]; exact Nat.two_pow_pos _
    have hM2 : M ≤ 2 * L := by rw [hM, Nat.one_shiftLeft]; exact Sort.two_pow_bitsLen_le (by omega)
    have hNP := fun W => nextPow_any L (by omega) W
    have hbp : Sort.breakPatterns d a b = bpRest a L M I0 3 0 (UInt64.ofNat L, d) := by rw [hL, breakPatterns_eq d a L h8, hM, hI, hJ, hQ]
    rw [hbp]
    rw [← hM] at hNP
    have hL64 : (UInt64.ofNat L).toNat = L := by simp; omega
    have hRn : RnE w0 (w.alloc (.cells #[.int .u64 (L : Int)] 129)) g d rest w.heap.size (UInt64.ofNat L).toNat := by
      rw [hL64]
      exact ⟨hR.below ((Below.refl _ _).alloc (Nat.le_refl _) _), heap_alloc_new w _, hR.bl.size, fun e => absurd (Arr.lt hR) (by omega)⟩
    have v2 : IntKind.i64.wrap ((L : Int) / 4) = (Q : Int) := by rw [IntKind.wrap_i64]; omega
    have v2' : (L : Int) / 4 = (Q : Int) := by omega
    have v3 : IntKind.i64.wrap (Q : Int) = (Q : Int) := by rw [IntKind.wrap_i64]; omega
    have v4 : IntKind.i64.wrap ((Q : Int) * 2) = (Q : Int) * 2 := by rw [IntKind.wrap_i64]; omega
    have v6 : IntKind.i64.wrap ((a : Int) + (Q : Int) * 2) = (J : Int) := by rw [IntKind.wrap_i64]; omega
    have v6' : (a : Int) + (Q : Int) * 2 = (J : Int) := by omega
    have v7 : IntKind.i64.wrap ((J : Int) - 1) = (I0 : Int) := by rw [IntKind.wrap_i64]; omega
    have v7' : (J : Int) - 1 = (I0 : Int) := by omega
    have b1 : a + 1 ≤ J ∧ J + 1 < d.size ∧ I0 + 1 ≤ J ∧ J ≤ I0 + 1 ∧ a + L ≤ d.size ∧ L ≤ 1000000 := by omega
    have u64L : IntKind.u64.wrap (L : Int) = (L : Int) := by rw [IntKind.wrap_u64]; omega
    obtain ⟨n, hn⟩ : ∃ n, n = d.size := ⟨_, rfl⟩
    have HI : Hid _ := And.intro hNP (And.intro hRn hn)
    rw [← hn] at b1 hsz ⊢
    clear hR hNP hRn hL64 hbp hM hI hJ hQ hL hb hn hab
    go_enter Tryd.func68, Tryd.ntmps68
    go_wp2_with (first | (go_at_call 81; refine Calls.mono (HI.out.1 _) ?_; rintro r w1 ⟨rfl, hw1⟩; obtain rfl := hw1.symm))
    go_loopg [11] 3 (fun q iv wr => ∃ (t x : Nat) (r : UInt64) (dk : Array Sy.Ed), iv = .int .i64 x ∧ (x ≤ I0 + t ∧ I0 + t ≤ x) ∧ t ≤ 3 ∧ 3 - t ≤ q ∧ dk.size = n ∧ RnE w0 wr g dk rest w.heap.size r.toNat ∧ Hid (bpRest a L M I0 (3 - t) t (r, dk) = bpRest a L M I0 3 0 (UInt64.ofNat L, d)))
    case atStart => exact ⟨0, I0, UInt64.ofNat L, d, rfl, ⟨Nat.le_refl _, Nat.le_refl _⟩, by omega, by omega, HI.out.2.2.symm, HI.out.2.1, rfl⟩
    case round =>
      obtain ⟨t, x, r, dk, rfl, hx, ht, hq, hsk, hRn, HO⟩ := hrel
      by_cases ht3 : t < 3
      · have g1 : (x : Int) ≤ (J : Int) + 1 := by omega
        have hN := xNext_any w.heap.size r.toNat r.toNat_lt wr (cell0_of hRn.cell rfl) (blk_free hRn.cell 0)
        rw [← Sort.xorNext_toNat] at hN
        have hR2 := (hRn.bump (Sort.xorNext r).toNat).below ((((Below.refl _ _).drew).drew).drew : Below _ _ ((wr.setCell ⟨w.heap.size, 0, none⟩ (.int .u64 ((Sort.xorNext r).toNat : Nat))).drewN 3))
        obtain ⟨W2, hW2⟩ : ∃ W2, W2 = (wr.setCell ⟨w.heap.size, 0, none⟩ (.int .u64 ((Sort.xorNext r).toNat : Nat))).drewN 3 := ⟨_, rfl⟩
        rw [← hW2] at hN hR2
        obtain ⟨O, hO⟩ : ∃ O : Nat, O = (Sort.xorNext r).toNat &&& (M - 1) := ⟨_, rfl⟩
        have lO : O ≤ M - 1 := by rw [hO]; exact Nat.and_le_right
        obtain ⟨M1, hM3⟩ : ∃ M1, M1 = M - 1 := ⟨_, rfl⟩
        have lR := (Sort.xorNext r).toNat_lt
        obtain ⟨R, hRr⟩ : ∃ R, R = (Sort.xorNext r).toNat := ⟨_, rfl⟩
        rw [← hRr] at hN hR2 hO lR
        have eA : bits .and .u64 (R : Int) (M1 : Int) = (O : Int) := by rw [bits_and_u64_nat _ _ lR (by omega), hO, hM3]
        have eM : IntKind.u64.wrap ((M : Int) - 1) = (M1 : Int) := by rw [IntKind.wrap_u64]; omega
        have eM' : (M : Int) - 1 = (M1 : Int) := by omega
        have eO : IntKind.i64.wrap (O : Int) = (O : Int) := by rw [IntKind.wrap_i64]; omega
        have HN : Hid _ := hN
        have HR : Hid _ := And.intro hR2 (And.intro hsk (And.intro hRr hO))
        have hlO : O < 2 * L := by omega
        clear hRn hN hW2 hRr hO lO lR hM3 hsk
        by_cases hLO : L ≤ O
        · have c1 : (L : Int) ≤ (O : Int) := by omega
          obtain ⟨o, ho⟩ : ∃ o, o = O - L := ⟨_, rfl⟩
          have c2 : IntKind.i64.wrap ((O : Int) - (L : Int)) = (o : Int) := by rw [IntKind.wrap_i64]; omega
          have c2' : (O : Int) - (L : Int) = (o : Int) := by omega
          have hoo : (if O ≥ L then O - L else O) = o := by rw [if_pos hLO, ho]
          obtain ⟨y, hy⟩ : ∃ y, y = a + o := ⟨_, rfl⟩
          have c3 : IntKind.i64.wrap ((a : Int) + (o : Int)) = (y : Int) := by rw [IntKind.wrap_i64]; omega
          have c3' : (a : Int) + (o : Int) = (y : Int) := by omega
          have hyn : y < n := by omega
          have hxn : x < n := by omega
          have q0 : (0 : Int) ≤ (x : Int) := by omega
          have q1 : (x : Int) < (n : Int) := by omega
          have q2 : (0 : Int) ≤ (y : Int) := by omega
          have q3 : (y : Int) < (n : Int) := by omega
          have hst : bpRest a L M I0 (3 - t) t (r, dk) = bpRest a L M I0 (3 - (t + 1)) (t + 1) (Sort.xorNext r, Sort.swp dk x y) := by
            rw [bp_step a L M I0 t r dk o ht3 (by rw [← HR.out.2.2.1, ← HR.out.2.2.2]; exact hoo), hy, show x = I0 + t by omega]
          have HS : Hid _ := hst
          clear hst hoo ho hy
          have hR3 := HR.out.1.row
          have hsk := HR.out.2.1
          have f0 := hR3.free (x * 3)
          have f1 := hR3.free (x * 3 + 1)
          have f2 := hR3.free (x * 3 + 2)
          have f3 := hR3.free (y * 3)
          have f4 := hR3.free (y * 3 + 1)
          have f5 := hR3.free (y * 3 + 2)
          obtain ⟨z0, z1, z2⟩ := hR3.cells (j := x) (by omega)
          obtain ⟨z3, z4, z5⟩ := hR3.cells (j := y) (by omega)
          obtain ⟨xe2, hxe2⟩ : ∃ xe, xe = dk[x]! := ⟨_, rfl⟩
          obtain ⟨ye2, hye2⟩ : ∃ ye, ye = dk[y]! := ⟨_, rfl⟩
          rw [← hxe2] at z0 z1 z2
          rw [← hye2] at z3 z4 z5
          have HE2 : Hid _ := And.intro hxe2 hye2
          clear hxe2 hye2
          obtain ⟨sa, sb, sc⟩ := xe2
          obtain ⟨ta, tb, tc⟩ := ye2
          simp only at z0 z1 z2 z3 z4 z5
          clear hR3 hsk
          by_cases hne : x = y
          · subst hne
            clear z3 z4 z5 f3 f4 f5
            go_wp2_with (first | (go_at_call 82; refine Calls.mono HN.out ?_; rintro r1 w1 ⟨rfl, hw1⟩; obtain rfl := hw1.symm))
            go_region
            all_goals go_wp2_with fail
            go_roundg (3 - (t + 1))
            case measure => omega
            case rel =>
              refine ⟨t + 1, x + 1, Sort.xorNext r, Sort.swp dk x x, by go_num, by omega, by omega, Nat.le_refl _, by rw [Sort.size_swp]; exact HR.out.2.1, ?_, (show Hid _ from ?_)⟩
              · rw [← HR.out.2.2.1]
                exact HR.out.1.swapped (i := x) (j := x) (x := (sa, sb, sc)) (y := (sa, sb, sc)) (by have := HR.out.2.1; omega) (by have := HR.out.2.1; omega) HE2.out.1 HE2.out.1
              · show _ = _
                rw [← HO.out, HS.out]
          · have hne2 : ¬ y = x := fun e => hne e.symm
            go_wp2_with (first | (go_at_call 82; refine Calls.mono HN.out ?_; rintro r1 w1 ⟨rfl, hw1⟩; obtain rfl := hw1.symm))
            go_region
            all_goals go_wp2_with fail
            go_roundg (3 - (t + 1))
            case measure => omega
            case rel =>
              refine ⟨t + 1, x + 1, Sort.xorNext r, Sort.swp dk x y, by go_num, by omega, by omega, Nat.le_refl _, by rw [Sort.size_swp]; exact HR.out.2.1, ?_, (show Hid _ from ?_)⟩
              · rw [← HR.out.2.2.1]
                exact HR.out.1.swapped (i := x) (j := y) (x := (sa, sb, sc)) (y := (ta, tb, tc)) (by have := HR.out.2.1; omega) (by have := HR.out.2.1; omega) HE2.out.1 HE2.out.2
              · show _ = _
                rw [← HO.out, HS.out]
        · have c1 : ¬ (L : Int) ≤ (O : Int) := by omega
          obtain ⟨o, ho⟩ : ∃ o, o = O := ⟨_, rfl⟩
          have hoo : (if O ≥ L then O - L else O) = o := by rw [if_neg hLO, ho]
          obtain ⟨y, hy⟩ : ∃ y, y = a + o := ⟨_, rfl⟩
          have c3 : IntKind.i64.wrap ((a : Int) + (O : Int)) = (y : Int) := by rw [IntKind.wrap_i64]; omega
          have c3' : (a : Int) + (O : Int) = (y : Int) := by omega
          have hyn : y < n := by omega
          have hxn : x < n := by omega
          have q0 : (0 : Int) ≤ (x : Int) := by omega
          have q1 : (x : Int) < (n : Int) := by omega
          have q2 : (0 : Int) ≤ (y : Int) := by omega
          have q3 : (y : Int) < (n : Int) := by omega
          have hst : bpRest a L M I0 (3 - t) t (r, dk) = bpRest a L M I0 (3 - (t + 1)) (t + 1) (Sort.xorNext r, Sort.swp dk x y) := by
            rw [bp_step a L M I0 t r dk o ht3 (by rw [← HR.out.2.2.1, ← HR.out.2.2.2]; exact hoo), hy, show x = I0 + t by omega]
          have HS : Hid _ := hst
          clear hst hoo ho hy
          have hR3 := HR.out.1.row
          have hsk := HR.out.2.1
          have f0 := hR3.free (x * 3)
          have f1 := hR3.free (x * 3 + 1)
          have f2 := hR3.free (x * 3 + 2)
          have f3 := hR3.free (y * 3)
          have f4 := hR3.free (y * 3 + 1)
          have f5 := hR3.free (y * 3 + 2)
          obtain ⟨z0, z1, z2⟩ := hR3.cells (j := x) (by omega)
          obtain ⟨z3, z4, z5⟩ := hR3.cells (j := y) (by omega)
          obtain ⟨xe2, hxe2⟩ : ∃ xe, xe = dk[x]! := ⟨_, rfl⟩
          obtain ⟨ye2, hye2⟩ : ∃ ye, ye = dk[y]! := ⟨_, rfl⟩
          rw [← hxe2] at z0 z1 z2
          rw [← hye2] at z3 z4 z5
          have HE2 : Hid _ := And.intro hxe2 hye2
          clear hxe2 hye2
          obtain ⟨sa, sb, sc⟩ := xe2
          obtain ⟨ta, tb, tc⟩ := ye2
          simp only at z0 z1 z2 z3 z4 z5
          clear hR3 hsk
          by_cases hne : x = y
          · subst hne
            clear z3 z4 z5 f3 f4 f5
            go_wp2_with (first | (go_at_call 82; refine Calls.mono HN.out ?_; rintro r1 w1 ⟨rfl, hw1⟩; obtain rfl := hw1.symm))
            go_region
            all_goals go_wp2_with fail
            go_roundg (3 - (t + 1))
            case measure => omega
            case rel =>
              refine ⟨t + 1, x + 1, Sort.xorNext r, Sort.swp dk x x, by go_num, by omega, by omega, Nat.le_refl _, by rw [Sort.size_swp]; exact HR.out.2.1, ?_, (show Hid _ from ?_)⟩
              · rw [← HR.out.2.2.1]
                exact HR.out.1.swapped (i := x) (j := x) (x := (sa, sb, sc)) (y := (sa, sb, sc)) (by have := HR.out.2.1; omega) (by have := HR.out.2.1; omega) HE2.out.1 HE2.out.1
              · show _ = _
                rw [← HO.out, HS.out]
          · have hne2 : ¬ y = x := fun e => hne e.symm
            go_wp2_with (first | (go_at_call 82; refine Calls.mono HN.out ?_; rintro r1 w1 ⟨rfl, hw1⟩; obtain rfl := hw1.symm))
            go_region
            all_goals go_wp2_with fail
            go_roundg (3 - (t + 1))
            case measure => omega
            case rel =>
              refine ⟨t + 1, x + 1, Sort.xorNext r, Sort.swp dk x y, by go_num, by omega, by omega, Nat.le_refl _, by rw [Sort.size_swp]; exact HR.out.2.1, ?_, (show Hid _ from ?_)⟩
              · rw [← HR.out.2.2.1]
                exact HR.out.1.swapped (i := x) (j := y) (x := (sa, sb, sc)) (y := (ta, tb, tc)) (by have := HR.out.2.1; omega) (by have := HR.out.2.1; omega) HE2.out.1 HE2.out.2
              · show _ = _
                rw [← HO.out, HS.out]
      · have g1 : ¬ (x : Int) ≤ (J : Int) + 1 := by omega
        have HR : Hid _ := hRn.row
        clear hRn
        go_wp2_with fail
        go_end0
        have h3 : t = 3 := by omega
        subst h3
        rw [← HO.out]
        exact ⟨rfl, HR.out⟩
  · have g8 : ¬ (8 : Int) ≤ (L : Int) := by omega
    have hbp : Sort.breakPatterns d a b = d := by
      unfold Sort.breakPatterns
      simp only
      rw [if_neg (by omega)]
    rw [hbp]
    have HR : Hid _ := hR
    clear hR hbp hL
    go_enter Tryd.func68, Tryd.ntmps68
    go_wp2_with fail
    go_end0
    exact ⟨rfl, HR.out⟩
end
end Go.Proofs.YtladdlkfnfdhaaaDoor
