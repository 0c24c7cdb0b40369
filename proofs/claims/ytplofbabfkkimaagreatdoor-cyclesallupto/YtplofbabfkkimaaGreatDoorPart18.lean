/- Texts of this claim, joined: SoBreak, SoPdq, ErLaid, SyArgI, SyArg. -/
import Derived.Test.YtplofbabfkkimaaGreatDoorPart17
import Derived.Sort.Walk7
import Derived.Test.YtplofbabfkkimaaGreatDoorPart6
import Derived.Sort.Walk13a
import Derived.Test.YtplofbabfkkimaaGreatDoorRows
import Derived.Test.YtplofbabfkkimaaGreatDoorPart5
import Derived.ProofKit
import Derived.LaidMore
import Derived.Stop.LaidErr
import Derived.Lib.SmallJoins
import Derived.Deep.Slices
import Derived.Test.YtplofbabfkkimaaGreatDoorPart15
/- Contract of slices' breakPatterns of edges. (Written by mkbreak.py.) -/
namespace Go.Proofs.YtplofbabfkkimaaGreatDoor
open Go.RowKit Go.Maps
attribute [local go_sem ↓] Go.wp_at_zero Go.wp_at_succ
structure RnE (w0 wr : World) (g : Nat) (d : Array Sy.Ed) (rest : List Value) (c s : Nat) : Prop where
 row : RowE w0 wr g d rest
 cell : wr.heap[c]? = some (.cells #[.int .u64 s] 225 (0, 0))
 up : w0.heap.size ≤ c
 ne : c ≠ g
theorem RnE.below {w0 wr w' : World} {g : Nat} {d : Array Sy.Ed} {rest : List Value} {c s : Nat} (h : RnE w0 wr g d rest c s) (hb : Below wr.heap.size wr w') : RnE w0 w' g d rest c s := ⟨h.row.below hb, (hb.block _ (t_lt h.cell)).trans h.cell, h.up, h.ne⟩
theorem RnE.bump {w0 wr : World} {g : Nat} {d : Array Sy.Ed} {rest : List Value} {c s : Nat} (h : RnE w0 wr g d rest c s) (t : Nat) : RnE w0 (wr.setCell ⟨c, 0, none⟩ (.int .u64 t)) g d rest c t :=
 ⟨Arr.kept h.row (Kept.setCell _ _ _ _) fun b e => by subst e; exact ⟨h.up, h.ne⟩, heap_setCell_same _ _ 0 _ _ _ h.cell, h.up, h.ne⟩
theorem st3_kept (w : World) (g k : Nat) (x : Sy.Ed) : Kept (fun i => i = g) w (st3 w g k x) := ((Kept.setCell _ _ _ _).trans (Kept.setCell _ _ _ _)).trans (Kept.setCell _ _ _ _)
theorem RnE.swapped {w0 wr : World} {g : Nat} {d : Array Sy.Ed} {rest : List Value} {c s : Nat} (h : RnE w0 wr g d rest c s) {i j : Nat} {x y : Sy.Ed} (hi : i < d.size) (hj : j < d.size) (hx : x = d[i]!) (hy : y = d[j]!) : RnE w0 (st3 (st3 wr g i y) g j x).drew g (Sort.swp d i j) rest c s := by
 have hk := (st3_kept wr g i y).trans (st3_kept (st3 wr g i y) g j x)
 have hz := hk.block c (t_lt h.cell) h.ne
 have hs := hk.size
 have hw := h.row.swapped hi hj hx hy
 generalize st3 (st3 wr g i y) g j x = W at hz hw hs ⊢
 exact ⟨hw, (((Below.refl W.heap.size W).drew).block c (Nat.lt_of_lt_of_le (t_lt h.cell) hs)).trans (hz.trans h.cell), h.up, h.ne⟩
set_option maxRecDepth 100000 in
set_option maxHeartbeats 16000000 in
theorem breakPat_any (g cap a b : Nat) (d : Array Sy.Ed) (rest : List Value) (u : Value) (w0 w : World) (hR : RowE w0 w g d rest) (hab : a ≤ b) (hb : b ≤ d.size) (hsz : d.size ≤ 1000000) :
 Calls Tryz.prog 161 #[.slice (some ⟨g, 0, none⟩) d.size cap, .int .i64 a, .int .i64 b, u] w fun r w' => r = .returned (.tuple #[]) ∧ RowE w0 w' g (Sort.breakPatterns d a b) rest := by
 obtain ⟨L, hL⟩ : ∃ L, b = a + L := ⟨b - a, by omega⟩
 have v1 : IntKind.i64.wrap ((b : Int) - (a : Int)) = (L : Int) := by rw [IntKind.wrap_i64]; omega
 have v1' : (b : Int) - (a : Int) = (L : Int) := by omega
 have vL : IntKind.i64.wrap (L : Int) = (L : Int) := by rw [IntKind.wrap_i64]; omega
 by_cases h8 : 8 ≤ L
 ·have g8 : (8 : Int) ≤ (L : Int) := by omega
  obtain ⟨Q, hQ⟩ : ∃ Q, Q = L / 4 := ⟨_, rfl⟩
  obtain ⟨J, hJ⟩ : ∃ J, J = a + Q * 2 := ⟨_, rfl⟩
  obtain ⟨I0, hI⟩ : ∃ I0, I0 = J - 1 := ⟨_, rfl⟩
  obtain ⟨M, hM⟩ : ∃ M : Nat, M = 1 <<< Sort.bitsLen L := ⟨_, rfl⟩
  have hM1 : 1 ≤ M := by rw [hM, Nat.one_shiftLeft]; exact Nat.two_pow_pos _
  have hM2 : M ≤ 2 * L := by rw [hM, Nat.one_shiftLeft]; exact Sort.two_pow_bitsLen_le (by omega)
  have hNP := fun W => nextPow_any L (by omega) W
  have hbp : Sort.breakPatterns d a b = bpRest a L M I0 3 0 (UInt64.ofNat L, d) := by rw [hL, breakPatterns_eq d a L h8, hM, hI, hJ, hQ]
  rw [hbp]
  rw [← hM] at hNP
  have hL64 : (UInt64.ofNat L).toNat = L := by simp; omega
  have hRn : RnE w0 (w.alloc (.cells #[.int .u64 (L : Int)] 225)) g d rest w.heap.size (UInt64.ofNat L).toNat := by
   rw [hL64]
   exact ⟨hR.below ((Below.refl _ _).alloc (Nat.le_refl _) _), heap_alloc_new w _, hR.bl.size, fun e => absurd (Arr.lt hR) (by omega)⟩
  have v2 : IntKind.i64.wrap ((L : Int) / 4) = (Q : Int) := by rw [IntKind.wrap_i64]; omega
  have v2' : (L : Int) / 4 = (Q : Int) := by omega
  have v3 : IntKind.i64.wrap (Q : Int) = (Q : Int) := by rw [IntKind.wrap_i64]; omega
  have v4 : IntKind.i64.wrap ((Q : Int) * 2) = (Q : Int) * 2 := by rw [IntKind.wrap_i64]; omega
  have v6 : IntKind.i64.wrap ((a : Int) + (Q : Int) * 2) = (J : Int) := by rw [IntKind.wrap_i64]; omega
  have v6' : (a : Int) + (Q : Int) * 2 = (J : Int) := by omega
  have v7 : IntKind.i64.wrap ((J : Int) - 1) = (I0 : Int) := by rw [IntKind.wrap_i64]; omega
  have v7' : (J : Int) - 1 = (I0 : Int) := by omega
  have b1 : a + 1 ≤ J ∧ J + 1 < d.size ∧ I0 + 1 ≤ J ∧ J ≤ I0 + 1 ∧ a + L ≤ d.size ∧ L ≤ 1000000 := by omega
  have u64L : IntKind.u64.wrap (L : Int) = (L : Int) := by rw [IntKind.wrap_u64]; omega
  obtain ⟨n, hn⟩ : ∃ n, n = d.size := ⟨_, rfl⟩
  have HI : Hid _ := And.intro hNP (And.intro hRn hn)
  rw [← hn] at b1 hsz ⊢
  clear hR hNP hRn hL64 hbp hM hI hJ hQ hL hb hn hab
  go_enter Tryz.func161, Tryz.ntmps161
  go_wp2_with (first | (go_at_call 171; refine Calls.mono (HI.out.1 _) ?_; rintro r w1 ⟨rfl, hw1⟩; obtain rfl := hw1.symm))
  go_loopg [11] 3 (fun q iv wr => ∃ (t x : Nat) (r : UInt64) (dk : Array Sy.Ed), iv = .int .i64 x ∧ (x ≤ I0 + t ∧ I0 + t ≤ x) ∧ t ≤ 3 ∧ 3 - t ≤ q ∧ dk.size = n ∧ RnE w0 wr g dk rest w.heap.size r.toNat ∧ Hid (bpRest a L M I0 (3 - t) t (r, dk) = bpRest a L M I0 3 0 (UInt64.ofNat L, d)))
  case atStart => exact ⟨0, I0, UInt64.ofNat L, d, rfl, ⟨Nat.le_refl _, Nat.le_refl _⟩, by omega, by omega, HI.out.2.2.symm, HI.out.2.1, rfl⟩
  case round =>
   obtain ⟨t, x, r, dk, rfl, hx, ht, hq, hsk, hRn, HO⟩ := hrel
   by_cases ht3 : t < 3
   ·have g1 : (x : Int) ≤ (J : Int) + 1 := by omega
    have hN := xNext_any w.heap.size r.toNat r.toNat_lt wr (cell0_of hRn.cell rfl) (blk_free hRn.cell 0)
    rw [← Sort.xorNext_toNat] at hN
    have hR2 := (hRn.bump (Sort.xorNext r).toNat).below ((((Below.refl _ _).drew).drew).drew : Below _ _ ((wr.setCell ⟨w.heap.size, 0, none⟩ (.int .u64 ((Sort.xorNext r).toNat : Nat))).drewN 3))
    obtain ⟨W2, hW2⟩ : ∃ W2, W2 = (wr.setCell ⟨w.heap.size, 0, none⟩ (.int .u64 ((Sort.xorNext r).toNat : Nat))).drewN 3 := ⟨_, rfl⟩
    rw [← hW2] at hN hR2
    obtain ⟨O, hO⟩ : ∃ O : Nat, O = (Sort.xorNext r).toNat &&& (M - 1) := ⟨_, rfl⟩
    have lO : O ≤ M - 1 := by rw [hO]; exact Nat.and_le_right
    obtain ⟨M1, hM3⟩ : ∃ M1, M1 = M - 1 := ⟨_, rfl⟩
    have lR := (Sort.xorNext r).toNat_lt
    obtain ⟨R, hRr⟩ : ∃ R, R = (Sort.xorNext r).toNat := ⟨_, rfl⟩
    rw [← hRr] at hN hR2 hO lR
    have eA : bits .and .u64 (R : Int) (M1 : Int) = (O : Int) := by rw [bits_and_u64_nat _ _ lR (by omega), hO, hM3]
    have eM : IntKind.u64.wrap ((M : Int) - 1) = (M1 : Int) := by rw [IntKind.wrap_u64]; omega
    have eM' : (M : Int) - 1 = (M1 : Int) := by omega
    have eO : IntKind.i64.wrap (O : Int) = (O : Int) := by rw [IntKind.wrap_i64]; omega
    have HN : Hid _ := hN
    have HR : Hid _ := And.intro hR2 (And.intro hsk (And.intro hRr hO))
    have hlO : O < 2 * L := by omega
    clear hRn hN hW2 hRr hO lO lR hM3 hsk
    by_cases hLO : L ≤ O
    ·have c1 : (L : Int) ≤ (O : Int) := by omega
     obtain ⟨o, ho⟩ : ∃ o, o = O - L := ⟨_, rfl⟩
     have c2 : IntKind.i64.wrap ((O : Int) - (L : Int)) = (o : Int) := by rw [IntKind.wrap_i64]; omega
     have c2' : (O : Int) - (L : Int) = (o : Int) := by omega
     have hoo : (if O ≥ L then O - L else O) = o := by rw [if_pos hLO, ho]
     obtain ⟨y, hy⟩ : ∃ y, y = a + o := ⟨_, rfl⟩
     have c3 : IntKind.i64.wrap ((a : Int) + (o : Int)) = (y : Int) := by rw [IntKind.wrap_i64]; omega
     have c3' : (a : Int) + (o : Int) = (y : Int) := by omega
     have hyn : y < n := by omega
     have hxn : x < n := by omega
     have q0 : (0 : Int) ≤ (x : Int) := by omega
     have q1 : (x : Int) < (n : Int) := by omega
     have q2 : (0 : Int) ≤ (y : Int) := by omega
     have q3 : (y : Int) < (n : Int) := by omega
     have hst : bpRest a L M I0 (3 - t) t (r, dk) = bpRest a L M I0 (3 - (t + 1)) (t + 1) (Sort.xorNext r, Sort.swp dk x y) := by
      rw [bp_step a L M I0 t r dk o ht3 (by rw [← HR.out.2.2.1, ← HR.out.2.2.2]; exact hoo), hy, show x = I0 + t by omega]
     have HS : Hid _ := hst
     clear hst hoo ho hy
     have hR3 := HR.out.1.row
     have hsk := HR.out.2.1
     have f0 := hR3.free (x * 3)
     have f1 := hR3.free (x * 3 + 1)
     have f2 := hR3.free (x * 3 + 2)
     have f3 := hR3.free (y * 3)
     have f4 := hR3.free (y * 3 + 1)
     have f5 := hR3.free (y * 3 + 2)
     obtain ⟨z0, z1, z2⟩ := hR3.cells (j := x) (by omega)
     obtain ⟨z3, z4, z5⟩ := hR3.cells (j := y) (by omega)
     obtain ⟨xe2, hxe2⟩ : ∃ xe, xe = dk[x]! := ⟨_, rfl⟩
     obtain ⟨ye2, hye2⟩ : ∃ ye, ye = dk[y]! := ⟨_, rfl⟩
     rw [← hxe2] at z0 z1 z2
     rw [← hye2] at z3 z4 z5
     have HE2 : Hid _ := And.intro hxe2 hye2
     clear hxe2 hye2
     obtain ⟨sa, sb, sc⟩ := xe2
     obtain ⟨ta, tb, tc⟩ := ye2
     simp only at z0 z1 z2 z3 z4 z5
     clear hR3 hsk
     by_cases hne : x = y
     ·subst hne
      clear z3 z4 z5 f3 f4 f5
      go_wp2_with (first | (go_at_call 172; refine Calls.mono HN.out ?_; rintro r1 w1 ⟨rfl, hw1⟩; obtain rfl := hw1.symm))
      go_region
      all_goals go_wp2_with fail
      go_roundg (3 - (t + 1))
      case measure => omega
      case rel =>
       refine ⟨t + 1, x + 1, Sort.xorNext r, Sort.swp dk x x, by go_num, by omega, by omega, Nat.le_refl _, by rw [Sort.size_swp]; exact HR.out.2.1, ?_, (show Hid _ from ?_)⟩
       ·rw [← HR.out.2.2.1]
        exact HR.out.1.swapped (i := x) (j := x) (x := (sa, sb, sc)) (y := (sa, sb, sc)) (by have := HR.out.2.1; omega) (by have := HR.out.2.1; omega) HE2.out.1 HE2.out.1
       ·show _ = _
        rw [← HO.out, HS.out]
     ·have hne2 : ¬ y = x := fun e => hne e.symm
      go_wp2_with (first | (go_at_call 172; refine Calls.mono HN.out ?_; rintro r1 w1 ⟨rfl, hw1⟩; obtain rfl := hw1.symm))
      go_region
      all_goals go_wp2_with fail
      go_roundg (3 - (t + 1))
      case measure => omega
      case rel =>
       refine ⟨t + 1, x + 1, Sort.xorNext r, Sort.swp dk x y, by go_num, by omega, by omega, Nat.le_refl _, by rw [Sort.size_swp]; exact HR.out.2.1, ?_, (show Hid _ from ?_)⟩
       ·rw [← HR.out.2.2.1]
        exact HR.out.1.swapped (i := x) (j := y) (x := (sa, sb, sc)) (y := (ta, tb, tc)) (by have := HR.out.2.1; omega) (by have := HR.out.2.1; omega) HE2.out.1 HE2.out.2
       ·show _ = _
        rw [← HO.out, HS.out]
    ·have c1 : ¬ (L : Int) ≤ (O : Int) := by omega
     obtain ⟨o, ho⟩ : ∃ o, o = O := ⟨_, rfl⟩
     have hoo : (if O ≥ L then O - L else O) = o := by rw [if_neg hLO, ho]
     obtain ⟨y, hy⟩ : ∃ y, y = a + o := ⟨_, rfl⟩
     have c3 : IntKind.i64.wrap ((a : Int) + (O : Int)) = (y : Int) := by rw [IntKind.wrap_i64]; omega
     have c3' : (a : Int) + (O : Int) = (y : Int) := by omega
     have hyn : y < n := by omega
     have hxn : x < n := by omega
     have q0 : (0 : Int) ≤ (x : Int) := by omega
     have q1 : (x : Int) < (n : Int) := by omega
     have q2 : (0 : Int) ≤ (y : Int) := by omega
     have q3 : (y : Int) < (n : Int) := by omega
     have hst : bpRest a L M I0 (3 - t) t (r, dk) = bpRest a L M I0 (3 - (t + 1)) (t + 1) (Sort.xorNext r, Sort.swp dk x y) := by
      rw [bp_step a L M I0 t r dk o ht3 (by rw [← HR.out.2.2.1, ← HR.out.2.2.2]; exact hoo), hy, show x = I0 + t by omega]
     have HS : Hid _ := hst
     clear hst hoo ho hy
     have hR3 := HR.out.1.row
     have hsk := HR.out.2.1
     have f0 := hR3.free (x * 3)
     have f1 := hR3.free (x * 3 + 1)
     have f2 := hR3.free (x * 3 + 2)
     have f3 := hR3.free (y * 3)
     have f4 := hR3.free (y * 3 + 1)
     have f5 := hR3.free (y * 3 + 2)
     obtain ⟨z0, z1, z2⟩ := hR3.cells (j := x) (by omega)
     obtain ⟨z3, z4, z5⟩ := hR3.cells (j := y) (by omega)
     obtain ⟨xe2, hxe2⟩ : ∃ xe, xe = dk[x]! := ⟨_, rfl⟩
     obtain ⟨ye2, hye2⟩ : ∃ ye, ye = dk[y]! := ⟨_, rfl⟩
     rw [← hxe2] at z0 z1 z2
     rw [← hye2] at z3 z4 z5
     have HE2 : Hid _ := And.intro hxe2 hye2
     clear hxe2 hye2
     obtain ⟨sa, sb, sc⟩ := xe2
     obtain ⟨ta, tb, tc⟩ := ye2
     simp only at z0 z1 z2 z3 z4 z5
     clear hR3 hsk
     by_cases hne : x = y
     ·subst hne
      clear z3 z4 z5 f3 f4 f5
      go_wp2_with (first | (go_at_call 172; refine Calls.mono HN.out ?_; rintro r1 w1 ⟨rfl, hw1⟩; obtain rfl := hw1.symm))
      go_region
      all_goals go_wp2_with fail
      go_roundg (3 - (t + 1))
      case measure => omega
      case rel =>
       refine ⟨t + 1, x + 1, Sort.xorNext r, Sort.swp dk x x, by go_num, by omega, by omega, Nat.le_refl _, by rw [Sort.size_swp]; exact HR.out.2.1, ?_, (show Hid _ from ?_)⟩
       ·rw [← HR.out.2.2.1]
        exact HR.out.1.swapped (i := x) (j := x) (x := (sa, sb, sc)) (y := (sa, sb, sc)) (by have := HR.out.2.1; omega) (by have := HR.out.2.1; omega) HE2.out.1 HE2.out.1
       ·show _ = _
        rw [← HO.out, HS.out]
     ·have hne2 : ¬ y = x := fun e => hne e.symm
      go_wp2_with (first | (go_at_call 172; refine Calls.mono HN.out ?_; rintro r1 w1 ⟨rfl, hw1⟩; obtain rfl := hw1.symm))
      go_region
      all_goals go_wp2_with fail
      go_roundg (3 - (t + 1))
      case measure => omega
      case rel =>
       refine ⟨t + 1, x + 1, Sort.xorNext r, Sort.swp dk x y, by go_num, by omega, by omega, Nat.le_refl _, by rw [Sort.size_swp]; exact HR.out.2.1, ?_, (show Hid _ from ?_)⟩
       ·rw [← HR.out.2.2.1]
        exact HR.out.1.swapped (i := x) (j := y) (x := (sa, sb, sc)) (y := (ta, tb, tc)) (by have := HR.out.2.1; omega) (by have := HR.out.2.1; omega) HE2.out.1 HE2.out.2
       ·show _ = _
        rw [← HO.out, HS.out]
   ·have g1 : ¬ (x : Int) ≤ (J : Int) + 1 := by omega
    have HR : Hid _ := hRn.row
    clear hRn
    go_wp2_with fail
    go_end0
    have h3 : t = 3 := by omega
    subst h3
    rw [← HO.out]
    exact ⟨rfl, HR.out⟩
 ·have g8 : ¬ (8 : Int) ≤ (L : Int) := by omega
  have hbp : Sort.breakPatterns d a b = d := by
   unfold Sort.breakPatterns
   simp only
   rw [if_neg (by omega)]
  rw [hbp]
  have HR : Hid _ := hR
  clear hR hbp hL
  go_enter Tryz.func161, Tryz.ntmps161
  go_wp2_with fail
  go_end0
  exact ⟨rfl, HR.out⟩
end Go.Proofs.YtplofbabfkkimaaGreatDoor
/- Contract of slices' pdqsort of edges by a view's comparison, of any size; so slices.SortFunc sorts. (Written by mkpdq.py.) -/
namespace Go.Proofs.YtplofbabfkkimaaGreatDoor
open Go.RowKit Go.Maps
attribute [local go_sem ↓] Go.wp_at_zero Go.wp_at_succ
theorem hintC_two {h : Sort.Hint} (e : hintC h = 2) : h = .decreasing := by cases h <;> simp [hintC] at e ⊢
theorem eighth {x y p q : Nat} (h1 : q ≤ p) (h2 : y ≤ x) : decide (((x : Int) - (y : Int)) / 8 ≤ (p : Int) - (q : Int)) = decide (p - q ≥ (x - y) / 8) :=
 decide_eq_decide.2 ⟨fun h => by omega, fun h => by omega⟩
theorem bl_le : ∀ f x, Lib.bitLenAux f x ≤ f := by
 intro f
 induction f with
 | zero => intro x; exact Nat.le_refl _
 | succ f ih =>
   intro x
   rw [Lib.bitLenAux]
   have := ih (x / 2)
   split <;> omega
def PdqAt (f : Nat) (vw : Sy.Ed → Sy.Ed) (g cap n : Nat) (rest : List Value) (w0 : World) (N : Nat) : Prop := ∀ (a b limit : Nat) (d : Array Sy.Ed) (w : World), b - a < N → RowE w0 w g d rest → d.size = n → a ≤ b → b ≤ n → limit < 1000 → Sort.Below (ltV vw) a b d →
 Calls Tryz.prog 144 #[.slice (some ⟨g, 0, none⟩) n cap, .int .i64 a, .int .i64 b, .int .i64 limit, cmpV f] w fun r w' => r = .returned (.tuple #[]) ∧ RowE w0 w' g (Sort.pdq (ltV vw) d a b limit true true) rest
set_option maxRecDepth 1000000 in
set_option maxHeartbeats 32000000 in
theorem pdq_any (f : Nat) (vw : Sy.Ed → Sy.Ed) (hV : ViewAt f vw) (g cap n : Nat) (rest : List Value) (w0 : World) (hsz : n ≤ 1000000) : ∀ N, PdqAt f vw g cap n rest w0 N := by
 intro N
 induction N with
 | zero => intro _ _ _ _ _ h; exact absurd h (Nat.not_lt_zero _)
 | succ N ih =>
   intro a b limit d w hN hR hd hab hb hlimit hB0
   have he := enter_cmp
   have HV : Hid (ViewAt f vw) := hV
   have H0 : Hid (RowE w0 w g d rest ∧ d.size = n ∧ Sort.Below (ltV vw) a b d) := ⟨hR, hd, hB0⟩
   clear hR hd hB0 hV
   unfold cmpV
   go_enter Tryz.func144, Tryz.ntmps144
   go_wp2_with fail
   go_loopg [1, 2, 3, 10, 11] (b - a) (fun k s1 s2 s3 s8 s9 wr => ∃ (a' b' lim : Nat) (wb wp : Bool) (dk : Array Sy.Ed), s1 = .int .i64 a' ∧ s2 = .int .i64 b' ∧ s3 = .int .i64 lim ∧ s8 = .bool wb ∧ s9 = .bool wp ∧ a' ≤ b' ∧ b' ≤ n ∧ b' - a' ≤ k ∧ k ≤ b - a ∧ lim ≤ limit ∧ dk.size = n ∧ Sort.Below (ltV vw) a' b' dk ∧ RowE w0 wr g dk rest ∧ Hid (Sort.pdq (ltV vw) dk a' b' lim wb wp = Sort.pdq (ltV vw) d a b limit true true))
   case atStart => exact ⟨a, b, limit, true, true, d, rfl, rfl, rfl, rfl, rfl, hab, hb, Nat.le_refl _, Nat.le_refl _, Nat.le_refl _, H0.out.2.1, H0.out.2.2, H0.out.1, rfl⟩
   case round =>
    obtain ⟨a', b', lim, wb, wp, dk, rfl, rfl, rfl, rfl, rfl, hab', hb', hk, hkN, hlim, hds, hBel, hRk, A⟩ := hrel
    obtain ⟨wq, rfl⟩ : ∃ wq, wq = wr := ⟨_, rfl⟩
    have p1 : IntKind.i64.wrap ((b' : Int) - (a' : Int)) = (b' : Int) - (a' : Int) := by rw [IntKind.wrap_i64]; omega
    clear H0
    by_cases h12 : b' - a' ≤ 12
    ·have h12z : (b' : Int) - (a' : Int) ≤ 12 := by omega
     have hc := insSort_any f vw HV.out g cap a' b' dk rest w0 wq hRk hab' (by omega) (by omega)
     rw [hds] at hc
     unfold cmpV at hc
     have HC : Hid _ := And.intro hc trivial
     clear hc hRk hBel hds
     go_wp2_with (go_at_call 159; refine Calls.mono HC.out.1 ?_; rintro e w1 ⟨rfl, hR1⟩)
     refine bodyPost_ret (results_none rfl _ _ _) rfl ⟨rfl, ?_⟩
     rw [← A.out, Sort.pdq_small h12]
     exact hR1
    ·have h12z : ¬ ((b' : Int) - (a' : Int) ≤ 12) := by omega
     by_cases hl0 : lim = 0
     ·subst hl0
      have hc := heap_any f vw HV.out g cap a' b' dk rest w0 wq hRk (by omega) (by omega) (by omega)
      rw [hds] at hc
      unfold cmpV at hc
      have HC : Hid _ := And.intro hc trivial
      clear hc hRk hBel hds
      go_wp2_with (go_at_call 160; refine Calls.mono HC.out.1 ?_; rintro e w1 ⟨rfl, hR1⟩)
      refine bodyPost_ret (results_none rfl _ _ _) rfl ⟨rfl, ?_⟩
      rw [← A.out, Sort.pdq_heap h12 rfl]
      exact hR1
     ·have hl0z : ¬ ((lim : Int) = 0) := by omega
      have hFa := Sort.rd_facts (limit := lim) (wb := wb) (wp := wp) (swoV vw) Sort.partialInsertionSort_holds Sort.reverseRange_holds (show a' < b' by omega) (show b' ≤ dk.size by omega) hBel
      have hLe : (Sort.rd (ltV vw) dk a' b' lim wb wp).lim ≤ lim := Sort.rd_lim_le
      have hF : (wb = false → (Sort.rd (ltV vw) dk a' b' lim wb wp).d1 = Sort.breakPatterns dk a' b' ∧ (Sort.rd (ltV vw) dk a' b' lim wb wp).lim = lim - 1) ∧ (wb = true → (Sort.rd (ltV vw) dk a' b' lim wb wp).d1 = dk ∧ (Sort.rd (ltV vw) dk a' b' lim wb wp).lim = lim) := ⟨by rintro rfl; exact Sort.rd_false, by rintro rfl; exact Sort.rd_true⟩
      have hC : (Sort.rd (ltV vw) dk a' b' lim wb wp).c = Sort.choosePivot (ltV vw) (Sort.rd (ltV vw) dk a' b' lim wb wp).d1 a' b' := Sort.rd_c
      have hDec : (Sort.rd (ltV vw) dk a' b' lim wb wp).c.2 = .decreasing → (Sort.rd (ltV vw) dk a' b' lim wb wp).d2 = Sort.reverseRange (Sort.rd (ltV vw) dk a' b' lim wb wp).d1 a' b' ∧ (Sort.rd (ltV vw) dk a' b' lim wb wp).pivot = (b' - 1) - ((Sort.rd (ltV vw) dk a' b' lim wb wp).c.1 - a') ∧ (Sort.rd (ltV vw) dk a' b' lim wb wp).hint = .increasing := Sort.rd_dec
      have hNot : (Sort.rd (ltV vw) dk a' b' lim wb wp).c.2 ≠ .decreasing → (Sort.rd (ltV vw) dk a' b' lim wb wp).d2 = (Sort.rd (ltV vw) dk a' b' lim wb wp).d1 ∧ (Sort.rd (ltV vw) dk a' b' lim wb wp).pivot = (Sort.rd (ltV vw) dk a' b' lim wb wp).c.1 ∧ (Sort.rd (ltV vw) dk a' b' lim wb wp).hint = (Sort.rd (ltV vw) dk a' b' lim wb wp).c.2 := Sort.rd_not
      have hYes : (wb && wp && decide ((Sort.rd (ltV vw) dk a' b' lim wb wp).hint = .increasing)) = true → (Sort.rd (ltV vw) dk a' b' lim wb wp).pi = Sort.partialInsertionSort (ltV vw) (Sort.rd (ltV vw) dk a' b' lim wb wp).d2 a' b' := Sort.rd_pi_yes
      have hNo : (wb && wp && decide ((Sort.rd (ltV vw) dk a' b' lim wb wp).hint = .increasing)) = false → (Sort.rd (ltV vw) dk a' b' lim wb wp).pi = ((Sort.rd (ltV vw) dk a' b' lim wb wp).d2, false) := Sort.rd_pi_no
      obtain ⟨R, hRq⟩ : ∃ R, R = Sort.rd (ltV vw) dk a' b' lim wb wp := ⟨_, rfl⟩
      rw [← hRq] at hFa hLe hF hC hDec hNot hYes hNo
      have HQ : Hid (R = Sort.rd (ltV vw) dk a' b' lim wb wp) := hRq
      clear hRq
      obtain ⟨s1, B1, hc1, s2, B2, hpv, s3, B3⟩ := hFa
      have HF : Hid ((wb = false → R.d1 = Sort.breakPatterns dk a' b' ∧ R.lim = lim - 1) ∧ (wb = true → R.d1 = dk ∧ R.lim = lim)) := hF
      have HP : Hid (R.c = Sort.choosePivot (ltV vw) R.d1 a' b') := hC
      have HD : Hid (R.c.2 = .decreasing → R.d2 = Sort.reverseRange R.d1 a' b' ∧ R.pivot = (b' - 1) - (R.c.1 - a') ∧ R.hint = .increasing) := hDec
      have HN : Hid (R.c.2 ≠ .decreasing → R.d2 = R.d1 ∧ R.pivot = R.c.1 ∧ R.hint = R.c.2) := hNot
      have HY : Hid ((wb && wp && decide (R.hint = .increasing)) = true → R.pi = Sort.partialInsertionSort (ltV vw) R.d2 a' b') := hYes
      have HO : Hid ((wb && wp && decide (R.hint = .increasing)) = false → R.pi = (R.d2, false)) := hNo
      have HZ : Hid (dk.size = n ∧ R.d1.size = n ∧ R.d2.size = n ∧ R.pi.1.size = n ∧ Sort.Below (ltV vw) a' b' R.pi.1) := ⟨hds, s1.trans hds, s2.trans hds, s3.trans hds, B3⟩
      have HRk : Hid (RowE w0 wq g dk rest) := hRk
      clear hF hC hDec hNot hYes hNo s1 B1 s2 B2 s3 B3 hds hBel hRk
      go_upto_if 39 with fail
      go_cut [3] (fun s3 wc => s3 = .int .i64 R.lim ∧ RowE w0 wc g R.d1 rest)
      case first =>
       cases wb
       ·have hc := breakPat_any g cap a' b' dk rest (.func (.func 129) #[.func (.func f) #[] #[]] #[]) w0 wq HRk.out hab' (by have := HZ.out.1; omega) (by have := HZ.out.1; omega)
        rw [HZ.out.1] at hc
        have HC : Hid _ := And.intro hc trivial
        have p2 : IntKind.i64.wrap ((lim : Int) - 1) = (lim : Int) - 1 := by rw [IntKind.wrap_i64]; omega
        clear hc
        go_wp2_with (go_at_call 161; refine Calls.mono HC.out.1 ?_; rintro e w1 ⟨rfl, hR1⟩)
        go_meet
        case rel =>
         obtain ⟨e1, e2⟩ := HF.out.1 (by trivial)
         rw [e1, e2]
         refine ⟨?_, hR1⟩
         congr 1
         omega
       ·go_wp2_with fail
        go_meet
        case rel =>
         obtain ⟨e1, e2⟩ := HF.out.2 (by trivial)
         rw [e1, e2]
         exact ⟨rfl, HRk.out⟩
      case rest =>
       obtain ⟨rfl, hR1⟩ := hcut
       obtain ⟨w1, rfl⟩ : ∃ w1, w1 = wc := ⟨_, rfl⟩
       have hc := pivot_any f vw HV.out g cap a' b' R.d1 rest w0 w1 hR1 (by omega) (by have := HZ.out.2.1; omega) (by have := HZ.out.2.1; omega)
       rw [HZ.out.2.1, ← HP.out] at hc
       unfold cmpV at hc
       have HC : Hid _ := And.intro hc trivial
       clear hc hR1
       go_upto_if 56 with (go_at_call 162; refine Calls.mono HC.out.1 ?_; rintro e w2 ⟨rfl, hR2⟩)
       have HR2 : Hid (RowE w0 w2 g R.d1 rest) := hR2
       clear hR2 HC
       go_cut [13, 14] (fun s11 s12 wc => s11 = .int .i64 R.pivot ∧ s12 = .int .i64 (hintC R.hint) ∧ RowE w0 wc g R.d2 rest)
       case first =>
        by_cases hh : R.c.2 = .decreasing
        ·have hcode : hintC R.c.2 = 2 := by rw [hh]; rfl
         have hc := reverse_any (.func (.func 129) #[.func (.func f) #[] #[]] #[]) g cap a' b' R.d1 rest w0 w2 HR2.out (by omega) (by have := HZ.out.2.1; omega) (by have := HZ.out.2.1; omega)
         rw [HZ.out.2.1] at hc
         have HC : Hid _ := And.intro hc trivial
         have p2 : IntKind.i64.wrap ((b' : Int) - 1) = (b' : Int) - 1 := by rw [IntKind.wrap_i64]; omega
         have p3 : IntKind.i64.wrap ((R.c.1 : Int) - (a' : Int)) = (R.c.1 : Int) - (a' : Int) := by rw [IntKind.wrap_i64]; omega
         have p4 : IntKind.i64.wrap ((b' : Int) - 1 - ((R.c.1 : Int) - (a' : Int))) = (b' : Int) - 1 - ((R.c.1 : Int) - (a' : Int)) := by rw [IntKind.wrap_i64]; omega
         have HH : Hid (R.c.2 = .decreasing) := hh
         clear hc hh
         go_wp2_with (go_at_call 163; refine Calls.mono HC.out.1 ?_; rintro e w3 ⟨rfl, hR3⟩)
         go_meet
         case rel =>
          obtain ⟨e1, e2, e3⟩ := HD.out HH.out
          rw [e1, e2, e3]
          refine ⟨?_, rfl, hR3⟩
          congr 1
          omega
        ·have hcode : ¬ hintC R.c.2 = 2 := fun h => hh (hintC_two h)
         have HH : Hid (R.c.2 ≠ .decreasing) := hh
         clear hh
         go_wp2_with fail
         go_meet
         case rel =>
          obtain ⟨e1, e2, e3⟩ := HN.out HH.out
          rw [e1, e2, e3]
          exact ⟨rfl, rfl, HR2.out⟩
       case rest =>
        obtain ⟨rfl, rfl, hR3⟩ := hcut
        obtain ⟨w3, rfl⟩ : ∃ w3, w3 = wc := ⟨_, rfl⟩
        have HR3 : Hid (RowE w0 w3 g R.d2 rest) := hR3
        clear hR3 HR2 HD HN HP HF hc1
        go_upto_region 15 with fail
        go_cut [14, 75] (fun s12 s68 wx => s12 = .int .i64 (hintC R.hint) ∧ s68 = .bool (wb && wp && decide (R.hint = .increasing)) ∧ wx = w3)
        case first =>
         clear HY HO HQ A
         cases wb <;> cases wp <;> cases hh3 : R.hint <;>
          (have hcode3 := congrArg hintC hh3
           simp only [hintC] at hcode3
           go_wp2_with fail
           go_meet
           exact ⟨by simp [hh3, hintC], by simp [hh3, hintC], rfl⟩)
        case rest =>
         obtain ⟨rfl, rfl, rfl⟩ := hcut
         go_upto_if 75 with fail
         go_cut [] (fun wx => R.pi.2 = false ∧ RowE w0 wx g R.pi.1 rest)
         case first =>
          cases h68 : (wb && wp && decide (R.hint = .increasing))
          ·have epi := HO.out h68
           have HE : Hid (R.pi = (R.d2, false)) := epi
           clear epi
           go_wp2_with fail
           go_meet
           case rel => rw [HE.out]; exact ⟨rfl, HR3.out⟩
          ·have epi := HY.out h68
           have hc := pis_any f vw HV.out g cap a' b' R.d2 rest w0 wc HR3.out (by omega) (by have := HZ.out.2.2.1; omega) (by have := HZ.out.2.2.1; omega)
           rw [HZ.out.2.2.1, ← epi] at hc
           unfold cmpV at hc
           have HC : Hid _ := And.intro hc trivial
           clear hc epi
           go_wp2_with (go_at_call 164; refine Calls.mono HC.out.1 ?_; rintro e w4 ⟨rfl, hR4⟩)
           all_goals first
            | (have hp2 : R.pi.2 = false := by assumption
               go_meet
               exact ⟨hp2, hR4⟩)
            | (have hp2 : R.pi.2 = true := by assumption
               refine bodyPost_ret (results_none rfl _ _ _) rfl ⟨rfl, ?_⟩
               rw [← A.out, Sort.pdq_done h12 hl0 (by rw [← HQ.out]; exact hp2), ← HQ.out]
               exact hR4)
         case rest =>
          obtain ⟨hp2, hR5⟩ := hcut
          obtain ⟨w5, rfl⟩ : ∃ w5, w5 = wc := ⟨_, rfl⟩
          have HR5 : Hid (RowE w0 w5 g R.pi.1 rest ∧ R.pi.2 = false) := ⟨hR5, hp2⟩
          clear hR5 hp2 HR3 HY HO
          obtain ⟨P, hP⟩ : ∃ P, P = R.pivot := ⟨_, rfl⟩
          rw [← hP] at hpv ⊢
          have HPv : Hid (P = R.pivot) := hP
          clear hP
          go_upto_region 17 with fail
          go_cut [97] (fun s87 wx => s87 = .bool (decide (a' > 0) && !ltV vw R.pi.1[a' - 1]! R.pi.1[P]!) ∧ RowE w0 wx g R.pi.1 rest)
          case first =>
           rcases Nat.eq_zero_or_pos a' with ha0 | ha0
           ·have g1 : decide ((a' : Int) > 0) = false := decide_eq_false (by omega)
            have g2 : ¬ ((a' : Int) > 0) := by omega
            have g3 : decide (0 < (a' : Int)) = false := decide_eq_false (by omega)
            have g4 : ¬ (0 < (a' : Int)) := by omega
            have g5 : decide (0 < a') = false := decide_eq_false (by omega)
            have HA0 : Hid (a' = 0) := ha0
            clear ha0
            go_region
            all_goals go_wp2_with fail
            all_goals (go_meet; case rel => exact ⟨by simp [HA0.out], HR5.out.1.below (Below.refl _ _).drew⟩)
           ·obtain ⟨am, ham⟩ : ∃ am, a' = am + 1 := ⟨a' - 1, by omega⟩
            have g1 : decide ((a' : Int) > 0) = true := decide_eq_true (by omega)
            have g2 : (a' : Int) > 0 := by omega
            have g3 : decide (0 < (a' : Int)) = true := decide_eq_true (by omega)
            have g4 : 0 < (a' : Int) := by omega
            have g5 : decide (0 < a') = true := decide_eq_true (by omega)
            have q1 : IntKind.i64.wrap ((a' : Int) - 1) = (am : Int) := by rw [IntKind.wrap_i64]; omega
            have q1' : (a' : Int) - 1 = (am : Int) := by omega
            have q6 : IntKind.i64.wrap (am : Int) = (am : Int) := by rw [IntKind.wrap_i64]; omega
            have q7 : (0 : Int) ≤ (a' : Int) - 1 := by omega
            have q8 : (a' : Int) - 1 < (n : Int) := by omega
            have q9 : ((a' : Int) - 1).toNat = am := by omega
            have q2 : (0 : Int) ≤ (am : Int) := by omega
            have q3 : (am : Int) < (n : Int) := by omega
            have q4 : (0 : Int) ≤ (P : Int) := by omega
            have q5 : (P : Int) < (n : Int) := by omega
            have HAM : Hid (a' = am + 1) := ham
            clear ham
            have hR5 := HR5.out.1
            obtain ⟨x0, x1, x2⟩ := hR5.cells (j := am) (by have := HZ.out.2.2.2.1; omega)
            obtain ⟨y0, y1, y2⟩ := hR5.cells (j := P) (by have := HZ.out.2.2.2.1; omega)
            have hcm := fun W => compare_any f vw HV.out (R.pi.1[am]!) (R.pi.1[P]!) W
            unfold edV at hcm
            have hlt2 := cmpV_neg vw (R.pi.1[am]!) (R.pi.1[P]!)
            obtain ⟨xe, hxe⟩ : ∃ xe, xe = R.pi.1[am]! := ⟨_, rfl⟩
            obtain ⟨ye, hye⟩ : ∃ ye, ye = R.pi.1[P]! := ⟨_, rfl⟩
            rw [← hxe] at x0 x1 x2 hcm hlt2
            rw [← hye] at y0 y1 y2 hcm hlt2
            have HE : Hid _ := And.intro hxe hye
            clear hxe hye
            obtain ⟨xa, xb, xc⟩ := xe
            obtain ⟨ya, yb, yc⟩ := ye
            generalize cmpE (vw (xa, xb, xc)) (vw (ya, yb, yc)) = c at hcm hlt2
            have HC : Hid _ := hcm
            have HL : Hid _ := hlt2
            clear hcm hlt2
            simp only at x0 x1 x2 y0 y1 y2
            clear hR5
            by_cases hc : c < 0
            ·have p6 : decide (c < 0) = true := decide_eq_true hc
             go_region_held3 (fun w' => ((w'.cell? ⟨g, am * 3, none⟩ = some (.int .i64 xa) ∧ w'.cell? ⟨g, am * 3 + 1, none⟩ = some (.int .i64 xb) ∧ w'.cell? ⟨g, am * 3 + 2, none⟩ = some (.int .i64 xc)) ∧ (w'.cell? ⟨g, P * 3, none⟩ = some (.int .i64 ya) ∧ w'.cell? ⟨g, P * 3 + 1, none⟩ = some (.int .i64 yb) ∧ w'.cell? ⟨g, P * 3 + 2, none⟩ = some (.int .i64 yc))) ∧ Hid (Below w5.heap.size w5 w')) (first | exact rg_up6 hb3 (by assumption) | exact ⟨⟨⟨x0, x1, x2⟩, ⟨y0, y1, y2⟩⟩, ((Below.refl _ _).drew : Below w5.heap.size w5 w5.drew)⟩ | go_keep)
              ((first
                | (go_at_fn 129; refine (HC.out _).mono ?_; rintro r w3 ⟨rfl, hb3⟩)
                | fail))
             have hbq : Below w5.heap.size w5 w3 := rg_b (by assumption)
             clear x0 x1 x2 y0 y1 y2 hb3 HC
             rename_i hS3
             clear hS3
             have H3 : Hid (RowE w0 w3 g R.pi.1 rest) := HR5.out.1.below hbq
             clear hbq
             go_wp2_with fail
             go_meet
             refine ⟨?_, H3.out⟩
             have h7 : ltV vw R.pi.1[a' - 1]! R.pi.1[P]! = true := by
              rw [HAM.out, Nat.add_sub_cancel, ← HE.out.1, ← HE.out.2]
              exact HL.out.1 hc
             rw [h7]
             simp [ha0]
            ·have p6 : decide (c < 0) = false := decide_eq_false hc
             go_region_held3 (fun w' => ((w'.cell? ⟨g, am * 3, none⟩ = some (.int .i64 xa) ∧ w'.cell? ⟨g, am * 3 + 1, none⟩ = some (.int .i64 xb) ∧ w'.cell? ⟨g, am * 3 + 2, none⟩ = some (.int .i64 xc)) ∧ (w'.cell? ⟨g, P * 3, none⟩ = some (.int .i64 ya) ∧ w'.cell? ⟨g, P * 3 + 1, none⟩ = some (.int .i64 yb) ∧ w'.cell? ⟨g, P * 3 + 2, none⟩ = some (.int .i64 yc))) ∧ Hid (Below w5.heap.size w5 w')) (first | exact rg_up6 hb3 (by assumption) | exact ⟨⟨⟨x0, x1, x2⟩, ⟨y0, y1, y2⟩⟩, ((Below.refl _ _).drew : Below w5.heap.size w5 w5.drew)⟩ | go_keep)
              ((first
                | (go_at_fn 129; refine (HC.out _).mono ?_; rintro r w3 ⟨rfl, hb3⟩)
                | fail))
             have hbq : Below w5.heap.size w5 w3 := rg_b (by assumption)
             clear x0 x1 x2 y0 y1 y2 hb3 HC
             rename_i hS3
             clear hS3
             have H3 : Hid (RowE w0 w3 g R.pi.1 rest) := HR5.out.1.below hbq
             clear hbq
             go_wp2_with fail
             go_meet
             refine ⟨?_, H3.out⟩
             have h7 : ltV vw R.pi.1[a' - 1]! R.pi.1[P]! = false := by
              rw [HAM.out, Nat.add_sub_cancel, ← HE.out.1, ← HE.out.2]
              cases h : ltV vw (xa, xb, xc) (ya, yb, yc) with | false => rfl | true => exact absurd (HL.out.2 h) (by omega)
             rw [h7]
             simp [ha0]
          case rest =>
           obtain ⟨rfl, hR6⟩ := hcut
           obtain ⟨w6, rfl⟩ : ∃ w6, w6 = wc := ⟨_, rfl⟩
           have HR6 : Hid (RowE w0 w6 g R.pi.1 rest) := hR6
           clear hR6
           cases h87 : (decide (a' > 0) && !ltV vw R.pi.1[a' - 1]! R.pi.1[P]!)
           ·obtain ⟨mid, ap, d4, hx⟩ : ∃ mid ap d4, Sort.partition (ltV vw) R.pi.1 a' b' P = (mid, ap, d4) := ⟨(Sort.partition (ltV vw) R.pi.1 a' b' P).1, (Sort.partition (ltV vw) R.pi.1 a' b' P).2.1, (Sort.partition (ltV vw) R.pi.1 a' b' P).2.2, rfl⟩
            obtain ⟨r1, r2, r3, r4, r5, r6, r7⟩ := Sort.round_part (swoV vw) (Sort.partition_holds (ltV vw)) hpv.1 hpv.2 (show b' ≤ R.pi.1.size by have := HZ.out.2.2.2.1; omega) HZ.out.2.2.2.2 hx
            have hc := partition_any f vw HV.out g cap a' b' P R.pi.1 rest w0 w6 HR6.out hpv.1 hpv.2 (by have := HZ.out.2.2.2.1; omega) (by have := HZ.out.2.2.2.1; omega)
            rw [HZ.out.2.2.2.1, hx] at hc
            unfold cmpV at hc
            have HC : Hid _ := And.intro hc trivial
            have X : Hid (Sort.partition (ltV vw) R.pi.1 a' b' P = (mid, ap, d4)) := hx
            have H87 : Hid ((decide (a' > 0) && !ltV vw R.pi.1[a' - 1]! R.pi.1[P]!) = false) := h87
            have HW : Hid (d4.size = n ∧ Sort.Below (ltV vw) a' mid d4 ∧ Sort.Below (ltV vw) (mid + 1) b' d4 ∧ (∀ L, Sort.PermIn a' mid d4 L → Sort.SortedIn (ltV vw) a' mid L → Sort.Below (ltV vw) (mid + 1) b' L) ∧ (∀ L, Sort.PermIn (mid + 1) b' d4 L → Sort.SortedIn (ltV vw) (mid + 1) b' L → Sort.Below (ltV vw) a' mid L)) := ⟨r3.trans HZ.out.2.2.2.1, r4, r5, fun L h1 h2 => (r6 L h1 h2).1, fun L h1 h2 => (r7 L h1 h2).1⟩
            clear hc hx h87 r3 r4 r5 r6 r7
            have p2 : IntKind.i64.wrap ((mid : Int) - (a' : Int)) = (mid : Int) - (a' : Int) := by rw [IntKind.wrap_i64]; omega
            have p3 : IntKind.i64.wrap ((b' : Int) - (mid : Int)) = (b' : Int) - (mid : Int) := by rw [IntKind.wrap_i64]; omega
            have p4 : IntKind.i64.wrap ((mid : Int) + 1) = (mid : Int) + 1 := by rw [IntKind.wrap_i64]; omega
            go_upto_if 125 with (go_at_call 166; refine Calls.mono HC.out.1 ?_; rintro e w7 ⟨rfl, hR7⟩)
            have HR7 : Hid (RowE w0 w7 g d4 rest) := hR7
            clear hR7 HC
            by_cases h4 : mid - a' < b' - mid
            ·have h4z : (mid : Int) - (a' : Int) < (b' : Int) - (mid : Int) := by omega
             have hih := ih a' mid R.lim d4 w7 (by omega) HR7.out HW.out.1 (by omega) (by omega) (by omega) HW.out.2.1
             obtain ⟨pL, sL⟩ := Sort.pdq_sorts (ltV vw) (swoV vw) d4 a' mid R.lim true true (by omega) (by have := HW.out.1; omega) HW.out.2.1
             unfold cmpV at hih
             have HI : Hid _ := And.intro hih (And.intro pL sL)
             clear hih pL sL
             go_wp2_with (go_at_call 144; refine Calls.mono HI.out.1 ?_; rintro e w8 ⟨rfl, hR8⟩)
             go_roundg (b' - (mid + 1))
             case measure => omega
             case rel =>
              refine ⟨mid + 1, b', R.lim, decide (mid - a' ≥ (b' - a') / 8), ap, Sort.pdq (ltV vw) d4 a' mid R.lim true true, by first | rfl | go_num | simp, rfl, rfl, ?_, rfl, by omega, by omega, Nat.le_refl _, by omega, by omega, by rw [HI.out.2.1.1]; exact HW.out.1, HW.out.2.2.2.1 _ HI.out.2.1 HI.out.2.2, hR8, (show Hid _ from ?_)⟩
              ·exact congrArg Value.bool (eighth (by omega) (by omega))
              ·show _ = _
               have hx := X.out
               have h87 := H87.out
               rw [HPv.out, HQ.out] at hx h87
               rw [← A.out, Sort.pdq_left h12 hl0 (by rw [← HQ.out]; exact HR5.out.2) h87 (by rw [hx]; exact ⟨r1, r2⟩) (by rw [hx]; exact h4), hx, HQ.out]
            ·have h4z : ¬ ((mid : Int) - (a' : Int) < (b' : Int) - (mid : Int)) := by omega
             have hih := ih (mid + 1) b' R.lim d4 w7 (by omega) HR7.out HW.out.1 (by omega) (by omega) (by omega) HW.out.2.2.1
             obtain ⟨pL, sL⟩ := Sort.pdq_sorts (ltV vw) (swoV vw) d4 (mid + 1) b' R.lim true true (by omega) (by have := HW.out.1; omega) HW.out.2.2.1
             unfold cmpV at hih
             simp only [Int.natCast_add, Int.natCast_one] at hih
             have HI : Hid _ := And.intro hih (And.intro pL sL)
             clear hih pL sL
             go_wp2_with (go_at_call 144; refine Calls.mono HI.out.1 ?_; rintro e w8 ⟨rfl, hR8⟩)
             go_roundg (mid - a')
             case measure => omega
             case rel =>
              refine ⟨a', mid, R.lim, decide (b' - mid ≥ (b' - a') / 8), ap, Sort.pdq (ltV vw) d4 (mid + 1) b' R.lim true true, rfl, rfl, rfl, ?_, rfl, by omega, by omega, Nat.le_refl _, by omega, by omega, by rw [HI.out.2.1.1]; exact HW.out.1, HW.out.2.2.2.2 _ HI.out.2.1 HI.out.2.2, hR8, (show Hid _ from ?_)⟩
              ·exact congrArg Value.bool (eighth (by omega) (by omega))
              ·show _ = _
               have hx := X.out
               have h87 := H87.out
               rw [HPv.out, HQ.out] at hx h87
               rw [← A.out, Sort.pdq_right h12 hl0 (by rw [← HQ.out]; exact HR5.out.2) h87 (by rw [hx]; exact ⟨r1, r2⟩) (by rw [hx]; exact h4), hx, HQ.out]
           ·have h87' := h87
            simp only [Bool.and_eq_true, decide_eq_true_eq, Bool.not_eq_true'] at h87'
            obtain ⟨mid, d4, hx⟩ : ∃ mid d4, Sort.partitionEqual (ltV vw) R.pi.1 a' b' P = (mid, d4) := ⟨(Sort.partitionEqual (ltV vw) R.pi.1 a' b' P).1, (Sort.partitionEqual (ltV vw) R.pi.1 a' b' P).2, rfl⟩
            obtain ⟨r1, r2, r3, r4, _⟩ := Sort.round_eq (swoV vw) (Sort.partitionEqual_holds (ltV vw)) h87'.1 hpv.1 hpv.2 (show b' ≤ R.pi.1.size by have := HZ.out.2.2.2.1; omega) HZ.out.2.2.2.2 h87'.2 hx
            have hc := partEq_any f vw HV.out g cap a' b' P R.pi.1 rest w0 w6 HR6.out hpv.1 hpv.2 (by have := HZ.out.2.2.2.1; omega) (by have := HZ.out.2.2.2.1; omega)
            rw [HZ.out.2.2.2.1, hx] at hc
            unfold cmpV at hc
            have HC : Hid _ := And.intro hc trivial
            have X : Hid (Sort.partitionEqual (ltV vw) R.pi.1 a' b' P = (mid, d4)) := hx
            have H87 : Hid ((decide (a' > 0) && !ltV vw R.pi.1[a' - 1]! R.pi.1[P]!) = true) := h87
            have HW : Hid (d4.size = n ∧ Sort.Below (ltV vw) mid b' d4) := ⟨r3.trans HZ.out.2.2.2.1, r4⟩
            clear hc hx h87 r3 r4 h87'
            go_wp2_with (go_at_call 165; refine Calls.mono HC.out.1 ?_; rintro e w7 ⟨rfl, hR7⟩)
            go_roundg (b' - mid)
            case measure => omega
            case rel =>
             refine ⟨mid, b', R.lim, wb, wp, d4, rfl, rfl, rfl, rfl, rfl, r2, hb', Nat.le_refl _, by omega, by omega, HW.out.1, HW.out.2, hR7, (show Hid _ from ?_)⟩
             show _ = _
             have hx := X.out
             have h87 := H87.out
             rw [HPv.out, HQ.out] at hx h87
             rw [← A.out, Sort.pdq_eq h12 hl0 (by rw [← HQ.out]; exact HR5.out.2) h87 (by rw [hx]; exact ⟨r1, r2⟩), hx, HQ.out]
set_option maxRecDepth 100000 in
set_option maxHeartbeats 1000000 in
theorem sortAll : SortOk 1000000 := fun f vw hV g cap d rest w0 w hR hd => by
 have hL := Tryz.bits_Len (d.size : Int) w (by omega) (by omega)
 have hbl : Lib.bitLen (d.size : Int).toNat < 1000 := by
  have h64 := bl_le 64 (d.size : Int).toNat
  unfold Lib.bitLen
  omega
 have hP := pdq_any f vw hV g cap d.size rest w0 hd (d.size + 1) 0 d.size (Lib.bitLen (d.size : Int).toNat) d w (by omega) hR rfl (Nat.zero_le _) (Nat.le_refl _) hbl (Or.inl rfl)
 have hI := Sort.pdq_sorts (ltV vw) (swoV vw) d 0 d.size (Lib.bitLen (d.size : Int).toNat) true true (Nat.zero_le _) (Nat.le_refl _) (Or.inl rfl)
 generalize Sort.pdq (ltV vw) d 0 d.size (Lib.bitLen (d.size : Int).toNat) true true = d' at hP hI
 generalize Lib.bitLen _ = bl at hL hP
 have wr : IntKind.u64.wrap (d.size : Int) = d.size := by simp [IntKind.wrap, IntKind.bits, IntKind.signed]; omega
 unfold cmpV at hP ⊢
 have HI : Hid _ := And.intro hP (And.intro hL hI)
 clear hP hI hL hR hbl
 go_enter Tryz.func128, Tryz.ntmps128
 go_wp2_with (first
  | (go_at_call 145; refine Calls.mono HI.out.2.1 ?_; rintro r w1 ⟨rfl, hw1⟩; obtain rfl := hw1.symm)
  | (go_at_call 144; refine Calls.mono HI.out.1 ?_; rintro r w1 ⟨rfl, hR1⟩))
 go_end0
 exact ⟨rfl, d', HI.out.2.2.1, HI.out.2.2.2, hR1⟩
end Go.Proofs.YtplofbabfkkimaaGreatDoor
/- What the listed package variables give: api's errors lie in memory, each at an address of its own, whichever are listed. (Written by mker.py.) -/
namespace Go.Proofs.YtplofbabfkkimaaGreatDoor
open Go.ChangeShapes Go.WideShapes Go.ChangeAt Go.WideMaps Go.WideElems Go.RowKit
theorem Tryz.own : ownKnob Tryz.prog.godebug = none := by kernel_rfl
theorem Tryz.laidOut : laidOutB Tryz.prog = true := by kernel_rfl
theorem Tryz.cellsE : Tryz.prog.cellsOf 258 = 1 := by kernel_rfl
theorem Tryz.cellsS : Tryz.prog.cellsOf 9 = 1 := by kernel_rfl
set_option maxRecDepth 100000 in
theorem Tryz.star : "*" ++ "errors.errorString" = "*errors.errorString" := by decide
set_option maxRecDepth 100000 in
theorem Tryz.rowE (u : TypeId) (h : Tryz.prog.typeName? 3 u = some "*errors.errorString") : u = 234 :=
 typeName_ptr_named (nm := "errors.errorString") (by rw [Tryz.star]; kernel_rfl) (by kernel_rfl) (by decide) u (by rw [Tryz.star]; exact h)
set_option maxRecDepth 100000 in
theorem laid_step {W : World} {n : String} {g : Nat} {text : List UInt8} {r : List (String × DataW Unit)} {ps : List MemPlace} (hg : Tryz.prog.globalNamed n = some g) (ht : (Tryz.prog.globals[g]?).map (·.type) = some 47)
 (h : DataW.LaidVars Tryz.prog W ((n, .iface "*errors.errorString" (.ptr (.agg [.lit (.string text)]))) :: r) ps)
 (hrows : ∀ b off, MemPlace.cell b off ∈ ps → (∃ c t, W.heap[b]? = some (.cells c t (0, 0))) ∧ ∀ u v, W.cell? ⟨b, off, none⟩ = some (.iface u v) → Value.okWide Tryz.prog W .any 0 u v) :
 ∃ a q, Sent W g a ∧ DataW.LaidVars Tryz.prog W r q ∧ ps = MemPlace.cell g 0 :: MemPlace.cell a.block a.off :: q := by
 obtain ⟨g0, t0, cs0, f0, p0, q0, hg0, ht0, hv0, hd0, hr, e0⟩ := h
 obtain rfl := Option.some.inj (hg.symm.trans hg0)
 obtain rfl := Option.some.inj (ht.symm.trans ht0)
 subst e0
 obtain ⟨l0⟩ := cs0
 have ok0 : ∀ u v, l0 = [.iface u v] → Value.okWide Tryz.prog W .any 0 u v := fun u v e => by
  subst e
  exact (hrows g 0 (by simp [MemPlace.row])).2 u v (by simpa using World.var?_cell hg0 hv0 0)
 obtain ⟨a0, s0, rfl, hc0, hs0, hz0, rfl⟩ := errorString_of_trod Tryz.underlying47 Tryz.rowE Tryz.underlying234 Tryz.underlying258 rfl rfl Tryz.underlying9 Tryz.cellsE Tryz.cellsS hd0 ok0
 refine ⟨a0, q0, ⟨by simpa using World.var?_cell hg0 hv0 0, (hrows a0.block a0.off (by simp [MemPlace.row])).1⟩, hr, ?_⟩
 simp [MemPlace.row]
abbrev LE : Type := String × Nat × List UInt8
def leV (x : LE) : String × DataW Unit := (x.1, .iface "*errors.errorString" (.ptr (.agg [.lit (.string x.2.2)])))
theorem laid_list {W : World} {r : List (String × DataW Unit)} : ∀ (xs : List LE) (ps : List MemPlace), (∀ x ∈ xs, Tryz.prog.globalNamed x.1 = some x.2.1 ∧ (Tryz.prog.globals[x.2.1]?).map (·.type) = some 47) →
 DataW.LaidVars Tryz.prog W (xs.map leV ++ r) ps → (∀ b off, MemPlace.cell b off ∈ ps → (∃ c t, W.heap[b]? = some (.cells c t (0, 0))) ∧ ∀ u v, W.cell? ⟨b, off, none⟩ = some (.iface u v) → Value.okWide Tryz.prog W .any 0 u v) →
 ∃ ads : List Addr, ads.length = xs.length ∧ (∀ (i : Nat) (x : LE) (a : Addr), xs[i]? = some x → ads[i]? = some a → Sent W x.2.1 a) ∧ (∀ a ∈ ads, MemPlace.cell a.block a.off ∈ ps) ∧ (ps.Nodup → ads.Pairwise (· ≠ ·))
 | [], ps, _, _, _ => ⟨[], rfl, fun i x a h => by simp at h, fun a h => by simp at h, fun _ => List.Pairwise.nil⟩
 | x :: xs, ps, hx, h, hr => by
   obtain ⟨a, q, hs, hq, rfl⟩ := laid_step (hx x List.mem_cons_self).1 (hx x List.mem_cons_self).2 h hr
   obtain ⟨ads, h1, h2, h3, h4⟩ := laid_list xs q (fun y hy => hx y (List.mem_cons_of_mem _ hy)) hq (fun b off hb => hr b off (List.mem_cons_of_mem _ (List.mem_cons_of_mem _ hb)))
   refine ⟨a :: ads, by simp [h1], fun i y b hy hb => ?_, fun b hb => ?_, fun hn => ?_⟩
   ·cases i with
    | zero => simp at hy hb; subst hy; subst hb; exact hs
    | succ i => exact h2 i y b (by simpa using hy) (by simpa using hb)
   ·rcases List.mem_cons.1 hb with rfl | hb
    ·exact List.mem_cons_of_mem _ List.mem_cons_self
    ·exact List.mem_cons_of_mem _ (List.mem_cons_of_mem _ (h3 b hb))
   ·have hn2 := (List.nodup_cons.1 hn).2
    have hn3 := List.nodup_cons.1 hn2
    exact List.Pairwise.cons (fun b hb e => hn3.1 (by rw [e]; exact h3 b hb)) (h4 hn3.2)
theorem Tryz.g1 : Tryz.prog.globalNamed "semblance/api.ErrArg" = some 0 := by kernel_rfl
theorem Tryz.t1 : (Tryz.prog.globals[0]?).map (·.type) = some 47 := by kernel_rfl
theorem Tryz.g2 : Tryz.prog.globalNamed "semblance/api.ErrLong" = some 1 := by kernel_rfl
theorem Tryz.t2 : (Tryz.prog.globals[1]?).map (·.type) = some 47 := by kernel_rfl
theorem Tryz.g3 : Tryz.prog.globalNamed "semblance/api.ErrIndex" = some 2 := by kernel_rfl
theorem Tryz.t3 : (Tryz.prog.globals[2]?).map (·.type) = some 47 := by kernel_rfl
theorem Tryz.g4 : Tryz.prog.globalNamed "semblance/api.ErrWord" = some 3 := by kernel_rfl
theorem Tryz.t4 : (Tryz.prog.globals[3]?).map (·.type) = some 47 := by kernel_rfl
theorem Tryz.g5 : Tryz.prog.globalNamed "semblance/api.ErrSyntax" = some 4 := by kernel_rfl
theorem Tryz.t5 : (Tryz.prog.globals[4]?).map (·.type) = some 47 := by kernel_rfl
theorem Tryz.g6 : Tryz.prog.globalNamed "semblance/api.ErrDeep" = some 5 := by kernel_rfl
theorem Tryz.t6 : (Tryz.prog.globals[5]?).map (·.type) = some 47 := by kernel_rfl
theorem Tryz.g7 : Tryz.prog.globalNamed "semblance/api.ErrTwice" = some 6 := by kernel_rfl
theorem Tryz.t7 : (Tryz.prog.globals[6]?).map (·.type) = some 47 := by kernel_rfl
theorem Tryz.g8 : Tryz.prog.globalNamed "semblance/api.ErrUnknown" = some 7 := by kernel_rfl
theorem Tryz.t8 : (Tryz.prog.globals[7]?).map (·.type) = some 47 := by kernel_rfl
theorem Tryz.g9 : Tryz.prog.globalNamed "semblance/api.ErrSilent" = some 8 := by kernel_rfl
theorem Tryz.t9 : (Tryz.prog.globals[8]?).map (·.type) = some 47 := by kernel_rfl
theorem Tryz.g10 : Tryz.prog.globalNamed "semblance/api.ErrUnguarded" = some 9 := by kernel_rfl
theorem Tryz.t10 : (Tryz.prog.globals[9]?).map (·.type) = some 47 := by kernel_rfl
theorem Tryz.g11 : Tryz.prog.globalNamed "semblance/api.ErrSteps" = some 10 := by kernel_rfl
theorem Tryz.t11 : (Tryz.prog.globals[10]?).map (·.type) = some 47 := by kernel_rfl
theorem Tryz.g12 : Tryz.prog.globalNamed "semblance/api.ErrStates" = some 11 := by kernel_rfl
theorem Tryz.t12 : (Tryz.prog.globals[11]?).map (·.type) = some 47 := by kernel_rfl
theorem Tryz.g13 : Tryz.prog.globalNamed "semblance/api.ErrEdges" = some 12 := by kernel_rfl
theorem Tryz.t13 : (Tryz.prog.globals[12]?).map (·.type) = some 47 := by kernel_rfl
theorem Tryz.g14 : Tryz.prog.globalNamed "semblance/api.ErrSystem" = some 13 := by kernel_rfl
theorem Tryz.t14 : (Tryz.prog.globals[13]?).map (·.type) = some 47 := by kernel_rfl
theorem Tryz.g15 : Tryz.prog.globalNamed "semblance/api.ErrClasses" = some 14 := by kernel_rfl
theorem Tryz.t15 : (Tryz.prog.globals[14]?).map (·.type) = some 47 := by kernel_rfl
theorem Tryz.g16 : Tryz.prog.globalNamed "semblance/api.ErrFormula" = some 15 := by kernel_rfl
theorem Tryz.t16 : (Tryz.prog.globals[15]?).map (·.type) = some 47 := by kernel_rfl
theorem Tryz.g17 : Tryz.prog.globalNamed "semblance/api.ErrLimit" = some 16 := by kernel_rfl
theorem Tryz.t17 : (Tryz.prog.globals[16]?).map (·.type) = some 47 := by kernel_rfl
theorem Tryz.g18 : Tryz.prog.globalNamed "semblance/api.ErrNone" = some 17 := by kernel_rfl
theorem Tryz.t18 : (Tryz.prog.globals[17]?).map (·.type) = some 47 := by kernel_rfl
theorem Tryz.g19 : Tryz.prog.globalNamed "semblance/api.ErrScript" = some 18 := by kernel_rfl
theorem Tryz.t19 : (Tryz.prog.globals[18]?).map (·.type) = some 47 := by kernel_rfl
set_option maxRecDepth 100000 in
theorem er_of {W : World} {x1 x2 x3 x4 x5 x6 x7 x8 x9 x10 x11 x12 x13 x14 x15 x16 x17 x18 x19 : List UInt8} {r : List (String × DataW Unit)} (h : laidMet Tryz.prog (("semblance/api.ErrArg", .iface "*errors.errorString" (.ptr (.agg [.lit (.string x1)]))) :: ("semblance/api.ErrLong", .iface "*errors.errorString" (.ptr (.agg [.lit (.string x2)]))) :: ("semblance/api.ErrIndex", .iface "*errors.errorString" (.ptr (.agg [.lit (.string x3)]))) :: ("semblance/api.ErrWord", .iface "*errors.errorString" (.ptr (.agg [.lit (.string x4)]))) :: ("semblance/api.ErrSyntax", .iface "*errors.errorString" (.ptr (.agg [.lit (.string x5)]))) :: ("semblance/api.ErrDeep", .iface "*errors.errorString" (.ptr (.agg [.lit (.string x6)]))) :: ("semblance/api.ErrTwice", .iface "*errors.errorString" (.ptr (.agg [.lit (.string x7)]))) :: ("semblance/api.ErrUnknown", .iface "*errors.errorString" (.ptr (.agg [.lit (.string x8)]))) :: ("semblance/api.ErrSilent", .iface "*errors.errorString" (.ptr (.agg [.lit (.string x9)]))) :: ("semblance/api.ErrUnguarded", .iface "*errors.errorString" (.ptr (.agg [.lit (.string x10)]))) :: ("semblance/api.ErrSteps", .iface "*errors.errorString" (.ptr (.agg [.lit (.string x11)]))) :: ("semblance/api.ErrStates", .iface "*errors.errorString" (.ptr (.agg [.lit (.string x12)]))) :: ("semblance/api.ErrEdges", .iface "*errors.errorString" (.ptr (.agg [.lit (.string x13)]))) :: ("semblance/api.ErrSystem", .iface "*errors.errorString" (.ptr (.agg [.lit (.string x14)]))) :: ("semblance/api.ErrClasses", .iface "*errors.errorString" (.ptr (.agg [.lit (.string x15)]))) :: ("semblance/api.ErrFormula", .iface "*errors.errorString" (.ptr (.agg [.lit (.string x16)]))) :: ("semblance/api.ErrLimit", .iface "*errors.errorString" (.ptr (.agg [.lit (.string x17)]))) :: ("semblance/api.ErrNone", .iface "*errors.errorString" (.ptr (.agg [.lit (.string x18)]))) :: ("semblance/api.ErrScript", .iface "*errors.errorString" (.ptr (.agg [.lit (.string x19)]))) :: r) W) : ∃ e, Er 19 W e := by
 obtain ⟨ps, h0, hnd, r0⟩ := h
 obtain ⟨ads, h1, h2, _, h4⟩ := laid_list [("semblance/api.ErrArg", 0, x1), ("semblance/api.ErrLong", 1, x2), ("semblance/api.ErrIndex", 2, x3), ("semblance/api.ErrWord", 3, x4), ("semblance/api.ErrSyntax", 4, x5), ("semblance/api.ErrDeep", 5, x6), ("semblance/api.ErrTwice", 6, x7), ("semblance/api.ErrUnknown", 7, x8), ("semblance/api.ErrSilent", 8, x9), ("semblance/api.ErrUnguarded", 9, x10), ("semblance/api.ErrSteps", 10, x11), ("semblance/api.ErrStates", 11, x12), ("semblance/api.ErrEdges", 12, x13), ("semblance/api.ErrSystem", 13, x14), ("semblance/api.ErrClasses", 14, x15), ("semblance/api.ErrFormula", 15, x16), ("semblance/api.ErrLimit", 16, x17), ("semblance/api.ErrNone", 17, x18), ("semblance/api.ErrScript", 18, x19)] ps (fun x hx => by
  simp only [List.mem_cons, List.not_mem_nil, or_false] at hx
  rcases hx with rfl | rfl | rfl | rfl | rfl | rfl | rfl | rfl | rfl | rfl | rfl | rfl | rfl | rfl | rfl | rfl | rfl | rfl | rfl
  ·exact ⟨Tryz.g1, Tryz.t1⟩
  ·exact ⟨Tryz.g2, Tryz.t2⟩
  ·exact ⟨Tryz.g3, Tryz.t3⟩
  ·exact ⟨Tryz.g4, Tryz.t4⟩
  ·exact ⟨Tryz.g5, Tryz.t5⟩
  ·exact ⟨Tryz.g6, Tryz.t6⟩
  ·exact ⟨Tryz.g7, Tryz.t7⟩
  ·exact ⟨Tryz.g8, Tryz.t8⟩
  ·exact ⟨Tryz.g9, Tryz.t9⟩
  ·exact ⟨Tryz.g10, Tryz.t10⟩
  ·exact ⟨Tryz.g11, Tryz.t11⟩
  ·exact ⟨Tryz.g12, Tryz.t12⟩
  ·exact ⟨Tryz.g13, Tryz.t13⟩
  ·exact ⟨Tryz.g14, Tryz.t14⟩
  ·exact ⟨Tryz.g15, Tryz.t15⟩
  ·exact ⟨Tryz.g16, Tryz.t16⟩
  ·exact ⟨Tryz.g17, Tryz.t17⟩
  ·exact ⟨Tryz.g18, Tryz.t18⟩
  ·exact ⟨Tryz.g19, Tryz.t19⟩) h0 r0
 have hp := h4 hnd
 have h1' : ads.length = 19 := h1
 have hg : ∀ k, 1 ≤ k → k ≤ 19 → ads[k - 1]? = some (ads.getD (k - 1) ⟨0, 0, none⟩) := fun k _ h19 => by rw [List.getD_eq_getElem?_getD, List.getElem?_eq_getElem (by omega)]; rfl
 refine ⟨fun k => ads.getD (k - 1) ⟨0, 0, none⟩, ⟨fun _ => h2 0 _ _ rfl (hg 1 (by decide) (by decide)), fun _ => h2 1 _ _ rfl (hg 2 (by decide) (by decide)), fun _ => h2 2 _ _ rfl (hg 3 (by decide) (by decide)), fun _ => h2 3 _ _ rfl (hg 4 (by decide) (by decide)), fun _ => h2 4 _ _ rfl (hg 5 (by decide) (by decide)), fun _ => h2 5 _ _ rfl (hg 6 (by decide) (by decide)), fun _ => h2 6 _ _ rfl (hg 7 (by decide) (by decide)), fun _ => h2 7 _ _ rfl (hg 8 (by decide) (by decide)), fun _ => h2 8 _ _ rfl (hg 9 (by decide) (by decide)), fun _ => h2 9 _ _ rfl (hg 10 (by decide) (by decide)), fun _ => h2 10 _ _ rfl (hg 11 (by decide) (by decide)), fun _ => h2 11 _ _ rfl (hg 12 (by decide) (by decide)), fun _ => h2 12 _ _ rfl (hg 13 (by decide) (by decide)), fun _ => h2 13 _ _ rfl (hg 14 (by decide) (by decide)), fun _ => h2 14 _ _ rfl (hg 15 (by decide) (by decide)), fun _ => h2 15 _ _ rfl (hg 16 (by decide) (by decide)), fun _ => h2 16 _ _ rfl (hg 17 (by decide) (by decide)), fun _ => h2 17 _ _ rfl (hg 18 (by decide) (by decide)), fun _ => h2 18 _ _ rfl (hg 19 (by decide) (by decide)), fun i j hi hij hj e => ?_⟩⟩
 have hpi := List.pairwise_iff_getElem.1 hp (i - 1) (j - 1) (by omega) (by omega) (by omega)
 have ei := hg i hi (by omega)
 have ej := hg j (by omega) hj
 rw [List.getElem?_eq_getElem (by omega)] at ei ej
 exact hpi ((Option.some.inj ei).trans (e.symm.trans (Option.some.inj ej).symm))
end Go.Proofs.YtplofbabfkkimaaGreatDoor
/- A list of numbers that came in, as a plain list. -/
namespace Go.Proofs.YtplofbabfkkimaaGreatDoor
open Go.ChangeShapes Go.WideShapes Go.ChangeAt Go.WideMaps Go.WideElems Go.RowKit
theorem Tryz.cIntE : Tryz.prog.cellsOf 3 = 1 := by kernel_rfl
end Go.Proofs.YtplofbabfkkimaaGreatDoor
/- A list of edges, and a system, that came in, out of their reading. -/
namespace Go.Proofs.YtplofbabfkkimaaGreatDoor
open Go.ChangeShapes Go.WideShapes Go.ChangeAt Go.WideMaps Go.WideElems Go.RowKit
theorem Tryz.cEdge : Tryz.prog.cellsOf 61 = 3 := by kernel_rfl
theorem Tryz.cSys : Tryz.prog.cellsOf 24 = 4 := by kernel_rfl
theorem ed_choose {n : Nat} {p : Nat → Sy.Ed → Prop} (h : ∀ i, i < n → ∃ x, p i x) : ∃ f : Nat → Sy.Ed, ∀ i, i < n → p i (f i) := by
 classical
 refine ⟨fun i => if hi : i < n then Classical.choose (h i hi) else (0, 0, 0), fun i hi => ?_⟩
 simp only [hi, dif_pos]
 exact Classical.choose_spec (h i hi)
set_option maxRecDepth 100000 in
theorem edge_in {H : Type} {enc : TypeId × Value → H} {W : World} {fuel i : Nat} {a : Addr} {cs : List Value} {x : DataW H × List MemPlace} (hc : W.cells? 0 (a.add (i * 3)) 3 = some cs) (h : DataW.trod enc Tryz.prog W 0 (fun _ => true) true fuel 61 cs = some x) :
 ∃ z : Sy.Ed, ∀ q u, (BEdges.enc z)[q]? = some u → W.cell? (a.add (i * 3 + q)) = some u := by
 obtain ⟨_, hlen, hcell⟩ := World.cells?_some hc
 obtain ⟨xs, k, hk, _, _, hxl, hf⟩ := DataW.trod_struct Tryz.underlying61 h
 match xs, hxl, cs, hlen with
 | [y0, y1, y2], _, [v0, v1, v2], _ =>
   have g0 := hf 0 _ rfl
   have g1 := hf 1 _ rfl
   have g2 := hf 2 _ rfl
   simp [Tryz.cIntE] at g0 g1 g2
   obtain ⟨z0, e0, _⟩ := DataW.trod_int Tryz.underlying3 g0
   obtain ⟨z1, e1, _⟩ := DataW.trod_int Tryz.underlying3 g1
   obtain ⟨z2, e2, _⟩ := DataW.trod_int Tryz.underlying3 g2
   obtain rfl : v0 = .int .i64 z0 := by simpa using e0
   obtain rfl : v1 = .int .i64 z1 := by simpa using e1
   obtain rfl : v2 = .int .i64 z2 := by simpa using e2
   have c0 := hcell 0 (by omega)
   have c1 := hcell 1 (by omega)
   have c2 := hcell 2 (by omega)
   rw [Go.Deep.add_add] at c0 c1 c2
   refine ⟨(z0, z1, z2), fun q u hq => ?_⟩
   match q, hq with
   | 0, hq => cases hq; simpa using c0
   | 1, hq => cases hq; simpa using c1
   | 2, hq => cases hq; simpa using c2
   | q + 3, hq => simp [BEdges.enc] at hq
set_option maxRecDepth 100000 in
theorem edges_in {H : Type} {enc : TypeId × Value → H} {W : World} {fuel : Nat} {v : Value} {x : DataW H × List MemPlace} (h : DataW.trod enc Tryz.prog W 0 (fun _ => true) true fuel 22 [v] = some x) : ∃ es, HasE W v es ∧ es.length ≤ maxLen := by
 rcases Go.Deep.open_slice Tryz.underlying22 h with ⟨hc, _⟩ | ⟨a, len, cap, m, n, D, Pl, hc, _, hl, hm, hmm, _, hx⟩
 ·obtain rfl : v = .slice none 0 0 := by injection hc
  exact ⟨[], ⟨none, 0, rfl, Nat.le_refl _, none, 0, rfl, fun i s h => by simp [BEdges.C] at h⟩, by simp⟩
 ·obtain rfl : v = .slice (some a) len cap := by injection hc
  have hm' : m = cap := by simpa using hmm
  rw [Tryz.cEdge] at hx
  have each : ∀ i, i < len → ∃ z : Sy.Ed, ∀ q u, (BEdges.enc z)[q]? = some u → W.cell? (a.add (i * 3 + q)) = some u := fun i hi => by
   obtain ⟨cs, h1, h2⟩ := hx i (by omega)
   exact edge_in h1 h2
  obtain ⟨f, hf'⟩ := ed_choose each
  have hL : ((List.range len).map f).length = len := by simp
  refine ⟨(List.range len).map f, ⟨some a, cap, by rw [hL], by rw [hL]; omega, some a, cap, by rw [hL], fun j u hj => ⟨a, rfl, ?_⟩⟩, by rw [hL]; omega⟩
  have hj3 : j < len * 3 := by have := (List.getElem?_eq_some_iff.1 hj).1; rw [BEdges.C_len, hL] at this; exact this
  have hi : j / 3 < len := by omega
  have hz : ((List.range len).map f)[j / 3]? = some (f (j / 3)) := by rw [List.getElem?_map, List.getElem?_range hi]; rfl
  have h9 := BEdges.C_at _ _ _ hz (j % 3) (Nat.mod_lt _ (by decide))
  have e9 : j / 3 * 3 + j % 3 = j := by omega
  rw [e9, hj] at h9
  have h8 := hf' (j / 3) hi (j % 3) u h9.symm
  rw [e9] at h8
  exact h8
set_option maxRecDepth 100000 in
theorem has_sys {H : Type} {enc : TypeId × Value → H} {W : World} {base : Nat} {v : Value} {d : DataW H} {ps : List MemPlace} (hok : Value.okWide Tryz.prog W .any base 24 v) (h : DataW.Trod enc Tryz.prog W 0 (fun _ => true) true 24 v d ps) :
 ∃ (n k s : Int) (u : Value) (es : List Sy.Ed), v = sysV n k s u ∧ HasE W u es ∧ es.length ≤ maxLen := by
 obtain ⟨v0, v1, v2, v3, y0, y1, y2, y3, f, rfl, _, _, t0, t1, t2, t3⟩ := Go.Joins.open_agg4 Tryz.underlying24 (by kernel_rfl) Tryz.cSys hok h
 obtain ⟨z0, e0, _⟩ := DataW.trod_int Tryz.underlying3 t0
 obtain ⟨z1, e1, _⟩ := DataW.trod_int Tryz.underlying3 t1
 obtain ⟨z2, e2, _⟩ := DataW.trod_int Tryz.underlying3 t2
 obtain rfl : v0 = .int .i64 z0 := by simpa using e0
 obtain rfl : v1 = .int .i64 z1 := by simpa using e1
 obtain rfl : v2 = .int .i64 z2 := by simpa using e2
 obtain ⟨es, h1, h2⟩ := edges_in t3
 exact ⟨z0, z1, z2, v3, es, rfl, h1, h2⟩
end Go.Proofs.YtplofbabfkkimaaGreatDoor
