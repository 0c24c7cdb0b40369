/- Texts of this claim, joined: SoBreak, SoPdq. -/
import Derived.Test.YthcpliinddjkhaaGreatDoorPart12
import Derived.Sort.Walk7
import Derived.Test.YthcpliinddjkhaaGreatDoorPart7
import Derived.Sort.Walk13a
namespace Go.Proofs.YthcpliinddjkhaaGreatDoor
section
open Go.RowKit Go.Maps
attribute [local go_sem ↓] Go.wp_at_zero Go.wp_at_succ
structure RnE (w0 wr : World) (g : Nat) (d : Array Sy.Ed) (rest : List Value) (c s : Nat) : Prop where
 row : RowE w0 wr g d rest
 cell : wr.heap[c]? = some (.cells #[.int .u64 s] 301 (0, 0))
 up : w0.heap.size <= c
 ne : c ≠ g
theorem RnE.below {w0 wr w' : World} {g : Nat} {d : Array Sy.Ed} {rest : List Value} {c s : Nat} (h : RnE w0 wr g d rest c s) (hb : Below wr.heap.size wr w') : RnE w0 w' g d rest c s := ⟨h.row.below hb, (hb.block _ (t_lt h.cell)).trans h.cell, h.up, h.ne⟩
theorem RnE.bump {w0 wr : World} {g : Nat} {d : Array Sy.Ed} {rest : List Value} {c s : Nat} (h : RnE w0 wr g d rest c s) (t : Nat) : RnE w0 (wr.setCell ⟨c, 0, none⟩ (.int .u64 t)) g d rest c t :=
 ⟨Arr.kept h.row (Kept.setCell _ _ _ _) fun b e => by subst e; exact ⟨h.up, h.ne⟩, heap_setCell_same _ _ 0 _ _ _ h.cell, h.up, h.ne⟩
theorem st3_kept (w : World) (g k : Nat) (x : Sy.Ed) : Kept (fun i => i = g) w (st3 w g k x) := ((Kept.setCell _ _ _ _).trans (Kept.setCell _ _ _ _)).trans (Kept.setCell _ _ _ _)
theorem RnE.swapped {w0 wr : World} {g : Nat} {d : Array Sy.Ed} {rest : List Value} {c s : Nat} (h : RnE w0 wr g d rest c s) {i j : Nat} {x y : Sy.Ed} (hi : i < d.size) (hj : j < d.size) (hx : x = d[i]!) (hy : y = d[j]!) : RnE w0 (st3 (st3 wr g i y) g j x).drew g (Sort.swp d i j) rest c s := by
 have hk := (st3_kept wr g i y).trans (st3_kept (st3 wr g i y) g j x)
 have hz := hk.block c (t_lt h.cell) h.ne
 have hs := hk.size
 have hw := h.row.swapped hi hj hx hy
 generalize st3 (st3 wr g i y) g j x = W at hz hw hs ⊢
 exact ⟨hw, (((Below.refl W.heap.size W).drew).block c (Nat.lt_of_lt_of_le (t_lt h.cell) hs)).trans (hz.trans h.cell), h.up, h.ne⟩
set_option maxRecDepth 100000 in
set_option maxHeartbeats 16000000 in
theorem breakPat_any (g cap a b : Nat) (d : Array Sy.Ed) (rest : List Value) (u : Value) (w0 w : World) (hR : RowE w0 w g d rest) (hab : a <= b) (hb : b <= d.size) (hsz : d.size <= 1000000) :
 Calls Tryz.prog 224 #[.slice (some ⟨g, 0, none⟩) d.size cap, .int .i64 a, .int .i64 b, u] w fun r w' => r = .returned (.tuple #[]) /\ RowE w0 w' g (Sort.breakPatterns d a b) rest := by
 obtain ⟨L, hL⟩ : ∃ L, b = a + L := ⟨b - a, by omega⟩
 have v1 : IntKind.i64.wrap ((b : Int) - (a : Int)) = (L : Int) := by rw [IntKind.wrap_i64]; omega
 have v1' : (b : Int) - (a : Int) = (L : Int) := by omega
 have vL : IntKind.i64.wrap (L : Int) = (L : Int) := by rw [IntKind.wrap_i64]; omega
 by_cases h8 : 8 <= L
 ·have g8 : (8 : Int) <= (L : Int) := by omega
  obtain ⟨Q, hQ⟩ : ∃ Q, Q = L / 4 := ⟨_, rfl⟩
  obtain ⟨J, hJ⟩ : ∃ J, J = a + Q * 2 := ⟨_, rfl⟩
  obtain ⟨I0, hI⟩ : ∃ I0, I0 = J - 1 := ⟨_, rfl⟩
  obtain ⟨M, hM⟩ : ∃ M : Nat, M = 1 <<< Sort.bitsLen L := ⟨_, rfl⟩
  have hM1 : 1 <= M := by rw [hM, Nat.one_shiftLeft]; exact Nat.two_pow_pos _
  have hM2 : M <= 2 * L := by rw [hM, Nat.one_shiftLeft]; exact Sort.two_pow_bitsLen_le (by omega)
  have hNP := fun W => nextPow_any L (by omega) W
  have hbp : Sort.breakPatterns d a b = bpRest a L M I0 3 0 (UInt64.ofNat L, d) := by rw [hL, breakPatterns_eq d a L h8, hM, hI, hJ, hQ]
  rw [hbp]
  rw [<- hM] at hNP
  have hL64 : (UInt64.ofNat L).toNat = L := by simp; omega
  have hRn : RnE w0 (w.alloc (.cells #[.int .u64 (L : Int)] 301)) g d rest w.heap.size (UInt64.ofNat L).toNat := by
   rw [hL64]
   exact ⟨hR.below ((Below.refl _ _).alloc (Nat.le_refl _) _), heap_alloc_new w _, hR.bl.size, fun e => absurd (Arr.lt hR) (by omega)⟩
  have v2 : IntKind.i64.wrap ((L : Int) / 4) = (Q : Int) := by rw [IntKind.wrap_i64]; omega
  have v2' : (L : Int) / 4 = (Q : Int) := by omega
  have v3 : IntKind.i64.wrap (Q : Int) = (Q : Int) := by rw [IntKind.wrap_i64]; omega
  have v4 : IntKind.i64.wrap ((Q : Int) * 2) = (Q : Int) * 2 := by rw [IntKind.wrap_i64]; omega
  have v6 : IntKind.i64.wrap ((a : Int) + (Q : Int) * 2) = (J : Int) := by rw [IntKind.wrap_i64]; omega
  have v6' : (a : Int) + (Q : Int) * 2 = (J : Int) := by omega
  have v7 : IntKind.i64.wrap ((J : Int) - 1) = (I0 : Int) := by rw [IntKind.wrap_i64]; omega
  have v7' : (J : Int) - 1 = (I0 : Int) := by omega
  have b1 : a + 1 <= J /\ J + 1 < d.size /\ I0 + 1 <= J /\ J <= I0 + 1 /\ a + L <= d.size /\ L <= 1000000 := by omega
  have u64L : IntKind.u64.wrap (L : Int) = (L : Int) := by rw [IntKind.wrap_u64]; omega
  obtain ⟨n, hn⟩ : ∃ n, n = d.size := ⟨_, rfl⟩
  have HI : Hid _ := And.intro hNP (And.intro hRn hn)
  rw [<- hn] at b1 hsz ⊢
  clear hR hNP hRn hL64 hbp hM hI hJ hQ hL hb hn hab
  go_enter Tryz.func224, Tryz.ntmps224
  go_wp2_with (first | (go_at_call 233; refine Calls.mono (HI.out.1 _) ?_; rintro r w1 ⟨rfl, hw1⟩; obtain rfl := hw1.symm))
  go_loopg [11] 3 (fun q iv wr => ∃ (t x : Nat) (r : UInt64) (dk : Array Sy.Ed), iv = .int .i64 x /\ (x <= I0 + t /\ I0 + t <= x) /\ t <= 3 /\ 3 - t <= q /\ dk.size = n /\ RnE w0 wr g dk rest w.heap.size r.toNat /\ Hid (bpRest a L M I0 (3 - t) t (r, dk) = bpRest a L M I0 3 0 (UInt64.ofNat L, d)))
  case atStart => exact ⟨0, I0, UInt64.ofNat L, d, rfl, ⟨Nat.le_refl _, Nat.le_refl _⟩, by omega, by omega, HI.out.2.2.symm, HI.out.2.1, rfl⟩
  case round =>
   obtain ⟨t, x, r, dk, rfl, hx, ht, hq, hsk, hRn, HO⟩ := hrel
   by_cases ht3 : t < 3
   ·have g1 : (x : Int) <= (J : Int) + 1 := by omega
    have hN := xNext_any w.heap.size r.toNat r.toNat_lt wr (cell0_of hRn.cell rfl) (blk_free hRn.cell 0)
    rw [<- Sort.xorNext_toNat] at hN
    have hR2 := (hRn.bump (Sort.xorNext r).toNat).below ((((Below.refl _ _).drew).drew).drew : Below _ _ ((wr.setCell ⟨w.heap.size, 0, none⟩ (.int .u64 ((Sort.xorNext r).toNat : Nat))).drewN 3))
    obtain ⟨W2, hW2⟩ : ∃ W2, W2 = (wr.setCell ⟨w.heap.size, 0, none⟩ (.int .u64 ((Sort.xorNext r).toNat : Nat))).drewN 3 := ⟨_, rfl⟩
    rw [<- hW2] at hN hR2
    obtain ⟨O, hO⟩ : ∃ O : Nat, O = (Sort.xorNext r).toNat &&& (M - 1) := ⟨_, rfl⟩
    have lO : O <= M - 1 := by rw [hO]; exact Nat.and_le_right
    obtain ⟨M1, hM3⟩ : ∃ M1, M1 = M - 1 := ⟨_, rfl⟩
    have lR := (Sort.xorNext r).toNat_lt
    obtain ⟨R, hRr⟩ : ∃ R, R = (Sort.xorNext r).toNat := ⟨_, rfl⟩
    rw [<- hRr] at hN hR2 hO lR
    have eA : bits .and .u64 (R : Int) (M1 : Int) = (O : Int) := by rw [bits_and_u64_nat _ _ lR (by omega), hO, hM3]
    have eM : IntKind.u64.wrap ((M : Int) - 1) = (M1 : Int) := by rw [IntKind.wrap_u64]; omega
    have eM' : (M : Int) - 1 = (M1 : Int) := by omega
    have eO : IntKind.i64.wrap (O : Int) = (O : Int) := by rw [IntKind.wrap_i64]; omega
    have HN : Hid _ := hN
    have HR : Hid _ := And.intro hR2 (And.intro hsk (And.intro hRr hO))
    have hlO : O < 2 * L := by omega
    clear hRn hN hW2 hRr hO lO lR hM3 hsk
    by_cases hLO : L <= O
    ·have c1 : (L : Int) <= (O : Int) := by omega
     obtain ⟨o, ho⟩ : ∃ o, o = O - L := ⟨_, rfl⟩
     have c2 : IntKind.i64.wrap ((O : Int) - (L : Int)) = (o : Int) := by rw [IntKind.wrap_i64]; omega
     have c2' : (O : Int) - (L : Int) = (o : Int) := by omega
     have hoo : (if O >= L then O - L else O) = o := by rw [if_pos hLO, ho]
     obtain ⟨y, hy⟩ : ∃ y, y = a + o := ⟨_, rfl⟩
     have c3 : IntKind.i64.wrap ((a : Int) + (o : Int)) = (y : Int) := by rw [IntKind.wrap_i64]; omega
     have c3' : (a : Int) + (o : Int) = (y : Int) := by omega
     have hyn : y < n := by omega
     have hxn : x < n := by omega
     have q0 : (0 : Int) <= (x : Int) := by omega
     have q1 : (x : Int) < (n : Int) := by omega
     have q2 : (0 : Int) <= (y : Int) := by omega
     have q3 : (y : Int) < (n : Int) := by omega
     have hst : bpRest a L M I0 (3 - t) t (r, dk) = bpRest a L M I0 (3 - (t + 1)) (t + 1) (Sort.xorNext r, Sort.swp dk x y) := by
      rw [bp_step a L M I0 t r dk o ht3 (by rw [<- HR.out.2.2.1, <- HR.out.2.2.2]; exact hoo), hy, show x = I0 + t by omega]
     have HS : Hid _ := hst
     clear hst hoo ho hy
     have hR3 := HR.out.1.row
     have hsk := HR.out.2.1
     have f0 := hR3.free (x * 3)
     have f1 := hR3.free (x * 3 + 1)
     have f2 := hR3.free (x * 3 + 2)
     have f3 := hR3.free (y * 3)
     have f4 := hR3.free (y * 3 + 1)
     have f5 := hR3.free (y * 3 + 2)
     obtain ⟨z0, z1, z2⟩ := hR3.cells (j := x) (by omega)
     obtain ⟨z3, z4, z5⟩ := hR3.cells (j := y) (by omega)
     obtain ⟨xe2, hxe2⟩ : ∃ xe, xe = dk[x]! := ⟨_, rfl⟩
     obtain ⟨ye2, hye2⟩ : ∃ ye, ye = dk[y]! := ⟨_, rfl⟩
     rw [<- hxe2] at z0 z1 z2
     rw [<- hye2] at z3 z4 z5
     have HE2 : Hid _ := And.intro hxe2 hye2
     clear hxe2 hye2
     obtain ⟨sa, sb, sc⟩ := xe2
     obtain ⟨ta, tb, tc⟩ := ye2
     simp only at z0 z1 z2 z3 z4 z5
     clear hR3 hsk
     by_cases hne : x = y
     ·subst hne
      clear z3 z4 z5 f3 f4 f5
      go_wp2_with (first | (go_at_call 234; refine Calls.mono HN.out ?_; rintro r1 w1 ⟨rfl, hw1⟩; obtain rfl := hw1.symm))
      go_region
      all_goals go_wp2_with fail
      go_roundg (3 - (t + 1))
      case measure => omega
      case rel =>
       refine ⟨t + 1, x + 1, Sort.xorNext r, Sort.swp dk x x, by go_num, by omega, by omega, Nat.le_refl _, by rw [Sort.size_swp]; exact HR.out.2.1, ?_, (show Hid _ from ?_)⟩
       ·rw [<- HR.out.2.2.1]
        exact HR.out.1.swapped (i := x) (j := x) (x := (sa, sb, sc)) (y := (sa, sb, sc)) (by have := HR.out.2.1; omega) (by have := HR.out.2.1; omega) HE2.out.1 HE2.out.1
       ·show _ = _
        rw [<- HO.out, HS.out]
     ·have hne2 : ¬ y = x := fun e => hne e.symm
      go_wp2_with (first | (go_at_call 234; refine Calls.mono HN.out ?_; rintro r1 w1 ⟨rfl, hw1⟩; obtain rfl := hw1.symm))
      go_region
      all_goals go_wp2_with fail
      go_roundg (3 - (t + 1))
      case measure => omega
      case rel =>
       refine ⟨t + 1, x + 1, Sort.xorNext r, Sort.swp dk x y, by go_num, by omega, by omega, Nat.le_refl _, by rw [Sort.size_swp]; exact HR.out.2.1, ?_, (show Hid _ from ?_)⟩
       ·rw [<- HR.out.2.2.1]
        exact HR.out.1.swapped (i := x) (j := y) (x := (sa, sb, sc)) (y := (ta, tb, tc)) (by have := HR.out.2.1; omega) (by have := HR.out.2.1; omega) HE2.out.1 HE2.out.2
       ·show _ = _
        rw [<- HO.out, HS.out]
    ·have c1 : ¬ (L : Int) <= (O : Int) := by omega
     obtain ⟨o, ho⟩ : ∃ o, o = O := ⟨_, rfl⟩
     have hoo : (if O >= L then O - L else O) = o := by rw [if_neg hLO, ho]
     obtain ⟨y, hy⟩ : ∃ y, y = a + o := ⟨_, rfl⟩
     have c3 : IntKind.i64.wrap ((a : Int) + (O : Int)) = (y : Int) := by rw [IntKind.wrap_i64]; omega
     have c3' : (a : Int) + (O : Int) = (y : Int) := by omega
     have hyn : y < n := by omega
     have hxn : x < n := by omega
     have q0 : (0 : Int) <= (x : Int) := by omega
     have q1 : (x : Int) < (n : Int) := by omega
     have q2 : (0 : Int) <= (y : Int) := by omega
     have q3 : (y : Int) < (n : Int) := by omega
     have hst : bpRest a L M I0 (3 - t) t (r, dk) = bpRest a L M I0 (3 - (t + 1)) (t + 1) (Sort.xorNext r, Sort.swp dk x y) := by
      rw [bp_step a L M I0 t r dk o ht3 (by rw [<- HR.out.2.2.1, <- HR.out.2.2.2]; exact hoo), hy, show x = I0 + t by omega]
     have HS : Hid _ := hst
     clear hst hoo ho hy
     have hR3 := HR.out.1.row
     have hsk := HR.out.2.1
     have f0 := hR3.free (x * 3)
     have f1 := hR3.free (x * 3 + 1)
     have f2 := hR3.free (x * 3 + 2)
     have f3 := hR3.free (y * 3)
     have f4 := hR3.free (y * 3 + 1)
     have f5 := hR3.free (y * 3 + 2)
     obtain ⟨z0, z1, z2⟩ := hR3.cells (j := x) (by omega)
     obtain ⟨z3, z4, z5⟩ := hR3.cells (j := y) (by omega)
     obtain ⟨xe2, hxe2⟩ : ∃ xe, xe = dk[x]! := ⟨_, rfl⟩
     obtain ⟨ye2, hye2⟩ : ∃ ye, ye = dk[y]! := ⟨_, rfl⟩
     rw [<- hxe2] at z0 z1 z2
     rw [<- hye2] at z3 z4 z5
     have HE2 : Hid _ := And.intro hxe2 hye2
     clear hxe2 hye2
     obtain ⟨sa, sb, sc⟩ := xe2
     obtain ⟨ta, tb, tc⟩ := ye2
     simp only at z0 z1 z2 z3 z4 z5
     clear hR3 hsk
     by_cases hne : x = y
     ·subst hne
      clear z3 z4 z5 f3 f4 f5
      go_wp2_with (first | (go_at_call 234; refine Calls.mono HN.out ?_; rintro r1 w1 ⟨rfl, hw1⟩; obtain rfl := hw1.symm))
      go_region
      all_goals go_wp2_with fail
      go_roundg (3 - (t + 1))
      case measure => omega
      case rel =>
       refine ⟨t + 1, x + 1, Sort.xorNext r, Sort.swp dk x x, by go_num, by omega, by omega, Nat.le_refl _, by rw [Sort.size_swp]; exact HR.out.2.1, ?_, (show Hid _ from ?_)⟩
       ·rw [<- HR.out.2.2.1]
        exact HR.out.1.swapped (i := x) (j := x) (x := (sa, sb, sc)) (y := (sa, sb, sc)) (by have := HR.out.2.1; omega) (by have := HR.out.2.1; omega) HE2.out.1 HE2.out.1
       ·show _ = _
        rw [<- HO.out, HS.out]
     ·have hne2 : ¬ y = x := fun e => hne e.symm
      go_wp2_with (first | (go_at_call 234; refine Calls.mono HN.out ?_; rintro r1 w1 ⟨rfl, hw1⟩; obtain rfl := hw1.symm))
      go_region
      all_goals go_wp2_with fail
      go_roundg (3 - (t + 1))
      case measure => omega
      case rel =>
       refine ⟨t + 1, x + 1, Sort.xorNext r, Sort.swp dk x y, by go_num, by omega, by omega, Nat.le_refl _, by rw [Sort.size_swp]; exact HR.out.2.1, ?_, (show Hid _ from ?_)⟩
       ·rw [<- HR.out.2.2.1]
        exact HR.out.1.swapped (i := x) (j := y) (x := (sa, sb, sc)) (y := (ta, tb, tc)) (by have := HR.out.2.1; omega) (by have := HR.out.2.1; omega) HE2.out.1 HE2.out.2
       ·show _ = _
        rw [<- HO.out, HS.out]
   ·have g1 : ¬ (x : Int) <= (J : Int) + 1 := by omega
    have HR : Hid _ := hRn.row
    clear hRn
    go_wp2_with fail
    go_end0
    have h3 : t = 3 := by omega
    subst h3
    rw [<- HO.out]
    exact ⟨rfl, HR.out⟩
 ·have g8 : ¬ (8 : Int) <= (L : Int) := by omega
  have hbp : Sort.breakPatterns d a b = d := by
   unfold Sort.breakPatterns
   simp only
   rw [if_neg (by omega)]
  rw [hbp]
  have HR : Hid _ := hR
  clear hR hbp hL
  go_enter Tryz.func224, Tryz.ntmps224
  go_wp2_with fail
  go_end0
  exact ⟨rfl, HR.out⟩
end
section
open Go.RowKit Go.Maps
attribute [local go_sem ↓] Go.wp_at_zero Go.wp_at_succ
theorem hintC_two {h : Sort.Hint} (e : hintC h = 2) : h = .decreasing := by cases h <;> simp [hintC] at e ⊢
theorem eighth {x y p q : Nat} (h1 : q <= p) (h2 : y <= x) : decide (((x : Int) - (y : Int)) / 8 <= (p : Int) - (q : Int)) = decide (p - q >= (x - y) / 8) :=
 decide_eq_decide.2 ⟨fun h => by omega, fun h => by omega⟩
theorem bl_le : ∀ f x, Lib.bitLenAux f x <= f := by
 intro f
 induction f with
 | zero => intro x; exact Nat.le_refl _
 | succ f ih =>
   intro x
   rw [Lib.bitLenAux]
   have := ih (x / 2)
   split <;> omega
def PdqAt (f : Nat) (vw : Sy.Ed -> Sy.Ed) (g cap n : Nat) (rest : List Value) (w0 : World) (N : Nat) : Prop := ∀ (a b limit : Nat) (d : Array Sy.Ed) (w : World), b - a < N -> RowE w0 w g d rest -> d.size = n -> a <= b -> b <= n -> limit < 1000 -> Sort.Below (ltV vw) a b d ->
 Calls Tryz.prog 205 #[.slice (some ⟨g, 0, none⟩) n cap, .int .i64 a, .int .i64 b, .int .i64 limit, cmpV f] w fun r w' => r = .returned (.tuple #[]) /\ RowE w0 w' g (Sort.pdq (ltV vw) d a b limit true true) rest
set_option maxRecDepth 1000000 in
set_option maxHeartbeats 32000000 in
theorem pdq_any (f : Nat) (vw : Sy.Ed -> Sy.Ed) (hV : ViewAt f vw) (g cap n : Nat) (rest : List Value) (w0 : World) (hsz : n <= 1000000) : ∀ N, PdqAt f vw g cap n rest w0 N := by
 intro N
 induction N with
 | zero => intro _ _ _ _ _ h; exact absurd h (Nat.not_lt_zero _)
 | succ N ih =>
   intro a b limit d w hN hR hd hab hb hlimit hB0
   have he := enter_cmp
   have HV : Hid (ViewAt f vw) := hV
   have H0 : Hid (RowE w0 w g d rest /\ d.size = n /\ Sort.Below (ltV vw) a b d) := ⟨hR, hd, hB0⟩
   clear hR hd hB0 hV
   unfold cmpV
   go_enter Tryz.func205, Tryz.ntmps205
   go_wp2_with fail
   go_loopg [1, 2, 3, 10, 11] (b - a) (fun k s1 s2 s3 s8 s9 wr => ∃ (a' b' lim : Nat) (wb wp : Bool) (dk : Array Sy.Ed), s1 = .int .i64 a' /\ s2 = .int .i64 b' /\ s3 = .int .i64 lim /\ s8 = .bool wb /\ s9 = .bool wp /\ a' <= b' /\ b' <= n /\ b' - a' <= k /\ k <= b - a /\ lim <= limit /\ dk.size = n /\ Sort.Below (ltV vw) a' b' dk /\ RowE w0 wr g dk rest /\ Hid (Sort.pdq (ltV vw) dk a' b' lim wb wp = Sort.pdq (ltV vw) d a b limit true true))
   case atStart => exact ⟨a, b, limit, true, true, d, rfl, rfl, rfl, rfl, rfl, hab, hb, Nat.le_refl _, Nat.le_refl _, Nat.le_refl _, H0.out.2.1, H0.out.2.2, H0.out.1, rfl⟩
   case round =>
    obtain ⟨a', b', lim, wb, wp, dk, rfl, rfl, rfl, rfl, rfl, hab', hb', hk, hkN, hlim, hds, hBel, hRk, A⟩ := hrel
    obtain ⟨wq, rfl⟩ : ∃ wq, wq = wr := ⟨_, rfl⟩
    have p1 : IntKind.i64.wrap ((b' : Int) - (a' : Int)) = (b' : Int) - (a' : Int) := by rw [IntKind.wrap_i64]; omega
    clear H0
    by_cases h12 : b' - a' <= 12
    ·have h12z : (b' : Int) - (a' : Int) <= 12 := by omega
     have hc := insSort_any f vw HV.out g cap a' b' dk rest w0 wq hRk hab' (by omega) (by omega)
     rw [hds] at hc
     unfold cmpV at hc
     have HC : Hid _ := And.intro hc trivial
     clear hc hRk hBel hds
     go_wp2_with (go_at_call 222; refine Calls.mono HC.out.1 ?_; rintro e w1 ⟨rfl, hR1⟩)
     refine bodyPost_ret (results_none rfl _ _ _) rfl ⟨rfl, ?_⟩
     rw [<- A.out, Sort.pdq_small h12]
     exact hR1
    ·have h12z : ¬ ((b' : Int) - (a' : Int) <= 12) := by omega
     by_cases hl0 : lim = 0
     ·subst hl0
      have hc := heap_any f vw HV.out g cap a' b' dk rest w0 wq hRk (by omega) (by omega) (by omega)
      rw [hds] at hc
      unfold cmpV at hc
      have HC : Hid _ := And.intro hc trivial
      clear hc hRk hBel hds
      go_wp2_with (go_at_call 223; refine Calls.mono HC.out.1 ?_; rintro e w1 ⟨rfl, hR1⟩)
      refine bodyPost_ret (results_none rfl _ _ _) rfl ⟨rfl, ?_⟩
      rw [<- A.out, Sort.pdq_heap h12 rfl]
      exact hR1
     ·have hl0z : ¬ ((lim : Int) = 0) := by omega
      have hFa := Sort.rd_facts (limit := lim) (wb := wb) (wp := wp) (swoV vw) Sort.partialInsertionSort_holds Sort.reverseRange_holds (show a' < b' by omega) (show b' <= dk.size by omega) hBel
      have hLe : (Sort.rd (ltV vw) dk a' b' lim wb wp).lim <= lim := Sort.rd_lim_le
      have hF : (wb = false -> (Sort.rd (ltV vw) dk a' b' lim wb wp).d1 = Sort.breakPatterns dk a' b' /\ (Sort.rd (ltV vw) dk a' b' lim wb wp).lim = lim - 1) /\ (wb = true -> (Sort.rd (ltV vw) dk a' b' lim wb wp).d1 = dk /\ (Sort.rd (ltV vw) dk a' b' lim wb wp).lim = lim) := ⟨by rintro rfl; exact Sort.rd_false, by rintro rfl; exact Sort.rd_true⟩
      have hC : (Sort.rd (ltV vw) dk a' b' lim wb wp).c = Sort.choosePivot (ltV vw) (Sort.rd (ltV vw) dk a' b' lim wb wp).d1 a' b' := Sort.rd_c
      have hDec : (Sort.rd (ltV vw) dk a' b' lim wb wp).c.2 = .decreasing -> (Sort.rd (ltV vw) dk a' b' lim wb wp).d2 = Sort.reverseRange (Sort.rd (ltV vw) dk a' b' lim wb wp).d1 a' b' /\ (Sort.rd (ltV vw) dk a' b' lim wb wp).pivot = (b' - 1) - ((Sort.rd (ltV vw) dk a' b' lim wb wp).c.1 - a') /\ (Sort.rd (ltV vw) dk a' b' lim wb wp).hint = .increasing := Sort.rd_dec
      have hNot : (Sort.rd (ltV vw) dk a' b' lim wb wp).c.2 ≠ .decreasing -> (Sort.rd (ltV vw) dk a' b' lim wb wp).d2 = (Sort.rd (ltV vw) dk a' b' lim wb wp).d1 /\ (Sort.rd (ltV vw) dk a' b' lim wb wp).pivot = (Sort.rd (ltV vw) dk a' b' lim wb wp).c.1 /\ (Sort.rd (ltV vw) dk a' b' lim wb wp).hint = (Sort.rd (ltV vw) dk a' b' lim wb wp).c.2 := Sort.rd_not
      have hYes : (wb && wp && decide ((Sort.rd (ltV vw) dk a' b' lim wb wp).hint = .increasing)) = true -> (Sort.rd (ltV vw) dk a' b' lim wb wp).pi = Sort.partialInsertionSort (ltV vw) (Sort.rd (ltV vw) dk a' b' lim wb wp).d2 a' b' := Sort.rd_pi_yes
      have hNo : (wb && wp && decide ((Sort.rd (ltV vw) dk a' b' lim wb wp).hint = .increasing)) = false -> (Sort.rd (ltV vw) dk a' b' lim wb wp).pi = ((Sort.rd (ltV vw) dk a' b' lim wb wp).d2, false) := Sort.rd_pi_no
      obtain ⟨R, hRq⟩ : ∃ R, R = Sort.rd (ltV vw) dk a' b' lim wb wp := ⟨_, rfl⟩
      rw [<- hRq] at hFa hLe hF hC hDec hNot hYes hNo
      have HQ : Hid (R = Sort.rd (ltV vw) dk a' b' lim wb wp) := hRq
      clear hRq
      obtain ⟨s1, B1, hc1, s2, B2, hpv, s3, B3⟩ := hFa
      have HF : Hid ((wb = false -> R.d1 = Sort.breakPatterns dk a' b' /\ R.lim = lim - 1) /\ (wb = true -> R.d1 = dk /\ R.lim = lim)) := hF
      have HP : Hid (R.c = Sort.choosePivot (ltV vw) R.d1 a' b') := hC
      have HD : Hid (R.c.2 = .decreasing -> R.d2 = Sort.reverseRange R.d1 a' b' /\ R.pivot = (b' - 1) - (R.c.1 - a') /\ R.hint = .increasing) := hDec
      have HN : Hid (R.c.2 ≠ .decreasing -> R.d2 = R.d1 /\ R.pivot = R.c.1 /\ R.hint = R.c.2) := hNot
      have HY : Hid ((wb && wp && decide (R.hint = .increasing)) = true -> R.pi = Sort.partialInsertionSort (ltV vw) R.d2 a' b') := hYes
      have HO : Hid ((wb && wp && decide (R.hint = .increasing)) = false -> R.pi = (R.d2, false)) := hNo
      have HZ : Hid (dk.size = n /\ R.d1.size = n /\ R.d2.size = n /\ R.pi.1.size = n /\ Sort.Below (ltV vw) a' b' R.pi.1) := ⟨hds, s1.trans hds, s2.trans hds, s3.trans hds, B3⟩
      have HRk : Hid (RowE w0 wq g dk rest) := hRk
      clear hF hC hDec hNot hYes hNo s1 B1 s2 B2 s3 B3 hds hBel hRk
      go_upto_if 39 with fail
      go_cut [3] (fun s3 wc => s3 = .int .i64 R.lim /\ RowE w0 wc g R.d1 rest)
      case first =>
       cases wb
       ·have hc := breakPat_any g cap a' b' dk rest (.func (.func 195) #[.func (.func f) #[] #[]] #[]) w0 wq HRk.out hab' (by have := HZ.out.1; omega) (by have := HZ.out.1; omega)
        rw [HZ.out.1] at hc
        have HC : Hid _ := And.intro hc trivial
        have p2 : IntKind.i64.wrap ((lim : Int) - 1) = (lim : Int) - 1 := by rw [IntKind.wrap_i64]; omega
        clear hc
        go_wp2_with (go_at_call 224; refine Calls.mono HC.out.1 ?_; rintro e w1 ⟨rfl, hR1⟩)
        go_meet
        case rel =>
         obtain ⟨e1, e2⟩ := HF.out.1 (by trivial)
         rw [e1, e2]
         refine ⟨?_, hR1⟩
         congr 1
         omega
       ·go_wp2_with fail
        go_meet
        case rel =>
         obtain ⟨e1, e2⟩ := HF.out.2 (by trivial)
         rw [e1, e2]
         exact ⟨rfl, HRk.out⟩
      case rest =>
       obtain ⟨rfl, hR1⟩ := hcut
       obtain ⟨w1, rfl⟩ : ∃ w1, w1 = wc := ⟨_, rfl⟩
       have hc := pivot_any f vw HV.out g cap a' b' R.d1 rest w0 w1 hR1 (by omega) (by have := HZ.out.2.1; omega) (by have := HZ.out.2.1; omega)
       rw [HZ.out.2.1, <- HP.out] at hc
       unfold cmpV at hc
       have HC : Hid _ := And.intro hc trivial
       clear hc hR1
       go_upto_if 56 with (go_at_call 225; refine Calls.mono HC.out.1 ?_; rintro e w2 ⟨rfl, hR2⟩)
       have HR2 : Hid (RowE w0 w2 g R.d1 rest) := hR2
       clear hR2 HC
       go_cut [13, 14] (fun s11 s12 wc => s11 = .int .i64 R.pivot /\ s12 = .int .i64 (hintC R.hint) /\ RowE w0 wc g R.d2 rest)
       case first =>
        by_cases hh : R.c.2 = .decreasing
        ·have hcode : hintC R.c.2 = 2 := by rw [hh]; rfl
         have hc := reverse_any (.func (.func 195) #[.func (.func f) #[] #[]] #[]) g cap a' b' R.d1 rest w0 w2 HR2.out (by omega) (by have := HZ.out.2.1; omega) (by have := HZ.out.2.1; omega)
         rw [HZ.out.2.1] at hc
         have HC : Hid _ := And.intro hc trivial
         have p2 : IntKind.i64.wrap ((b' : Int) - 1) = (b' : Int) - 1 := by rw [IntKind.wrap_i64]; omega
         have p3 : IntKind.i64.wrap ((R.c.1 : Int) - (a' : Int)) = (R.c.1 : Int) - (a' : Int) := by rw [IntKind.wrap_i64]; omega
         have p4 : IntKind.i64.wrap ((b' : Int) - 1 - ((R.c.1 : Int) - (a' : Int))) = (b' : Int) - 1 - ((R.c.1 : Int) - (a' : Int)) := by rw [IntKind.wrap_i64]; omega
         have HH : Hid (R.c.2 = .decreasing) := hh
         clear hc hh
         go_wp2_with (go_at_call 226; refine Calls.mono HC.out.1 ?_; rintro e w3 ⟨rfl, hR3⟩)
         go_meet
         case rel =>
          obtain ⟨e1, e2, e3⟩ := HD.out HH.out
          rw [e1, e2, e3]
          refine ⟨?_, rfl, hR3⟩
          congr 1
          omega
        ·have hcode : ¬ hintC R.c.2 = 2 := fun h => hh (hintC_two h)
         have HH : Hid (R.c.2 ≠ .decreasing) := hh
         clear hh
         go_wp2_with fail
         go_meet
         case rel =>
          obtain ⟨e1, e2, e3⟩ := HN.out HH.out
          rw [e1, e2, e3]
          exact ⟨rfl, rfl, HR2.out⟩
       case rest =>
        obtain ⟨rfl, rfl, hR3⟩ := hcut
        obtain ⟨w3, rfl⟩ : ∃ w3, w3 = wc := ⟨_, rfl⟩
        have HR3 : Hid (RowE w0 w3 g R.d2 rest) := hR3
        clear hR3 HR2 HD HN HP HF hc1
        go_upto_region 15 with fail
        go_cut [14, 75] (fun s12 s68 wx => s12 = .int .i64 (hintC R.hint) /\ s68 = .bool (wb && wp && decide (R.hint = .increasing)) /\ wx = w3)
        case first =>
         clear HY HO HQ A
         cases wb <;> cases wp <;> cases hh3 : R.hint <;>
          (have hcode3 := congrArg hintC hh3
           simp only [hintC] at hcode3
           go_wp2_with fail
           go_meet
           exact ⟨by simp [hh3, hintC], by simp [hh3, hintC], rfl⟩)
        case rest =>
         obtain ⟨rfl, rfl, rfl⟩ := hcut
         go_upto_if 75 with fail
         go_cut [] (fun wx => R.pi.2 = false /\ RowE w0 wx g R.pi.1 rest)
         case first =>
          cases h68 : (wb && wp && decide (R.hint = .increasing))
          ·have epi := HO.out h68
           have HE : Hid (R.pi = (R.d2, false)) := epi
           clear epi
           go_wp2_with fail
           go_meet
           case rel => rw [HE.out]; exact ⟨rfl, HR3.out⟩
          ·have epi := HY.out h68
           have hc := pis_any f vw HV.out g cap a' b' R.d2 rest w0 wc HR3.out (by omega) (by have := HZ.out.2.2.1; omega) (by have := HZ.out.2.2.1; omega)
           rw [HZ.out.2.2.1, <- epi] at hc
           unfold cmpV at hc
           have HC : Hid _ := And.intro hc trivial
           clear hc epi
           go_wp2_with (go_at_call 227; refine Calls.mono HC.out.1 ?_; rintro e w4 ⟨rfl, hR4⟩)
           all_goals first
            | (have hp2 : R.pi.2 = false := by assumption
               go_meet
               exact ⟨hp2, hR4⟩)
            | (have hp2 : R.pi.2 = true := by assumption
               refine bodyPost_ret (results_none rfl _ _ _) rfl ⟨rfl, ?_⟩
               rw [<- A.out, Sort.pdq_done h12 hl0 (by rw [<- HQ.out]; exact hp2), <- HQ.out]
               exact hR4)
         case rest =>
          obtain ⟨hp2, hR5⟩ := hcut
          obtain ⟨w5, rfl⟩ : ∃ w5, w5 = wc := ⟨_, rfl⟩
          have HR5 : Hid (RowE w0 w5 g R.pi.1 rest /\ R.pi.2 = false) := ⟨hR5, hp2⟩
          clear hR5 hp2 HR3 HY HO
          obtain ⟨P, hP⟩ : ∃ P, P = R.pivot := ⟨_, rfl⟩
          rw [<- hP] at hpv ⊢
          have HPv : Hid (P = R.pivot) := hP
          clear hP
          go_upto_region 17 with fail
          go_cut [97] (fun s87 wx => s87 = .bool (decide (a' > 0) && !ltV vw R.pi.1[a' - 1]! R.pi.1[P]!) /\ RowE w0 wx g R.pi.1 rest)
          case first =>
           rcases Nat.eq_zero_or_pos a' with ha0 | ha0
           ·have g1 : decide ((a' : Int) > 0) = false := decide_eq_false (by omega)
            have g2 : ¬ ((a' : Int) > 0) := by omega
            have g3 : decide (0 < (a' : Int)) = false := decide_eq_false (by omega)
            have g4 : ¬ (0 < (a' : Int)) := by omega
            have g5 : decide (0 < a') = false := decide_eq_false (by omega)
            have HA0 : Hid (a' = 0) := ha0
            clear ha0
            go_region
            all_goals go_wp2_with fail
            all_goals (go_meet; case rel => exact ⟨by simp [HA0.out], HR5.out.1.below (Below.refl _ _).drew⟩)
           ·obtain ⟨am, ham⟩ : ∃ am, a' = am + 1 := ⟨a' - 1, by omega⟩
            have g1 : decide ((a' : Int) > 0) = true := decide_eq_true (by omega)
            have g2 : (a' : Int) > 0 := by omega
            have g3 : decide (0 < (a' : Int)) = true := decide_eq_true (by omega)
            have g4 : 0 < (a' : Int) := by omega
            have g5 : decide (0 < a') = true := decide_eq_true (by omega)
            have q1 : IntKind.i64.wrap ((a' : Int) - 1) = (am : Int) := by rw [IntKind.wrap_i64]; omega
            have q1' : (a' : Int) - 1 = (am : Int) := by omega
            have q6 : IntKind.i64.wrap (am : Int) = (am : Int) := by rw [IntKind.wrap_i64]; omega
            have q7 : (0 : Int) <= (a' : Int) - 1 := by omega
            have q8 : (a' : Int) - 1 < (n : Int) := by omega
            have q9 : ((a' : Int) - 1).toNat = am := by omega
            have q2 : (0 : Int) <= (am : Int) := by omega
            have q3 : (am : Int) < (n : Int) := by omega
            have q4 : (0 : Int) <= (P : Int) := by omega
            have q5 : (P : Int) < (n : Int) := by omega
            have HAM : Hid (a' = am + 1) := ham
            clear ham
            have hR5 := HR5.out.1
            obtain ⟨x0, x1, x2⟩ := hR5.cells (j := am) (by have := HZ.out.2.2.2.1; omega)
            obtain ⟨y0, y1, y2⟩ := hR5.cells (j := P) (by have := HZ.out.2.2.2.1; omega)
            have hcm := fun W => compare_any f vw HV.out (R.pi.1[am]!) (R.pi.1[P]!) W
            unfold edV at hcm
            have hlt2 := cmpV_neg vw (R.pi.1[am]!) (R.pi.1[P]!)
            obtain ⟨xe, hxe⟩ : ∃ xe, xe = R.pi.1[am]! := ⟨_, rfl⟩
            obtain ⟨ye, hye⟩ : ∃ ye, ye = R.pi.1[P]! := ⟨_, rfl⟩
            rw [<- hxe] at x0 x1 x2 hcm hlt2
            rw [<- hye] at y0 y1 y2 hcm hlt2
            have HE : Hid _ := And.intro hxe hye
            clear hxe hye
            obtain ⟨xa, xb, xc⟩ := xe
            obtain ⟨ya, yb, yc⟩ := ye
            generalize cmpE (vw (xa, xb, xc)) (vw (ya, yb, yc)) = c at hcm hlt2
            have HC : Hid _ := hcm
            have HL : Hid _ := hlt2
            clear hcm hlt2
            simp only at x0 x1 x2 y0 y1 y2
            clear hR5
            by_cases hc : c < 0
            ·have p6 : decide (c < 0) = true := decide_eq_true hc
             go_region_held3 (fun w' => ((w'.cell? ⟨g, am * 3, none⟩ = some (.int .i64 xa) /\ w'.cell? ⟨g, am * 3 + 1, none⟩ = some (.int .i64 xb) /\ w'.cell? ⟨g, am * 3 + 2, none⟩ = some (.int .i64 xc)) /\ (w'.cell? ⟨g, P * 3, none⟩ = some (.int .i64 ya) /\ w'.cell? ⟨g, P * 3 + 1, none⟩ = some (.int .i64 yb) /\ w'.cell? ⟨g, P * 3 + 2, none⟩ = some (.int .i64 yc))) /\ Hid (Below w5.heap.size w5 w')) (first | exact rg_up6 hb3 (by assumption) | exact ⟨⟨⟨x0, x1, x2⟩, ⟨y0, y1, y2⟩⟩, ((Below.refl _ _).drew : Below w5.heap.size w5 w5.drew)⟩ | go_keep)
              ((first
                | (go_at_fn 195; refine (HC.out _).mono ?_; rintro r w3 ⟨rfl, hb3⟩)
                | fail))
             have hbq : Below w5.heap.size w5 w3 := rg_b (by assumption)
             clear x0 x1 x2 y0 y1 y2 hb3 HC
             rename_i hS3
             clear hS3
             have H3 : Hid (RowE w0 w3 g R.pi.1 rest) := HR5.out.1.below hbq
             clear hbq
             go_wp2_with fail
             go_meet
             refine ⟨?_, H3.out⟩
             have h7 : ltV vw R.pi.1[a' - 1]! R.pi.1[P]! = true := by
              rw [HAM.out, Nat.add_sub_cancel, <- HE.out.1, <- HE.out.2]
              exact HL.out.1 hc
             rw [h7]
             simp [ha0]
            ·have p6 : decide (c < 0) = false := decide_eq_false hc
             go_region_held3 (fun w' => ((w'.cell? ⟨g, am * 3, none⟩ = some (.int .i64 xa) /\ w'.cell? ⟨g, am * 3 + 1, none⟩ = some (.int .i64 xb) /\ w'.cell? ⟨g, am * 3 + 2, none⟩ = some (.int .i64 xc)) /\ (w'.cell? ⟨g, P * 3, none⟩ = some (.int .i64 ya) /\ w'.cell? ⟨g, P * 3 + 1, none⟩ = some (.int .i64 yb) /\ w'.cell? ⟨g, P * 3 + 2, none⟩ = some (.int .i64 yc))) /\ Hid (Below w5.heap.size w5 w')) (first | exact rg_up6 hb3 (by assumption) | exact ⟨⟨⟨x0, x1, x2⟩, ⟨y0, y1, y2⟩⟩, ((Below.refl _ _).drew : Below w5.heap.size w5 w5.drew)⟩ | go_keep)
              ((first
                | (go_at_fn 195; refine (HC.out _).mono ?_; rintro r w3 ⟨rfl, hb3⟩)
                | fail))
             have hbq : Below w5.heap.size w5 w3 := rg_b (by assumption)
             clear x0 x1 x2 y0 y1 y2 hb3 HC
             rename_i hS3
             clear hS3
             have H3 : Hid (RowE w0 w3 g R.pi.1 rest) := HR5.out.1.below hbq
             clear hbq
             go_wp2_with fail
             go_meet
             refine ⟨?_, H3.out⟩
             have h7 : ltV vw R.pi.1[a' - 1]! R.pi.1[P]! = false := by
              rw [HAM.out, Nat.add_sub_cancel, <- HE.out.1, <- HE.out.2]
              cases h : ltV vw (xa, xb, xc) (ya, yb, yc) with | false => rfl | true => exact absurd (HL.out.2 h) (by omega)
             rw [h7]
             simp [ha0]
          case rest =>
           obtain ⟨rfl, hR6⟩ := hcut
           obtain ⟨w6, rfl⟩ : ∃ w6, w6 = wc := ⟨_, rfl⟩
           have HR6 : Hid (RowE w0 w6 g R.pi.1 rest) := hR6
           clear hR6
           cases h87 : (decide (a' > 0) && !ltV vw R.pi.1[a' - 1]! R.pi.1[P]!)
           ·obtain ⟨mid, ap, d4, hx⟩ : ∃ mid ap d4, Sort.partition (ltV vw) R.pi.1 a' b' P = (mid, ap, d4) := ⟨(Sort.partition (ltV vw) R.pi.1 a' b' P).1, (Sort.partition (ltV vw) R.pi.1 a' b' P).2.1, (Sort.partition (ltV vw) R.pi.1 a' b' P).2.2, rfl⟩
            obtain ⟨r1, r2, r3, r4, r5, r6, r7⟩ := Sort.round_part (swoV vw) (Sort.partition_holds (ltV vw)) hpv.1 hpv.2 (show b' <= R.pi.1.size by have := HZ.out.2.2.2.1; omega) HZ.out.2.2.2.2 hx
            have hc := partition_any f vw HV.out g cap a' b' P R.pi.1 rest w0 w6 HR6.out hpv.1 hpv.2 (by have := HZ.out.2.2.2.1; omega) (by have := HZ.out.2.2.2.1; omega)
            rw [HZ.out.2.2.2.1, hx] at hc
            unfold cmpV at hc
            have HC : Hid _ := And.intro hc trivial
            have X : Hid (Sort.partition (ltV vw) R.pi.1 a' b' P = (mid, ap, d4)) := hx
            have H87 : Hid ((decide (a' > 0) && !ltV vw R.pi.1[a' - 1]! R.pi.1[P]!) = false) := h87
            have HW : Hid (d4.size = n /\ Sort.Below (ltV vw) a' mid d4 /\ Sort.Below (ltV vw) (mid + 1) b' d4 /\ (∀ L, Sort.PermIn a' mid d4 L -> Sort.SortedIn (ltV vw) a' mid L -> Sort.Below (ltV vw) (mid + 1) b' L) /\ (∀ L, Sort.PermIn (mid + 1) b' d4 L -> Sort.SortedIn (ltV vw) (mid + 1) b' L -> Sort.Below (ltV vw) a' mid L)) := ⟨r3.trans HZ.out.2.2.2.1, r4, r5, fun L h1 h2 => (r6 L h1 h2).1, fun L h1 h2 => (r7 L h1 h2).1⟩
            clear hc hx h87 r3 r4 r5 r6 r7
            have p2 : IntKind.i64.wrap ((mid : Int) - (a' : Int)) = (mid : Int) - (a' : Int) := by rw [IntKind.wrap_i64]; omega
            have p3 : IntKind.i64.wrap ((b' : Int) - (mid : Int)) = (b' : Int) - (mid : Int) := by rw [IntKind.wrap_i64]; omega
            have p4 : IntKind.i64.wrap ((mid : Int) + 1) = (mid : Int) + 1 := by rw [IntKind.wrap_i64]; omega
            go_upto_if 125 with (go_at_call 229; refine Calls.mono HC.out.1 ?_; rintro e w7 ⟨rfl, hR7⟩)
            have HR7 : Hid (RowE w0 w7 g d4 rest) := hR7
            clear hR7 HC
            by_cases h4 : mid - a' < b' - mid
            ·have h4z : (mid : Int) - (a' : Int) < (b' : Int) - (mid : Int) := by omega
             have hih := ih a' mid R.lim d4 w7 (by omega) HR7.out HW.out.1 (by omega) (by omega) (by omega) HW.out.2.1
             obtain ⟨pL, sL⟩ := Sort.pdq_sorts (ltV vw) (swoV vw) d4 a' mid R.lim true true (by omega) (by have := HW.out.1; omega) HW.out.2.1
             unfold cmpV at hih
             have HI : Hid _ := And.intro hih (And.intro pL sL)
             clear hih pL sL
             go_wp2_with (go_at_call 205; refine Calls.mono HI.out.1 ?_; rintro e w8 ⟨rfl, hR8⟩)
             go_roundg (b' - (mid + 1))
             case measure => omega
             case rel =>
              refine ⟨mid + 1, b', R.lim, decide (mid - a' >= (b' - a') / 8), ap, Sort.pdq (ltV vw) d4 a' mid R.lim true true, by first | rfl | go_num | simp, rfl, rfl, ?_, rfl, by omega, by omega, Nat.le_refl _, by omega, by omega, by rw [HI.out.2.1.1]; exact HW.out.1, HW.out.2.2.2.1 _ HI.out.2.1 HI.out.2.2, hR8, (show Hid _ from ?_)⟩
              ·exact congrArg Value.bool (eighth (by omega) (by omega))
              ·show _ = _
               have hx := X.out
               have h87 := H87.out
               rw [HPv.out, HQ.out] at hx h87
               rw [<- A.out, Sort.pdq_left h12 hl0 (by rw [<- HQ.out]; exact HR5.out.2) h87 (by rw [hx]; exact ⟨r1, r2⟩) (by rw [hx]; exact h4), hx, HQ.out]
            ·have h4z : ¬ ((mid : Int) - (a' : Int) < (b' : Int) - (mid : Int)) := by omega
             have hih := ih (mid + 1) b' R.lim d4 w7 (by omega) HR7.out HW.out.1 (by omega) (by omega) (by omega) HW.out.2.2.1
             obtain ⟨pL, sL⟩ := Sort.pdq_sorts (ltV vw) (swoV vw) d4 (mid + 1) b' R.lim true true (by omega) (by have := HW.out.1; omega) HW.out.2.2.1
             unfold cmpV at hih
             simp only [Int.natCast_add, Int.natCast_one] at hih
             have HI : Hid _ := And.intro hih (And.intro pL sL)
             clear hih pL sL
             go_wp2_with (go_at_call 205; refine Calls.mono HI.out.1 ?_; rintro e w8 ⟨rfl, hR8⟩)
             go_roundg (mid - a')
             case measure => omega
             case rel =>
              refine ⟨a', mid, R.lim, decide (b' - mid >= (b' - a') / 8), ap, Sort.pdq (ltV vw) d4 (mid + 1) b' R.lim true true, rfl, rfl, rfl, ?_, rfl, by omega, by omega, Nat.le_refl _, by omega, by omega, by rw [HI.out.2.1.1]; exact HW.out.1, HW.out.2.2.2.2 _ HI.out.2.1 HI.out.2.2, hR8, (show Hid _ from ?_)⟩
              ·exact congrArg Value.bool (eighth (by omega) (by omega))
              ·show _ = _
               have hx := X.out
               have h87 := H87.out
               rw [HPv.out, HQ.out] at hx h87
               rw [<- A.out, Sort.pdq_right h12 hl0 (by rw [<- HQ.out]; exact HR5.out.2) h87 (by rw [hx]; exact ⟨r1, r2⟩) (by rw [hx]; exact h4), hx, HQ.out]
           ·have h87' := h87
            simp only [Bool.and_eq_true, decide_eq_true_eq, Bool.not_eq_true'] at h87'
            obtain ⟨mid, d4, hx⟩ : ∃ mid d4, Sort.partitionEqual (ltV vw) R.pi.1 a' b' P = (mid, d4) := ⟨(Sort.partitionEqual (ltV vw) R.pi.1 a' b' P).1, (Sort.partitionEqual (ltV vw) R.pi.1 a' b' P).2, rfl⟩
            obtain ⟨r1, r2, r3, r4, _⟩ := Sort.round_eq (swoV vw) (Sort.partitionEqual_holds (ltV vw)) h87'.1 hpv.1 hpv.2 (show b' <= R.pi.1.size by have := HZ.out.2.2.2.1; omega) HZ.out.2.2.2.2 h87'.2 hx
            have hc := partEq_any f vw HV.out g cap a' b' P R.pi.1 rest w0 w6 HR6.out hpv.1 hpv.2 (by have := HZ.out.2.2.2.1; omega) (by have := HZ.out.2.2.2.1; omega)
            rw [HZ.out.2.2.2.1, hx] at hc
            unfold cmpV at hc
            have HC : Hid _ := And.intro hc trivial
            have X : Hid (Sort.partitionEqual (ltV vw) R.pi.1 a' b' P = (mid, d4)) := hx
            have H87 : Hid ((decide (a' > 0) && !ltV vw R.pi.1[a' - 1]! R.pi.1[P]!) = true) := h87
            have HW : Hid (d4.size = n /\ Sort.Below (ltV vw) mid b' d4) := ⟨r3.trans HZ.out.2.2.2.1, r4⟩
            clear hc hx h87 r3 r4 h87'
            go_wp2_with (go_at_call 228; refine Calls.mono HC.out.1 ?_; rintro e w7 ⟨rfl, hR7⟩)
            go_roundg (b' - mid)
            case measure => omega
            case rel =>
             refine ⟨mid, b', R.lim, wb, wp, d4, rfl, rfl, rfl, rfl, rfl, r2, hb', Nat.le_refl _, by omega, by omega, HW.out.1, HW.out.2, hR7, (show Hid _ from ?_)⟩
             show _ = _
             have hx := X.out
             have h87 := H87.out
             rw [HPv.out, HQ.out] at hx h87
             rw [<- A.out, Sort.pdq_eq h12 hl0 (by rw [<- HQ.out]; exact HR5.out.2) h87 (by rw [hx]; exact ⟨r1, r2⟩), hx, HQ.out]
set_option maxRecDepth 100000 in
set_option maxHeartbeats 1000000 in
theorem sortAll : SortOk 1000000 := fun f vw hV g cap d rest w0 w hR hd => by
 have hL := Tryz.bits_Len (d.size : Int) w (by omega) (by omega)
 have hbl : Lib.bitLen (d.size : Int).toNat < 1000 := by
  have h64 := bl_le 64 (d.size : Int).toNat
  unfold Lib.bitLen
  omega
 have hP := pdq_any f vw hV g cap d.size rest w0 hd (d.size + 1) 0 d.size (Lib.bitLen (d.size : Int).toNat) d w (by omega) hR rfl (Nat.zero_le _) (Nat.le_refl _) hbl (Or.inl rfl)
 have hI := Sort.pdq_sorts (ltV vw) (swoV vw) d 0 d.size (Lib.bitLen (d.size : Int).toNat) true true (Nat.zero_le _) (Nat.le_refl _) (Or.inl rfl)
 generalize Sort.pdq (ltV vw) d 0 d.size (Lib.bitLen (d.size : Int).toNat) true true = d' at hP hI
 generalize Lib.bitLen _ = bl at hL hP
 have wr : IntKind.u64.wrap (d.size : Int) = d.size := by simp [IntKind.wrap, IntKind.bits, IntKind.signed]; omega
 unfold cmpV at hP ⊢
 have HI : Hid _ := And.intro hP (And.intro hL hI)
 clear hP hI hL hR hbl
 go_enter Tryz.func194, Tryz.ntmps194
 go_wp2_with (first
  | (go_at_call 199; refine Calls.mono HI.out.2.1 ?_; rintro r w1 ⟨rfl, hw1⟩; obtain rfl := hw1.symm)
  | (go_at_call 205; refine Calls.mono HI.out.1 ?_; rintro r w1 ⟨rfl, hR1⟩))
 go_end0
 exact ⟨rfl, d', HI.out.2.2.1, HI.out.2.2.2, hR1⟩
end
end Go.Proofs.YthcpliinddjkhaaGreatDoor
