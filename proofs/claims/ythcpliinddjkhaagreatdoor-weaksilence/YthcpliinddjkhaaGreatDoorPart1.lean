/- Texts of this claim, joined: WkSize, WkJoin, BookApp, BookNil, BXEdges, SyRight, SySort, SySorted, Is, Sent, ErIs, ErCode, ErTold, SyNormal, SyCanon, SyForms, SyProg, SyChk, WkSil. -/
import Derived.Test.YthcpliinddjkhaaGreatDoorPart0
import Derived.Shelf.Abstract
import Derived.ArgAppend
import Derived.Test.YthcpliinddjkhaaGreatDoorProg
import Derived.RowKitTokens
import Derived.WalkSmall
import Derived.ProofKit
import Derived.Deep.QuietTactic
import Derived.BigQuiet
import Derived.Deep.DeepCutAuto
import Derived.Deep.RegionHeld3
import Derived.Deep.RegionLaw
import Derived.WalkKit
import Derived.LaidEql
import Derived.Stop.Asserts
import Derived.Below
import Derived.OneCell
import Derived.Deep.LoopGhost
namespace Go.Proofs.YthcpliinddjkhaaGreatDoor
section
open Go.RowKit Go.Maps
attribute [local go_sem ↓] Go.wp_at_zero Go.wp_at_succ
theorem u64_w {x : Nat} (h : x < 18446744073709551616) : IntKind.u64.wrap (x : Int) = (x : Int) := by rw [IntKind.wrap_u64]; omega
theorem i64_127 {z : Nat} (h : z < 9223372036854775808) : bits .and .i64 (z : Int) 127 = ((z % 128 : Nat) : Int) := by
  have h1 : (BitVec.ofInt 64 (z : Int)).toNat = z := by
    rw [BitVec.ofInt_natCast, BitVec.toNat_ofNat]; exact Nat.mod_eq_of_lt (by omega)
  have h2 : (BitVec.ofInt 64 (127 : Int)).toNat = 127 := by decide
  show IntKind.i64.wrap ((BitVec.ofInt 64 (z : Int) &&& BitVec.ofInt 64 (127 : Int)).toNat : Int) = _
  rw [BitVec.toNat_and, h1, h2, show (127 : Nat) = 2 ^ 7 - 1 from rfl, Nat.and_two_pow_sub_one_eq_mod, IntKind.wrap_i64]
  omega
theorem pop_s1 {x : Nat} (hx : x < 18446744073709551616) (h : Pop.s1 x < 18446744073709551616) : IntKind.u64.wrap (bits .and .u64 ((x : Int) / 2) 6148914691236517205 + bits .and .u64 (x : Int) 6148914691236517205) = ((Pop.s1 x : Nat) : Int) := by
  rw [show (x : Int) / 2 = ((x / 2 : Nat) : Int) by omega, show (6148914691236517205 : Int) = ((6148914691236517205 : Nat) : Int) from rfl, bits_and_u64_nat _ _ (by omega) (by decide), bits_and_u64_nat _ _ hx (by decide), ← Int.natCast_add]
  exact u64_w h
theorem pop_s2 {x : Nat} (hx : x < 18446744073709551616) (h : Pop.s2 x < 18446744073709551616) : IntKind.u64.wrap (bits .and .u64 ((x : Int) / 4) 3689348814741910323 + bits .and .u64 (x : Int) 3689348814741910323) = ((Pop.s2 x : Nat) : Int) := by
  rw [show (x : Int) / 4 = ((x / 4 : Nat) : Int) by omega, show (3689348814741910323 : Int) = ((3689348814741910323 : Nat) : Int) from rfl, bits_and_u64_nat _ _ (by omega) (by decide), bits_and_u64_nat _ _ hx (by decide), ← Int.natCast_add]
  exact u64_w h
theorem pop_s3 {x : Nat} (hx : x < 9223372036854775808) : bits .and .u64 (IntKind.u64.wrap ((x : Int) / 16 + (x : Int))) 1085102592571150095 = ((Pop.s3 x : Nat) : Int) := by
  rw [show (x : Int) / 16 + (x : Int) = ((x / 16 + x : Nat) : Int) by omega, u64_w (by omega), show (1085102592571150095 : Int) = ((1085102592571150095 : Nat) : Int) from rfl, bits_and_u64_nat _ _ (by omega) (by decide)]
  rfl
set_option maxRecDepth 100000 in
set_option maxHeartbeats 2000000 in
theorem ones_any (x : Nat) (hx : x < 18446744073709551616) (w : World) : Calls Tryz.prog 167 #[.int .u64 x] w fun r w' => r = .returned (.int .i64 (Pop.pc x 64 : Nat)) ∧ w' = w := by
  obtain ⟨y, z1, z2, z3, hy, h1, h2, e1, e2, e3, l1, l2, l3, hz⟩ := Pop.fold8 hx
  have hy2 : y ≤ z1 := by omega
  have a1 := pop_s1 hx h1
  have a2 := pop_s2 h1 (by omega : Pop.s2 (Pop.s1 x) < 18446744073709551616)
  have a3 := pop_s3 h2
  rw [← hy] at a3
  have a4 : IntKind.u64.wrap ((y : Int) + (y : Int) / 256) = (z1 : Int) := by rw [IntKind.wrap_u64]; omega
  have a5 : IntKind.u64.wrap ((z1 : Int) + (z1 : Int) / 65536) = (z2 : Int) := by rw [IntKind.wrap_u64]; omega
  have a6 : IntKind.u64.wrap ((z2 : Int) + (z2 : Int) / 4294967296) = (z3 : Int) := by rw [IntKind.wrap_u64]; omega
  have a7 : wrap64 (z3 : Int) = (z3 : Int) := by unfold wrap64; omega
  have a8 := i64_127 l3
  rw [hz] at a8
  have H : Hid _ := And.intro a1 (And.intro a2 (And.intro a3 (And.intro a4 (And.intro a5 (And.intro a6 (And.intro a7 a8))))))
  generalize Pop.pc x 64 = P at H ⊢
  generalize Pop.s2 (Pop.s1 x) = s2 at H
  generalize Pop.s1 x = s1 at H
  clear hx hy h1 h2 e1 e2 e3 l1 l2 l3 hz hy2 a1 a2 a3 a4 a5 a6 a7 a8
  go_enter Tryz.func167, Tryz.ntmps167
  go_upto_region 2 with fail
  rw [H.out.1]
  go_upto_region 3 with fail
  rw [H.out.2.1]
  go_upto_region 4 with fail
  rw [H.out.2.2.1]
  go_upto_region 5 with fail
  rw [H.out.2.2.2.1]
  go_upto_region 6 with fail
  rw [H.out.2.2.2.2.1]
  go_upto_region 7 with fail
  rw [H.out.2.2.2.2.2.1]
  go_wp2_with fail
  go_ret
  refine ⟨?_, rfl⟩
  show Ending.returned (.int .i64 (bits .and .i64 (wrap64 (z3 : Int)) 127)) = _
  rw [H.out.2.2.2.2.2.2.1, H.out.2.2.2.2.2.2.2]
theorem els_one (S : Nat → Bool) (N : Nat) : (Br.els S (N + 1)).length = (Br.els S N).length + (if S N then 1 else 0) := by
  unfold Br.els
  rw [List.range_succ, List.filter_append, List.length_append]
  by_cases h : S N <;> simp [h]
theorem els_pc (S : Nat → Bool) (i : Nat) : ∀ k, k ≤ 64 → (Br.els S (64 * i + k)).length = (Br.els S (64 * i)).length + Pop.pc (Br.wd S i) k
  | 0, _ => rfl
  | k + 1, h => by
    have e1 : (Br.els S (64 * i + (k + 1))).length = (Br.els S (64 * i + k)).length + (if S (64 * i + k) then 1 else 0) := els_one S (64 * i + k)
    rw [e1, els_pc S i k (by omega)]
    show _ = _ + (Pop.pc (Br.wd S i) k + _)
    rw [Br.wd_bit, decide_eq_true (by omega : k < 64), Bool.true_and, Nat.add_assoc]
theorem els_le9 (S : Nat → Bool) (N : Nat) : (Br.els S N).length ≤ N := by
  unfold Br.els
  have := List.length_filter_le S (List.range N)
  rw [List.length_range] at this
  exact this
set_option maxRecDepth 100000 in
set_option maxHeartbeats 2000000 in
theorem sizeRow_any (b o d c : Nat) (S : Nat → Bool) (w : World) (hd : d ≤ 10000) (hR : RowAt w b o d S) : Calls Tryz.prog 148 #[rowV b o d c] w fun r w' => r = .returned (.int .i64 (Br.els S (64 * d)).length) ∧ w' = w := by
  have HR : Hid _ := And.intro hR trivial
  clear hR
  unfold rowV
  go_enter Tryz.func148, Tryz.ntmps148
  go_wp2_with fail
  go_loopg [8, 3] d (fun k iv sv wr => ∃ i : Nat, k = d - i ∧ i ≤ d ∧ iv = .int .i64 i ∧ sv = .int .i64 (Br.els S (64 * i)).length ∧ wr = w)
  case atStart => exact ⟨0, rfl, Nat.zero_le _, rfl, rfl, rfl⟩
  case round =>
    obtain ⟨i, rfl, hi, rfl, rfl, hw⟩ := hrel
    obtain rfl := hw.symm
    clear hw
    by_cases hlt : i < d
    · have c0 := HR.out.1.cell hlt
      have q0 : (0 : Int) ≤ (i : Int) := by omega
      have q1 : (i : Int) < (d : Int) := by omega
      have hl := els_le9 S (64 * i)
      have hN := els_pc S i 64 (Nat.le_refl _)
      have hO := fun W => ones_any (Br.wd S i) (Br.wd_lt S i) W
      have hp := els_le9 S (64 * i + 64)
      have HN : Hid _ := And.intro hN hO
      obtain ⟨N, hNN⟩ : ∃ N, N = (Br.els S (64 * i)).length := ⟨_, rfl⟩
      obtain ⟨Q, hQ⟩ : ∃ Q, Q = Pop.pc (Br.wd S i) 64 := ⟨_, rfl⟩
      have hb : N + Q ≤ 1000000 := by rw [hNN, hQ, ← hN]; omega
      rw [← hNN] at HN ⊢
      rw [← hQ] at HN
      clear hN hO hl hp hNN hQ
      go_wp2_with fail
      refine Calls.mono (HN.out.2 _) ?_
      rintro r w1 ⟨rfl, hw1⟩
      obtain rfl := hw1.symm
      clear hw1
      go_wp2_with fail
      go_roundg (d - (i + 1))
      case measure => omega
      case rel =>
        refine ⟨i + 1, rfl, by omega, by go_num, ?_, rfl⟩
        rw [show 64 * (i + 1) = 64 * i + 64 by omega, HN.out.1]
        go_num
    · obtain rfl : i = d := by omega
      have h1 : ¬ (i : Int) < (i : Int) := by omega
      go_wp2_with fail
      go_ret
      exact ⟨rfl, rfl⟩
end
section
open Go.RowKit Go.Maps
attribute [local go_sem ↓] Go.wp_at_zero Go.wp_at_succ
def jn (S : Nat → Nat → Bool) (H : Nat → Bool) (T : Nat → Bool) (i : Nat) : Nat → Nat → Bool := fun p q => S p q || (decide (p < i) && (H p && T q))
theorem jn_step {S : Nat → Nat → Bool} {H T : Nat → Bool} {i : Nat} (a q : Nat) : jn S H T (i + 1) a q = if a = i then (S i q || (H i && T q)) else jn S H T i a q := by
  unfold jn
  by_cases e : a = i
  · subst e; simp
  · rw [if_neg e]
    have : decide (a < i + 1) = decide (a < i) := by simp only [decide_eq_decide]; omega
    rw [this]
theorem jn_at {S : Nat → Nat → Bool} {H T : Nat → Bool} {i : Nat} (q : Nat) : jn S H T i i q = S i q := by simp [jn]
def SetAt (g0 n d : Nat) (S : Nat → Nat → Bool) (b2 o2 : Nat) (T : Nat → Bool) : Prop := b2 ≠ g0 ∨ ∃ v, v < n ∧ b2 = g0 ∧ o2 = v * d ∧ T = S v
theorem set_stands {w W : World} {B g0 g1 n d i b2 o2 : Nat} {S : Nat → Nat → Bool} {H T : Nat → Bool} (hs : SetAt g0 n d S b2 o2 T) (hT : RowAt w b2 o2 d T) (hk : Kept (fun b => b = g0) w W) (hR : Rws W B g1 n d (rl g0 d) (jn S H T i)) : RowAt W b2 o2 d T := by
  rcases hs with h | ⟨v, hv, rfl, rfl, rfl⟩
  · exact hT.kept hk h
  · refine (hR.row v hv).congr fun q _ => ?_
    unfold jn
    cases S v q <;> simp
set_option maxRecDepth 100000 in
set_option maxHeartbeats 4000000 in
theorem joinS_any (g0 g1 n d : Nat) (S : Nat → Nat → Bool) (b2 o2 c2 : Nat) (T H : Nat → Bool) (k1 k2 B : Nat) (w : World) (hd : d ≤ 10000) (hn : n ≤ 1000) (hR : Rws w B g1 n d (rl g0 d) S) (hT : RowAt w b2 o2 d T) (hs : SetAt g0 n d S b2 o2 T)
    (hf : ∀ p W, p < n → Kept (fun b => b = g0) w W → RowAt W g0 (p * d) d (S p) → Calls Tryz.prog 101 #[.int .i64 p, .pointer (some ⟨k1, 0, none⟩), .pointer (some ⟨k2, 0, none⟩)] W fun r W' => r = .returned (.bool (H p)) ∧ Below W.heap.size W W') :
    Calls Tryz.prog 100 #[.slice (some ⟨g1, 0, none⟩) n n, .func (.func 101) #[] #[.pointer (some ⟨k1, 0, none⟩), .pointer (some ⟨k2, 0, none⟩)], rowV b2 o2 d c2] w fun r w' => r = .returned (.tuple #[]) ∧ Rws w' B g1 n d (rl g0 d) (fun p q => S p q || (H p && T q)) ∧ Kept (fun b => b = g0) w w' := by
  have HR : Hid _ := And.intro hR (And.intro hT (And.intro hs hf))
  have hE : Enters Tryz.prog 101 := enters_of Tryz.func101 (by kernel_rfl) rfl
  unfold Enters at hE
  clear hR hT hs hf
  unfold rowV
  go_enter Tryz.func100, Tryz.ntmps100
  go_wp2_with fail
  go_loopg [10] n (fun k iv wr => ∃ i : Nat, k = n - i ∧ i ≤ n ∧ iv = .int .i64 i ∧ Rws wr B g1 n d (rl g0 d) (jn S H T i) ∧ Kept (fun b => b = g0) w wr)
  case atStart => exact ⟨0, rfl, Nat.zero_le _, rfl, HR.out.1.congr fun p q _ _ => by simp [jn], Kept.refl _ _⟩
  case round =>
    obtain ⟨i, rfl, hi, rfl, hA, hK⟩ := hrel
    by_cases hlt : i < n
    · have h0 : (0 : Int) ≤ (i : Int) := by omega
      have h1 : (i : Int) < (n : Int) := by omega
      have c0 := hA.lst.cell hlt
      unfold rl Lc.v rowV at c0
      simp only at c0
      have hc := HR.out.2.2.2 i wr hlt hK ((hA.row i hlt).congr fun q _ => jn_at q)
      have HA : Hid _ := And.intro hA (And.intro hK hc)
      clear hA hK hc
      obtain ⟨hh, hhh⟩ : ∃ hh, hh = H i := ⟨_, rfl⟩
      rw [← hhh] at HA
      have HH : Hid (hh = H i) := hhh
      clear hhh
      cases hh
      · go_wp2_with (go_at_fn 101; refine Calls.mono HA.out.2.2 ?_; rintro r w1 ⟨rfl, hb1⟩; have H1 : Hid _ := hb1; clear hb1)
        go_roundg (n - (i + 1))
        case measure => omega
        case rel =>
          refine ⟨i + 1, rfl, by omega, by go_num, (HA.out.1.below H1.out).congr fun p q hp hq => ?_, HA.out.2.1.trans (Kept.of_below H1.out)⟩
          rw [jn_step]
          by_cases e : p = i
          · subst e; rw [if_pos rfl, ← HH.out, jn_at]; simp
          · rw [if_neg e]
      · go_wp2_with (go_at_fn 101; refine Calls.mono HA.out.2.2 ?_; rintro r w1 ⟨rfl, hb1⟩; have H1 : Hid _ := hb1; clear hb1)
        have hA1 := HA.out.1.below H1.out
        have hK1 := HA.out.2.1.trans (Kept.of_below H1.out)
        have hT1 := set_stands HR.out.2.2.1 HR.out.2.1 hK1 hA1
        have hJ : Calls Tryz.prog 147 #[.slice (some ⟨g0, i * d, none⟩) d d, .slice (some ⟨b2, o2, none⟩) d c2] w1 fun r w' => (∃ v, r = .returned v) ∧ RowAt w' g0 (i * d) d (fun q => S i q || T q) ∧ Wr g0 (i * d) d w1 w' := by
          have hri : RowAt w1 g0 (i * d) d (S i) := (hA1.row i hlt).congr fun q _ => jn_at q
          rcases HR.out.2.2.1 with h | ⟨v, hv, e1, e2, e3⟩
          · exact joinRow_any g0 (i * d) d d b2 o2 c2 (S i) T w1 hd hri hT1 (.inl h)
          · by_cases e : v = i
            · subst e; subst e1; subst e2; subst e3
              refine (joinSelf_any b2 (v * d) d d c2 (S v) w1 hd hri).mono ?_
              rintro r w' ⟨hr, hx, hw⟩
              exact ⟨hr, hx.congr fun q _ => by simp, hw⟩
            · refine joinRow_any g0 (i * d) d d b2 o2 c2 (S i) T w1 hd hri hT1 (.inr ?_)
              rw [e2]
              exact rl_apart e
        have HJ : Hid _ := And.intro hJ (And.intro hA1 hK1)
        clear hJ hA1 hK1 hT1
        go_wp2_with fail
        refine Calls.mono HJ.out.1 ?_
        rintro r w2 ⟨⟨vr, rfl⟩, hx, hw⟩
        have H2 : Hid _ := And.intro hx hw
        clear hx hw
        go_wp2_with fail
        go_roundg (n - (i + 1))
        case measure => omega
        case rel =>
          refine ⟨i + 1, rfl, by omega, by go_num, upm_congr (HJ.out.2.1.put hlt H2.out.2 H2.out.1 fun q hq e => rl_off e) fun p q hp hq => ?_, HJ.out.2.2.trans H2.out.2.kp⟩
          rw [jn_step, ← HH.out]
          simp
    · obtain rfl : i = n := by omega
      have h1 : ¬ (i : Int) < (i : Int) := by omega
      have HA : Hid _ := And.intro hA hK
      clear hA hK
      go_wp2_with fail
      go_end0
      exact ⟨rfl, HA.out.1.congr fun p q hp _ => by simp [jn, hp], HA.out.2⟩
set_option maxRecDepth 100000 in
set_option maxHeartbeats 4000000 in
theorem joinT_any (g0 g1 n d : Nat) (S : Nat → Nat → Bool) (b2 o2 c2 : Nat) (T H : Nat → Bool) (k1 k2 B : Nat) (w : World) (hd : d ≤ 10000) (hn : n ≤ 1000) (hR : Rws w B g1 n d (rl g0 d) S) (hT : RowAt w b2 o2 d T) (hs : SetAt g0 n d S b2 o2 T)
    (hf : ∀ p W, p < n → Kept (fun b => b = g0) w W → RowAt W g0 (p * d) d (S p) → Calls Tryz.prog 106 #[.int .i64 p, .pointer (some ⟨k1, 0, none⟩), .pointer (some ⟨k2, 0, none⟩)] W fun r W' => r = .returned (.bool (H p)) ∧ Below W.heap.size W W') :
    Calls Tryz.prog 100 #[.slice (some ⟨g1, 0, none⟩) n n, .func (.func 106) #[] #[.pointer (some ⟨k1, 0, none⟩), .pointer (some ⟨k2, 0, none⟩)], rowV b2 o2 d c2] w fun r w' => r = .returned (.tuple #[]) ∧ Rws w' B g1 n d (rl g0 d) (fun p q => S p q || (H p && T q)) ∧ Kept (fun b => b = g0) w w' := by
  have HR : Hid _ := And.intro hR (And.intro hT (And.intro hs hf))
  have hE : Enters Tryz.prog 106 := enters_of Tryz.func106 (by kernel_rfl) rfl
  unfold Enters at hE
  clear hR hT hs hf
  unfold rowV
  go_enter Tryz.func100, Tryz.ntmps100
  go_wp2_with fail
  go_loopg [10] n (fun k iv wr => ∃ i : Nat, k = n - i ∧ i ≤ n ∧ iv = .int .i64 i ∧ Rws wr B g1 n d (rl g0 d) (jn S H T i) ∧ Kept (fun b => b = g0) w wr)
  case atStart => exact ⟨0, rfl, Nat.zero_le _, rfl, HR.out.1.congr fun p q _ _ => by simp [jn], Kept.refl _ _⟩
  case round =>
    obtain ⟨i, rfl, hi, rfl, hA, hK⟩ := hrel
    by_cases hlt : i < n
    · have h0 : (0 : Int) ≤ (i : Int) := by omega
      have h1 : (i : Int) < (n : Int) := by omega
      have c0 := hA.lst.cell hlt
      unfold rl Lc.v rowV at c0
      simp only at c0
      have hc := HR.out.2.2.2 i wr hlt hK ((hA.row i hlt).congr fun q _ => jn_at q)
      have HA : Hid _ := And.intro hA (And.intro hK hc)
      clear hA hK hc
      obtain ⟨hh, hhh⟩ : ∃ hh, hh = H i := ⟨_, rfl⟩
      rw [← hhh] at HA
      have HH : Hid (hh = H i) := hhh
      clear hhh
      cases hh
      · go_wp2_with (go_at_fn 106; refine Calls.mono HA.out.2.2 ?_; rintro r w1 ⟨rfl, hb1⟩; have H1 : Hid _ := hb1; clear hb1)
        go_roundg (n - (i + 1))
        case measure => omega
        case rel =>
          refine ⟨i + 1, rfl, by omega, by go_num, (HA.out.1.below H1.out).congr fun p q hp hq => ?_, HA.out.2.1.trans (Kept.of_below H1.out)⟩
          rw [jn_step]
          by_cases e : p = i
          · subst e; rw [if_pos rfl, ← HH.out, jn_at]; simp
          · rw [if_neg e]
      · go_wp2_with (go_at_fn 106; refine Calls.mono HA.out.2.2 ?_; rintro r w1 ⟨rfl, hb1⟩; have H1 : Hid _ := hb1; clear hb1)
        have hA1 := HA.out.1.below H1.out
        have hK1 := HA.out.2.1.trans (Kept.of_below H1.out)
        have hT1 := set_stands HR.out.2.2.1 HR.out.2.1 hK1 hA1
        have hJ : Calls Tryz.prog 147 #[.slice (some ⟨g0, i * d, none⟩) d d, .slice (some ⟨b2, o2, none⟩) d c2] w1 fun r w' => (∃ v, r = .returned v) ∧ RowAt w' g0 (i * d) d (fun q => S i q || T q) ∧ Wr g0 (i * d) d w1 w' := by
          have hri : RowAt w1 g0 (i * d) d (S i) := (hA1.row i hlt).congr fun q _ => jn_at q
          rcases HR.out.2.2.1 with h | ⟨v, hv, e1, e2, e3⟩
          · exact joinRow_any g0 (i * d) d d b2 o2 c2 (S i) T w1 hd hri hT1 (.inl h)
          · by_cases e : v = i
            · subst e; subst e1; subst e2; subst e3
              refine (joinSelf_any b2 (v * d) d d c2 (S v) w1 hd hri).mono ?_
              rintro r w' ⟨hr, hx, hw⟩
              exact ⟨hr, hx.congr fun q _ => by simp, hw⟩
            · refine joinRow_any g0 (i * d) d d b2 o2 c2 (S i) T w1 hd hri hT1 (.inr ?_)
              rw [e2]
              exact rl_apart e
        have HJ : Hid _ := And.intro hJ (And.intro hA1 hK1)
        clear hJ hA1 hK1 hT1
        go_wp2_with fail
        refine Calls.mono HJ.out.1 ?_
        rintro r w2 ⟨⟨vr, rfl⟩, hx, hw⟩
        have H2 : Hid _ := And.intro hx hw
        clear hx hw
        go_wp2_with fail
        go_roundg (n - (i + 1))
        case measure => omega
        case rel =>
          refine ⟨i + 1, rfl, by omega, by go_num, upm_congr (HJ.out.2.1.put hlt H2.out.2 H2.out.1 fun q hq e => rl_off e) fun p q hp hq => ?_, HJ.out.2.2.trans H2.out.2.kp⟩
          rw [jn_step, ← HH.out]
          simp
    · obtain rfl : i = n := by omega
      have h1 : ¬ (i : Int) < (i : Int) := by omega
      have HA : Hid _ := And.intro hA hK
      clear hA hK
      go_wp2_with fail
      go_end0
      exact ⟨rfl, HA.out.1.congr fun p q hp _ => by simp [jn, hp], HA.out.2⟩
end
section
open Go.RowKit
end
section
open Go.RowKit
end
namespace BEdges
open Go.RowKit Go.Maps
attribute [local go_sem ↓] Go.wp_at_zero Go.wp_at_succ
abbrev El : Type := Int × Int × Int
def enc (z : El) : List Value := [.int .i64 z.1, .int .i64 z.2.1, .int .i64 z.2.2]
def C (zs : List El) : List Value := zs.flatMap enc
theorem enc_len (z : El) : (enc z).length = 3 := rfl
theorem C_len (zs : List El) : (C zs).length = zs.length * 3 := by
  unfold C
  induction zs with
  | nil => rfl
  | cons z r ih => rw [List.flatMap_cons, List.length_append, ih, enc_len, List.length_cons]; omega
theorem C_app (a b : List El) : C (a ++ b) = C a ++ C b := List.flatMap_append
theorem C_one (zs : List El) : ∀ u ∈ C zs, u.oneCell' = true := fun u hu => by
  obtain ⟨z, _, hz⟩ := List.mem_flatMap.1 hu
  simp only [enc, List.mem_cons, List.not_mem_nil, or_false] at hz
  rcases hz with rfl | rfl | rfl <;> rfl
theorem C_at : ∀ (zs : List El) (k : Nat) (z : El), zs[k]? = some z → ∀ q, q < 3 → (C zs)[k * 3 + q]? = (enc z)[q]?
  | [], _, _, h, _, _ => by simp at h
  | y :: r, 0, z, h, q, hq => by
    simp at h
    subst h
    show (enc y ++ C r)[0 * 3 + q]? = _
    rw [List.getElem?_append_left (by rw [enc_len]; omega)]
    congr 1
    omega
  | y :: r, k + 1, z, h, q, hq => by
    have ih := C_at r k z (by simpa using h) q hq
    show (enc y ++ C r)[(k + 1) * 3 + q]? = _
    rw [List.getElem?_append_right (by rw [enc_len]; omega), enc_len, ← ih]
    congr 1
    omega
theorem C_set (zs : List El) {k : Nat} (hk : k < zs.length) (x : El) : C (zs.set k x) = ((((C zs).set (k * 3) (.int .i64 x.1)).set (k * 3 + 1) (.int .i64 x.2.1)).set (k * 3 + 2) (.int .i64 x.2.2)) := by
  apply List.ext_getElem?
  intro j
  by_cases hj : j / 3 = k
  · obtain ⟨q, hq, rfl⟩ : ∃ q, q < 3 ∧ j = k * 3 + q := ⟨j % 3, Nat.mod_lt _ (by decide), by omega⟩
    rw [C_at (zs.set k x) k x (List.getElem?_set_self hk) q hq]
    have hl : (C zs).length = zs.length * 3 := C_len zs
    have hq' : q = 0 ∨ q = 1 ∨ q = 2 := by omega
    rcases hq' with rfl | rfl | rfl <;> simp [List.getElem?_set, hl, enc] <;> omega
  · have e : (C (zs.set k x))[j]? = (C zs)[j]? := by
      rcases Nat.lt_or_ge (j / 3) zs.length with h | h
      · obtain ⟨z, hz⟩ : ∃ z, zs[j / 3]? = some z := ⟨_, List.getElem?_eq_getElem h⟩
        have hz' : (zs.set k x)[j / 3]? = some z := by rw [List.getElem?_set_ne (fun e => hj e.symm)]; exact hz
        have e0 : j = j / 3 * 3 + j % 3 := by omega
        rw [e0, C_at _ _ z hz' _ (Nat.mod_lt _ (by decide)), C_at _ _ z hz _ (Nat.mod_lt _ (by decide))]
      · rw [List.getElem?_eq_none (by rw [C_len, List.length_set]; omega), List.getElem?_eq_none (by rw [C_len]; omega)]
    rw [e]
    rw [List.getElem?_set_ne (by omega), List.getElem?_set_ne (by omega), List.getElem?_set_ne (by omega)]
def Own (w : World) (B : Nat) (v : Value) (zs : List El) : Prop := w.ownsRow B 70 3 v zs.length (C zs)
def Has (w : World) (v : Value) (zs : List El) : Prop := ∃ ao cap, v = .slice ao zs.length cap ∧ ∀ (j : Nat) (u : Value), (C zs)[j]? = some u → ∃ a, ao = some a ∧ w.cell? (a.add j) = some u
theorem Has.below {w w' : World} {v : Value} {zs : List El} (h : Has w v zs) (hb : Below w.heap.size w w') : Has w' v zs := by
  obtain ⟨ao, cap, h1, h2⟩ := h
  refine ⟨ao, cap, h1, fun i p hi => ?_⟩
  obtain ⟨a, ha, c0⟩ := h2 i p hi
  exact ⟨a, ha, (hb.cell (World.block_lt_of_cell? w _ c0)).trans c0⟩
theorem C_nil {zs : List El} (h : zs ≠ []) : ∃ u, (C zs)[0]? = some u := by
  cases zs with
  | nil => exact absurd rfl h
  | cons z r =>
    have h1 := C_at (z :: r) 0 z rfl 0 (by decide)
    have h2 : (enc z)[0]? = some ((enc z)[0]'(by rw [enc_len]; decide)) := List.getElem?_eq_getElem _
    exact ⟨_, h1.trans h2⟩
theorem Own.at {w : World} {B g cap n : Nat} {zs : List El} (h : Own w B (.slice (some ⟨g, 0, none⟩) n cap) zs) {j : Nat} {u : Value} (hj : (C zs)[j]? = some u) : w.cell? ⟨g, j, none⟩ = some u := by
  obtain ⟨ao', cap', hv⟩ := row_shape h
  injection hv with _ e _
  subst e
  have h' : w.ownsRow B 70 3 (.slice (some ⟨g, 0, none⟩) zs.length cap) zs.length (C zs) := h
  rw [h'.cellAt j (by rw [← h'.1]; exact (List.getElem?_eq_some_iff.1 hj).1), hj]
theorem Own.has {w : World} {B : Nat} {v : Value} {zs : List El} (h : Own w B v zs) : Has w v zs := by
  obtain ⟨ao, cap, hv⟩ := row_shape h
  refine ⟨ao, cap, hv, fun j u hj => ?_⟩
  have hlt := (List.getElem?_eq_some_iff.1 hj).1
  rw [C_len] at hlt
  obtain ⟨g, c, hf, _, _⟩ := World.ownsRow.form h (by omega)
  rw [hv] at hf
  injection hf with e1 e2 e3
  subst e1; subst e3
  refine ⟨_, rfl, ?_⟩
  rw [addz]
  rw [hv] at h
  exact Own.at h hj
theorem add_q (a : Addr) (m q : Nat) : (a.add m).add q = a.add (m + q) := by
  unfold Addr.add
  by_cases h1 : m = 0 <;> by_cases h2 : q = 0 <;> simp [h1, h2] <;> omega
theorem copy_of {w : World} {ao : Option Addr} {n cap : Nat} {zs : List El} (h : Has w (.slice ao n cap) zs) : (ao = none → n = 0) ∧ ∀ ad, ao = some ad → ∀ j u, (C zs)[j]? = some u → w.cell? (ad.add j) = some u := by
  obtain ⟨ao', cap', hv, h2⟩ := h
  injection hv with e1 e2 e3
  subst e1
  refine ⟨fun e => ?_, fun ad e j u hj => ?_⟩
  · rw [e2]
    by_cases hz : zs = []
    · rw [hz]; rfl
    · obtain ⟨u, hu⟩ := C_nil hz
      obtain ⟨a, ha, _⟩ := h2 0 u hu
      rw [e] at ha; cases ha
  · obtain ⟨a, ha, hc⟩ := h2 j u hj
    rw [e] at ha
    cases ha
    exact hc
def mk1 (i k : Nat) : El := (-1 - (i : Int), (k : Int), 7)
def marks (i f n : Nat) : List El := (List.range n).map fun k => mk1 i (f + k)
theorem Tryz.infoE : (Tryz.prog.info? 70).map (fun i => (i.zero, i.size, i.bytes)) = some (some (.agg #[.int .i64 0, .int .i64 0, .int .i64 0]), 3, 24) := by kernel_rfl
theorem C_snoc (zs : List El) (z : El) : C (zs ++ [z]) = C zs ++ enc z := by
  rw [C_app]
  show _ ++ (enc z ++ []) = _
  rw [List.append_nil]
end BEdges
section
open Go.RowKit Go.Maps
attribute [local go_sem ↓] Go.wp_at_zero Go.wp_at_succ
def sysV (n k s : Int) (v : Value) : Value := .agg #[.int .i64 n, .int .i64 k, .int .i64 s, v]
theorem four_cells {w : World} {b : Nat} {x0 x1 x2 x3 : Value} {t : TypeId} (h : w.heap[b]? = some (.cells #[x0, x1, x2, x3] t (0, 0))) : w.cell? ⟨b, 0, none⟩ = some x0 ∧ w.cell? ⟨b, 1, none⟩ = some x1 ∧ w.cell? ⟨b, 2, none⟩ = some x2 ∧ w.cell? ⟨b, 3, none⟩ = some x3 := by
  simp [World.cell?, h]
theorem edge_at {w : World} {ao : Option Addr} {n cap : Nat} {es : List BEdges.El} (h : BEdges.Has w (.slice ao n cap) es) {j : Nat} {z : BEdges.El} (hz : es[j]? = some z) :
    ∃ a, ao = some a ∧ w.cell? (a.add (j * 3)) = some (.int .i64 z.1) ∧ w.cell? ⟨(a.add (j * 3)).block, (a.add (j * 3)).off + 1, none⟩ = some (.int .i64 z.2.1) ∧ w.cell? ⟨(a.add (j * 3)).block, (a.add (j * 3)).off + 2, none⟩ = some (.int .i64 z.2.2) := by
  obtain ⟨ao', cap', hv, hc⟩ := h
  injection hv with e1 e2 e3
  subst e1
  obtain ⟨a, rfl, c0⟩ := hc (j * 3 + 0) _ ((BEdges.C_at es j z hz 0 (by decide)).trans rfl)
  obtain ⟨a1, e1, c1⟩ := hc (j * 3 + 1) _ ((BEdges.C_at es j z hz 1 (by decide)).trans rfl)
  cases e1
  obtain ⟨a2, e2, c2⟩ := hc (j * 3 + 2) _ ((BEdges.C_at es j z hz 2 (by decide)).trans rfl)
  cases e2
  refine ⟨a, rfl, by simpa using c0, ?_, ?_⟩
  · rw [← BEdges.add_q] at c1; exact c1
  · rw [← BEdges.add_q] at c2; exact c2
def edgeOk (n k : Int) (e : Sy.Ed) : Bool := decide (0 ≤ e.1 ∧ e.1 < n ∧ 0 ≤ e.2.2 ∧ e.2.2 < n ∧ 0 ≤ e.2.1 ∧ e.2.1 < k)
end
section
open Go.RowKit Go.Maps
attribute [local go_sem ↓] Go.wp_at_zero Go.wp_at_succ
def edV (a : Sy.Ed) : Value := .agg #[.int .i64 a.1, .int .i64 a.2.1, .int .i64 a.2.2]
def HasE (w : World) (v : Value) (es : List Sy.Ed) : Prop := ∃ ao cap, v = .slice ao es.length cap ∧ es.length ≤ cap ∧ BEdges.Has w v es
end
section
open Go.RowKit Go.Maps
attribute [local go_sem ↓] Go.wp_at_zero Go.wp_at_succ
def SortedAt (w : World) (v : Value) (es : List Sy.Ed) : Prop := Calls Tryz.prog 109 #[v] w fun e w' => ∃ u, e = .returned u ∧ BEdges.Own w' w.heap.size u (Sy.nf es) ∧ Below w.heap.size w w'
end
section
open Go.RowKit Go.Extern.Stop Go.Stop Go.Extern
def cmpEntry : Array Value → Sem Value := Extern.ReflectliteType.method fun t => do
  Rtype.noPackHeld "Comparable" t
  pure (.bool (← typeInfo t).comparable)
end
section
open Go.RowKit
def Sent (w : World) (g : Nat) (a : Addr) : Prop := w.cell? ⟨g, 0, none⟩ = some (.iface 311 (.pointer (some a))) ∧ ∃ c t, w.heap[a.block]? = some (.cells c t (0, 0))
theorem Sent.below {w w1 : World} {g : Nat} {a : Addr} (h : Sent w g a) (hb : Below w.heap.size w w1) : Sent w1 g a := by
  obtain ⟨h1, c, t, h2⟩ := h
  exact ⟨(hb.cell (World.block_lt_of_cell? w _ h1)).trans h1, c, t, by rw [hb.block _ (lt_of_block h2)]; exact h2⟩
end
section
open Go.RowKit Go.Extern.Stop Go.Stop Go.Extern
def Chain (w : World) (l c : Int) (a : Addr) : List ByteArray → Value → Prop
  | [], v => v = .iface 311 (.pointer (some a))
  | s :: r, v => ∃ b u, v = .iface 92 (.pointer (some ⟨b, 0, none⟩)) ∧ w.heap[b]? = some (.cells #[.string s, .int .i64 l, .int .i64 c, u] 95 (0, 0)) ∧ Chain w l c a r u
theorem Chain.below {w w' : World} {l c : Int} {a : Addr} : ∀ {ls : List ByteArray} {v : Value}, Chain w l c a ls v → Below w.heap.size w w' → Chain w' l c a ls v
  | [], _, h, _ => h
  | s :: r, v, h, hb => by
    obtain ⟨b, u, h1, h2, h3⟩ := h
    exact ⟨b, u, h1, (hb.block b (Array.getElem?_eq_some_iff.1 h2).1).trans h2, Chain.below h3 hb⟩
theorem Chain.iface {w : World} {l c : Int} {a : Addr} {ls : List ByteArray} {v : Value} (h : Chain w l c a ls v) : ∃ T u, v = .iface T u := by
  cases ls with
  | nil => exact ⟨_, _, h⟩
  | cons s r => obtain ⟨b, u, h1, _⟩ := h; exact ⟨_, _, h1⟩
end
section
open Go.RowKit
structure Er (m : Nat) (w : World) (e : Nat → Addr) : Prop where
  s1 : 1 ≤ m → Sent w 3 (e 1)
  s2 : 2 ≤ m → Sent w 2 (e 2)
  s3 : 3 ≤ m → Sent w 1 (e 3)
  s4 : 4 ≤ m → Sent w 4 (e 4)
  s5 : 5 ≤ m → Sent w 5 (e 5)
  s6 : 6 ≤ m → Sent w 6 (e 6)
  s7 : 7 ≤ m → Sent w 7 (e 7)
  s8 : 8 ≤ m → Sent w 8 (e 8)
  s9 : 9 ≤ m → Sent w 9 (e 9)
  s10 : 10 ≤ m → Sent w 10 (e 10)
  s11 : 11 ≤ m → Sent w 13 (e 11)
  s12 : 12 ≤ m → Sent w 14 (e 12)
  s13 : 13 ≤ m → Sent w 0 (e 13)
  s14 : 14 ≤ m → Sent w 11 (e 14)
  s15 : 15 ≤ m → Sent w 15 (e 15)
  s16 : 16 ≤ m → Sent w 16 (e 16)
  s17 : 17 ≤ m → Sent w 17 (e 17)
  s18 : 18 ≤ m → Sent w 18 (e 18)
  s19 : 19 ≤ m → Sent w 19 (e 19)
  ne : ∀ i j, 1 ≤ i → i < j → j ≤ m → e j ≠ e i
end
section
open Go.RowKit
def joinS (x : ByteArray) : List ByteArray → ByteArray
  | [] => x
  | s :: r => joinS (x ++ s ++ ⟨#[32]⟩) r
end
section
open Go.RowKit Go.Maps
attribute [local go_sem ↓] Go.wp_at_zero Go.wp_at_succ
def sysB : ByteArray := ⟨#[115, 121, 115, 116, 101, 109]⟩
def sysB1 : ByteArray := ⟨#[115, 121, 115, 116, 101, 109, 32]⟩
theorem four_set {w : World} {b : Nat} {x0 x1 x2 x3 a0 a1 a2 a3 : Value} {t : TypeId} (h : w.heap[b]? = some (.cells #[x0, x1, x2, x3] t (0, 0))) : ((((w.setCell ⟨b, 0, none⟩ a0).setCell ⟨b, 1, none⟩ a1).setCell ⟨b, 2, none⟩ a2).setCell ⟨b, 3, none⟩ a3).heap[b]? = some (.cells #[a0, a1, a2, a3] t (0, 0)) :=
  heap_setCell_same _ b 3 _ _ _ (heap_setCell_same _ b 2 _ _ _ (heap_setCell_same _ b 1 _ _ _ (heap_setCell_same w b 0 _ _ _ h)))
theorem four_below {B : Nat} {w w2 : World} {b : Nat} (h : Below B w w2) (hb : B ≤ b) (a0 a1 a2 a3 : Value) : Below B w ((((w2.setCell ⟨b, 0, none⟩ a0).setCell ⟨b, 1, none⟩ a1).setCell ⟨b, 2, none⟩ a2).setCell ⟨b, 3, none⟩ a3) := (((h.setCell hb _).setCell hb _).setCell hb _).setCell hb _
def chkV (ok : Bool) : Value := if ok then .agg #[.int .i64 0, .int .i64 0, .int .i64 0, .string ⟨#[]⟩] else .agg #[.int .i64 14, .int .i64 0, .int .i64 0, .string sysB1]
end
section
open Go.RowKit Go.Maps
attribute [local go_sem ↓] Go.wp_at_zero Go.wp_at_succ
namespace Sy
theorem place_app (c : Int) (a b : List Int) (h : ∀ x ∈ a, x ≠ c) : place c (a ++ b) = a.length + place c b := by
  induction a with
  | nil => simp
  | cons x r ih =>
    have hx := h x List.mem_cons_self
    simp only [List.cons_append, place, if_neg hx, List.length_cons]
    rw [ih fun y hy => h y (List.mem_cons_of_mem _ hy)]
    omega
theorem canon_step {zs : List Int} {i : Nat} {z : Int} (h : zs[i]? = some z) : canonG [] (zs.take (i + 1)) = canonG [] (zs.take i) ++ [place z (seenG [] (zs.take i))] := by
  obtain ⟨hl, rfl⟩ := List.getElem?_eq_some_iff.1 h
  rw [List.take_succ_eq_append_getElem hl, canonG_app]
  rfl
theorem seen_step {zs : List Int} {i : Nat} {z : Int} (h : zs[i]? = some z) : seenG [] (zs.take (i + 1)) = if place z (seenG [] (zs.take i)) < (seenG [] (zs.take i)).length then seenG [] (zs.take i) else seenG [] (zs.take i) ++ [z] := by
  obtain ⟨hl, rfl⟩ := List.getElem?_eq_some_iff.1 h
  rw [List.take_succ_eq_append_getElem hl, seenG_app]
  rfl
end Sy
def natC (l : List Nat) : List Value := l.map fun (k : Nat) => Value.int .i64 (k : Int)
theorem natC_len (l : List Nat) : (natC l).length = l.length := by simp [natC]
def natI (l : List Nat) : List Int := l.map fun (k : Nat) => (k : Int)
theorem iC_nat (l : List Nat) : iC (natI l) = natC l := by simp [iC, natI, natC]
theorem natC_step (C : List Nat) (n i k : Nat) (hC : C.length = i) (hi : i < n) : (natC C ++ List.replicate (n - i) (Value.int .i64 0)).set i (.int .i64 (k : Int)) = natC (C ++ [k]) ++ List.replicate (n - (i + 1)) (Value.int .i64 0) := by
  have e : n - i = (n - (i + 1)) + 1 := by omega
  rw [List.set_append_right _ _ (by rw [natC_len]; omega), natC_len, hC, Nat.sub_self, e, List.replicate_succ, List.set_cons_zero]
  simp [natC]
end
section
open Go.RowKit Go.Maps
attribute [local go_sem ↓] Go.wp_at_zero Go.wp_at_succ
def Sy.classes (n : Int) (zs : List Int) : Bool := decide ((zs.length : Int) = n) && Sy.formG 0 zs
end
section
open Go.RowKit Go.Maps
def I64s (zs : List Int) : Prop := ∀ z ∈ zs, (Lit.int .i64 z).wf = true
def PCanon : Prop := ∀ (v : Value) (zs : List Int) (W : World), HasI W v zs → zs.length ≤ 100000 → I64s zs → Calls Tryz.prog 153 #[v] W fun r w' => ∃ u, r = .returned u ∧ OwnI w' W.heap.size u (natI (Sy.canon zs)) ∧ Below W.heap.size W w'
theorem rg_b {w2 W : World} {P : Prop} (h : P ∧ Hid (Below w2.heap.size w2 W)) : Below w2.heap.size w2 W := h.2.out
theorem rg_up4 {w2 wa wb : World} {a0 a1 a2 a3 : Addr} {x0 x1 x2 x3 : Value} (hb : Below wa.heap.size wa wb) (h : (wa.cell? a0 = some x0 ∧ wa.cell? a1 = some x1 ∧ wa.cell? a2 = some x2 ∧ wa.cell? a3 = some x3) ∧ Hid (Below w2.heap.size w2 wa)) : (wb.cell? a0 = some x0 ∧ wb.cell? a1 = some x1 ∧ wb.cell? a2 = some x2 ∧ wb.cell? a3 = some x3) ∧ Hid (Below w2.heap.size w2 wb) :=
  have up : ∀ {a : Addr} {x : Value}, wa.cell? a = some x → wb.cell? a = some x := fun c => (hb.cell (World.block_lt_of_cell? wa _ c)).trans c
  ⟨⟨up h.1.1, up h.1.2.1, up h.1.2.2.1, up h.1.2.2.2⟩, (h.2.out.trans (hb.mono h.2.out.size) : Below w2.heap.size w2 wb)⟩
end
section
open Go.RowKit Go.Maps
attribute [local go_sem ↓] Go.wp_at_zero Go.wp_at_succ
theorem sysFault_any (a : Addr) (w : World) : Calls Tryz.prog 145 #[.iface 311 (.pointer (some a))] w fun r w' => ∃ x, r = .returned x ∧ Chain w' 0 0 a [sysB] x ∧ Below w.heap.size w w' := by
  go_enter Tryz.func145, Tryz.ntmps145
  go_wp2
  go_ret
  exact ⟨_, rfl, ⟨_, _, rfl, (MapKept.heap_alloc w _).1, rfl⟩, (Below.refl _ _).alloc (Nat.le_refl _) _⟩
theorem below_any (a b : Int) (w : World) : Calls Tryz.prog 166 #[.int .i64 a, .int .i64 b] w fun r w' => r = .returned (.bool (decide (0 ≤ a ∧ a < b))) ∧ w' = w := by
  by_cases h0 : 0 ≤ a
  · by_cases h1 : a < b
    · go_enter Tryz.func166, Tryz.ntmps166
      go_wp2
      go_ret
      exact ⟨by simp [h0, h1], rfl⟩
    · go_enter Tryz.func166, Tryz.ntmps166
      go_wp2
      go_ret
      exact ⟨by simp [h1], rfl⟩
  · go_enter Tryz.func166, Tryz.ntmps166
    go_wp2
    go_ret
    exact ⟨by simp; omega, rfl⟩
set_option maxRecDepth 100000 in
set_option maxHeartbeats 4000000 in
theorem stranger_any (n k s : Int) (v : Value) (b : Nat) (x : Sy.Ed) (w : World) (hB : w.heap[b]? = some (.cells #[.int .i64 n, .int .i64 k, .int .i64 s, v] 24 (0, 0))) :
    Calls Tryz.prog 165 #[edV x, .pointer (some ⟨b, 0, none⟩)] w fun r w' => r = .returned (.bool (!edgeOk n k x)) ∧ Below w.heap.size w w' := by
  obtain ⟨b0, b1, b2, b3⟩ := four_cells hB
  have hlt := t_lt hB
  have hne : ¬ b = w.heap.size := by omega
  have hA := fun W => below_any x.1 n W
  have hT := fun W => below_any x.2.2 n W
  have hL := fun W => below_any x.2.1 k W
  have hok : edgeOk n k x = (decide (0 ≤ x.1 ∧ x.1 < n) && decide (0 ≤ x.2.2 ∧ x.2.2 < n) && decide (0 ≤ x.2.1 ∧ x.2.1 < k)) := by
    unfold edgeOk
    rw [Bool.eq_iff_iff]
    simp only [Bool.and_eq_true, decide_eq_true_eq]
    omega
  unfold edV
  rw [hok]
  generalize decide (0 ≤ x.1 ∧ x.1 < n) = pa at hA ⊢
  generalize decide (0 ≤ x.2.2 ∧ x.2.2 < n) = pt at hT ⊢
  generalize decide (0 ≤ x.2.1 ∧ x.2.1 < k) = pl at hL ⊢
  clear hok hB b2 b3
  obtain ⟨x0, x1, x2⟩ := x
  cases pa with
  | false =>
    go_enter Tryz.func165, Tryz.ntmps165
    go_wp2_with (go_at_call 166; refine (hA _).mono ?_; rintro r w' ⟨rfl, hw⟩; obtain rfl := hw.symm)
    go_ret
    exact ⟨rfl, (Below.refl _ _).alloc (Nat.le_refl _) _⟩
  | true =>
    cases pt with
    | false =>
      go_enter Tryz.func165, Tryz.ntmps165
      go_wp2_with fail
      refine (hA _).mono ?_
      rintro r w1 ⟨rfl, hw⟩; obtain rfl := hw.symm
      go_wp2_with fail
      refine (hT _).mono ?_
      rintro r w1 ⟨rfl, hw⟩; obtain rfl := hw.symm
      go_wp2
      go_ret
      exact ⟨rfl, (Below.refl _ _).alloc (Nat.le_refl _) _⟩
    | true =>
      go_enter Tryz.func165, Tryz.ntmps165
      go_wp2_with fail
      refine (hA _).mono ?_
      rintro r w1 ⟨rfl, hw⟩; obtain rfl := hw.symm
      go_wp2_with fail
      refine (hT _).mono ?_
      rintro r w1 ⟨rfl, hw⟩; obtain rfl := hw.symm
      go_wp2_with fail
      refine (hL _).mono ?_
      rintro r w1 ⟨rfl, hw⟩; obtain rfl := hw.symm
      go_wp2
      go_ret
      exact ⟨rfl, (Below.refl _ _).alloc (Nat.le_refl _) _⟩
theorem enter_str : ∀ args w, (callFunc 165 args).run Tryz.prog w = .ok (.enter 165 args) w := enters_of Tryz.func165 (by kernel_rfl) rfl
def firstBad (n k : Int) (es : List Sy.Ed) : Int := if es.all (edgeOk n k) then -1 else ((es.findIdx fun e => !edgeOk n k e : Nat) : Int)
theorem findIdx_at {es : List Sy.Ed} {p : Sy.Ed → Bool} {i : Nat} {z : Sy.Ed} (hz : es[i]? = some z) (hp : p z = true) (hall : ∀ x ∈ es.take i, p x = false) : es.findIdx p = i := by
  obtain ⟨hl, rfl⟩ := List.getElem?_eq_some_iff.1 hz
  rw [List.findIdx_eq hl]
  refine ⟨hp, fun j hj => hall _ ?_⟩
  exact List.mem_take_iff_getElem.2 ⟨j, by omega, rfl⟩
set_option maxRecDepth 100000 in
set_option maxHeartbeats 4000000 in
theorem idxBad_any (n k s : Int) (ve v : Value) (b : Nat) (es : List Sy.Ed) (w : World) (hn : es.length ≤ 100000) (hv : BEdges.Has w v es) (hB : w.heap[b]? = some (.cells #[.int .i64 n, .int .i64 k, .int .i64 s, ve] 24 (0, 0))) :
    Calls Tryz.prog 164 #[v, .func (.func 165) #[] #[.pointer (some ⟨b, 0, none⟩)]] w fun r w' => r = .returned (.int .i64 (firstBad n k es)) ∧ Below w.heap.size w w' := by
  obtain ⟨ao, cap, rfl, _⟩ := _root_.id hv
  obtain ⟨m, hm⟩ : ∃ m, m = es.length := ⟨_, rfl⟩
  have HV : Hid _ := And.intro hv (And.intro hm hB)
  rw [← hm] at hn ⊢
  clear hv hm hB
  have he := enter_str
  go_enter Tryz.func164, Tryz.ntmps164
  go_wp2_with fail
  go_loopg [8] m (fun q iv wr => ∃ i : Nat, q = m - i ∧ i ≤ m ∧ iv = .int .i64 i ∧ Below w.heap.size w wr ∧ ∀ x ∈ es.take i, (!edgeOk n k x) = false)
  case atStart => exact ⟨0, rfl, Nat.zero_le _, rfl, Below.refl _ _, fun x hx => by simp at hx⟩
  case round =>
    obtain ⟨i, rfl, hi, rfl, hb, hall⟩ := hrel
    by_cases hlt : i < m
    · obtain ⟨z, hz⟩ : ∃ z, es[i]? = some z := ⟨es[i]'(by have := HV.out.2.1; omega), List.getElem?_eq_getElem _⟩
      obtain ⟨a, rfl, z0, z1, z2⟩ := edge_at (HV.out.1.below hb) hz
      have q0 : (0 : Int) ≤ (i : Int) := by omega
      have q1 : (i : Int) < (m : Int) := by omega
      have hC := stranger_any n k s ve b z wr ((hb.block b (t_lt HV.out.2.2)).trans HV.out.2.2)
      unfold edV at hC
      have HB : Hid _ := And.intro hb (And.intro hall hz)
      clear hb hall hz
      cases hq : (!edgeOk n k z) with
      | true =>
        rw [hq] at hC
        have HQ : Hid _ := hq
        clear hq
        go_wp2_with (go_at_fn 165; refine hC.mono ?_; rintro r w1 ⟨rfl, hb1⟩)
        go_ret
        refine ⟨?_, HB.out.1.trans (hb1.mono HB.out.1.size)⟩
        have hf := findIdx_at HB.out.2.2 HQ.out HB.out.2.1
        have hna : es.all (edgeOk n k) = false := by
          rw [List.all_eq_false]
          exact ⟨z, List.mem_of_getElem? HB.out.2.2, by have := HQ.out; simpa using this⟩
        unfold firstBad
        rw [hna, hf]
        rfl
      | false =>
        rw [hq] at hC
        have HQ : Hid _ := hq
        clear hq
        go_wp2_with (go_at_fn 165; refine hC.mono ?_; rintro r w1 ⟨rfl, hb1⟩)
        go_roundg (m - (i + 1))
        case measure => omega
        case rel =>
          refine ⟨i + 1, rfl, by omega, by go_num, HB.out.1.trans (hb1.mono HB.out.1.size), fun x hx => ?_⟩
          rw [take_succ_of HB.out.2.2] at hx
          rcases List.mem_append.1 hx with hx | hx
          · exact HB.out.2.1 x hx
          · rw [List.mem_singleton.1 hx]; exact HQ.out
    · have HB : Hid _ := And.intro hb hall
      clear hb hall
      have q1 : ¬ (i : Int) < (m : Int) := by omega
      go_wp2
      go_ret
      refine ⟨?_, HB.out.1⟩
      have hal : es.all (edgeOk n k) = true := by
        rw [List.all_eq_true]
        intro x hx
        have h1 := HB.out.2 x (by rw [List.take_of_length_le (by have := HV.out.2.1; omega)]; exact hx)
        simpa using h1
      unfold firstBad
      rw [hal]
      rfl
set_option maxRecDepth 100000 in
set_option maxHeartbeats 1000000 in
theorem hasBad_any (n k s : Int) (ve v : Value) (b : Nat) (es : List Sy.Ed) (w : World) (hn : es.length ≤ 100000) (hv : BEdges.Has w v es) (hB : w.heap[b]? = some (.cells #[.int .i64 n, .int .i64 k, .int .i64 s, ve] 24 (0, 0))) :
    Calls Tryz.prog 143 #[v, .func (.func 165) #[] #[.pointer (some ⟨b, 0, none⟩)]] w fun r w' => r = .returned (.bool (!es.all (edgeOk n k))) ∧ Below w.heap.size w w' := by
  have hC := idxBad_any n k s ve v b es w hn hv hB
  have hd : (!es.all (edgeOk n k)) = decide (0 ≤ firstBad n k es) := by
    unfold firstBad
    cases es.all (edgeOk n k) <;> simp
  rw [hd]
  generalize firstBad n k es = c at hC ⊢
  clear hd hB hv
  by_cases h : 0 ≤ c
  all_goals
    go_enter Tryz.func143, Tryz.ntmps143
    go_wp2_with (go_at_call 164; refine hC.mono ?_; rintro r w1 ⟨rfl, hb1⟩)
    go_ret
    exact ⟨by simp [h], hb1⟩
theorem mkStr_any (n k s : Int) (v : Value) (w : World) : Calls Tryz.prog 144 #[sysV n k s v] w fun r w' => r = .returned (.func (.func 165) #[] #[.pointer (some ⟨w.heap.size, 0, none⟩)]) ∧ w' = w.alloc (.cells #[.int .i64 n, .int .i64 k, .int .i64 s, v] 24) := by
  unfold sysV
  go_enter Tryz.func144, Tryz.ntmps144
  go_wp2
  go_ret
  exact ⟨rfl, rfl⟩
def SErr (a : Addr) (w : World) (ok : Bool) (x : Value) : Prop := if ok = true then x = .nilIface else Chain w 0 0 a [sysB] x
def chkA (n k s : Int) (m : Nat) : Bool := decide (0 ≤ n ∧ n ≤ 1000) && decide (1 ≤ k ∧ k ≤ 201) && decide (0 ≤ s ∧ s < max n 1) && decide (m ≤ 10000)
theorem right_eq (n k s : Int) (es : List Sy.Ed) : Sy.right n k s es = (chkA n k s es.length && es.all (edgeOk n k)) := by
  unfold Sy.right chkA edgeOk
  rw [Bool.eq_iff_iff]
  simp only [Bool.and_eq_true, decide_eq_true_eq]
  constructor
  · rintro ⟨⟨h1, h2⟩, h3⟩
    refine ⟨⟨⟨⟨⟨h1.1, h1.2.1⟩, h1.2.2.1, h1.2.2.2.1⟩, ?_⟩, h1.2.2.2.2⟩, h3⟩
    rcases Int.lt_or_eq_of_le h1.1 with h | h
    · have := h2.2 h; omega
    · have := h2.1 h.symm; omega
  · rintro ⟨⟨⟨⟨h1, h2⟩, h3⟩, h4⟩, h5⟩
    exact ⟨⟨⟨h1.1, h1.2, h2.1, h2.2, h4⟩, ⟨fun e => by omega, fun e => by omega⟩⟩, h5⟩
set_option maxRecDepth 100000 in
set_option maxHeartbeats 4000000 in
theorem check_early (n k s : Int) (ao : Option Addr) (m cap : Nat) (a : Addr) (w : World) (hS : Sent w 11 a) (h : chkA n k s m = false) :
    Calls Tryz.prog 97 #[sysV n k s (.slice ao m cap)] w fun r w' => ∃ x, r = .returned x ∧ Chain w' 0 0 a [sysB] x ∧ Below w.heap.size w w' := by
  unfold sysV
  have hg : (w.alloc (.cells #[.int .i64 n, .int .i64 k, .int .i64 s, .slice ao m cap] 24)).cell? ⟨11, 0, none⟩ = some (.iface 311 (.pointer (some a))) := (((Below.refl _ w).alloc (Nat.le_refl _) _).cell (World.block_lt_of_cell? w _ hS.1)).trans hS.1
  have hF := sysFault_any a (w.alloc (.cells #[.int .i64 n, .int .i64 k, .int .i64 s, .slice ao m cap] 24))
  have hb0 : Hid (Below w.heap.size w (w.alloc (.cells #[.int .i64 n, .int .i64 k, .int .i64 s, .slice ao m cap] 24))) := (Below.refl _ w).alloc (Nat.le_refl _) _
  have hc : ¬ 0 ≤ n ∨ 0 ≤ n ∧ ¬ n ≤ 1000 ∨ (0 ≤ n ∧ n ≤ 1000) ∧ (¬ 1 ≤ k ∨ 1 ≤ k ∧ ¬ k ≤ 201 ∨ (1 ≤ k ∧ k ≤ 201) ∧ (s < 0 ∨ 0 ≤ s ∧ (n < 1 ∧ 1 ≤ s) ∨ 0 ≤ s ∧ (¬ n < 1 ∧ n ≤ s) ∨ 0 ≤ s ∧ (n < 1 ∧ ¬ 1 ≤ s) ∧ (10000 : Int) < (m : Int) ∨ 0 ≤ s ∧ (¬ n < 1 ∧ ¬ n ≤ s) ∧ (10000 : Int) < (m : Int))) := by
    unfold chkA at h
    simp only [Bool.and_eq_false_iff, decide_eq_false_iff_not] at h
    omega
  clear h hS
  rcases hc with h | ⟨h1, h2⟩ | ⟨⟨h1, h2⟩, h | ⟨h3, h4⟩ | ⟨⟨h3, h4⟩, h | ⟨h5, h6, h7⟩ | ⟨h5, h6, h7⟩ | ⟨h5, ⟨h6, h7⟩, h8⟩ | ⟨h5, ⟨h6, h7⟩, h8⟩⟩⟩
  all_goals
    go_enter Tryz.func97, Tryz.ntmps97
    go_wp2_with (go_at_call 145; refine hF.mono ?_; rintro r w1 ⟨x, rfl, hC, hb1⟩; have HC : Hid _ := And.intro hC hb1; clear hC hb1)
    go_ret
    exact ⟨x, rfl, HC.out.1, hb0.out.trans (HC.out.2.mono hb0.out.size)⟩
set_option maxRecDepth 100000 in
set_option maxHeartbeats 4000000 in
theorem check_late (n k s : Int) (v : Value) (es : List Sy.Ed) (a : Addr) (w : World) (hS : Sent w 11 a) (hv : BEdges.Has w v es) (h : chkA n k s es.length = true) :
    Calls Tryz.prog 97 #[sysV n k s v] w fun r w' => ∃ x, r = .returned x ∧ SErr a w' (es.all (edgeOk n k)) x ∧ Below w.heap.size w w' := by
  obtain ⟨w0, hw0⟩ : ∃ w0, w0 = w.alloc (.cells #[.int .i64 n, .int .i64 k, .int .i64 s, v] 24) := ⟨_, rfl⟩
  have hb0 : Below w.heap.size w w0 := by rw [hw0]; exact (Below.refl _ _).alloc (Nat.le_refl _) _
  have hg0 : w0.heap[w.heap.size]? = some (.cells #[.int .i64 n, .int .i64 k, .int .i64 s, v] 24 (0, 0)) := by rw [hw0]; exact heap_alloc_new w _
  obtain ⟨ao, cap, rfl, _⟩ := _root_.id hv
  obtain ⟨m, hm⟩ : ∃ m, m = es.length := ⟨_, rfl⟩
  rw [← hm] at h hg0 hw0 hv ⊢
  have hc : (0 ≤ n ∧ n ≤ 1000) ∧ (1 ≤ k ∧ k ≤ 201) ∧ (0 ≤ s ∧ (n < 1 ∧ ¬ 1 ≤ s ∨ ¬ n < 1 ∧ ¬ n ≤ s)) ∧ m ≤ 10000 := by
    unfold chkA at h
    simp only [Bool.and_eq_true, decide_eq_true_eq] at h
    omega
  obtain ⟨⟨h1, h2⟩, ⟨h3, h4⟩, ⟨h5, h6⟩, h7⟩ := hc
  have h8 : ¬ (10000 : Int) < (m : Int) := by omega
  obtain ⟨x0, x1, x2, x3⟩ := four_cells hg0
  have hM : ∀ W, Below w0.heap.size w0 W → Calls Tryz.prog 144 #[sysV n k s (.slice ao m cap)] W fun r w' => ∃ b, r = .returned (.func (.func 165) #[] #[.pointer (some ⟨b, 0, none⟩)]) ∧ w'.heap[b]? = some (.cells #[.int .i64 n, .int .i64 k, .int .i64 s, .slice ao m cap] 24 (0, 0)) ∧ Below W.heap.size W w' := fun W _ => (mkStr_any n k s _ W).mono fun r w' ⟨hr, hw⟩ => ⟨_, hr, by rw [hw]; exact heap_alloc_new W _, by rw [hw]; exact (Below.refl _ _).alloc (Nat.le_refl _) _⟩
  have hC : ∀ W b, Below w0.heap.size w0 W → W.heap[b]? = some (.cells #[.int .i64 n, .int .i64 k, .int .i64 s, .slice ao m cap] 24 (0, 0)) → Calls Tryz.prog 143 #[.slice ao m cap, .func (.func 165) #[] #[.pointer (some ⟨b, 0, none⟩)]] W fun r w' => r = .returned (.bool (!es.all (edgeOk n k))) ∧ Below W.heap.size W w' := fun W b hb hB => hasBad_any n k s _ _ b es W (by omega) ((hv.below hb0).below hb) hB
  have HC : Hid _ := And.intro hM hC
  have HB : Hid _ := And.intro hb0 hS
  have HW : Hid (w0 = w.alloc (.cells #[.int .i64 n, .int .i64 k, .int .i64 s, .slice ao m cap] 24)) := hw0
  clear hw0
  unfold sysV at HC ⊢
  generalize hq : es.all (edgeOk n k) = q at HC ⊢
  clear hM hC hv hb0 hg0 hm h hS hq
  rcases h6 with ⟨h6, h9⟩ | ⟨h6, h9⟩
  all_goals
    cases q with
    | true =>
      go_enter Tryz.func97, Tryz.ntmps97
      go_upto_region 5 with fail
      rw [← HW.out]
      go_region_held3 (fun w' => (w'.cell? ⟨w.heap.size, 0, none⟩ = some (.int .i64 n) ∧ w'.cell? ⟨w.heap.size, 1, none⟩ = some (.int .i64 k) ∧ w'.cell? ⟨w.heap.size, 2, none⟩ = some (.int .i64 s) ∧ w'.cell? ⟨w.heap.size, 3, none⟩ = some (.slice ao m cap)) ∧ Hid (Below w0.heap.size w0 w')) (first | exact rg_up4 hb3 (by assumption) | exact ⟨⟨x0, x1, x2, x3⟩, ((Below.refl _ _).drew : Below w0.heap.size w0 w0.drew)⟩ | go_keep)
        ((first
          | (go_at_call 144; refine (HC.out.1 _ (rg_b (by assumption))).mono ?_; rintro r w3 ⟨b3, rfl, hB3, hb3⟩)
          | (go_at_call 143; refine (HC.out.2 _ _ (rg_b (by assumption)) hB3).mono ?_; rintro r w3 ⟨rfl, hb3⟩)
          | fail))
      all_goals
        have HF : Hid (Below w0.heap.size w0 w3) := (rg_b (by assumption) : Below w0.heap.size w0 w3)
        clear hb3
        go_wp2_with fail
        go_ret
        exact ⟨_, rfl, by simp [SErr], HB.out.1.trans (HF.out.mono HB.out.1.size)⟩
    | false =>
      go_enter Tryz.func97, Tryz.ntmps97
      go_upto_region 5 with fail
      rw [← HW.out]
      go_region_held3 (fun w' => (w'.cell? ⟨w.heap.size, 0, none⟩ = some (.int .i64 n) ∧ w'.cell? ⟨w.heap.size, 1, none⟩ = some (.int .i64 k) ∧ w'.cell? ⟨w.heap.size, 2, none⟩ = some (.int .i64 s) ∧ w'.cell? ⟨w.heap.size, 3, none⟩ = some (.slice ao m cap)) ∧ Hid (Below w0.heap.size w0 w')) (first | exact rg_up4 hb3 (by assumption) | exact ⟨⟨x0, x1, x2, x3⟩, ((Below.refl _ _).drew : Below w0.heap.size w0 w0.drew)⟩ | go_keep)
        ((first
          | (go_at_call 144; refine (HC.out.1 _ (rg_b (by assumption))).mono ?_; rintro r w3 ⟨b3, rfl, hB3, hb3⟩)
          | (go_at_call 143; refine (HC.out.2 _ _ (rg_b (by assumption)) hB3).mono ?_; rintro r w3 ⟨rfl, hb3⟩)
          | fail))
      all_goals
        have hbw : Below w0.heap.size w0 w3 := rg_b (by assumption)
        have hS3 := (HB.out.2.below HB.out.1).below hbw
        have hg := hS3.1
        have HF : Hid (Below w0.heap.size w0 w3) := hbw
        have hFl := sysFault_any a w3
        clear hb3 hbw hS3
        go_wp2_with (go_at_call 145; refine hFl.mono ?_; rintro r w4 ⟨x, rfl, hC4, hb4⟩; have HC4 : Hid _ := And.intro hC4 hb4; clear hC4 hb4)
        go_ret
        exact ⟨x, rfl, by simpa [SErr] using HC4.out.1, (HB.out.1.trans (HF.out.mono HB.out.1.size)).trans (HC4.out.2.mono (by have := HB.out.1.size; have := HF.out.size; omega))⟩
theorem check_any (n k s : Int) (v : Value) (es : List Sy.Ed) (a : Addr) (w : World) (hS : Sent w 11 a) (hv : BEdges.Has w v es) :
    Calls Tryz.prog 97 #[sysV n k s v] w fun r w' => ∃ x, r = .returned x ∧ SErr a w' (Sy.right n k s es) x ∧ Below w.heap.size w w' := by
  rw [right_eq]
  cases h : chkA n k s es.length with
  | true =>
    rw [Bool.true_and]
    exact check_late n k s v es a w hS hv h
  | false =>
    obtain ⟨ao, cap, rfl, _⟩ := _root_.id hv
    refine (check_early n k s ao es.length cap a w hS h).mono fun r w' ⟨x, hr, hC, hb⟩ => ⟨x, hr, by simpa [SErr] using hC, hb⟩
end
section
open Go.RowKit Go.Maps
attribute [local go_sem ↓] Go.wp_at_zero Go.wp_at_succ
theorem cell_kept9 {w w' : World} {F : Nat → Prop} {b o : Nat} {v : Value} (hk : Kept F w w') (hc : w.cell? ⟨b, o, none⟩ = some v) (hb : ¬ F b) : w'.cell? ⟨b, o, none⟩ = some v := (World.cell?_of_block (a := ⟨b, o, none⟩) (hk.block b (World.block_lt_of_cell? w _ hc) hb)).trans hc
theorem wk_cells {w : World} {b : Nat} {x0 x1 x2 x3 : Value} {ty : TypeId} (h : w.heap[b]? = some (.cells #[x0, x1, x2, x3] ty (0, 0))) : w.cell? ⟨b, 0, none⟩ = some x0 ∧ w.cell? ⟨b, 1, none⟩ = some x1 ∧ w.cell? ⟨b, 2, none⟩ = some x2 ∧ w.cell? ⟨b, 3, none⟩ = some x3 := ⟨cell0_of h rfl, cell0_of h rfl, cell0_of h rfl, cell0_of h rfl⟩
theorem wk_bel {w W w8 : World} (hb : Below W.heap.size W w8) (h : Below w.heap.size w W) : Below w.heap.size w w8 := h.trans (hb.mono h.size)
theorem wk_res {W w8 : World} {b : Nat} {o : Obj} (hb : Below W.heap.size W w8) (h : W.heap[b]? = some o) : w8.heap[b]? = some o := (hb.block b (t_lt h)).trans h
theorem rowAt_drewN {w : World} {b o d : Nat} {S : Nat → Bool} (h : RowAt w b o d S) (k : Nat) : RowAt (w.drewN k) b o d S := h.below (below_drewN (Below.refl _ _) k)
theorem lt_wds {q m : Nat} (h : q < m) : q / 64 < Br.wds m := by unfold Br.wds; omega
def Ad (g0 o d t : Nat) (Sf : Nat → Bool) (wr w' : World) : Prop := ∃ R, RowAt w' g0 o d R ∧ (∀ q, (R q || decide (q = t)) = (Sf q || decide (q = t))) ∧ Wr g0 o d wr w'
theorem ad_drew {g0 o d t : Nat} {Sf : Nat → Bool} {w5 w : World} (h : Ad g0 o d t Sf w5 w) : Hid (Ad g0 o d t Sf w5 w.drew) := by
  obtain ⟨R, h1, h2, h3⟩ := h
  exact (⟨R, h1, h2, h3.drew⟩ : Ad g0 o d t Sf w5 w.drew)
theorem ad_up {g0 o d t : Nat} {Sf : Nat → Bool} {w5 wa wb : World} {b0 b1 b2 b3 o0 o1 o2 o3 : Nat} {v0 v1 v2 v3 : Value} (hx : RowAt wb g0 o d fun q => Sf q || decide (q = t)) (hw : Wr g0 o d wa wb) (h5 : Wr g0 o d w5 wb) (n0 : g0 ≠ b0) (n1 : g0 ≠ b1) (n2 : g0 ≠ b2) (n3 : g0 ≠ b3)
    (h : (wa.cell? ⟨b0, o0, none⟩ = some v0 ∧ wa.cell? ⟨b1, o1, none⟩ = some v1 ∧ wa.cell? ⟨b2, o2, none⟩ = some v2 ∧ wa.cell? ⟨b3, o3, none⟩ = some v3) ∧ Hid (Ad g0 o d t Sf w5 wa)) :
    (wb.cell? ⟨b0, o0, none⟩ = some v0 ∧ wb.cell? ⟨b1, o1, none⟩ = some v1 ∧ wb.cell? ⟨b2, o2, none⟩ = some v2 ∧ wb.cell? ⟨b3, o3, none⟩ = some v3) ∧ Hid (Ad g0 o d t Sf w5 wb) :=
  ⟨⟨cell_kept9 hw.kp h.1.1 fun e => n0 e.symm, cell_kept9 hw.kp h.1.2.1 fun e => n1 e.symm, cell_kept9 hw.kp h.1.2.2.1 fun e => n2 e.symm, cell_kept9 hw.kp h.1.2.2.2 fun e => n3 e.symm⟩, (⟨_, hx, fun q => by simp, h5⟩ : Ad g0 o d t Sf w5 wb)⟩
theorem ad_h {g0 o d t : Nat} {Sf : Nat → Bool} {w5 w : World} {P : Prop} (h : P ∧ Hid (Ad g0 o d t Sf w5 w)) : Ad g0 o d t Sf w5 w := h.2.out
set_option maxRecDepth 100000 in
set_option maxHeartbeats 2000000 in
theorem sil1_any (g0 g1 n d p v k1 k2 : Nat) (Sp : Nat → Bool) (w : World) (hd : d ≤ 10000) (hp : p < n) (hv : v / 64 < d) (c1 : w.cell? ⟨k1, 0, none⟩ = some (.slice (some ⟨g1, 0, none⟩) n n)) (c2 : w.cell? ⟨k2, 0, none⟩ = some (.int .i64 v)) (c3 : w.cell? ⟨g1, p, none⟩ = some (.slice (some ⟨g0, p * d, none⟩) d d)) (hR : RowAt w g0 (p * d) d Sp) :
    Calls Tryz.prog 101 #[.int .i64 p, .pointer (some ⟨k1, 0, none⟩), .pointer (some ⟨k2, 0, none⟩)] w fun r w' => r = .returned (.bool (Sp v)) ∧ Below w.heap.size w w' := by
  have hH := fun k => hasRow_any g0 (p * d) d d v Sp (w.drewN k) hd hv (rowAt_drewN hR k)
  unfold rowV at hH
  have HH : Hid _ := And.intro hH trivial
  have q0 : (0 : Int) ≤ (p : Int) := by omega
  have q1 : (p : Int) < (n : Int) := by omega
  clear hH hR
  go_enter Tryz.func101, Tryz.ntmps101
  go_upto_region 1 with fail
  go_quiet ((go_at_call 102; exact (HH.out.1 _).mono fun _ _ ⟨he, hw⟩ => ⟨he, _, hw⟩))
  go_wp2_with fail
  go_ret
  exact ⟨rfl, below_drewN (Below.refl _ _) _⟩
theorem tau_step {es : List Sy.Ed} {j : Nat} {e : Sy.Ed} (he : es[j]? = some e) (p q : Nat) : Wk.tau (es.take (j + 1)) p q = (Wk.tau (es.take j) p q || (e.2.1 == 0 && (e.1 == (p : Int) && e.2.2 == (q : Int)))) := by
  unfold Wk.tau
  rw [List.take_add_one, he]
  simp [List.any_append]
def s0 (es : List Sy.Ed) (j : Nat) : Nat → Nat → Bool := fun p q => p == q || Wk.tau (es.take j) p q
set_option maxRecDepth 100000 in
set_option maxHeartbeats 16000000 in
theorem silentOf_ok (m kk : Nat) (s : Int) (v : Value) (es : List Sy.Ed) (a : Addr) (w : World) (hA : Sent w 11 a) (hv : BEdges.Has w v es) (hq : Sy.right m kk s es = true) (hn : m ≤ 300) :
    Calls Tryz.prog 33 #[sysV m kk s v] w fun r w' => ∃ g0 g1, r = .returned (.tuple #[.slice (some ⟨g1, 0, none⟩) m m, .nilIface]) ∧ Rws w' w.heap.size g1 m (Br.wds m) (rl g0 (Br.wds m)) (Wk.sil es m) ∧ (w.heap.size ≤ g0 ∧ g0 < w'.heap.size) ∧ Below w.heap.size w w' := by
  have hv0 := hv
  obtain ⟨ao, cap, rfl, _⟩ := hv0
  have hI := Wk.in_right hq
  obtain ⟨L, hL⟩ : ∃ L, L = es.length := ⟨_, rfl⟩
  obtain ⟨w1, hw1⟩ : ∃ w1, w1 = w.alloc (.cells #[.int .i64 m, .int .i64 kk, .int .i64 s, .slice ao L cap] 24) := ⟨_, rfl⟩
  have hb1 : Below w.heap.size w w1 := by rw [hw1]; exact (Below.refl _ _).alloc (Nat.le_refl _) _
  have hg1 : w1.heap[w.heap.size]? = some (.cells #[.int .i64 m, .int .i64 kk, .int .i64 s, .slice ao L cap] 24 (0, 0)) := by rw [hw1]; exact heap_alloc_new w _
  have hC := check_any m kk s (.slice ao es.length cap) es a w1 (hA.below hb1) (hv.below hb1)
  rw [hq, ← hL] at hC
  obtain ⟨d, hd⟩ : ∃ d, d = Br.wds m := ⟨_, rfl⟩
  have hSv := fun W => several_any m m (by omega) (by omega) (by omega) W
  have hlen : L ≤ 10000 := by rw [hL]; unfold Sy.right at hq; simp only [Bool.and_eq_true, decide_eq_true_eq] at hq; exact hq.1.1.2.2.2.2
  have hvL := hv.below hb1
  rw [← hd] at hSv ⊢
  rw [← hL] at hvL ⊢
  unfold sysV at hC ⊢
  have hm3 : ¬ (300 : Int) < (m : Int) := by omega
  have hdd : d ≤ 10000 := by rw [hd]; unfold Br.wds; omega
  have HD : Hid (d = Br.wds m ∧ L = es.length ∧ m ≤ 300) := ⟨hd, hL, hn⟩
  have H1 : Hid _ := And.intro hw1 (And.intro hb1 (And.intro hg1 (And.intro hC (And.intro hSv (And.intro hvL hI)))))
  obtain ⟨x0, x1, x2, x3⟩ := wk_cells hg1
  clear hA hv hL hw1 hb1 hg1 hC hSv hvL hq hn hd hI
  go_enter Tryz.func33, Tryz.ntmps33
  go_upto_region 1 with fail
  rw [← H1.out.1]
  go_wp2_with fail
  refine Calls.mono H1.out.2.2.2.1 ?_
  rintro r w2 ⟨x, rfl, hx, hb2⟩
  have hx2 : x = .nilIface := hx
  subst hx2
  have H2 : Hid (Below w1.heap.size w1 w2) := hb2
  have hg2 := wk_res hb2 H1.out.2.2.1
  clear hx hb2 x0 x1 x2 x3
  obtain ⟨x0, x1, x2, x3⟩ := wk_cells hg2
  clear hg2
  go_wp2_with fail
  refine Calls.mono (H1.out.2.2.2.2.1 _) ?_
  rintro r w3 ⟨g0, g1, rfl, hgn, hSev⟩
  have hRw := sev_rws hSev
  have hg0 : w2.heap.size ≤ g0 ∧ g0 < w3.heap.size := by
    obtain ⟨cs, hc, _⟩ := hSev.wd
    exact ⟨hSev.u0, t_lt hc⟩
  obtain ⟨w4, hw4⟩ : ∃ w4, w4 = w3.alloc (.cells #[.slice (some ⟨g1, 0, none⟩) m m] 78) := ⟨_, rfl⟩
  have hb4 : Below w3.heap.size w3 w4 := by rw [hw4]; exact (Below.refl _ _).alloc (Nat.le_refl _) _
  have hc4 : w4.cell? ⟨w3.heap.size, 0, none⟩ = some (.slice (some ⟨g1, 0, none⟩) m m) := by rw [hw4]; exact cell0_of (heap_alloc_new w3 _) rfl
  have hb14 : Below w1.heap.size w1 w4 := wk_bel hb4 (wk_bel hSev.bl H2.out)
  have hx3 := (wk_cells (wk_res hb14 H1.out.2.2.1)).2.2.2
  have hz2 : w.heap.size < w2.heap.size := by have := t_lt H1.out.2.2.1; have := H2.out.size; omega
  have H3 : Hid _ := And.intro hb14 (And.intro (hRw.below hb4) (And.intro hgn (And.intro hg0 (And.intro hz2 (And.intro hc4 hx3)))))
  have hfr : ∀ wr, Kept (fun b => b = g0) w4 wr → wr.cell? ⟨w3.heap.size, 0, none⟩ = some (.slice (some ⟨g1, 0, none⟩) m m) ∧ wr.cell? ⟨w.heap.size, 3, none⟩ = some (.slice ao L cap) ∧ Below w1.heap.size w1 wr := fun wr hK => ⟨cell_kept9 hK hc4 (by omega), cell_kept9 hK hx3 (by omega), hb14.trans (hK.below hb14.size fun k hk => by have := H2.out.size; omega)⟩
  have HF : Hid _ := hfr
  have HZ4 : Hid (w3.heap.size ≤ w4.heap.size) := hb4.size
  clear hSev hRw hgn hg0 hb4 hc4 hb14 hx3 hz2 hfr x0 x1 x2 x3
  go_upto_region 7 with fail
  rw [← hw4]
  have HW4 : Hid _ := hw4
  clear hw4
  have y5 := (HF.out w4 (Kept.refl _ _)).1
  go_wp2_with fail
  go_loopg [30] m (fun z iv wr => ∃ i : Nat, z = m - i ∧ i ≤ m ∧ iv = .int .i64 i ∧ Rws wr w2.heap.size g1 m d (rl g0 d) (fun p q => decide (p < i) && p == q) ∧ Kept (fun b => b = g0) w4 wr)
  case atStart => exact ⟨0, rfl, Nat.zero_le _, rfl, H3.out.2.1.congr fun p q _ _ => by simp, Kept.refl _ _⟩
  case round =>
    obtain ⟨i, rfl, hi, rfl, hR, hK⟩ := hrel
    clear y5
    by_cases hlt : i < m
    · have q0 : (0 : Int) ≤ (i : Int) := by omega
      have q1 : (i : Int) < (m : Int) := by omega
      have c0 := hR.lst.cell hlt
      unfold rl Lc.v rowV at c0
      simp only at c0
      have hAd := addRow_any g0 (i * d) d d i (fun q => decide (i < i) && i == q) wr hdd (by rw [HD.out.1]; exact lt_wds hlt) (hR.row i hlt)
      unfold rowV at hAd
      have HA : Hid _ := And.intro hR (And.intro hK hAd)
      clear hR hK hAd
      go_wp2_with fail
      refine Calls.mono HA.out.2.2 ?_
      rintro r w5 ⟨⟨vr, rfl⟩, hx, hw⟩
      have H5 : Hid _ := And.intro hx hw
      clear hx hw
      go_wp2_with fail
      have hmm : m ≤ 300 := HD.out.2.2
      go_roundg (m - (i + 1))
      case measure => omega
      case rel =>
        refine ⟨i + 1, rfl, by omega, by go_num, upm_congr (HA.out.1.put hlt H5.out.2 H5.out.1 fun q hq e => rl_off e) fun p q hp hq => ?_, HA.out.2.1.trans H5.out.2.kp⟩
        by_cases e : p = i
        · subst e
          rw [if_pos rfl]
          by_cases e2 : q = p
          · subst e2; simp
          · simp [e2]; omega
        · rw [if_neg e]
          have : decide (p < i + 1) = decide (p < i) := by simp only [decide_eq_decide]; omega
          rw [this]
    · obtain rfl : m = i := by omega
      have q1 : ¬ (m : Int) < (m : Int) := by omega
      have x3 := (HF.out wr hK).2.1
      have HB : Hid _ := And.intro hR hK
      clear hR hK
      go_wp2_with fail
      go_loopg [42] L (fun z jv wr => ∃ j : Nat, z = L - j ∧ j ≤ L ∧ jv = .int .i64 j ∧ Rws wr w2.heap.size g1 m d (rl g0 d) (s0 es j) ∧ Kept (fun b => b = g0) w4 wr)
      case atStart => exact ⟨0, rfl, Nat.zero_le _, rfl, HB.out.1.congr fun p q hp _ => by simp [s0, Wk.tau, hp], HB.out.2⟩
      case round =>
        obtain ⟨j, rfl, hj, rfl, hR, hK⟩ := hrel
        clear x3
        obtain ⟨wo, rfl⟩ : ∃ wo, wo = wr := ⟨_, rfl⟩
        obtain ⟨y5, _, hbw⟩ := HF.out wo hK
        by_cases hlt : j < L
        · have q0 : (0 : Int) ≤ (j : Int) := by omega
          have q2 : (j : Int) < (L : Int) := by omega
          obtain ⟨z, hz⟩ : ∃ z, es[j]? = some z := ⟨es[j]'(by have := HD.out.2.1; omega), List.getElem?_eq_getElem _⟩
          obtain ⟨a9, rfl, d0, d1, d2⟩ := edge_at (H1.out.2.2.2.2.2.1.below hbw) hz
          obtain ⟨f, l, g⟩ := z
          have hrg := H1.out.2.2.2.2.2.2 _ (List.mem_of_getElem? hz)
          simp only at d0 d1 d2 hrg
          obtain ⟨fn, rfl⟩ : ∃ fn : Nat, f = (fn : Int) := ⟨f.toNat, by omega⟩
          obtain ⟨tn, rfl⟩ : ∃ tn : Nat, g = (tn : Int) := ⟨g.toNat, by omega⟩
          have hfm : fn < m := by omega
          have htm : tn < m := by omega
          have HZ : Hid _ := hz
          clear hz hrg hbw
          by_cases hl : l = 0
          · subst hl
            go_upto_region 15 with fail
            obtain ⟨w5, hw5⟩ : ∃ w5, w5 = wo.alloc (.cells #[.int .i64 fn, .int .i64 0, .int .i64 tn] 70) := ⟨_, rfl⟩
            have hb5 : Below wo.heap.size wo w5 := by rw [hw5]; exact (Below.refl _ _).alloc (Nat.le_refl _) _
            have hg5 : w5.heap[wo.heap.size]? = some (.cells #[.int .i64 fn, .int .i64 0, .int .i64 tn] 70 (0, 0)) := by rw [hw5]; exact heap_alloc_new wo _
            rw [← hw5]
            have z0 : w5.cell? ⟨wo.heap.size, 0, none⟩ = some (.int .i64 fn) := cell0_of hg5 rfl
            have z1 : w5.cell? ⟨wo.heap.size, 1, none⟩ = some (.int .i64 0) := cell0_of hg5 rfl
            have z2 : w5.cell? ⟨wo.heap.size, 2, none⟩ = some (.int .i64 tn) := cell0_of hg5 rfl
            have y6 := cell_up y5 hb5
            have hR5 := hR.below hb5
            have c0 := hR5.lst.cell hfm
            unfold rl Lc.v rowV at c0
            simp only at c0
            have hne : g0 ≠ wo.heap.size ∧ g0 ≠ w3.heap.size ∧ g0 ≠ g1 := ⟨by have := (hR.row fn hfm).lt; unfold rl at this; simp only at this; omega, by have := H3.out.2.2.2.1; omega, H3.out.2.2.1⟩
            have hAd := fun (W : World) (h : Ad g0 (fn * d) d tn (s0 es j fn) w5 W) => (by
              obtain ⟨R, h1, h2, h3⟩ := h
              refine (addRow_any g0 (fn * d) d d tn R W hdd (by rw [HD.out.1]; exact lt_wds htm) h1).mono ?_
              rintro r w' ⟨hr, hx, hw⟩
              exact ⟨hr, (hx.congr fun q _ => h2 q : RowAt w' g0 (fn * d) d fun q => s0 es j fn q || decide (q = tn)), hw, h3.trans hw⟩ : Calls Tryz.prog 99 #[rowV g0 (fn * d) d d, .int .i64 tn] W fun r w' => (∃ v, r = .returned v) ∧ RowAt w' g0 (fn * d) d (fun q => s0 es j fn q || decide (q = tn)) ∧ Wr g0 (fn * d) d W w' ∧ Wr g0 (fn * d) d w5 w')
            unfold rowV at hAd
            have HA : Hid _ := And.intro hR5 (And.intro (hK.trans (Kept.of_below hb5)) (And.intro hAd hne))
            have hAd0 : Ad g0 (fn * d) d tn (s0 es j fn) w5 w5 := ⟨_, hR5.row fn hfm, fun _ => rfl, Wr.refl _ _ _ _⟩
            have HAd0 : Hid _ := hAd0
            clear hR hK hAd hAd0 hR5 hb5 hg5 hw5 hne y5 d0 d1 d2
            go_upto_region 16 with fail
            go_region_held3 (fun w' => (w'.cell? ⟨w3.heap.size, 0, none⟩ = some (.slice (some ⟨g1, 0, none⟩) m m) ∧ w'.cell? ⟨wo.heap.size, 0, none⟩ = some (.int .i64 fn) ∧ w'.cell? ⟨wo.heap.size, 2, none⟩ = some (.int .i64 tn) ∧ w'.cell? ⟨g1, fn, none⟩ = some (.slice (some ⟨g0, fn * d, none⟩) d d)) ∧ Hid (Ad g0 (fn * d) d tn (s0 es j fn) w5 w')) (first | exact ad_up hx6 hw6 h56 HA.out.2.2.2.2.1 HA.out.2.2.2.1 HA.out.2.2.2.1 HA.out.2.2.2.2.2 (by assumption) | exact ⟨⟨y6, z0, z2, c0⟩, ad_drew HAd0.out⟩ | go_keep)
              ((first
                | (go_at_call 99; refine Calls.mono (HA.out.2.2.1 _ (ad_h (by assumption))) ?_; rintro r w6 ⟨⟨vr, rfl⟩, hx6, hw6, h56⟩)
                | fail))
            have H6 : Hid _ := And.intro hx6 h56
            clear hx6 hw6 h56 y6 z0 z1 z2 c0
            rename_i hS3
            clear hS3
            go_wp2_with fail
            go_roundg (L - (j + 1))
            case measure => omega
            case rel =>
              refine ⟨j + 1, rfl, by omega, by go_num, upm_congr (HA.out.1.put hfm H6.out.2 H6.out.1 fun q hq e => rl_off e) fun p q hp hq => ?_, HA.out.2.1.trans H6.out.2.kp⟩
              unfold s0
              rw [tau_step HZ.out]
              by_cases e : p = fn
              · subst e
                rw [if_pos rfl]
                have : ((tn : Int) == (q : Int)) = decide (q = tn) := by
                  by_cases h : q = tn
                  · subst h; simp
                  · simp [h]; omega
                simp [this, Bool.or_assoc]
              · rw [if_neg e]
                have : ((fn : Int) == (p : Int)) = false := by simp; omega
                simp [this]
          · have e1 : (l == 0) = false := by simp [hl]
            have HA : Hid _ := And.intro hR hK
            clear hR hK
            go_wp2_with fail
            go_roundg (L - (j + 1))
            case measure => omega
            case rel =>
              refine ⟨j + 1, rfl, by omega, by go_num, (HA.out.1.below ((Below.refl _ _).alloc (Nat.le_refl _) _)).congr fun p q hp hq => ?_, HA.out.2.trans (Kept.of_below ((Below.refl _ _).alloc (Nat.le_refl _) _))⟩
              unfold s0
              rw [tau_step HZ.out]
              simp [e1]
        · have q2 : ¬ (j : Int) < (L : Int) := by omega
          obtain rfl : j = L := by omega
          have HA : Hid _ := And.intro hR hK
          clear hR hK hbw
          go_wp2_with fail
          go_loopg [60] m (fun z iv wr => ∃ i : Nat, z = m - i ∧ i ≤ m ∧ iv = .int .i64 i ∧ Rws wr w2.heap.size g1 m d (rl g0 d) (Wk.sil es i) ∧ Kept (fun b => b = g0) w4 wr)
          case atStart => exact ⟨0, rfl, Nat.zero_le _, rfl, HA.out.1.congr fun p q _ _ => by unfold s0; rw [HD.out.2.1, List.take_length]; rfl, HA.out.2⟩
          case round =>
            obtain ⟨i, rfl, hi, rfl, hR, hK⟩ := hrel
            clear y5
            obtain ⟨wi, rfl⟩ : ∃ wi, wi = wr := ⟨_, rfl⟩
            obtain ⟨y5, _, hbw⟩ := HF.out wi hK
            by_cases hli : i < m
            · have q3 : (0 : Int) ≤ (i : Int) := by omega
              have q4 : (i : Int) < (m : Int) := by omega
              have c0 := hR.lst.cell hli
              unfold rl Lc.v rowV at c0
              simp only at c0
              obtain ⟨w5, hw5⟩ : ∃ w5, w5 = wi.alloc (.cells #[.int .i64 i] 3) := ⟨_, rfl⟩
              have hb5 : Below wi.heap.size wi w5 := by rw [hw5]; exact (Below.refl _ _).alloc (Nat.le_refl _) _
              have z0 : w5.cell? ⟨wi.heap.size, 0, none⟩ = some (.int .i64 i) := by rw [hw5]; exact cell0_of (heap_alloc_new wi _) rfl
              have y6 := cell_up y5 hb5
              have hR5 := hR.below hb5
              have hg0 : g0 < wi.heap.size := (hR.row i hli).lt
              have hJ := joinS_any g0 g1 m d (Wk.sil es i) g0 (i * d) d (Wk.sil es i i) (fun p => Wk.sil es i p i) w3.heap.size wi.heap.size w2.heap.size w5 hdd (by have := HD.out.2.2; omega) hR5 (hR5.row i hli) (.inr ⟨i, hli, rfl, rfl, rfl⟩) fun p W hp hkW hRp =>
                sil1_any g0 g1 m d p i w3.heap.size wi.heap.size (Wk.sil es i p) W hdd hp (by rw [HD.out.1]; exact lt_wds hli) (cell_kept9 hkW y6 (by have := H3.out.2.2.2.1; omega)) (cell_kept9 hkW z0 (by omega)) (by
                  have c1 := cell_kept9 hkW (hR5.lst.cell hp) (by have := H3.out.2.2.1; omega)
                  exact c1) hRp
              unfold rowV at hJ
              have HJ : Hid _ := And.intro hJ (hK.trans (Kept.of_below hb5))
              have HW5 : Hid _ := hw5
              clear hR hK hR5 hJ hb5 hg0 z0 hbw hw5
              go_upto_region 21 with fail
              rw [← HW5.out]
              go_wp2_with fail
              refine Calls.mono HJ.out.1 ?_
              rintro r w6 ⟨rfl, hx, hk⟩
              have H6 : Hid _ := And.intro hx hk
              clear hx hk y6
              go_wp2_with fail
              have hmm : m ≤ 300 := HD.out.2.2
              go_roundg (m - (i + 1))
              case measure => omega
              case rel => exact ⟨i + 1, rfl, by omega, by go_num, H6.out.1, HJ.out.2.trans H6.out.2⟩
            · have q4 : ¬ (i : Int) < (m : Int) := by omega
              obtain rfl : i = m := by omega
              have HA : Hid _ := And.intro hR (And.intro hbw hK.size)
              clear hR hK hbw
              go_wp2_with fail
              go_ret2
              have hle : w.heap.size ≤ w2.heap.size := by have := H3.out.2.2.2.2.1; omega
              exact ⟨g0, g1, rfl, ⟨HA.out.1.lst, HA.out.1.row, Nat.le_trans hle HA.out.1.ug, fun p hp => Nat.le_trans hle (HA.out.1.ur p hp)⟩, ⟨Nat.le_trans hle H3.out.2.2.2.1.1, by have := H3.out.2.2.2.1.2; have := HZ4.out; have := HA.out.2.2; omega⟩, H1.out.2.1.trans (HA.out.2.1.mono H1.out.2.1.size)⟩
end
end Go.Proofs.YthcpliinddjkhaaGreatDoor
