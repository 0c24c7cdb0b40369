/- Texts of this claim, joined: Tk0, BrPure, WkPop, Copy, Base, SyArr, BrMem, BrOps, BrSev, SmPure, SyPure, SmMem. -/
import Derived.OrdersHeld
import Derived.RowKit
import Derived.Tactics
import GoSem.Claim
import Derived.Laws.Bits64b
import Derived.Lib.TrailingZeros
import Derived.Test.YthcpliinddjkhaaGreatDoorProg
import Derived.WalkKit
import Derived.Maps.AppendAt
import Derived.RowKitTokens
import Derived.WalkSmall
import Derived.ProofKit
import Derived.Maps.OwnSet
import Derived.Maps.Range
import Derived.OneCell
import Derived.DeepKeys4
import Derived.Deep.AppendLies
import Derived.Deep.RegionLaw
import Derived.Deep.RegionHeld3
import Derived.Deep.DrawnRows
import Derived.Deep.DeepCutAuto
import Derived.Deep.LoopGhost
import Derived.Below
import Derived.Laws.MakeOwn
namespace Go.Proofs.YthcpliinddjkhaaGreatDoor
section
/-- An operation that only reads is taken first. -/
theorem tk9 {P : Program} {md : Region.Mode} {ops : Array Oper} {Q : Exit → Act → World → Prop} {S : World → Prop} (i : Nat) {oi : Oper} (v : Value) {fuel : Nat} {listed : Array Bool} {a : Act} {w : World} (hi : ops[i]? = some oi) (hy : ∀ w, S w → (execOp a.eval oi).run P w = .ok (.value v) w)
    (h : wpAnyH P md ops Q S fuel (listed.setIfInBounds i true) (a.put oi.dst v) w)
    (hb : (Region.noSelect ops && (Region.free md ops listed i && (Region.ready md ops listed).contains i)) = true := by kernel_rfl) (hQ : ∀ c a w, Q (.panic c) (a.put oi.dst v) w → Q (.panic c) a w := by exact fun _ _ _ h => h) (hw : Region.wanted oi (yielded ops a.tmps) = true := by rfl) (hS : S w := by assumption) : wpAnyH P md ops Q S (fuel + 1) listed a w := by
  rw [Bool.and_eq_true, Bool.and_eq_true] at hb
  exact wpAnyH_take hi hb.1 hb.2.1 hb.2.2 hQ (Or.inl ⟨hw, hy⟩) hS h
/-- As tk9, what is read found by the walk itself. -/
theorem tk8 {P : Program} {md : Region.Mode} {ops : Array Oper} {Q : Exit → Act → World → Prop} {S : World → Prop} (i : Nat) {oi : Oper} {v : Value} {fuel : Nat} {listed : Array Bool} {a : Act} {w : World} (hi : ops[i]? = some oi)
    (h : wpAnyH P md ops Q S fuel (listed.setIfInBounds i true) (a.put oi.dst v) w)
    (hb : (Region.noSelect ops && (Region.free md ops listed i && (Region.ready md ops listed).contains i)) = true := by kernel_rfl) (hQ : ∀ c a w, Q (.panic c) (a.put oi.dst v) w → Q (.panic c) a w := by exact fun _ _ _ h => h) (hw : Region.wanted oi (yielded ops a.tmps) = true := by rfl) (hS : S w := by assumption)
    (hy : ∀ w, S w → (execOp a.eval oi).run P w = .ok (.value v) w := by intro w hSw; (try dsimp only at hSw); go_simp; (try with_reducible rfl)) : wpAnyH P md ops Q S (fuel + 1) listed a w := tk9 i v hi hy h hb hQ hw hS
theorem ty9 : (∀ {α : Type} {l : List α} {i : Nat} (h : i < l.toArray.size), l.toArray[i] = l[i]'h) ∧ (∀ {α : Type} (a : α) (xs : List α) (i : Nat) (h : i + 1 < (a :: xs).length), (a :: xs)[i + 1] = xs[i]'(Nat.lt_of_succ_lt_succ h)) ∧ (∀ {α : Type} (a : α) (xs : List α) (h : 0 < (a :: xs).length), (a :: xs)[0] = a) ∧ (∀ {α : Type} (l : List α) (i : Nat) (a : α), l.toArray.setIfInBounds i a = (l.set i a).toArray) ∧ (∀ {α : Type} (a : α) (xs : List α) (b : α), (a :: xs).set 0 b = b :: xs) ∧ (∀ {α : Type} (a : α) (xs : List α) (n : Nat) (b : α), (a :: xs).set (n + 1) b = a :: xs.set n b) :=
  ⟨fun h => List.getElem_toArray h, fun _ _ _ h => List.getElem_cons_succ _ _ _ h, fun _ _ _ => rfl, fun l i a => by simp, fun _ _ _ => rfl, fun _ _ _ _ => rfl⟩
end
namespace Br
def wdF (S : Nat -> Bool) (b : Nat) : Nat -> Nat
 | 0 => 0
 | k + 1 => wdF S b k ||| (if S (b + k) then 2 ^ k else 0)
def wd (S : Nat -> Bool) (i : Nat) : Nat := wdF S (64 * i) 64
theorem wdF_bit (S : Nat -> Bool) (b k j : Nat) : (wdF S b k).testBit j = (decide (j < k) && S (b + j)) := by
 induction k with
 | zero => simp [wdF]
 | succ k ih =>
   unfold wdF
   rw [Nat.testBit_or, ih]
   by_cases e : j = k
   ·subst e
    cases h : S (b + j) <;> simp
   ·have h1 : (if S (b + k) then 2 ^ k else 0).testBit j = false := by
     split
     ·rw [Nat.testBit_two_pow]; simp; omega
     ·simp
    rw [h1, Bool.or_false]
    congr 1
    simp only [decide_eq_decide]
    omega
theorem wd_bit (S : Nat -> Bool) (i j : Nat) : (wd S i).testBit j = (decide (j < 64) && S (64 * i + j)) := wdF_bit S _ 64 j
theorem wd_lt (S : Nat -> Bool) (i : Nat) : wd S i < 18446744073709551616 := by
 have h : wd S i < 2 ^ 64 := Nat.lt_pow_two_of_testBit _ fun j hj => by rw [wd_bit]; simp; omega
 exact h
theorem wd_congr {S T : Nat -> Bool} {i : Nat} (h : ∀ q, q / 64 = i -> S q = T q) : wd S i = wd T i := by
 apply Nat.eq_of_testBit_eq
 intro j
 rw [wd_bit, wd_bit]
 by_cases hj : j < 64
 ·rw [h (64 * i + j) (by omega)]
 ·simp [hj]
theorem wd_or (S T : Nat -> Bool) (i : Nat) : wd S i ||| wd T i = wd (fun q => S q || T q) i := by
 apply Nat.eq_of_testBit_eq
 intro j
 rw [Nat.testBit_or, wd_bit, wd_bit, wd_bit]
 cases decide (j < 64) <;> simp
theorem wd_and (S T : Nat -> Bool) (i : Nat) : wd S i &&& wd T i = wd (fun q => S q && T q) i := by
 apply Nat.eq_of_testBit_eq
 intro j
 rw [Nat.testBit_and, wd_bit, wd_bit, wd_bit]
 cases decide (j < 64) <;> simp
theorem wd_zero (S : Nat -> Bool) (i : Nat) : wd S i = 0 ↔ ∀ q, q / 64 = i -> S q = false := by
 constructor
 ·intro h q hq
  have h1 := wd_bit S i (q % 64)
  rw [h] at h1
  have h2 : q % 64 < 64 := Nat.mod_lt _ (by decide)
  have h3 : 64 * i + q % 64 = q := by omega
  rw [h3] at h1
  simpa [h2] using h1.symm
 ·intro h
  apply Nat.eq_of_testBit_eq
  intro j
  rw [wd_bit]
  by_cases hj : j < 64
  ·rw [h (64 * i + j) (by omega)]; simp
  ·simp [hj]
theorem wd_one (S : Nat -> Bool) (n : Nat) : wd S (n / 64) ||| 2 ^ (n % 64) = wd (fun q => S q || decide (q = n)) (n / 64) := by
 apply Nat.eq_of_testBit_eq
 intro j
 rw [Nat.testBit_or, wd_bit, wd_bit, Nat.testBit_two_pow]
 have h2 : n % 64 < 64 := Nat.mod_lt _ (by decide)
 by_cases hj : j < 64
 ·have : decide (64 * (n / 64) + j = n) = decide (n % 64 = j) := by simp only [decide_eq_decide]; omega
  simp only [hj, decide_true, Bool.true_and, this]
 ·have : decide (n % 64 = j) = false := by simp; omega
  simp [hj, this]
theorem wd_has (S : Nat -> Bool) (n : Nat) : wd S (n / 64) / 2 ^ (n % 64) &&& 1 = if S n then 1 else 0 := by
 rw [Nat.and_one_is_mod]
 have h1 := wd_bit S (n / 64) (n % 64)
 have h2 : n % 64 < 64 := Nat.mod_lt _ (by decide)
 have h3 : 64 * (n / 64) + n % 64 = n := by omega
 rw [h3] at h1
 rw [Nat.testBit_eq_decide_div_mod_eq] at h1
 simp only [h2, decide_true, Bool.true_and] at h1
 cases hs : S n with
 | true => rw [hs] at h1; simpa using h1
 | false => rw [hs] at h1; simp at h1; simp; omega
theorem wd_andNot (S T : Nat -> Bool) (i : Nat) : bits .andNot .u64 (wd S i : Int) (wd T i : Int) = ((wd (fun q => S q && !T q) i : Nat) : Int) := by
 have h1 : (BitVec.ofInt 64 (wd S i : Int)).toNat = wd S i := by
  rw [BitVec.ofInt_natCast, BitVec.toNat_ofNat]; exact Nat.mod_eq_of_lt (wd_lt S i)
 have h2 : (BitVec.ofInt 64 (wd T i : Int)).toNat = wd T i := by
  rw [BitVec.ofInt_natCast, BitVec.toNat_ofNat]; exact Nat.mod_eq_of_lt (wd_lt T i)
 show IntKind.u64.wrap ((BitVec.ofInt 64 (wd S i : Int) &&& ~~~BitVec.ofInt 64 (wd T i : Int)).toNat : Int) = _
 have h3 : (BitVec.ofInt 64 (wd S i : Int) &&& ~~~BitVec.ofInt 64 (wd T i : Int)).toNat = wd (fun q => S q && !T q) i := by
  apply Nat.eq_of_testBit_eq
  intro j
  rw [wd_bit]
  rw [BitVec.testBit_toNat, BitVec.getLsbD_and, BitVec.getLsbD_not, <- BitVec.testBit_toNat, <- BitVec.testBit_toNat, h1, h2, wd_bit, wd_bit]
  by_cases hj : j < 64 <;> simp [hj]
 rw [h3]
 have := wd_lt (fun q => S q && !T q) i
 rw [IntKind.wrap_u64]
 omega
theorem b_and (S T : Nat -> Bool) (i : Nat) : bits .and .u64 (wd S i : Int) (wd T i : Int) = ((wd (fun q => S q && T q) i : Nat) : Int) := by
 rw [bits_and_u64_nat _ _ (wd_lt S i) (wd_lt T i), wd_and]
theorem b_or (S T : Nat -> Bool) (i : Nat) : bits .or .u64 (wd S i : Int) (wd T i : Int) = ((wd (fun q => S q || T q) i : Nat) : Int) := by
 rw [bits_or_u64_nat _ _ (wd_lt S i) (wd_lt T i), wd_or]
def frm (S : Nat -> Bool) (k : Nat) : Nat -> Bool := fun q => S q && decide (k <= q)
theorem low_bit {x : Nat} (h0 : x ≠ 0) (h : x < 2 ^ 64) : Lib.ctz 64 x < 64 /\ x.testBit (Lib.ctz 64 x) = true /\ (∀ j, j < Lib.ctz 64 x -> x.testBit j = false) /\ ∀ j, (x &&& (x - 1)).testBit j = (x.testBit j && decide (j ≠ Lib.ctz 64 x)) := by
 obtain ⟨m, hm, hk⟩ := Lib.ctzFrom_spec 64 x (by omega) h
 have e : Lib.ctz 64 x = Lib.ctzFrom 64 x := by simp [Lib.ctz, h0]
 rw [e]
 obtain ⟨k, hkk⟩ : ∃ k, k = Lib.ctzFrom 64 x := ⟨_, rfl⟩
 rw [<- hkk] at hm hk ⊢
 have hp : 0 < 2 ^ k := Nat.two_pow_pos k
 have hx : ∀ j, x.testBit j = if j < k then false else (2 * m + 1).testBit (j - k) := fun j => by
  have := Nat.testBit_two_pow_mul_add (2 * m + 1) hp j
  rw [Nat.add_zero, <- hm] at this
  rw [this]
  simp
 have hx1 : x - 1 = 2 ^ k * (2 * m) + (2 ^ k - 1) := by rw [hm, Nat.mul_add]; omega
 have hy : ∀ j, (x - 1).testBit j = if j < k then (2 ^ k - 1).testBit j else (2 * m).testBit (j - k) := fun j => by
  rw [hx1]
  exact Nat.testBit_two_pow_mul_add (2 * m) (Nat.sub_lt hp (by decide)) j
 refine ⟨hk, ?_, fun j hj => ?_, fun j => ?_⟩
 ·rw [hx, if_neg (by omega), Nat.sub_self]; simp
 ·rw [hx, if_pos hj]
 ·rw [Nat.testBit_and, hx, hy]
  by_cases h1 : j < k
  ·simp [h1]
  ·by_cases h2 : j = k
   ·subst h2; simp
   ·rw [if_neg h1, if_neg h1]
    obtain ⟨d, hd⟩ : ∃ d, j - k = d + 1 := ⟨j - k - 1, by omega⟩
    rw [hd, Nat.testBit_succ, Nat.testBit_succ, show (2 * m + 1) / 2 = m by omega, show 2 * m / 2 = m by omega]
    simp [h2]
theorem wd_low {S : Nat -> Bool} {i k : Nat} (h0 : wd (frm S k) i ≠ 0) : ∃ q, q = 64 * i + Lib.ctz 64 (wd (frm S k) i) /\ q < 64 * (i + 1) /\ k <= q /\ S q = true /\ (∀ z, z / 64 = i -> k <= z -> z < q -> S z = false) /\ wd (frm S k) i &&& (wd (frm S k) i - 1) = wd (frm S (q + 1)) i := by
 obtain ⟨h1, h2, h3, h4⟩ := low_bit h0 (wd_lt _ i)
 obtain ⟨c, hc⟩ : ∃ c, c = Lib.ctz 64 (wd (frm S k) i) := ⟨_, rfl⟩
 rw [<- hc] at h1 h2 h3 h4 ⊢
 rw [wd_bit] at h2
 unfold frm at h2
 simp only [h1, decide_true, Bool.true_and, Bool.and_eq_true, decide_eq_true_eq] at h2
 refine ⟨_, rfl, (by omega), h2.2, h2.1, fun z hz hkz hzq => ?_, ?_⟩
 ·have h5 := h3 (z - 64 * i) (by omega)
  rw [wd_bit] at h5
  unfold frm at h5
  rw [show 64 * i + (z - 64 * i) = z by omega] at h5
  simp only [show z - 64 * i < 64 by omega, decide_true, Bool.true_and, hkz, Bool.and_true] at h5
  exact h5
 ·apply Nat.eq_of_testBit_eq
  intro j
  rw [h4, wd_bit, wd_bit]
  by_cases hj : j < 64
  ·simp only [hj, decide_true, Bool.true_and]
   unfold frm
   rcases Nat.lt_trichotomy j c with h5 | h5 | h5
   ·have h6 := h3 j h5
    rw [wd_bit] at h6
    simp only [hj, decide_true, Bool.true_and] at h6
    unfold frm at h6
    rw [h6]
    have : decide (64 * i + c + 1 <= 64 * i + j) = false := by simp; omega
    rw [this]; simp
   ·subst h5
    have : decide (64 * i + j + 1 <= 64 * i + j) = false := by simp
    rw [this]; simp
   ·have e1 : decide (64 * i + c + 1 <= 64 * i + j) = true := by simp; omega
    have e2 : decide (k <= 64 * i + j) = true := by simp; omega
    have e3 : decide (j ≠ c) = true := by simp; omega
    rw [e1, e2, e3]; simp
  ·simp [hj]
def els (S : Nat -> Bool) (N : Nat) : List Nat := (List.range N).filter S
theorem els_skip {S : Nat -> Bool} {k : Nat} : ∀ {N : Nat}, k <= N -> (∀ z, k <= z -> z < N -> S z = false) -> els S N = els S k
 | 0, h, _ => by rw [show k = 0 by omega]
 | N + 1, h, hz => by
   by_cases e : k = N + 1
   ·rw [e]
   ·have ih := els_skip (S := S) (k := k) (N := N) (by omega) fun z h1 h2 => hz z h1 (by omega)
    unfold els at ih ⊢
    rw [List.range_succ, List.filter_append, ih]
    simp [hz N (by omega) (by omega)]
theorem els_next {S : Nat -> Bool} {k q : Nat} (hk : k <= q) (hz : ∀ z, k <= z -> z < q -> S z = false) (hq : S q = true) : els S (q + 1) = els S k ++ [q] := by
 rw [<- els_skip hk hz]
 unfold els
 rw [List.range_succ, List.filter_append]
 simp [hq]
theorem els_mem {S : Nat -> Bool} {N q : Nat} : q ∈ els S N ↔ q < N /\ S q = true := by unfold els; rw [List.mem_filter, List.mem_range]
end Br
namespace Pop
def pc (x : Nat) : Nat -> Nat
 | 0 => 0
 | k + 1 => pc x k + (if x.testBit k then 1 else 0)
theorem bit_lo {c v j : Nat} (hc : c < 256) (hj : j < 8) : (c + 256 * v).testBit j = c.testBit j := by
 rw [Nat.add_comm, show (256 : Nat) = 2 ^ 8 from rfl, Nat.testBit_two_pow_mul_add v hc j, if_pos hj]
theorem bit_hi {c v j : Nat} (hc : c < 256) : (c + 256 * v).testBit (8 + j) = v.testBit j := by
 rw [Nat.add_comm c, show (256 : Nat) = 2 ^ 8 from rfl, Nat.testBit_two_pow_mul_add v hc (8 + j), if_neg (by omega), Nat.add_sub_cancel_left]
theorem pc_lo {c v : Nat} (hc : c < 256) : ∀ k, k <= 8 -> pc (c + 256 * v) k = pc c k
 | 0, _ => rfl
 | k + 1, h => by
   show pc (c + 256 * v) k + _ = pc c k + _
   rw [pc_lo hc k (by omega), bit_lo hc (by omega)]
theorem pc_byte {c v : Nat} (hc : c < 256) : ∀ k, pc (c + 256 * v) (8 + k) = pc c 8 + pc v k
 | 0 => pc_lo hc 8 (Nat.le_refl _)
 | k + 1 => by
   show pc (c + 256 * v) (8 + k) + (if (c + 256 * v).testBit (8 + k) then 1 else 0) = pc c 8 + (pc v k + _)
   rw [pc_byte hc k, bit_hi hc, Nat.add_assoc]
theorem and_byte {c d a b : Nat} (hc : c < 256) (hd : d < 256) : (c + 256 * a) &&& (d + 256 * b) = (c &&& d) + 256 * (a &&& b) := by
 have hcd : c &&& d < 256 := Nat.lt_of_le_of_lt Nat.and_le_left hc
 refine Nat.eq_of_testBit_eq fun i => ?_
 rw [Nat.testBit_and]
 by_cases hi : i < 8
 ·rw [bit_lo hc hi, bit_lo hd hi, bit_lo hcd hi, Nat.testBit_and]
 ·obtain ⟨j, rfl⟩ : ∃ j, i = 8 + j := ⟨i - 8, by omega⟩
  rw [bit_hi hc, bit_hi hd, bit_hi hcd, Nat.testBit_and]
def M (u : Nat) : Nat -> Nat
 | 0 => 0
 | n + 1 => u + 256 * M u n
def val : List Nat -> Nat
 | [] => 0
 | c :: r => c + 256 * val r
def b1 (c : Nat) : Nat := (c / 2 &&& 85) + (c &&& 85)
def b2 (c : Nat) : Nat := (c / 4 &&& 51) + (c &&& 51)
def b3 (c : Nat) : Nat := c / 16 + c % 16
theorem d1 : ∀ c, c < 256 -> ∀ b, b < 2 -> (c / 2 + 128 * b) &&& 85 = c / 2 &&& 85 := by decide +kernel
theorem d2 : ∀ c, c < 256 -> ∀ b, b < 4 -> (c / 4 + 64 * b) &&& 51 = c / 4 &&& 51 := by decide +kernel
theorem d3 : ∀ c, c < 256 -> b1 c < 256 /\ b2 (b1 c) < 256 /\ b2 (b1 c) / 16 <= 4 /\ b2 (b1 c) % 16 <= 4 /\ b3 (b2 (b1 c)) = pc c 8 := by decide +kernel
theorem d4 : ∀ c, c < 256 -> pc c 8 <= 8 := by decide +kernel
theorem f1_val : ∀ l : List Nat, (∀ c ∈ l, c < 256) -> (val l / 2 &&& M 85 l.length) + (val l &&& M 85 l.length) = val (l.map b1)
 | [], _ => rfl
 | c :: r, h => by
   have hc := h c List.mem_cons_self
   have ih := f1_val r fun x hx => h x (List.mem_cons_of_mem _ hx)
   show ((c + 256 * val r) / 2 &&& (85 + 256 * M 85 r.length)) + ((c + 256 * val r) &&& (85 + 256 * M 85 r.length)) = b1 c + 256 * val (r.map b1)
   rw [show (c + 256 * val r) / 2 = (c / 2 + 128 * (val r % 2)) + 256 * (val r / 2) by omega, and_byte (by omega) (by decide), and_byte hc (by decide), d1 c hc _ (Nat.mod_lt _ (by decide)), <- ih]
   unfold b1
   omega
theorem f2_val : ∀ l : List Nat, (∀ c ∈ l, c < 256) -> (val l / 4 &&& M 51 l.length) + (val l &&& M 51 l.length) = val (l.map b2)
 | [], _ => rfl
 | c :: r, h => by
   have hc := h c List.mem_cons_self
   have ih := f2_val r fun x hx => h x (List.mem_cons_of_mem _ hx)
   show ((c + 256 * val r) / 4 &&& (51 + 256 * M 51 r.length)) + ((c + 256 * val r) &&& (51 + 256 * M 51 r.length)) = b2 c + 256 * val (r.map b2)
   rw [show (c + 256 * val r) / 4 = (c / 4 + 64 * (val r % 4)) + 256 * (val r / 4) by omega, and_byte (by omega) (by decide), and_byte hc (by decide), d2 c hc _ (Nat.mod_lt _ (by decide)), <- ih]
   unfold b2
   omega
theorem val_nib : ∀ l : List Nat, (∀ c ∈ l, c % 16 <= 4) -> val l % 16 <= 4
 | [], _ => by decide
 | c :: r, h => by
   show (c + 256 * val r) % 16 <= 4
   have := h c List.mem_cons_self
   omega
theorem f3_val : ∀ l : List Nat, (∀ c ∈ l, c < 256 /\ c / 16 <= 4 /\ c % 16 <= 4) -> (val l / 16 + val l) &&& M 15 l.length = val (l.map b3)
 | [], _ => rfl
 | c :: r, h => by
   have hc := h c List.mem_cons_self
   have ih := f3_val r fun x hx => h x (List.mem_cons_of_mem _ hx)
   have hv := val_nib r fun x hx => (h x (List.mem_cons_of_mem _ hx)).2.2
   show ((c + 256 * val r) / 16 + (c + 256 * val r)) &&& (15 + 256 * M 15 r.length) = b3 c + 256 * val (r.map b3)
   rw [show (c + 256 * val r) / 16 + (c + 256 * val r) = (c / 16 + 16 * (val r % 16) + c) + 256 * (val r / 16 + val r) by omega, and_byte (by omega) (by decide), ih, show (15 : Nat) = 2 ^ 4 - 1 from rfl, Nat.and_two_pow_sub_one_eq_mod]
   unfold b3
   omega
theorem bytes8 {x : Nat} (h : x < 18446744073709551616) : x = val [x % 256, x / 256 % 256, x / 65536 % 256, x / 16777216 % 256, x / 4294967296 % 256, x / 1099511627776 % 256, x / 281474976710656 % 256, x / 72057594037927936] := by
 simp only [val]
 omega
theorem pc_val : ∀ (l : List Nat), (∀ c ∈ l, c < 256) -> pc (val l) (8 * l.length) = (l.map fun c => pc c 8).sum
 | [], _ => rfl
 | c :: r, h => by
   rw [show 8 * (c :: r).length = 8 + 8 * r.length by simp [Nat.mul_add, Nat.add_comm]]
   show pc (c + 256 * val r) _ = _
   rw [pc_byte (h c List.mem_cons_self), pc_val r fun x hx => h x (List.mem_cons_of_mem _ hx), List.map_cons, List.sum_cons]
def s1 (x : Nat) : Nat := (x / 2 &&& 6148914691236517205) + (x &&& 6148914691236517205)
def s2 (x : Nat) : Nat := (x / 4 &&& 3689348814741910323) + (x &&& 3689348814741910323)
def s3 (x : Nat) : Nat := (x / 16 + x) &&& 1085102592571150095
theorem sums {x : Nat} (h : x < 18446744073709551616) : ∃ l : List Nat, l.length = 8 /\ (∀ c ∈ l, c < 256) /\ x = val l /\ s1 x = val (l.map b1) /\ s2 (s1 x) = val ((l.map b1).map b2) /\ s3 (s2 (s1 x)) = val (l.map fun c => pc c 8) := by
 obtain ⟨l, hl⟩ : ∃ l, l = [x % 256, x / 256 % 256, x / 65536 % 256, x / 16777216 % 256, x / 4294967296 % 256, x / 1099511627776 % 256, x / 281474976710656 % 256, x / 72057594037927936] := ⟨_, rfl⟩
 have hx : x = val l := by rw [hl]; exact bytes8 h
 have h8 : l.length = 8 := by rw [hl]; rfl
 have hc : ∀ c ∈ l, c < 256 := fun c hc => by
  rw [hl] at hc
  simp only [List.mem_cons, List.not_mem_nil, or_false] at hc
  omega
 have e1 : s1 x = val (l.map b1) := by
  have := f1_val l hc
  rw [h8, <- hx] at this
  exact this
 have hc1 : ∀ c ∈ l.map b1, c < 256 := fun c hm => by
  obtain ⟨d, hd, rfl⟩ := List.mem_map.1 hm
  exact (d3 d (hc d hd)).1
 have e2 : s2 (s1 x) = val ((l.map b1).map b2) := by
  have := f2_val (l.map b1) hc1
  rw [List.length_map, h8, <- e1] at this
  exact this
 have hc2 : ∀ c ∈ (l.map b1).map b2, c < 256 /\ c / 16 <= 4 /\ c % 16 <= 4 := fun c hm => by
  rw [List.map_map] at hm
  obtain ⟨d, hd, rfl⟩ := List.mem_map.1 hm
  have := d3 d (hc d hd)
  exact ⟨this.2.1, this.2.2.1, this.2.2.2.1⟩
 have e3 : s3 (s2 (s1 x)) = val (((l.map b1).map b2).map b3) := by
  have := f3_val ((l.map b1).map b2) hc2
  rw [List.length_map, List.length_map, h8, <- e2] at this
  exact this
 refine ⟨l, h8, hc, hx, e1, e2, ?_⟩
 rw [e3, List.map_map, List.map_map]
 congr 1
 exact List.map_congr_left fun c hm => (d3 c (hc c hm)).2.2.2.2
theorem div1 {c v : Nat} (h : c < 256) : (c + 256 * v) / 256 = v := by omega
theorem div2 {c d v : Nat} (h : c < 256) (h2 : d < 256) : (c + 256 * (d + 256 * v)) / 65536 = v := by omega
theorem div4 {a b c d v : Nat} (h1 : a < 256) (h2 : b < 256) (h3 : c < 256) (h4 : d < 256) : (a + 256 * (b + 256 * (c + 256 * (d + 256 * v)))) / 4294967296 = v := by omega
theorem val_le : ∀ (l : List Nat) (k : Nat), (∀ c ∈ l, c <= k) -> val l <= M k l.length
 | [], _, _ => Nat.le_refl _
 | c :: r, k, h => by
   have ih := val_le r k fun x hx => h x (List.mem_cons_of_mem _ hx)
   have hc := h c List.mem_cons_self
   show c + 256 * val r <= k + 256 * M k r.length
   omega
theorem val_add : ∀ l l' : List Nat, l.length = l'.length -> val l + val l' = val (List.zipWith (· + ·) l l')
 | [], [], _ => rfl
 | [], _ :: _, h => by simp at h
 | _ :: _, [], h => by simp at h
 | c :: r, d :: s, h => by
   have ih := val_add r s (by simpa using h)
   show (c + 256 * val r) + (d + 256 * val s) = (c + d) + 256 * val (List.zipWith (· + ·) r s)
   omega
theorem add8 {a b c d e f g h a' b' c' d' e' f' g' h' : Nat} : val [a, b, c, d, e, f, g, h] + val [a', b', c', d', e', f', g', h'] = val [a + a', b + b', c + c', d + d', e + e', f + f', g + g', h + h'] := val_add _ _ rfl
theorem bnd8 {a b c d e f g h k : Nat} (h0 : a <= k) (h1 : b <= k) (h2 : c <= k) (h3 : d <= k) (h4 : e <= k) (h5 : f <= k) (h6 : g <= k) (h7 : h <= k) : val [a, b, c, d, e, f, g, h] <= M k 8 := val_le _ k fun x hx => by
 simp only [List.mem_cons, List.not_mem_nil, or_false] at hx
 rcases hx with rfl | rfl | rfl | rfl | rfl | rfl | rfl | rfl <;> assumption
theorem fold_q (q0 q1 q2 q3 q4 q5 q6 q7 : Nat) (p0 : q0 <= 8) (p1 : q1 <= 8) (p2 : q2 <= 8) (p3 : q3 <= 8) (p4 : q4 <= 8) (p5 : q5 <= 8) (p6 : q6 <= 8) (p7 : q7 <= 8) : ∃ y z1 z2 z3, y = val [q0, q1, q2, q3, q4, q5, q6, q7] /\ z1 = y + y / 256 /\ z2 = z1 + z1 / 65536 /\ z3 = z2 + z2 / 4294967296 /\ z1 < 9223372036854775808 /\ z2 < 9223372036854775808 /\ z3 < 9223372036854775808 /\ z3 % 128 = q0 + (q1 + (q2 + (q3 + (q4 + (q5 + (q6 + q7)))))) := by
 have e1 : val [q0, q1, q2, q3, q4, q5, q6, q7] / 256 = val [q1, q2, q3, q4, q5, q6, q7, 0] := div1 (by omega)
 have f1 : val [q0, q1, q2, q3, q4, q5, q6, q7] + val [q0, q1, q2, q3, q4, q5, q6, q7] / 256 = val [q0 + q1, q1 + q2, q2 + q3, q3 + q4, q4 + q5, q5 + q6, q6 + q7, q7 + 0] := by rw [e1, add8]
 have e2 : val [q0 + q1, q1 + q2, q2 + q3, q3 + q4, q4 + q5, q5 + q6, q6 + q7, q7 + 0] / 65536 = val [q2 + q3, q3 + q4, q4 + q5, q5 + q6, q6 + q7, q7 + 0, 0, 0] := div2 (by omega) (by omega)
 have f2 : val [q0 + q1, q1 + q2, q2 + q3, q3 + q4, q4 + q5, q5 + q6, q6 + q7, q7 + 0] + val [q0 + q1, q1 + q2, q2 + q3, q3 + q4, q4 + q5, q5 + q6, q6 + q7, q7 + 0] / 65536 = val [q0 + q1 + (q2 + q3), q1 + q2 + (q3 + q4), q2 + q3 + (q4 + q5), q3 + q4 + (q5 + q6), q4 + q5 + (q6 + q7), q5 + q6 + (q7 + 0), q6 + q7 + 0, q7 + 0 + 0] := by rw [e2, add8]
 have e3 : val [q0 + q1 + (q2 + q3), q1 + q2 + (q3 + q4), q2 + q3 + (q4 + q5), q3 + q4 + (q5 + q6), q4 + q5 + (q6 + q7), q5 + q6 + (q7 + 0), q6 + q7 + 0, q7 + 0 + 0] / 4294967296 = val [q4 + q5 + (q6 + q7), q5 + q6 + (q7 + 0), q6 + q7 + 0, q7 + 0 + 0, 0, 0, 0, 0] := div4 (by omega) (by omega) (by omega) (by omega)
 have f3 : val [q0 + q1 + (q2 + q3), q1 + q2 + (q3 + q4), q2 + q3 + (q4 + q5), q3 + q4 + (q5 + q6), q4 + q5 + (q6 + q7), q5 + q6 + (q7 + 0), q6 + q7 + 0, q7 + 0 + 0] + val [q0 + q1 + (q2 + q3), q1 + q2 + (q3 + q4), q2 + q3 + (q4 + q5), q3 + q4 + (q5 + q6), q4 + q5 + (q6 + q7), q5 + q6 + (q7 + 0), q6 + q7 + 0, q7 + 0 + 0] / 4294967296 = val [q0 + q1 + (q2 + q3) + (q4 + q5 + (q6 + q7)), q1 + q2 + (q3 + q4) + (q5 + q6 + (q7 + 0)), q2 + q3 + (q4 + q5) + (q6 + q7 + 0), q3 + q4 + (q5 + q6) + (q7 + 0 + 0), q4 + q5 + (q6 + q7) + 0, q5 + q6 + (q7 + 0) + 0, q6 + q7 + 0 + 0, q7 + 0 + 0 + 0] := by rw [e3, add8]
 refine ⟨_, _, _, _, rfl, f1.symm, f2.symm, f3.symm, ?_, ?_, ?_, ?_⟩
 ·exact Nat.lt_of_le_of_lt (bnd8 (k := 16) (by omega) (by omega) (by omega) (by omega) (by omega) (by omega) (by omega) (by omega)) (by decide)
 ·exact Nat.lt_of_le_of_lt (bnd8 (k := 32) (by omega) (by omega) (by omega) (by omega) (by omega) (by omega) (by omega) (by omega)) (by decide)
 ·exact Nat.lt_of_le_of_lt (bnd8 (k := 64) (by omega) (by omega) (by omega) (by omega) (by omega) (by omega) (by omega) (by omega)) (by decide)
 ·rw [val]
  generalize val _ = R
  omega
theorem fold8 {x : Nat} (h : x < 18446744073709551616) : ∃ y z1 z2 z3, y = s3 (s2 (s1 x)) /\ s1 x < 18446744073709551616 /\ s2 (s1 x) < 9223372036854775808 /\ z1 = y + y / 256 /\ z2 = z1 + z1 / 65536 /\ z3 = z2 + z2 / 4294967296 /\ z1 < 9223372036854775808 /\ z2 < 9223372036854775808 /\ z3 < 9223372036854775808 /\ z3 % 128 = pc x 64 := by
 obtain ⟨l, h8, hc, hx, e1, e2, e3⟩ := sums h
 have hp := pc_val l hc
 rw [h8, <- hx] at hp
 have a1 : s1 x < 18446744073709551616 := by
  rw [e1]
  refine Nat.lt_of_le_of_lt (val_le (l.map b1) 255 fun c hm => ?_) (by rw [List.length_map, h8]; decide)
  obtain ⟨d, hd, rfl⟩ := List.mem_map.1 hm
  have := (d3 d (hc d hd)).1
  omega
 have a2 : s2 (s1 x) < 9223372036854775808 := by
  rw [e2]
  refine Nat.lt_of_le_of_lt (val_le ((l.map b1).map b2) 100 fun c hm => ?_) (by rw [List.length_map, List.length_map, h8]; decide)
  rw [List.map_map] at hm
  obtain ⟨d, hd, rfl⟩ := List.mem_map.1 hm
  have := d3 d (hc d hd)
  show b2 (b1 d) <= 100
  omega
 have h4 : ∀ c ∈ l, pc c 8 <= 8 := fun c hm => d4 c (hc c hm)
 clear e1 e2 hc hx
 match l, h8, h4, e3, hp with
 | [c0, c1, c2, c3, c4, c5, c6, c7], _, h4, e3, hp =>
   obtain ⟨y, z1, z2, z3, b1, b2, b3, b4, b5, b6, b7, b8⟩ := fold_q (pc c0 8) (pc c1 8) (pc c2 8) (pc c3 8) (pc c4 8) (pc c5 8) (pc c6 8) (pc c7 8) (h4 c0 (by simp)) (h4 c1 (by simp)) (h4 c2 (by simp)) (h4 c3 (by simp)) (h4 c4 (by simp)) (h4 c5 (by simp)) (h4 c6 (by simp)) (h4 c7 (by simp))
   refine ⟨y, z1, z2, z3, b1.trans e3.symm, a1, a2, b2, b3, b4, b5, b6, b7, ?_⟩
   simp only [List.map_cons, List.map_nil, List.sum_cons, List.sum_nil, Nat.add_zero] at hp
   exact b8.trans hp.symm
end Pop
section
open Go.RowKit
end
section
open Go.RowKit Go.Maps
theorem t_lt {w : World} {b : Nat} {o : Obj} (h : w.heap[b]? = some o) : b < w.heap.size := (Array.getElem?_eq_some_iff.1 h).1
theorem cell_up {w W : World} {b o : Nat} {v : Value} (hc : w.cell? ⟨b, o, none⟩ = some v) (hb : Below w.heap.size w W) : W.cell? ⟨b, o, none⟩ = some v := (hb.cell (World.block_lt_of_cell? w _ hc)).trans hc
theorem blk_free {w : World} {b : Nat} {cs : Array Value} {t : TypeId} (h : w.heap[b]? = some (.cells cs t (0, 0))) (k : Nat) : w.frozen? ⟨b, k, none⟩ = false := by simp [World.frozen?, h]
theorem cell0_of {w : World} {b : Nat} {cs : Array Value} {ty : TypeId} {v : Value} {k : Nat} (h : w.heap[b]? = some (.cells cs ty (0, 0))) (h0 : cs[k]? = some v) : w.cell? ⟨b, k, none⟩ = some v := by simp [World.cell?, h, h0]
theorem addz (g i : Nat) : (⟨g, 0, none⟩ : Addr).add i = ⟨g, i, none⟩ := by unfold Addr.add; split <;> simp_all
theorem set_other (w : World) (b o i : Nat) (u : Value) (h : i ≠ b) : (w.setCell ⟨b, o, none⟩ u).heap[i]? = w.heap[i]? := by
 simp only [World.setCell]
 rw [Array.getElem?_modify, if_neg (fun e => h e.symm)]
theorem row_shape {w : World} {base : Nat} {e : TypeId} {size : Nat} {v : Value} {n : Nat} {xs : List Value} (h : w.ownsRow base e size v n xs) : ∃ ao cap, v = .slice ao n cap := by
 rcases h.2 with ⟨rfl, h0⟩ | ⟨g, cap, cur, rfl, _⟩
 ·exact ⟨none, 0, by rw [h0]⟩
 ·exact ⟨_, _, rfl⟩
theorem trow_at {w w' : World} {base : Nat} {e : TypeId} {size : Nat} {v : Value} {n : Nat} {xs : List Value} (h : w.ownsRow base e size v n xs) (hb : ∀ i, v.ownBlock = some i -> w'.heap[i]? = w.heap[i]?) : w'.ownsRow base e size v n xs := by
 refine ⟨h.1, ?_⟩
 rcases h.2 with h2 | ⟨g, cap, cur, rfl, h3, hg, h4⟩
 ·exact .inl h2
 ·exact .inr ⟨g, cap, cur, rfl, h3, by rw [hb g rfl]; exact hg, h4⟩
theorem row_base {w : World} {base base' : Nat} {e : TypeId} {size : Nat} {v : Value} {n : Nat} {xs : List Value} (h : w.ownsRow base e size v n xs) (hb : base' <= base) : w.ownsRow base' e size v n xs := by
 refine ⟨h.1, ?_⟩
 rcases h.2 with h2 | ⟨g, cap, cur, rfl, h3, hg, h4⟩
 ·exact .inl h2
 ·exact .inr ⟨g, cap, cur, rfl, by omega, hg, h4⟩
theorem row_cells {w : World} {base : Nat} {e : TypeId} {size : Nat} {v : Value} {n : Nat} {xs : List Value} (h : w.ownsRow base e size v n xs) {i : Nat} (hi : v.ownBlock = some i) : ∃ c, w.heap[i]? = some (.cells c e (0, 0)) := by
 rcases h.2 with ⟨rfl, _⟩ | ⟨g, cap, cur, rfl, _, hg, _⟩
 ·cases hi
 ·simp only [Value.ownBlock, Option.some.injEq] at hi
  exact ⟨cur, hi ▸ hg⟩
structure Kept (F : Nat -> Prop) (w w' : World) : Prop where
 os : w'.os = w.os
 tape : w'.tape = w.tape
 output : w'.output = w.output
 size : w.heap.size <= w'.heap.size
 block : ∀ k, k < w.heap.size -> ¬ F k -> w'.heap[k]? = w.heap[k]?
theorem Kept.refl (F : Nat -> Prop) (w : World) : Kept F w w := ⟨rfl, rfl, rfl, Nat.le_refl _, fun _ _ _ => rfl⟩
theorem Kept.trans {F : Nat -> Prop} {a b c : World} (h : Kept F a b) (k : Kept F b c) : Kept F a c :=
 ⟨k.os.trans h.os, k.tape.trans h.tape, k.output.trans h.output, Nat.le_trans h.size k.size, fun i hi hf => (k.block i (Nat.lt_of_lt_of_le hi h.size) hf).trans (h.block i hi hf)⟩
theorem Kept.mono {F G : Nat -> Prop} {a b : World} (h : Kept F a b) (hs : ∀ k, k < a.heap.size -> F k -> G k) : Kept G a b := ⟨h.os, h.tape, h.output, h.size, fun i hi hg => h.block i hi fun hf => hg (hs i hi hf)⟩
theorem Kept.of_below {F : Nat -> Prop} {a b : World} (h : Below a.heap.size a b) : Kept F a b := ⟨h.os, h.tape, h.output, h.size, fun i hi _ => h.block i hi⟩
theorem Kept.of_grown {a b : World} {row : Option Nat} (h : a.grownBy b row) : Kept (fun i => row = some i) a b := ⟨h.os, h.tape, h.output, h.size, fun i hi hn => h.block i hi fun e => hn e.symm⟩
theorem Kept.below {F : Nat -> Prop} {a b : World} (h : Kept F a b) {B : Nat} (hB : B <= a.heap.size) (hF : ∀ k, F k -> B <= k) : Below B a b := ⟨h.os, h.tape, h.output, h.size, fun i hi => h.block i (by omega) fun hf => by have := hF i hf; omega⟩
theorem Kept.setCell (a : World) (b o : Nat) (u : Value) : Kept (fun i => i = b) a (a.setCell ⟨b, o, none⟩ u) := by
 have h : Below b a (a.setCell ⟨b, o, none⟩ u) := Below.setCell (Below.refl b a) (Nat.le_refl _) u
 exact ⟨h.os, h.tape, h.output, h.size, fun i _ hn => set_other _ _ _ _ _ hn⟩
theorem Kept.trans2 {F G : Nat -> Prop} {a b c : World} (h : Kept F a b) (k : Kept G b c) (hG : ∀ i, G i -> F i \/ a.heap.size <= i) : Kept F a c :=
 ⟨k.os.trans h.os, k.tape.trans h.tape, k.output.trans h.output, Nat.le_trans h.size k.size, fun i hi hf => (k.block i (Nat.lt_of_lt_of_le hi h.size) fun hg => (hG i hg).elim hf fun h => by omega).trans (h.block i hi hf)⟩
theorem below_of_drew3 {w w1 : World} (h : Below w.drew.heap.size w.drew w1) : Below w.heap.size w w1 := (Below.refl _ w).drew.trans h
def HasI (w : World) (v : Value) (zs : List Int) : Prop := ∃ ao cap, v = .slice ao zs.length cap /\ ∀ (i : Nat) (z : Int), zs[i]? = some z -> ∃ a, ao = some a /\ w.cell? (a.add i) = some (.int .i64 z)
def iC (zs : List Int) : List Value := zs.map (Value.int .i64)
theorem iC_length (zs : List Int) : (iC zs).length = zs.length * 1 := by simp [iC]
theorem iC_one (zs : List Int) : ∀ u ∈ iC zs, u.oneCell' = true := fun u hu => by
 obtain ⟨z, _, rfl⟩ := List.mem_map.1 hu; rfl
def OwnI (w : World) (B : Nat) (v : Value) (zs : List Int) : Prop := w.ownsRow B 3 1 v zs.length (iC zs)
theorem OwnI.has {w : World} {B : Nat} {v : Value} {zs : List Int} (h : OwnI w B v zs) : HasI w v zs := by
 rcases h.2 with ⟨rfl, h0⟩ | ⟨g, cap, cur, rfl, _⟩
 ·obtain rfl : zs = [] := List.eq_nil_of_length_eq_zero h0
  exact ⟨none, 0, rfl, fun i z hi => by simp at hi⟩
 ·refine ⟨_, cap, rfl, fun i z hi => ⟨_, rfl, ?_⟩⟩
  have hlt := (List.getElem?_eq_some_iff.1 hi).1
  rw [addz, h.cellAt i (by omega)]
  simp [iC, hi]
theorem Tryz.infoI3 : (Tryz.prog.info? 3).map (fun i => (i.zero, i.size, i.bytes)) = some (some (.int .i64 0), 1, 8) := by kernel_rfl
theorem OwnI.cell {w : World} {B g cap n : Nat} {zs : List Int} (h : OwnI w B (.slice (some ⟨g, 0, none⟩) n cap) zs) {i : Nat} {z : Int} (hi : zs[i]? = some z) : w.cell? ⟨g, i, none⟩ = some (.int .i64 z) := by
 have hlt := (List.getElem?_eq_some_iff.1 hi).1
 obtain ⟨ao, cap', e, h2⟩ := h.has
 injection e with e1 e2 e3
 obtain ⟨a, ha, hc⟩ := h2 i z hi
 rw [<- e1] at ha
 have := Option.some.inj ha
 rw [<- this, addz] at hc
 exact hc
theorem two_alloc (w : World) (o p : Obj) : ((w.alloc o).alloc p).heap[w.heap.size + 1]? = some p := by
 have h := (MapKept.heap_alloc (w.alloc o) p).1
 simpa using h
theorem take_succ_of {α : Type} {l : List α} {j : Nat} {x : α} (h : l[j]? = some x) : l.take (j + 1) = l.take j ++ [x] := by
 obtain ⟨hlt, rfl⟩ := List.getElem?_eq_some_iff.1 h
 exact List.take_succ_eq_append_getElem hlt
def LsF (ls : List Value) (b : Nat) : Prop := ∃ l ∈ ls, l.ownBlock = some b
theorem own_bk {w : World} {B : Nat} {e t : TypeId} {s : Nat} {v : Value} {n : Nat} {xs : List Value} {bk : Nat} {cs : Array Value} (h : w.ownsRow B e s v n xs) (hb : w.heap[bk]? = some (.cells cs t (0, 0))) (hne : e ≠ t) : v.ownBlock ≠ some bk := fun hk => by
 obtain ⟨c1, hc1⟩ := row_cells h hk
 rw [hc1] at hb
 injection hb with e
 injection e with _ e
 exact hne e
theorem grown_alloc {w w2 : World} {x : Obj} {r : Option Nat} (hg : (w.alloc x).grownBy w2 r) : Kept (fun b => r = some b) w w2 := (Kept.of_below ((Below.refl _ _).alloc (Nat.le_refl _) _)).trans (Kept.of_grown hg)
theorem own_up {w w' : World} {base : Nat} {e : TypeId} {size : Nat} {v : Value} {n : Nat} {xs : List Value} {F : Nat -> Prop} (h : w.ownsRow base e size v n xs) (hk : Kept F w w') (hF : ∀ b, v.ownBlock = some b -> ¬ F b) : w'.ownsRow base e size v n xs := trow_at h fun b hb => hk.block b (h.lt b hb).2 (hF b hb)
end
section
open Go.RowKit Go.Maps
structure Arr (ty : TypeId) (w wr : World) (gi : Nat) (vs : List Value) : Prop where
 bl : Below w.heap.size w wr
 ids : ∃ cs, wr.heap[gi]? = some (.cells cs ty (0, 0)) /\ cs.toList = vs
 gu : w.heap.size <= gi
theorem Arr.lt {ty : TypeId} {w wr : World} {gi : Nat} {vs : List Value} (h : Arr ty w wr gi vs) : gi < wr.heap.size := by
 obtain ⟨cs, hc, _⟩ := h.ids
 exact t_lt hc
theorem Arr.below {ty : TypeId} {w wr w' : World} {gi : Nat} {vs : List Value} (h : Arr ty w wr gi vs) (hb : Below wr.heap.size wr w') : Arr ty w w' gi vs := by
 obtain ⟨cs, hc, hx⟩ := h.ids
 exact ⟨h.bl.trans (hb.mono h.bl.size), ⟨cs, (hb.block _ (t_lt hc)).trans hc, hx⟩, h.gu⟩
theorem Arr.kept {ty : TypeId} {w wr w' : World} {gi : Nat} {vs : List Value} {F : Nat -> Prop} (h : Arr ty w wr gi vs) (hk : Kept F wr w') (hF : ∀ b, F b -> w.heap.size <= b /\ b ≠ gi) : Arr ty w w' gi vs := by
 obtain ⟨cs, hc, hx⟩ := h.ids
 exact ⟨h.bl.trans (hk.below h.bl.size fun b hb => (hF b hb).1), ⟨cs, (hk.block _ (t_lt hc) fun hf => (hF gi hf).2 rfl).trans hc, hx⟩, h.gu⟩
theorem Arr.cell {ty : TypeId} {w wr : World} {gi : Nat} {vs : List Value} (h : Arr ty w wr gi vs) {i : Nat} {x : Value} (hi : vs[i]? = some x) : wr.cell? ⟨gi, i, none⟩ = some x := by
 obtain ⟨cs, hc, hx⟩ := h.ids
 refine cell0_of hc ?_
 rw [<- Array.getElem?_toList, hx]
 exact hi
theorem Arr.free {ty : TypeId} {w wr : World} {gi : Nat} {vs : List Value} (h : Arr ty w wr gi vs) (i : Nat) : wr.frozen? ⟨gi, i, none⟩ = false := by
 obtain ⟨cs, hc, hx⟩ := h.ids
 exact blk_free hc i
theorem Arr.set {ty : TypeId} {w wr : World} {gi : Nat} {vs : List Value} (h : Arr ty w wr gi vs) (i : Nat) (x : Value) : Arr ty w (wr.setCell ⟨gi, i, none⟩ x) gi (vs.set i x) := by
 obtain ⟨cs, hc, hx⟩ := h.ids
 refine ⟨h.bl.setCell h.gu _, ⟨_, heap_setCell_same wr gi i cs _ _ hc, ?_⟩, h.gu⟩
 rw [Array.toList_setIfInBounds, hx]
theorem Arr.back {ty : TypeId} {w w1 wr : World} {g : Nat} {vs : List Value} (h : Arr ty w1 wr g vs) (hb : Below w.heap.size w w1) : Arr ty w wr g vs := ⟨hb.trans (h.bl.mono hb.size), h.ids, Nat.le_trans hb.size h.gu⟩
theorem Arr.own {ty : TypeId} {w wr : World} {gi : Nat} {vs : List Value} (h : Arr ty w wr gi vs) (hn : vs.length <= maxLen) : wr.ownsRow w.heap.size ty 1 (.slice (some ⟨gi, 0, none⟩) vs.length vs.length) vs.length vs := by
 obtain ⟨cs, hc, hx⟩ := h.ids
 refine ⟨by rw [Nat.mul_one], .inr ⟨gi, vs.length, cs, rfl, h.gu, hc, Nat.le_refl _, hn, ?_, ?_⟩⟩
 ·rw [<- hx]; simp
 ·rw [hx]; simp
def madeV (z : Value) (n : Nat) : Array Value := madeCells z.cells (n * 1)
theorem madeV_eq (z : Value) (hz : z.cells = #[z]) (n : Nat) : (madeV z n).toList = List.replicate n z := by
 apply List.ext_getElem
 ·simp [madeV, madeCells]
 ·intro i h1 h2
  simp [madeV, madeCells, hz, Nat.mod_one]
theorem arr_new (ty : TypeId) (z : Value) (hz : z.cells = #[z]) (n : Nat) (w : World) : Arr ty w (w.alloc (.cells (madeV z n) ty)) w.heap.size (List.replicate n z) := ⟨(Below.refl _ _).alloc (Nat.le_refl _) _, ⟨_, (MapKept.heap_alloc w _).1, madeV_eq z hz n⟩, Nat.le_refl _⟩
theorem make_of (t e : TypeId) (z : Value) (by8 : Nat) (ht : Tryz.prog.underlying t = some (.slice e)) (hi : (Tryz.prog.info? e).map (fun i => (i.zero, i.size, i.bytes)) = some (some z, 1, by8)) (n : Nat) (hn : n <= 1000000) (hby : by8 <= 100) (w : World) : (Instr.makeSlice t (.int .i64 (n : Int)) (.int .i64 (n : Int))).run Tryz.prog w = .ok (.slice (some ⟨w.heap.size, 0, none⟩) n n) (w.alloc (.cells (madeV z n) e)) := by
 obtain ⟨i0, hi0, hz0, hz1, hz2⟩ := info_parts hi
 have hm : n * by8 <= 1000000 * 100 := Nat.mul_le_mul hn hby
 have h := run_makeSlice (P := Tryz.prog) w t e i0 z ht hi0 hz0 .i64 .i64 (n : Int) (n : Int) (by omega) (Int.le_refl _) (by rw [hz1]; omega) (by rw [hz2]; have h9 : (by8 : Int) * (n : Int) <= 100000000 := (by rw [Int.mul_comm]; exact Int.ofNat_le.2 hm); omega) (by omega)
 rw [h, hz1]
 simp [madeV]
theorem Tryz.infoI4 : (Tryz.prog.info? 3).map (fun i => (i.zero, i.size, i.bytes)) = some (some (.int .i64 0), 1, 8) := by kernel_rfl
theorem makeI (n : Nat) (hn : n <= 1000000) (w : World) : (Instr.makeSlice 57 (.int .i64 (n : Int)) (.int .i64 (n : Int))).run Tryz.prog w = .ok (.slice (some ⟨w.heap.size, 0, none⟩) n n) (w.alloc (.cells (madeV (.int .i64 0) n) 3)) := make_of _ _ _ 8 Tryz.underlying57 Tryz.infoI4 n hn (by decide) w
end
section
open Go.RowKit Go.Maps
def RowAt (w : World) (b o d : Nat) (S : Nat -> Bool) : Prop := ∃ cs : Array Value, w.heap[b]? = some (.cells cs 140 (0, 0)) /\ ∀ i, i < d -> cs[o + i]? = some (.int .u64 (Br.wd S i : Nat))
def rowV (b o d c : Nat) : Value := .slice (some ⟨b, o, none⟩) d c
theorem RowAt.lt {w : World} {b o d : Nat} {S : Nat -> Bool} (h : RowAt w b o d S) : b < w.heap.size := by
 obtain ⟨cs, hc, _⟩ := h
 exact t_lt hc
theorem RowAt.cell {w : World} {b o d : Nat} {S : Nat -> Bool} (h : RowAt w b o d S) {i : Nat} (hi : i < d) : w.cell? ⟨b, o + i, none⟩ = some (.int .u64 (Br.wd S i : Nat)) := by
 obtain ⟨cs, hc, hx⟩ := h
 exact cell0_of hc (hx i hi)
theorem RowAt.free {w : World} {b o d : Nat} {S : Nat -> Bool} (h : RowAt w b o d S) (k : Nat) : w.frozen? ⟨b, k, none⟩ = false := by
 obtain ⟨cs, hc, _⟩ := h
 exact blk_free hc k
theorem RowAt.at {w w' : World} {b o d : Nat} {S : Nat -> Bool} (h : RowAt w b o d S) (hb : w'.heap[b]? = w.heap[b]?) : RowAt w' b o d S := by
 obtain ⟨cs, hc, hx⟩ := h
 exact ⟨cs, hb.trans hc, hx⟩
theorem RowAt.below {w w' : World} {b o d : Nat} {S : Nat -> Bool} (h : RowAt w b o d S) (hb : Below w.heap.size w w') : RowAt w' b o d S := h.at (hb.block _ h.lt)
theorem RowAt.kept {w w' : World} {b o d : Nat} {S : Nat -> Bool} {F : Nat -> Prop} (h : RowAt w b o d S) (hk : Kept F w w') (hF : ¬ F b) : RowAt w' b o d S := h.at (hk.block _ h.lt hF)
theorem RowAt.congr {w : World} {b o d : Nat} {S T : Nat -> Bool} (h : RowAt w b o d S) (hS : ∀ q, q / 64 < d -> S q = T q) : RowAt w b o d T := by
 obtain ⟨cs, hc, hx⟩ := h
 refine ⟨cs, hc, fun i hi => ?_⟩
 rw [hx i hi, Br.wd_congr (T := T) fun q hq => hS q (by omega)]
structure Wr (b o d : Nat) (w w' : World) : Prop where
 kp : Kept (fun i => i = b) w w'
 cs : ∀ (cs : Array Value) (t : TypeId), w.heap[b]? = some (.cells cs t (0, 0)) -> ∃ cs' : Array Value, w'.heap[b]? = some (.cells cs' t (0, 0)) /\ cs'.size = cs.size /\ ∀ j, ¬ (o <= j /\ j < o + d) -> cs'[j]? = cs[j]?
theorem Wr.refl (b o d : Nat) (w : World) : Wr b o d w w := ⟨Kept.refl _ _, fun cs _ h => ⟨cs, h, rfl, fun _ _ => rfl⟩⟩
theorem Wr.trans {b o d : Nat} {w w1 w2 : World} (h : Wr b o d w w1) (k : Wr b o d w1 w2) : Wr b o d w w2 :=
 ⟨h.kp.trans k.kp, fun cs t hc => by
  obtain ⟨c1, h1, s1, x1⟩ := h.cs cs t hc
  obtain ⟨c2, h2, s2, x2⟩ := k.cs c1 t h1
  exact ⟨c2, h2, s2.trans s1, fun j hj => (x2 j hj).trans (x1 j hj)⟩⟩
theorem Wr.set (w : World) (b o d : Nat) {i : Nat} (hi : i < d) (v : Value) : Wr b o d w (w.setCell ⟨b, o + i, none⟩ v) :=
 ⟨Kept.setCell w b (o + i) v, fun cs t hc => ⟨_, heap_setCell_same w b (o + i) cs t v hc, by simp, fun j hj => by
  rw [Array.getElem?_setIfInBounds]
  rw [if_neg (by omega)]⟩⟩
theorem RowAt.wr {w w' : World} {b o d b' o' d' : Nat} {T : Nat -> Bool} (h : RowAt w b' o' d' T) (hw : Wr b o d w w') (ha : b' ≠ b \/ o' + d' <= o \/ o + d <= o') : RowAt w' b' o' d' T := by
 by_cases e : b' = b
 ·subst e
  obtain ⟨cs, hc, hx⟩ := h
  obtain ⟨c1, h1, _, x1⟩ := hw.cs cs _ hc
  refine ⟨c1, h1, fun i hi => ?_⟩
  rw [x1 (o' + i) (by omega)]
  exact hx i hi
 ·exact h.kept hw.kp e
theorem RowAt.put {w : World} {b o d : Nat} {S : Nat -> Bool} (h : RowAt w b o d S) {i : Nat} (hi : i < d) (S' : Nat -> Bool) (hS : ∀ q, q / 64 ≠ i -> S' q = S q) : RowAt (w.setCell ⟨b, o + i, none⟩ (.int .u64 (Br.wd S' i : Nat))) b o d S' := by
 obtain ⟨cs, hc, hx⟩ := h
 refine ⟨_, heap_setCell_same w b (o + i) cs _ _ hc, fun j hj => ?_⟩
 have hl := (Array.getElem?_eq_some_iff.1 (hx i hi)).1
 by_cases e : j = i
 ·subst e
  rw [Array.getElem?_setIfInBounds, if_pos rfl, if_pos hl]
 ·rw [Array.getElem?_setIfInBounds, if_neg (by omega), hx j hj, Br.wd_congr (S := S) (T := S') fun q hq => (hS q (by omega)).symm]
theorem row_zero (S : Nat -> Bool) (i : Nat) (h : ∀ q, S q = false) : Br.wd S i = 0 := (Br.wd_zero S i).2 fun q _ => h q
theorem rowAt_new (w : World) (N d o : Nat) (h : o + d <= N) : RowAt (w.alloc (.cells (madeV (.int .u64 0) N) 140)) w.heap.size o d fun _ => false := by
 refine ⟨_, heap_alloc_new w _, fun i hi => ?_⟩
 rw [row_zero _ _ fun _ => rfl, <- Array.getElem?_toList, madeV_eq _ rfl, List.getElem?_replicate, if_pos (by omega)]
 rfl
theorem u64_ne0 (x : Nat) : ((x : Int) != 0) = !decide (x = 0) := by
 by_cases h : x = 0 <;> simp [h]
end
section
open Go.RowKit Go.Maps
attribute [local go_sem ↓] Go.wp_at_zero Go.wp_at_succ
def Br.wds (n : Nat) : Nat := (n + 63) / 64
theorem two_lt (q : Nat) : 2 ^ (q % 64) < 18446744073709551616 := by
 have h : 2 ^ (q % 64) < 2 ^ 64 := Nat.pow_lt_pow_right (by decide) (Nat.mod_lt _ (by decide))
 exact h
theorem Tryz.infoU64 : (Tryz.prog.info? 140).map (fun i => (i.zero, i.size, i.bytes)) = some (some (.int .u64 0), 1, 8) := by kernel_rfl
theorem makeU (n : Nat) (hn : n <= 1000000) (w : World) : (Instr.makeSlice 82 (.int .i64 (n : Int)) (.int .i64 (n : Int))).run Tryz.prog w = .ok (.slice (some ⟨w.heap.size, 0, none⟩) n n) (w.alloc (.cells (madeV (.int .u64 0) n) 140)) := make_of _ _ _ 8 Tryz.underlying82 Tryz.infoU64 n hn (by decide) w
theorem rowAt_drew {w : World} {b o d : Nat} {S : Nat -> Bool} (h : RowAt w b o d S) : RowAt w.drew b o d S := h
theorem Wr.drew {b o d : Nat} {w w' : World} (h : Wr b o d w w') : Wr b o d w w'.drew := ⟨⟨h.kp.os, h.kp.tape, h.kp.output, h.kp.size, h.kp.block⟩, h.cs⟩
set_option maxRecDepth 100000 in
set_option maxHeartbeats 1000000 in
theorem wordsOf_any (n : Nat) (hn : n <= 100000) (w : World) : Calls Tryz.prog 146 #[.int .i64 n] w fun r w' => r = .returned (.int .i64 (Br.wds n : Nat)) /\ w' = w := by
 go_enter Tryz.func146, Tryz.ntmps146
 go_wp2_with fail
 go_ret
 have e1 : ((n : Int) + 64 - 1) / 64 = (Br.wds n : Nat) := by unfold Br.wds; omega
 exact ⟨by rw [<- e1]; rfl, rfl⟩
set_option maxRecDepth 100000 in
set_option maxHeartbeats 1000000 in
theorem newRow_any (n : Nat) (hn : n <= 100000) (w : World) : Calls Tryz.prog 130 #[.int .i64 n] w fun r w' => r = .returned (rowV w.heap.size 0 (Br.wds n) (Br.wds n)) /\ w' = w.alloc (.cells (madeV (.int .u64 0) (Br.wds n)) 140) := by
 have hW := wordsOf_any n hn w
 have hd : Br.wds n <= 1000000 := by unfold Br.wds; omega
 have mU := makeU (Br.wds n) hd w
 generalize Br.wds n = d at hW mU hd ⊢
 have HW : Hid _ := hW
 clear hW
 go_enter Tryz.func130, Tryz.ntmps130
 go_wp2_with fail
 refine Calls.mono HW.out ?_
 rintro r w1 ⟨rfl, rfl⟩
 go_wp2_with fail
 go_ret
 exact ⟨rfl, rfl⟩
set_option maxRecDepth 100000 in
set_option maxHeartbeats 1000000 in
theorem hasRow_any (b o d c q : Nat) (S : Nat -> Bool) (w : World) (hd : d <= 10000) (hq : q / 64 < d) (hR : RowAt w b o d S) : Calls Tryz.prog 102 #[rowV b o d c, .int .i64 q] w fun r w' => r = .returned (.bool (S q)) /\ w' = w := by
 have c0 := hR.cell hq
 have h0 : (0 : Int) <= (q : Int) := by omega
 have h1 := Br.wd_has S q
 have hb : Br.wd S (q / 64) / 2 ^ (q % 64) < 18446744073709551616 := Nat.lt_of_le_of_lt (Nat.div_le_self _ _) (Br.wd_lt S _)
 generalize Br.wd S (q / 64) = x at c0 h1 hb
 clear hR
 unfold rowV
 go_enter Tryz.func102, Tryz.ntmps102
 go_wp2_with fail
 go_ret
 have e1 : bits .and .u64 ((x : Int) / 2 ^ (q % 64)) 1 = (if S q then 1 else 0 : Int) := by
  have e2 : (x : Int) / 2 ^ (q % 64) = ((x / 2 ^ (q % 64) : Nat) : Int) := by simp
  rw [e2, show (1 : Int) = ((1 : Nat) : Int) from rfl, bits_and_u64_nat _ _ hb (by decide), h1]
  split <;> rfl
 refine ⟨?_, rfl⟩
 show Ending.returned (.bool (bits .and .u64 ((x : Int) / 2 ^ (q % 64)) 1 == 1)) = _
 rw [e1]
 cases S q <;> rfl
set_option maxRecDepth 100000 in
set_option maxHeartbeats 1000000 in
theorem addRow_any (b o d c q : Nat) (S : Nat -> Bool) (w : World) (hd : d <= 10000) (hq : q / 64 < d) (hR : RowAt w b o d S) : Calls Tryz.prog 99 #[rowV b o d c, .int .i64 q] w fun r w' => (∃ v, r = .returned v) /\ RowAt w' b o d (fun z => S z || decide (z = q)) /\ Wr b o d w w' := by
 have c0 := hR.cell hq
 have hf := hR.free (o + q / 64)
 have h0 : (0 : Int) <= (q : Int) := by omega
 have HR : Hid (RowAt w b o d S) := hR
 clear hR
 unfold rowV
 go_enter Tryz.func99, Tryz.ntmps99
 go_region
 all_goals
  go_end0
  have e1 : IntKind.u64.wrap (2 ^ (q % 64)) = ((2 ^ (q % 64) : Nat) : Int) := by
   have h1 := two_lt q
   have h2 : ((2 : Int) ^ (q % 64)) = ((2 ^ (q % 64) : Nat) : Int) := by simp
   rw [h2]
   generalize 2 ^ (q % 64) = m at h1 ⊢
   rw [IntKind.wrap_u64]; omega
  have h1 := two_lt q
  rw [e1, bits_or_u64_nat _ _ (Br.wd_lt _ _) h1, Br.wd_one]
  have hp := HR.out.put hq (fun z => S z || decide (z = q)) fun z hz => by
   have : decide (z = q) = false := by simp; rintro rfl; exact hz rfl
   simp [this]
  exact ⟨⟨_, rfl⟩, rowAt_drew hp, (Wr.set w b o d hq _).drew⟩
def mixS (S T : Nat -> Bool) (i : Nat) : Nat -> Bool := fun q => S q || T q && decide (q / 64 < i)
set_option maxRecDepth 100000 in
set_option maxHeartbeats 2000000 in
theorem joinRow_any (b o d c b2 o2 c2 : Nat) (S T : Nat -> Bool) (w : World) (hd : d <= 10000) (hR : RowAt w b o d S) (hT : RowAt w b2 o2 d T) (ha : b2 ≠ b \/ o2 + d <= o \/ o + d <= o2) : Calls Tryz.prog 147 #[rowV b o d c, rowV b2 o2 d c2] w fun r w' => (∃ v, r = .returned v) /\ RowAt w' b o d (fun z => S z || T z) /\ Wr b o d w w' := by
 have HR : Hid _ := And.intro hR (And.intro hT ha)
 clear hR hT ha
 unfold rowV
 go_enter Tryz.func147, Tryz.ntmps147
 go_wp2_with fail
 go_loopg [8] d (fun k iv wr => ∃ i : Nat, k = d - i /\ i <= d /\ iv = .int .i64 i /\ RowAt wr b o d (mixS S T i) /\ Wr b o d w wr)
 case atStart => exact ⟨0, rfl, Nat.zero_le _, rfl, HR.out.1.congr fun q _ => by simp [mixS], Wr.refl _ _ _ _⟩
 case round =>
  obtain ⟨i, rfl, hi, rfl, hA, hW⟩ := hrel
  by_cases hlt : i < d
  ·have hB := HR.out.2.1.wr hW HR.out.2.2
   have c0 := hA.cell hlt
   have c1 := hB.cell hlt
   have f0 := hA.free (o + i)
   have h0 : (0 : Int) <= (i : Int) := by omega
   have h1 : (i : Int) < (d : Int) := by omega
   have HA : Hid _ := And.intro hA (And.intro hB hW)
   clear hA hB hW
   go_wp2_with (simp only [Br.b_or])
   go_roundg (d - (i + 1))
   case measure => omega
   case rel =>
    refine ⟨i + 1, rfl, by omega, by go_num, ?_, ?_⟩
    ·have hp := HA.out.1.put hlt (mixS S T (i + 1)) fun q hq => by
      have : decide (q / 64 < i + 1) = decide (q / 64 < i) := by simp only [decide_eq_decide]; omega
      simp only [mixS, this]
     have e1 : Br.wd (fun q => mixS S T i q || T q) i = Br.wd (mixS S T (i + 1)) i := Br.wd_congr fun q hq => by
      have e2 : decide (q / 64 < i) = false := by simp; omega
      have e3 : decide (q / 64 < i + 1) = true := by simp; omega
      simp [mixS, e2, e3]
     rw [e1]
     exact hp
    ·exact HA.out.2.2.trans (Wr.set wr b o d hlt _)
  ·obtain rfl : i = d := by omega
   have h1 : ¬ (i : Int) < (i : Int) := by omega
   have HA : Hid _ := And.intro hA hW
   clear hA hW
   go_wp2_with fail
   go_end0
   refine ⟨⟨_, rfl⟩, HA.out.1.congr fun q hq => ?_, HA.out.2⟩
   simp [mixS, hq]
def meetS (S T : Nat -> Bool) (N : Nat) : Bool := (List.range N).any fun q => S q && T q
def withS (S T : Nat -> Bool) (N : Nat) : Bool := (List.range N).all fun q => !S q || T q
def nonS (S : Nat -> Bool) (N : Nat) : Bool := (List.range N).all fun q => !S q
theorem meetS_no {S T : Nat -> Bool} {i : Nat} (h : meetS S T (64 * i) = false) (h2 : Br.wd (fun q => S q && T q) i = 0) : meetS S T (64 * (i + 1)) = false := by
 unfold meetS at h ⊢
 rw [List.any_eq_false] at h ⊢
 intro q hq
 rw [List.mem_range] at hq
 by_cases e : q < 64 * i
 ·exact h q (List.mem_range.2 e)
 ·simpa using (Br.wd_zero _ _).1 h2 q (by omega)
theorem wd_some {S : Nat -> Bool} {i : Nat} (h : Br.wd S i ≠ 0) : ∃ q, q / 64 = i /\ S q = true := by
 apply Classical.byContradiction
 intro h2
 refine h ((Br.wd_zero _ _).2 fun q hq => ?_)
 cases h3 : S q with
 | false => rfl
 | true => exact absurd ⟨q, hq, h3⟩ h2
set_option maxRecDepth 100000 in
set_option maxHeartbeats 2000000 in
theorem meetsRow_any (b o d c b2 o2 c2 : Nat) (S T : Nat -> Bool) (w : World) (hd : d <= 10000) (hR : RowAt w b o d S) (hT : RowAt w b2 o2 d T) : Calls Tryz.prog 150 #[rowV b o d c, rowV b2 o2 d c2] w fun r w' => r = .returned (.bool (meetS S T (64 * d))) /\ w' = w := by
 have HR : Hid (RowAt w b o d S /\ RowAt w b2 o2 d T) := And.intro hR hT
 clear hR hT
 unfold rowV
 go_enter Tryz.func150, Tryz.ntmps150
 go_wp2_with fail
 go_loopg [9] d (fun k iv wr => ∃ i : Nat, k = d - i /\ i <= d /\ iv = .int .i64 i /\ meetS S T (64 * i) = false /\ wr = w)
 case atStart => exact ⟨0, rfl, Nat.zero_le _, rfl, rfl, rfl⟩
 case round =>
  obtain ⟨i, rfl, hi, rfl, hA, rfl⟩ := hrel
  by_cases hlt : i < d
  ·have c0 := HR.out.1.cell hlt
   have c1 := HR.out.2.cell hlt
   have h0 : (0 : Int) <= (i : Int) := by omega
   have h1 : (i : Int) < (d : Int) := by omega
   have HA : Hid (meetS S T (64 * i) = false) := hA
   clear hA
   by_cases hz : Br.wd (fun q => S q && T q) i = 0
   ·have e1 : (bits .and .u64 (Br.wd S i : Int) (Br.wd T i : Int) != 0) = false := by rw [Br.b_and, hz]; rfl
    have HZ : Hid (Br.wd (fun q => S q && T q) i = 0) := hz
    clear hz
    go_wp2_with (simp only [e1])
    go_roundg (d - (i + 1))
    case measure => omega
    case rel => exact ⟨i + 1, rfl, by omega, by go_num, meetS_no HA.out HZ.out, rfl⟩
   ·have e1 : (bits .and .u64 (Br.wd S i : Int) (Br.wd T i : Int) != 0) = true := by rw [Br.b_and, u64_ne0]; simp [hz]
    have HZ : Hid (Br.wd (fun q => S q && T q) i ≠ 0) := hz
    clear hz
    go_wp2_with (simp only [e1])
    go_ret
    refine ⟨?_, rfl⟩
    have h2 : meetS S T (64 * d) = true := by
     obtain ⟨q, hq, hs⟩ := wd_some HZ.out
     exact List.any_eq_true.2 ⟨q, List.mem_range.2 (by omega), hs⟩
    rw [h2]; rfl
  ·obtain rfl : i = d := by omega
   have h1 : ¬ (i : Int) < (i : Int) := by omega
   have HA : Hid (meetS S T (64 * i) = false) := hA
   clear hA
   go_wp2_with fail
   go_ret
   refine ⟨?_, rfl⟩
   rw [HA.out]; rfl
theorem withS_on {S T : Nat -> Bool} {i : Nat} (h : withS S T (64 * i) = true) (h2 : Br.wd (fun q => S q && !T q) i = 0) : withS S T (64 * (i + 1)) = true := by
 unfold withS at h ⊢
 rw [List.all_eq_true] at h ⊢
 intro q hq
 rw [List.mem_range] at hq
 by_cases e : q < 64 * i
 ·exact h q (List.mem_range.2 e)
 ·have := (Br.wd_zero _ _).1 h2 q (by omega)
  revert this; cases S q <;> cases T q <;> simp
set_option maxRecDepth 100000 in
set_option maxHeartbeats 2000000 in
theorem withinRow_any (b o d c b2 o2 c2 : Nat) (S T : Nat -> Bool) (w : World) (hd : d <= 10000) (hR : RowAt w b o d S) (hT : RowAt w b2 o2 d T) : Calls Tryz.prog 151 #[rowV b o d c, rowV b2 o2 d c2] w fun r w' => r = .returned (.bool (withS S T (64 * d))) /\ w' = w := by
 have HR : Hid (RowAt w b o d S /\ RowAt w b2 o2 d T) := And.intro hR hT
 clear hR hT
 unfold rowV
 go_enter Tryz.func151, Tryz.ntmps151
 go_wp2_with fail
 go_loopg [9] d (fun k iv wr => ∃ i : Nat, k = d - i /\ i <= d /\ iv = .int .i64 i /\ withS S T (64 * i) = true /\ wr = w)
 case atStart => exact ⟨0, rfl, Nat.zero_le _, rfl, rfl, rfl⟩
 case round =>
  obtain ⟨i, rfl, hi, rfl, hA, rfl⟩ := hrel
  by_cases hlt : i < d
  ·have c0 := HR.out.1.cell hlt
   have c1 := HR.out.2.cell hlt
   have h0 : (0 : Int) <= (i : Int) := by omega
   have h1 : (i : Int) < (d : Int) := by omega
   have HA : Hid (withS S T (64 * i) = true) := hA
   clear hA
   by_cases hz : Br.wd (fun q => S q && !T q) i = 0
   ·have e1 : (bits .andNot .u64 (Br.wd S i : Int) (Br.wd T i : Int) != 0) = false := by rw [Br.wd_andNot, hz]; rfl
    have HZ : Hid (Br.wd (fun q => S q && !T q) i = 0) := hz
    clear hz
    go_wp2_with (simp only [e1])
    go_roundg (d - (i + 1))
    case measure => omega
    case rel => exact ⟨i + 1, rfl, by omega, by go_num, withS_on HA.out HZ.out, rfl⟩
   ·have e1 : (bits .andNot .u64 (Br.wd S i : Int) (Br.wd T i : Int) != 0) = true := by rw [Br.wd_andNot, u64_ne0]; simp [hz]
    have HZ : Hid (Br.wd (fun q => S q && !T q) i ≠ 0) := hz
    clear hz
    go_wp2_with (simp only [e1])
    go_ret
    refine ⟨?_, rfl⟩
    have h2 : withS S T (64 * d) = false := by
     obtain ⟨q, hq, hs⟩ := wd_some HZ.out
     refine List.all_eq_false.2 ⟨q, List.mem_range.2 (by omega), ?_⟩
     revert hs; cases S q <;> cases T q <;> simp
    rw [h2]; rfl
  ·obtain rfl : i = d := by omega
   have h1 : ¬ (i : Int) < (i : Int) := by omega
   have HA : Hid (withS S T (64 * i) = true) := hA
   clear hA
   go_wp2_with fail
   go_ret
   refine ⟨?_, rfl⟩
   rw [HA.out]; rfl
end
section
open Go.RowKit Go.Maps
attribute [local go_sem ↓] Go.wp_at_zero Go.wp_at_succ
def ListAt (ty : TypeId) (w : World) (g m : Nat) (f : Nat -> Value) : Prop := ∃ cs : Array Value, w.heap[g]? = some (.cells cs ty (0, 0)) /\ ∀ i, i < m -> cs[i]? = some (f i)
theorem ListAt.lt {ty : TypeId} {w : World} {g m : Nat} {f : Nat -> Value} (h : ListAt ty w g m f) : g < w.heap.size := by
 obtain ⟨cs, hc, _⟩ := h
 exact t_lt hc
theorem ListAt.cell {ty : TypeId} {w : World} {g m : Nat} {f : Nat -> Value} (h : ListAt ty w g m f) {i : Nat} (hi : i < m) : w.cell? ⟨g, i, none⟩ = some (f i) := by
 obtain ⟨cs, hc, hx⟩ := h
 exact cell0_of hc (hx i hi)
theorem ListAt.free {ty : TypeId} {w : World} {g m : Nat} {f : Nat -> Value} (h : ListAt ty w g m f) (k : Nat) : w.frozen? ⟨g, k, none⟩ = false := by
 obtain ⟨cs, hc, _⟩ := h
 exact blk_free hc k
theorem ListAt.at {ty : TypeId} {w w' : World} {g m : Nat} {f : Nat -> Value} (h : ListAt ty w g m f) (hb : w'.heap[g]? = w.heap[g]?) : ListAt ty w' g m f := by
 obtain ⟨cs, hc, hx⟩ := h
 exact ⟨cs, hb.trans hc, hx⟩
theorem ListAt.below {ty : TypeId} {w w' : World} {g m : Nat} {f : Nat -> Value} (h : ListAt ty w g m f) (hb : Below w.heap.size w w') : ListAt ty w' g m f := h.at (hb.block _ h.lt)
theorem ListAt.kept {ty : TypeId} {w w' : World} {g m : Nat} {f : Nat -> Value} {F : Nat -> Prop} (h : ListAt ty w g m f) (hk : Kept F w w') (hF : ¬ F g) : ListAt ty w' g m f := h.at (hk.block _ h.lt hF)
theorem ListAt.congr {ty : TypeId} {w : World} {g m : Nat} {f f' : Nat -> Value} (h : ListAt ty w g m f) (he : ∀ i, i < m -> f i = f' i) : ListAt ty w g m f' := by
 obtain ⟨cs, hc, hx⟩ := h
 exact ⟨cs, hc, fun i hi => by rw [hx i hi, he i hi]⟩
theorem ListAt.put {ty : TypeId} {w : World} {g m : Nat} {f : Nat -> Value} (h : ListAt ty w g m f) {i : Nat} (v : Value) : ListAt ty (w.setCell ⟨g, i, none⟩ v) g m (fun j => if j = i then v else f j) := by
 obtain ⟨cs, hc, hx⟩ := h
 refine ⟨_, heap_setCell_same w g i cs _ _ hc, fun j hj => ?_⟩
 rw [Array.getElem?_setIfInBounds]
 by_cases e : j = i
 ·subst e
  have hl := (Array.getElem?_eq_some_iff.1 (hx j hj)).1
  rw [if_pos rfl, if_pos hl]
  simp
 ·rw [if_neg (fun e2 => e e2.symm), hx j hj]
  simp [e]
theorem ListAt.other {ty : TypeId} {w : World} {g m b o : Nat} {f : Nat -> Value} {v : Value} (h : ListAt ty w g m f) (hb : g ≠ b) : ListAt ty (w.setCell ⟨b, o, none⟩ v) g m f := h.at (set_other w b o g v hb)
theorem listAt_new (ty : TypeId) (z : Value) (hz : z.cells = #[z]) (w : World) (m : Nat) : ListAt ty (w.alloc (.cells (madeV z m) ty)) w.heap.size m fun _ => z := by
 refine ⟨_, heap_alloc_new w _, fun i hi => ?_⟩
 rw [<- Array.getElem?_toList, madeV_eq _ hz, List.getElem?_replicate, if_pos hi]
theorem Tryz.infoRw : (Tryz.prog.info? 82).map (fun i => (i.zero, i.size, i.bytes)) = some (some (.slice none 0 0), 1, 24) := by kernel_rfl
theorem makeRw (n : Nat) (hn : n <= 1000000) (w : World) : (Instr.makeSlice 78 (.int .i64 (n : Int)) (.int .i64 (n : Int))).run Tryz.prog w = .ok (.slice (some ⟨w.heap.size, 0, none⟩) n n) (w.alloc (.cells (madeV (.slice none 0 0) n) 82)) := make_of _ _ _ 24 Tryz.underlying78 Tryz.infoRw n hn (by decide) w
structure Sev (w w' : World) (g0 g1 m d : Nat) : Prop where
 wd : ∃ cs : Array Value, w'.heap[g0]? = some (.cells cs 140 (0, 0)) /\ ∀ i, i < m * d -> cs[i]? = some (.int .u64 0)
 rw : ListAt 82 w' g1 m fun i => rowV g0 (i * d) d d
 u0 : w.heap.size <= g0
 u1 : w.heap.size <= g1
 bl : Below w.heap.size w w'
theorem Sev.row {w w' : World} {g0 g1 m d : Nat} (h : Sev w w' g0 g1 m d) {p : Nat} (hp : p < m) : RowAt w' g0 (p * d) d fun _ => false := by
 obtain ⟨cs, hc, hx⟩ := h.wd
 refine ⟨cs, hc, fun i hi => ?_⟩
 have h1 : (p + 1) * d <= m * d := Nat.mul_le_mul_right _ hp
 rw [Nat.add_mul] at h1
 rw [row_zero _ _ fun _ => rfl]
 exact hx (p * d + i) (by omega)
set_option maxRecDepth 100000 in
set_option maxHeartbeats 4000000 in
theorem several_any (m n : Nat) (hm : m <= 1000) (hn : n <= 1000) (h0 : m = 0 \/ 0 < n) (w : World) : Calls Tryz.prog 98 #[.int .i64 m, .int .i64 n] w fun r w' => ∃ g0 g1, r = .returned (.slice (some ⟨g1, 0, none⟩) m m) /\ g0 ≠ g1 /\ Sev w w' g0 g1 m (Br.wds n) := by
 have hW := wordsOf_any n (by omega) w
 have hd : Br.wds n <= 16 := by unfold Br.wds; omega
 have hd0 : m = 0 \/ 0 < Br.wds n := h0.imp id fun h => by unfold Br.wds; omega
 generalize Br.wds n = d at hW hd hd0 ⊢
 have hmd : m * d <= 16000 := Nat.le_trans (Nat.mul_le_mul hm hd) (by decide)
 have mU := makeU (m * d) (by omega) w
 have mR := makeRw m (by omega) (w.alloc (.cells (madeV (.int .u64 0) (m * d)) 140))
 rw [Int.natCast_mul] at mU
 have HW : Hid _ := hW
 clear hW
 go_enter Tryz.func98, Tryz.ntmps98
 go_wp2_with fail
 refine Calls.mono HW.out ?_
 rintro r w1 ⟨rfl, hw1⟩
 obtain rfl := hw1.symm
 go_wp2_with fail
 clear mU mR
 have hL := listAt_new 82 (.slice none 0 0) rfl (w.alloc (.cells (madeV (.int .u64 0) (m * d)) 140)) m
 have hU := heap_alloc_new w (.cells (madeV (.int .u64 0) (m * d)) 140)
 obtain ⟨wx, hwx⟩ : ∃ wx, wx = (w.alloc (.cells (madeV (.int .u64 0) (m * d)) 140)).alloc (.cells (madeV (.slice none 0 0) m) 82) := ⟨_, rfl⟩
 have hz : (w.alloc (.cells (madeV (.int .u64 0) (m * d)) 140)).heap.size = w.heap.size + 1 := by simp
 rw [hz, <- hwx] at hL
 have hb1 : Below (w.alloc (.cells (madeV (.int .u64 0) (m * d)) 140)).heap.size (w.alloc (.cells (madeV (.int .u64 0) (m * d)) 140)) wx := by rw [hwx]; exact (Below.refl _ _).alloc (Nat.le_refl _) _
 have hbx : Below w.heap.size w wx := ((Below.refl _ w).alloc (Nat.le_refl _) _).trans (hb1.mono (by simp))
 have hU2 : wx.heap[w.heap.size]? = some (.cells (madeV (.int .u64 0) (m * d)) 140 (0, 0)) := (hb1.block _ (by simp)).trans hU
 rw [<- hwx]
 have HX : Hid (ListAt 82 wx (w.heap.size + 1) m (fun _ => .slice none 0 0) /\ wx.heap[w.heap.size]? = some (.cells (madeV (.int .u64 0) (m * d)) 140 (0, 0)) /\ Below w.heap.size w wx) := ⟨hL, hU2, hbx⟩
 clear hL hU hwx hz hb1 hbx hU2
 go_loopg [19] m (fun k iv wr => ∃ i : Nat, k = m - i /\ i <= m /\ iv = .int .i64 i /\ ListAt 82 wr (w.heap.size + 1) m (fun j => if j < i then rowV w.heap.size (j * d) d d else .slice none 0 0) /\ Kept (fun b => b = w.heap.size + 1) wx wr)
 case atStart => exact ⟨0, rfl, Nat.zero_le _, rfl, HX.out.1.congr fun i _ => by simp, Kept.refl _ _⟩
 case round =>
  obtain ⟨i, rfl, hi, rfl, hA, hK⟩ := hrel
  by_cases hlt : i < m
  ·have f0 := hA.free i
   have c0 := hA.cell hlt
   simp only [Nat.lt_irrefl, if_false] at c0
   have h0 : (0 : Int) <= (i : Int) := by omega
   have h1 : (i : Int) < (m : Int) := by omega
   have HA : Hid (ListAt 82 wr (w.heap.size + 1) m (fun j => if j < i then rowV w.heap.size (j * d) d d else .slice none 0 0) /\ Kept (fun b => b = w.heap.size + 1) wx wr) := And.intro hA hK
   clear hA hK
   have hd1 : 0 < d := by omega
   have hy1 : (i + 1) * d <= m * d := Nat.mul_le_mul_right _ hlt
   obtain ⟨x, hx⟩ : ∃ x, x = i * d := ⟨_, rfl⟩
   have hy : (i + 1) * d = x + d := by rw [hx, Nat.add_mul, Nat.one_mul]
   rw [hy] at hy1
   have r0 : wrap64 ((i : Int) * (d : Int)) = (x : Int) := by
    rw [<- Int.natCast_mul, <- hx]; unfold wrap64; omega
   have r1 : wrap64 (((i : Int) + 1) * (d : Int)) = (x : Int) + (d : Int) := by
    rw [show (i : Int) + 1 = ((i + 1 : Nat) : Int) from rfl, <- Int.natCast_mul, hy]; unfold wrap64; omega
   have r2 : (0 : Int) <= (x : Int) := by omega
   have r3 : (x : Int) <= (x : Int) + (d : Int) := by omega
   have r4 : (x : Int) + (d : Int) <= (m : Int) * (d : Int) := by rw [<- Int.natCast_mul]; omega
   have r5 : (0 : Int) <= (x : Int) + (d : Int) := by omega
   have r6 : max ((x : Int) + (d : Int)) 0 = (x : Int) + (d : Int) := by omega
   have HX2 : Hid _ := And.intro hx (And.intro hy hy1)
   clear hx hy hy1
   go_wp2_with fail
   go_roundg (m - (i + 1))
   case measure => omega
   case rel =>
    refine ⟨i + 1, rfl, by omega, by go_num, ?_, HA.out.2.trans (Kept.setCell wr _ _ _)⟩
    refine (HA.out.1.put _).congr fun j _ => ?_
    by_cases e : j = i
    ·subst e
     rw [if_pos rfl, if_pos (Nat.lt_succ_self _), HX2.out.1]; rfl
    ·rw [if_neg e]
     by_cases e2 : j < i
     ·rw [if_pos e2, if_pos (by omega)]
     ·rw [if_neg e2, if_neg (by omega)]
  ·obtain rfl : i = m := by omega
   have h1 : ¬ (i : Int) < (i : Int) := by omega
   have HA : Hid (ListAt 82 wr (w.heap.size + 1) i (fun j => if j < i then rowV w.heap.size (j * d) d d else .slice none 0 0) /\ Kept (fun b => b = w.heap.size + 1) wx wr) := And.intro hA hK
   clear hA hK
   go_wp2_with fail
   go_ret
   have hU2 := HX.out.2.1
   refine ⟨w.heap.size, w.heap.size + 1, rfl, by omega, ⟨⟨_, (HA.out.2.block _ (t_lt hU2) (by omega)).trans hU2, fun j hj => ?_⟩, HA.out.1.congr fun j hj => if_pos hj, Nat.le_refl _, by omega, ?_⟩⟩
   ·rw [<- Array.getElem?_toList, madeV_eq _ rfl, List.getElem?_replicate, if_pos hj]
   ·exact HX.out.2.2.trans (HA.out.2.below HX.out.2.2.size fun k hk => by omega)
end
namespace Sm
def Sim (E : Nat -> Nat -> Nat -> Prop) (R : Nat -> Nat -> Prop) : Prop := ∀ p q, R p q -> ∀ a t, E p a t -> ∃ u, E q a u /\ R t u
def Sims (E : Nat -> Nat -> Nat -> Prop) (p q : Nat) : Prop := ∃ R, Sim E R /\ R p q
structure Inv (n : Nat) (E : Nat -> Nat -> Nat -> Prop) (A L : Nat -> Nat -> Bool) : Prop where
 all : ∀ p q, p < n -> q < n -> Sims E p q -> A p q = true
 met : ∀ p q, p < n -> q < n -> A p q = true -> ∀ a t, E p a t -> ∃ u, E q a u /\ (A t u = true \/ L t u = true)
 two : ∀ p q, ¬ (A p q = true /\ L p q = true)
def In (n : Nat) (E : Nat -> Nat -> Nat -> Prop) : Prop := ∀ p a t, E p a t -> p < n /\ t < n
structure Mid (n : Nat) (E : Nat -> Nat -> Nat -> Prop) (A L : Nat -> Nat -> Bool) (t0 : Nat) (lo : Nat -> Bool) (dn : Nat -> Nat -> Prop) : Prop where
 all : ∀ p q, p < n -> q < n -> Sims E p q -> A p q = true
 met : ∀ p q, p < n -> q < n -> A p q = true -> ∀ a t, E p a t -> ∃ u, E q a u /\ (A t u = true \/ L t u = true \/ t = t0 /\ lo u = true /\ ¬ dn a p)
 two : ∀ p q, ¬ (A p q = true /\ L p q = true)
def clr (L : Nat -> Nat -> Bool) (t0 : Nat) : Nat -> Nat -> Bool := fun p q => if p = t0 then false else L p q
def tkA (A : Nat -> Nat -> Bool) (p : Nat) (U : Nat -> Bool) : Nat -> Nat -> Bool := fun x q => if x = p then A p q && !U q else A x q
def tkL (A L : Nat -> Nat -> Bool) (p : Nat) (U : Nat -> Bool) : Nat -> Nat -> Bool := fun x q => if x = p then L p q || A p q && U q else L x q
def Una (E : Nat -> Nat -> Nat -> Prop) (A0 : Nat -> Nat -> Bool) (t0 : Nat) (lo : Nat -> Bool) (a : Nat) (U : Nat -> Bool) : Prop := ∀ q, U q = true ↔ (∃ s, lo s = true /\ E q a s) /\ ¬ ∃ u, E q a u /\ A0 t0 u = true
def mu (n : Nat) (A L : Nat -> Nat -> Bool) : Nat := (List.range (n * n)).countP fun i => A (i / n) (i % n) || L (i / n) (i % n)
end Sm
namespace Sy
abbrev Ed : Type := Int × Int × Int
def lt (a b : Ed) : Bool := if a.1 != b.1 then decide (a.1 < b.1) else if a.2.1 != b.2.1 then decide (a.2.1 < b.2.1) else decide (a.2.2 < b.2.2)
theorem lt_iff (a b : Ed) : lt a b = true ↔ a.1 < b.1 \/ a.1 = b.1 /\ (a.2.1 < b.2.1 \/ a.2.1 = b.2.1 /\ a.2.2 < b.2.2) := by
 unfold lt
 by_cases h1 : a.1 = b.1
 ·by_cases h2 : a.2.1 = b.2.1 <;> simp [h1, h2]
 ·simp [h1]
theorem lt_irrefl (a : Ed) : lt a a = false := by
 cases h : lt a a with
 | false => rfl
 | true => rw [lt_iff] at h; omega
theorem lt_trans {a b c : Ed} (h1 : lt a b = true) (h2 : lt b c = true) : lt a c = true := by
 rw [lt_iff] at *; omega
theorem lt_asymm {a b : Ed} (h : lt a b = true) : lt b a = false := by
 cases h2 : lt b a with
 | false => rfl
 | true => rw [lt_iff] at h h2; omega
theorem eq_of_not {a b : Ed} (h1 : lt a b = false) (h2 : lt b a = false) : a = b := by
 have h3 : ¬ lt a b = true := by rw [h1]; simp
 have h4 : ¬ lt b a = true := by rw [h2]; simp
 rw [lt_iff] at h3 h4
 obtain ⟨x, y, z⟩ := a
 obtain ⟨u, v, w⟩ := b
 simp only at h3 h4
 have e1 : x = u := by omega
 have e2 : y = v := by omega
 have e3 : z = w := by omega
 rw [e1, e2, e3]
def Str : List Ed -> Prop
 | [] => True
 | [_] => True
 | a :: b :: r => lt a b = true /\ Str (b :: r)
theorem Str.tail {a : Ed} {r : List Ed} (h : Str (a :: r)) : Str r := by
 cases r with
 | nil => trivial
 | cons b s => exact h.2
theorem Str.head {a : Ed} {r : List Ed} (h : Str (a :: r)) : ∀ x ∈ r, lt a x = true := by
 induction r generalizing a with
 | nil => intro x hx; simp at hx
 | cons b s ih =>
   intro x hx
   rcases List.mem_cons.1 hx with rfl | hx
   ·exact h.1
   ·exact lt_trans h.1 (ih h.2 x hx)
theorem Str.cons {a : Ed} {r : List Ed} (h : Str r) (h2 : ∀ x ∈ r, lt a x = true) : Str (a :: r) := by
 cases r with
 | nil => trivial
 | cons b s => exact ⟨h2 b List.mem_cons_self, h⟩
theorem Str.snoc {l : List Ed} {x : Ed} (h : Str l) (h2 : ∀ y ∈ l, lt y x = true) : Str (l ++ [x]) := by
 induction l with
 | nil => trivial
 | cons a r ih =>
   refine Str.cons (ih h.tail fun y hy => h2 y (List.mem_cons_of_mem _ hy)) fun y hy => ?_
   rcases List.mem_append.1 hy with hy | hy
   ·exact h.head y hy
   ·rw [List.mem_singleton.1 hy]; exact h2 a List.mem_cons_self
theorem Str.unique {l m : List Ed} (hl : Str l) (hm : Str m) (h : ∀ x, x ∈ l ↔ x ∈ m) : l = m := by
 induction l generalizing m with
 | nil =>
   cases m with
   | nil => rfl
   | cons b s => exact absurd ((h b).2 List.mem_cons_self) (by simp)
 | cons a r ih =>
   cases m with
   | nil => exact absurd ((h a).1 List.mem_cons_self) (by simp)
   | cons b s =>
     have e : a = b := by
      rcases List.mem_cons.1 ((h a).1 List.mem_cons_self) with e | ha
      ·exact e
      ·rcases List.mem_cons.1 ((h b).2 List.mem_cons_self) with e | hb
       ·exact e.symm
       ·have h1 := hm.head a ha
        have h2 := hl.head b hb
        rw [lt_asymm h1] at h2
        cases h2
     subst e
     congr 1
     refine ih hl.tail hm.tail fun x => ⟨fun hx => ?_, fun hx => ?_⟩
     ·rcases List.mem_cons.1 ((h x).1 (List.mem_cons_of_mem _ hx)) with e | hx2
      ·subst e; have h1 := hl.head x hx; rw [lt_irrefl] at h1; cases h1
      ·exact hx2
     ·rcases List.mem_cons.1 ((h x).2 (List.mem_cons_of_mem _ hx)) with e | hx2
      ·subst e; have h1 := hm.head x hx; rw [lt_irrefl] at h1; cases h1
      ·exact hx2
def ins (x : Ed) : List Ed -> List Ed
 | [] => [x]
 | a :: r => if lt x a then x :: a :: r else if lt a x then a :: ins x r else a :: r
theorem ins_mem (x y : Ed) (l : List Ed) : y ∈ ins x l ↔ y = x \/ y ∈ l := by
 induction l with
 | nil => simp [ins]
 | cons a r ih =>
   unfold ins
   cases h1 : lt x a with
   | true => simp
   | false =>
     cases h2 : lt a x with
     | true =>
       simp only [Bool.false_eq_true, if_false, if_true, List.mem_cons, ih]
       constructor
       ·rintro (h | h | h) <;> simp [h]
       ·rintro (h | h | h) <;> simp [h]
     | false =>
       have e := eq_of_not h1 h2
       subst e
       simp
theorem ins_str (x : Ed) (l : List Ed) (h : Str l) : Str (ins x l) := by
 induction l with
 | nil => trivial
 | cons a r ih =>
   unfold ins
   cases h1 : lt x a with
   | true => exact ⟨h1, h⟩
   | false =>
     cases h2 : lt a x with
     | true =>
       simp only [Bool.false_eq_true, if_false, if_true]
       refine Str.cons (ih h.tail) fun y hy => ?_
       rcases (ins_mem x y r).1 hy with rfl | hy
       ·exact h2
       ·exact h.head y hy
     | false => exact h
def nf : List Ed -> List Ed
 | [] => []
 | a :: r => ins a (nf r)
theorem nf_mem (l : List Ed) (x : Ed) : x ∈ nf l ↔ x ∈ l := by
 induction l with
 | nil => simp [nf]
 | cons a r ih => simp [nf, ins_mem, ih]
theorem nf_str (l : List Ed) : Str (nf l) := by
 induction l with
 | nil => trivial
 | cons a r ih => exact ins_str a _ ih
theorem nf_of {l m : List Ed} (h : Str m) (hm : ∀ x, x ∈ m ↔ x ∈ l) : m = nf l := h.unique (nf_str l) fun x => (hm x).trans (nf_mem l x).symm
theorem ins_len (x : Ed) (l : List Ed) : (ins x l).length <= l.length + 1 := by
 induction l with
 | nil => simp [ins]
 | cons a r ih =>
   unfold ins
   cases h1 : lt x a <;> cases h2 : lt a x <;> simp <;> omega
theorem nf_len (l : List Ed) : (nf l).length <= l.length := by
 induction l with
 | nil => simp [nf]
 | cons a r ih => have := ins_len a (nf r); simp only [nf, List.length_cons]; omega
theorem str_len {m l : List Ed} (h : Str m) (hs : ∀ x ∈ m, x ∈ l) : m.length <= l.length := by
 have e : m = nf m := nf_of h fun _ => Iff.rfl
 induction m generalizing l with
 | nil => simp
 | cons a r ih =>
   have ha := hs a List.mem_cons_self
   have h1 : r.length <= (l.erase a).length := by
    refine ih h.tail (fun x hx => ?_) (nf_of h.tail fun _ => Iff.rfl)
    have h2 := h.head x hx
    have hne : x ≠ a := fun e => by rw [e, lt_irrefl] at h2; cases h2
    exact (List.mem_erase_of_ne hne).2 (hs x (List.mem_cons_of_mem _ hx))
   rw [List.length_erase_of_mem ha] at h1
   have := List.length_pos_of_mem ha
   simp only [List.length_cons]
   omega
def put (out : List Ed) (e : Ed) : List Ed := if out.getLast? = some e then out else out ++ [e]
theorem put_str {out : List Ed} {e : Ed} (h : Str out) (hle : ∀ x ∈ out, lt e x = false) : Str (put out e) := by
 unfold put
 split
 ·exact h
 ·rename_i hne
  refine h.snoc fun y hy => ?_
  have hys : ∀ (l : List Ed) (z : Ed), Str l -> l.getLast? = some z -> ∀ y ∈ l, y = z \/ lt y z = true := fun l => by
   induction l with
   | nil => intro z _ hz; simp at hz
   | cons a r ih =>
     intro z hs hz y hy
     cases r with
     | nil => simp at hz hy; subst hz; exact .inl hy
     | cons b s =>
       rw [List.getLast?_cons_cons] at hz
       rcases List.mem_cons.1 hy with rfl | hy
       ·have hzm := List.mem_of_getLast? hz
        exact .inr (hs.head z hzm)
       ·exact ih z hs.tail hz y hy
  cases hl : out.getLast? with
  | none => rw [List.getLast?_eq_none_iff] at hl; subst hl; simp at hy
  | some z =>
    have hzm := List.mem_of_getLast? hl
    have hz1 : lt z e = true := by
     cases h1 : lt z e with
     | true => rfl
     | false => exact absurd (by rw [hl, eq_of_not h1 (hle z hzm)]) hne
    rcases hys out z h hl y hy with rfl | h2
    ·exact hz1
    ·exact lt_trans h2 hz1
theorem put_mem (out : List Ed) (e x : Ed) : x ∈ put out e ↔ x ∈ out \/ x = e := by
 unfold put
 split
 ·rename_i h
  have := List.mem_of_getLast? h
  constructor
  ·exact .inl
  ·rintro (h | rfl)
   ·exact h
   ·exact this
 ·simp
structure Mg (a b : List Ed) (i k : Nat) (out : List Ed) : Prop where
 s : Str out
 m : ∀ x, x ∈ out ↔ x ∈ a.take i \/ x ∈ b.take k
 ha : ∀ x ∈ out, ∀ y ∈ a.drop i, lt y x = false
 hb : ∀ x ∈ out, ∀ y ∈ b.drop k, lt y x = false
def right (n k s : Int) (es : List Ed) : Bool :=
 decide (0 <= n /\ n <= 1000 /\ 1 <= k /\ k <= 201 /\ es.length <= 10000) && decide ((n = 0 -> s = 0) /\ (0 < n -> 0 <= s /\ s < n)) && es.all fun e => decide (0 <= e.1 /\ e.1 < n /\ 0 <= e.2.2 /\ e.2.2 < n /\ 0 <= e.2.1 /\ e.2.1 < k)
def turn (e : Ed) : Ed := (e.2.2, e.2.1, e.1)
def place (c : Int) : List Int -> Nat
 | [] => 0
 | a :: r => if a = c then 0 else place c r + 1
theorem place_le (c : Int) (l : List Int) : place c l <= l.length := by
 induction l with
 | nil => simp [place]
 | cons a r ih => unfold place; split <;> simp <;> omega
def canonG : List Int -> List Int -> List Nat
 | _, [] => []
 | seen, c :: r => place c seen :: canonG (if place c seen < seen.length then seen else seen ++ [c]) r
def canon (l : List Int) : List Nat := canonG [] l
def seenG : List Int -> List Int -> List Int
 | seen, [] => seen
 | seen, c :: r => seenG (if place c seen < seen.length then seen else seen ++ [c]) r
theorem canonG_len (l : List Int) : ∀ seen, (canonG seen l).length = l.length := by
 induction l with
 | nil => intro _; rfl
 | cons c r ih => intro seen; simp [canonG, ih]
theorem canonG_app (a b : List Int) : ∀ seen, canonG seen (a ++ b) = canonG seen a ++ canonG (seenG seen a) b := by
 induction a with
 | nil => intro _; rfl
 | cons c r ih => intro seen; simp only [List.cons_append, canonG, seenG]; rw [ih]
theorem seenG_app (a b : List Int) : ∀ seen, seenG seen (a ++ b) = seenG (seenG seen a) b := by
 induction a with
 | nil => intro _; rfl
 | cons c r ih => intro seen; simp only [List.cons_append, seenG]; rw [ih]
theorem seenG_len (l : List Int) : ∀ seen, (seenG seen l).length <= seen.length + l.length := by
 induction l with
 | nil => intro _; simp [seenG]
 | cons c r ih =>
   intro seen
   simp only [seenG]
   have h1 := ih (if place c seen < seen.length then seen else seen ++ [c])
   have h2 : (if place c seen < seen.length then seen else seen ++ [c]).length <= seen.length + 1 := by split <;> simp
   simp only [List.length_cons]
   omega
def top : List Nat -> Nat
 | [] => 0
 | k :: r => max (k + 1) (top r)
def together (l : List Int) : Nat := top (canon l)
def formG : Nat -> List Int -> Bool
 | _, [] => true
 | n, c :: r => decide (0 <= c /\ c <= n) && formG (if c = (n : Int) then n + 1 else n) r
end Sy
section
open Go.RowKit Go.Maps
structure Lc where
 b : Nat
 o : Nat
 c : Nat
def Lc.v (x : Lc) (d : Nat) : Value := rowV x.b x.o d x.c
def Lc.off (d : Nat) (x y : Lc) : Prop := x.b ≠ y.b \/ x.o + d <= y.o \/ y.o + d <= x.o
def upm {α : Type} (f : Nat -> α) (p : Nat) (x : α) : Nat -> α := fun q => if q = p then x else f q
theorem upm_same {α : Type} (f : Nat -> α) (p : Nat) (x : α) : upm f p x p = x := by simp [upm]
theorem upm_ne {α : Type} (f : Nat -> α) {p q : Nat} (x : α) (h : q ≠ p) : upm f p x q = f q := by simp [upm, h]
theorem row_list_ne {ty : TypeId} {w : World} {b o d g m i : Nat} {S : Nat -> Bool} {f : Nat -> Value} (h : RowAt w b o d S) (k : ListAt ty w g m f) (ht : ty ≠ 140) (_ : i = i) : g ≠ b := fun e => by
 obtain ⟨cs, hc, _⟩ := h
 obtain ⟨c2, hc2, _⟩ := k
 rw [e, hc] at hc2
 injection hc2 with e2
 injection e2 with _ e3
 exact ht e3.symm
structure Rws (w : World) (B g n d : Nat) (r : Nat -> Lc) (X : Nat -> Nat -> Bool) : Prop where
 lst : ListAt 82 w g n fun p => (r p).v d
 row : ∀ p, p < n -> RowAt w (r p).b (r p).o d (X p)
 ug : B <= g
 ur : ∀ p, p < n -> B <= (r p).b
theorem Rws.below {w w' : World} {B g n d : Nat} {r : Nat -> Lc} {X : Nat -> Nat -> Bool} (h : Rws w B g n d r X) (hb : Below w.heap.size w w') : Rws w' B g n d r X := ⟨h.lst.below hb, fun p hp => (h.row p hp).below hb, h.ug, h.ur⟩
theorem Rws.congr {w : World} {B g n d : Nat} {r : Nat -> Lc} {X Y : Nat -> Nat -> Bool} (h : Rws w B g n d r X) (hX : ∀ p q, p < n -> q / 64 < d -> X p q = Y p q) : Rws w B g n d r Y := ⟨h.lst, fun p hp => (h.row p hp).congr fun q hq => hX p q hp hq, h.ug, h.ur⟩
theorem Rws.put {w w' : World} {B g n d p : Nat} {r : Nat -> Lc} {X : Nat -> Nat -> Bool} {T : Nat -> Bool} (h : Rws w B g n d r X) (hp : p < n) (hw : Wr (r p).b (r p).o d w w') (hT : RowAt w' (r p).b (r p).o d T) (ha : ∀ q, q < n -> q ≠ p -> Lc.off d (r q) (r p)) : Rws w' B g n d r (upm X p T) := by
 refine ⟨h.lst.kept hw.kp (row_list_ne (i := 0) (h.row p hp) h.lst (by decide) rfl), fun q hq => ?_, h.ug, h.ur⟩
 by_cases e : q = p
 ·subst e; rw [upm_same]; exact hT
 ·rw [upm_ne _ _ e]; exact (h.row q hq).wr hw (ha q hq e)
theorem RowAt.lists {ty : TypeId} {w : World} {b o d g m i : Nat} {S : Nat -> Bool} {f : Nat -> Value} {v : Value} (h : RowAt w b o d S) (k : ListAt ty w g m f) (ht : ty ≠ 140) : RowAt (w.setCell ⟨g, i, none⟩ v) b o d S := h.at (set_other w g i b v fun e => row_list_ne (i := 0) h k ht rfl e.symm)
theorem Rws.other {ty : TypeId} {w : World} {B g n d h m i : Nat} {r : Nat -> Lc} {X : Nat -> Nat -> Bool} {f : Nat -> Value} {v : Value} (hR : Rws w B g n d r X) (k : ListAt ty w h m f) (ht : ty ≠ 140) (hne : g ≠ h) : Rws (w.setCell ⟨h, i, none⟩ v) B g n d r X := ⟨hR.lst.other hne, fun p hp => (hR.row p hp).lists k ht, hR.ug, hR.ur⟩
structure Ml where
 ge : Nat
 ga : Nat
 gl : Nat
 er : Nat -> Nat
 ew : Nat -> Nat
def Ez (es : List Sy.Ed) (a : Nat) : Nat -> Nat -> Bool := fun p t => decide (((p : Int), (a : Int), (t : Int)) ∈ es)
end
end Go.Proofs.YthcpliinddjkhaaGreatDoor
