/- The plain functions on bytes and words that the contracts of this seat speak of, with small facts on them; nothing of the program is in it. -/
import GoSem.Claim
namespace Go.Proofs.YthcboklkejlifaaGreatDoor
namespace Lx

def smallZ (c : Int) : Bool := decide (97 ≤ c ∧ c ≤ 122)
def greatZ (c : Int) : Bool := decide (65 ≤ c ∧ c ≤ 90)
def digitZ (c : Int) : Bool := decide (48 ≤ c ∧ c ≤ 57)
def markZ (c : Int) : Bool := [61, 43, 124, 46, 92, 123, 125, 91, 93, 40, 41, 44, 47, 39, 60, 62, 126, 38, 45, 58, 59].contains c
/-- What may be done at a byte. -/
def powZ (c : Int) : Int :=
  if smallZ c || greatZ c then 7 else if digitZ c then 3 else if c == 95 then 1
  else if c == 32 || c == 9 || c == 13 then 16 else if c == 35 then 32 else if c == 10 then 64 else if markZ c then 8 else 0
/-- A byte of a run. -/
def goB (c : Int) : Bool := smallZ c || greatZ c || digitZ c || c == 95
/-- How long a run is. -/
def runLen : List UInt8 → Nat
  | [] => 0
  | c :: r => if goB (c.toNat : Int) then runLen r + 1 else 0
def runE (l : List UInt8) (k : Nat) : Nat := k + runLen (l.drop k)

theorem runLen_le (l : List UInt8) : runLen l ≤ l.length := by
  induction l with
  | nil => simp [runLen]
  | cons c r ih => simp only [runLen]; split <;> simp <;> omega
theorem runE_ge (l : List UInt8) (k : Nat) : k ≤ runE l k := by unfold runE; omega
theorem runE_le (l : List UInt8) (k : Nat) (h : k ≤ l.length) : runE l k ≤ l.length := by
  have := runLen_le (l.drop k)
  simp at this
  unfold runE; omega
theorem drop_cons (l : List UInt8) (k : Nat) (h : k < l.length) : l.drop k = l[k] :: l.drop (k + 1) := by
  rw [List.drop_eq_getElem_cons h]
theorem runE_yes (l : List UInt8) (k : Nat) (h : k < l.length) (g : goB (l[k].toNat : Int) = true) : runE l (k + 1) = runE l k := by
  unfold runE
  rw [drop_cons l k h]
  simp only [runLen, g, if_true]; omega
theorem runE_no (l : List UInt8) (k : Nat) (h : k < l.length) (g : goB (l[k].toNat : Int) = false) : runE l k = k := by
  unfold runE
  rw [drop_cons l k h]
  simp [runLen, g]
theorem runE_end (l : List UInt8) : runE l l.length = l.length := by
  unfold runE; simp [runLen]
theorem low_ite (p : Prop) [Decidable p] (a b : Int) (ha : a % 2 = 0) (hb : b % 2 = 0) : (if p then a else b) % 2 = 0 := by split <;> assumption
theorem goB_pow (c : Int) : goB c = (powZ c % 2 == 1) := by
  unfold goB powZ
  cases h1 : (smallZ c || greatZ c) with
  | true => simp
  | false =>
    cases h2 : digitZ c with
    | true => simp
    | false =>
      cases h3 : (c == 95) with
      | true => simp
      | false =>
        have h : (if (c == 32 || c == 9 || c == 13) = true then (16 : Int) else if (c == 35) = true then 32 else if (c == 10) = true then 64 else if markZ c = true then 8 else 0) % 2 = 0 :=
          low_ite _ _ _ (by decide) (low_ite _ _ _ (by decide) (low_ite _ _ _ (by decide) (low_ite _ _ _ (by decide) (by decide))))
        simp only [Bool.or_false, Bool.false_eq_true, if_false]
        rw [h]; rfl
/-- A number's digits, one behind the other; none, if it grows too great. -/
def foldN : Nat → List UInt8 → Option Nat
  | n, [] => some n
  | n, c :: r => if (1073741824 - (c.toNat - 48)) / 10 < n then none else foldN (10 * n + (c.toNat - 48)) r
def allDig (l : List UInt8) : Bool := l.all fun c => digitZ (c.toNat : Int)
def badHead (l : List UInt8) : Bool := l == [] || (l.head? == some 48 && l != [48])
/-- A number's value and the code of what is wrong. -/
def numR (l : List UInt8) : Nat × Nat :=
  if badHead l || !allDig l then (0, 4) else match foldN 0 l with
    | some v => (v, 0)
    | none => (0, 2)
theorem allDig_at (l : List UInt8) (h : allDig l = true) (k : Nat) (hk : k < l.length) : digitZ (l[k].toNat : Int) = true := by
  unfold allDig at h
  exact List.all_eq_true.1 h _ (List.getElem_mem hk)
theorem not_allDig (l : List UInt8) (k : Nat) (hk : k < l.length) (h : digitZ (l[k].toNat : Int) = false) : allDig l = false := by
  cases e : allDig l with
  | false => rfl
  | true => rw [allDig_at l e k hk] at h; cases h
theorem allDig_of (l : List UInt8) (h : ∀ k (hk : k < l.length), digitZ (l[k].toNat : Int) = true) : allDig l = true := by
  unfold allDig
  refine List.all_eq_true.2 fun x hx => ?_
  obtain ⟨k, hk, rfl⟩ := List.getElem_of_mem hx
  exact h k hk
theorem foldN_step (l : List UInt8) (k n : Nat) (hk : k < l.length) (h : ¬ (1073741824 - (l[k].toNat - 48)) / 10 < n) : foldN n (l.drop k) = foldN (10 * n + (l[k].toNat - 48)) (l.drop (k + 1)) := by
  rw [drop_cons l k hk]; simp only [foldN, if_neg h]
theorem foldN_stop (l : List UInt8) (k n : Nat) (hk : k < l.length) (h : (1073741824 - (l[k].toNat - 48)) / 10 < n) : foldN n (l.drop k) = none := by
  rw [drop_cons l k hk]; simp only [foldN, if_pos h]
/-- How long the rest of a line is. -/
def lineLen : List UInt8 → Nat
  | [] => 0
  | c :: r => if c.toNat = 10 then 0 else lineLen r + 1
def lineE (l : List UInt8) (k : Nat) : Nat := k + lineLen (l.drop k)
theorem lineLen_le (l : List UInt8) : lineLen l ≤ l.length := by
  induction l with
  | nil => simp [lineLen]
  | cons c r ih => simp only [lineLen]; split <;> simp <;> omega
theorem lineE_le (l : List UInt8) (k : Nat) (h : k ≤ l.length) : lineE l k ≤ l.length := by
  have := lineLen_le (l.drop k)
  simp at this
  unfold lineE; omega
theorem lineE_yes (l : List UInt8) (k : Nat) (h : k < l.length) (g : l[k].toNat ≠ 10) : lineE l (k + 1) = lineE l k := by
  unfold lineE
  rw [drop_cons l k h]
  simp only [lineLen, g, if_false]; omega
theorem lineE_no (l : List UInt8) (k : Nat) (h : k < l.length) (g : l[k].toNat = 10) : lineE l k = k := by
  unfold lineE
  rw [drop_cons l k h]
  simp [lineLen, g]
theorem lineE_end (l : List UInt8) : lineE l l.length = l.length := by
  unfold lineE; simp [lineLen]
end Lx
end Go.Proofs.YthcboklkejlifaaGreatDoor
