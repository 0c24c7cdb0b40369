/- Texts of this claim, joined: WkPure, WkMem, WkSize, WkJoin, BookApp, BookNil, BXEdges, SyRight, SySort, SySorted, Is, Sent, ErIs, ErCode, ErTold, SyNormal, SyCanon, SyForms, SyProg, SyChk. -/
import Derived.Test.YthcpliinddjkhaaGreatDoorPart0
import Derived.Shelf.Abstract
import Derived.ArgAppend
import Derived.Test.YthcpliinddjkhaaGreatDoorProg
import Derived.RowKitTokens
import Derived.WalkSmall
import Derived.ProofKit
import Derived.Deep.QuietTactic
import Derived.BigQuiet
import Derived.Deep.DeepCutAuto
import Derived.Deep.RegionHeld3
import Derived.Deep.RegionLaw
import Derived.WalkKit
import Derived.LaidEql
import Derived.Stop.Asserts
import Derived.Below
import Derived.OneCell
import Derived.Deep.LoopGhost
namespace Go.Proofs.YthcpliinddjkhaaGreatDoor
namespace Wk
def tau (es : List Sy.Ed) (p q : Nat) : Bool := es.any fun e => e.2.1 == 0 && (e.1 == (p : Int) && e.2.2 == (q : Int))
theorem tau_iff {es : List Sy.Ed} {p q : Nat} : tau es p q = true ↔ ((p : Int), (0 : Int), (q : Int)) ∈ es := by
 unfold tau
 rw [List.any_eq_true]
 constructor
 ·rintro ⟨⟨a, b, c⟩, he, h⟩
  simp only [Bool.and_eq_true, beq_iff_eq] at h
  obtain ⟨h1, h2, h3⟩ := h
  subst h1; subst h2; subst h3
  exact he
 ·intro h
  exact ⟨_, h, by simp⟩
def sil (es : List Sy.Ed) : Nat -> Nat -> Nat -> Bool
 | 0, p, q => p == q || tau es p q
 | k + 1, p, q => sil es k p q || (sil es k p k && sil es k k q)
theorem sil_up {es : List Sy.Ed} {k p q : Nat} (h : sil es k p q = true) : sil es (k + 1) p q = true := by
 show (sil es k p q || _) = true
 rw [h]; rfl
theorem sil_le {es : List Sy.Ed} {k j p q : Nat} (hkj : k <= j) (h : sil es k p q = true) : sil es j p q = true := by
 induction hkj with
 | refl => exact h
 | step _ ih => exact sil_up ih
theorem sil_refl (es : List Sy.Ed) (k p : Nat) : sil es k p p = true := sil_le (Nat.zero_le k) (by show (p == p || _) = true; simp)
theorem sil_tau {es : List Sy.Ed} {p q : Nat} (k : Nat) (h : tau es p q = true) : sil es k p q = true := sil_le (Nat.zero_le k) (by show (p == q || tau es p q) = true; rw [h]; simp)
theorem sil_trans {es : List Sy.Ed} : ∀ {k p v q : Nat}, v < k -> sil es k p v = true -> sil es k v q = true -> sil es k p q = true
 | 0, _, _, _, h, _, _ => absurd h (Nat.not_lt_zero _)
 | k + 1, p, v, q, hv, h1, h2 => by
   have a1 : sil es k p v = true \/ (sil es k p k = true /\ sil es k k v = true) := by simpa [sil] using h1
   have a2 : sil es k v q = true \/ (sil es k v k = true /\ sil es k k q = true) := by simpa [sil] using h2
   show (sil es k p q || (sil es k p k && sil es k k q)) = true
   rw [Bool.or_eq_true, Bool.and_eq_true]
   by_cases hk : v = k
   ·subst hk
    have b1 : sil es v p v = true := a1.elim id fun h => h.1
    have b2 : sil es v v q = true := a2.elim id fun h => h.2
    exact .inr ⟨b1, b2⟩
   ·have hv2 : v < k := by omega
    rcases a1 with a1 | ⟨a1, a3⟩
    ·rcases a2 with a2 | ⟨a2, a4⟩
     ·exact .inl (sil_trans hv2 a1 a2)
     ·exact .inr ⟨sil_trans hv2 a1 a2, a4⟩
    ·rcases a2 with a2 | ⟨_, a4⟩
     ·exact .inr ⟨a1, sil_trans hv2 a3 a2⟩
     ·exact .inr ⟨a1, a4⟩
def In (n : Nat) (es : List Sy.Ed) : Prop := ∀ e ∈ es, 0 <= e.1 /\ e.1 < (n : Int) /\ 0 <= e.2.2 /\ e.2.2 < (n : Int) /\ 0 <= e.2.1
theorem tau_in {n : Nat} {es : List Sy.Ed} (hI : In n es) {p q : Nat} (h : tau es p q = true) : p < n /\ q < n := by
 have h1 := hI _ (tau_iff.1 h)
 simp only at h1
 omega
theorem sil_in {n : Nat} {es : List Sy.Ed} (hI : In n es) : ∀ {k p q : Nat}, sil es k p q = true -> p = q \/ (p < n /\ q < n)
 | 0, p, q, h => by
   have a : p = q \/ tau es p q = true := by simpa [sil] using h
   exact a.imp id (tau_in hI)
 | k + 1, p, q, h => by
   have a : sil es k p q = true \/ (sil es k p k = true /\ sil es k k q = true) := by simpa [sil] using h
   rcases a with a | ⟨a, b⟩
   ·exact sil_in hI a
   ·rcases sil_in hI a with c | c
    ·rcases sil_in hI b with d | d
     ·exact .inl (c.trans d)
     ·exact .inr ⟨by omega, d.2⟩
    ·rcases sil_in hI b with d | d
     ·exact .inr ⟨c.1, by omega⟩
     ·exact .inr ⟨c.1, d.2⟩
theorem sil_least {n : Nat} {es : List Sy.Ed} (hI : In n es) {R : Nat -> Nat -> Prop} (hr : ∀ p, p < n -> R p p) (ht : ∀ p q, tau es p q = true -> R p q) (hg : ∀ p v q, v < n -> R p v -> R v q -> R p q) : ∀ {k p q : Nat}, p < n -> sil es k p q = true -> R p q
 | 0, p, q, hp, h => by
   have a : p = q \/ tau es p q = true := by simpa [sil] using h
   rcases a with rfl | a
   ·exact hr p hp
   ·exact ht p q a
 | k + 1, p, q, hp, h => by
   have a : sil es k p q = true \/ (sil es k p k = true /\ sil es k k q = true) := by simpa [sil] using h
   rcases a with a | ⟨a, b⟩
   ·exact sil_least hI hr ht hg hp a
   ·have hk : k < n := by
     rcases sil_in hI a with c | c
     ·omega
     ·exact c.2
    exact hg p k q hk (sil_least hI hr ht hg hp a) (sil_least hI hr ht hg hk b)
def tbl (es : List Sy.Ed) (n a p q : Nat) : Bool := if a = 0 then sil es n p q else es.any fun e => e.2.1 == (a : Int) && (sil es n p e.1.toNat && sil es n e.2.2.toNat q)
theorem tbl_iff {es : List Sy.Ed} {n a p q : Nat} (hI : In n es) (ha : a ≠ 0) : tbl es n a p q = true ↔ ∃ u v : Nat, ((u : Int), (a : Int), (v : Int)) ∈ es /\ sil es n p u = true /\ sil es n v q = true := by
 unfold tbl
 rw [if_neg ha, List.any_eq_true]
 constructor
 ·rintro ⟨⟨x, b, y⟩, he, h⟩
  simp only [Bool.and_eq_true, beq_iff_eq] at h
  obtain ⟨h1, h2, h3⟩ := h
  have hb := hI _ he
  simp only at hb
  refine ⟨x.toNat, y.toNat, ?_, h2, h3⟩
  rw [Int.toNat_of_nonneg hb.1, Int.toNat_of_nonneg hb.2.2.1, <- h1]
  exact he
 ·rintro ⟨u, v, he, h2, h3⟩
  exact ⟨_, he, by simp [h2, h3]⟩
theorem tbl_in {es : List Sy.Ed} {n a p q : Nat} (hI : In n es) (hp : p < n) (h : tbl es n a p q = true) : q < n := by
 by_cases ha : a = 0
 ·subst ha
  have h1 : sil es n p q = true := h
  rcases sil_in hI h1 with c | c <;> omega
 ·obtain ⟨u, v, he, _, h3⟩ := (tbl_iff hI ha).1 h
  have hb := hI _ he
  simp only at hb
  rcases sil_in hI h3 with c | c <;> omega
def sat (es : List Sy.Ed) (n k : Nat) : List Sy.Ed := (List.range n).flatMap fun p => (List.range k).flatMap fun a => (Br.els (tbl es n a p) n).map fun (q : Nat) => ((p : Int), (a : Int), (q : Int))
theorem sat_mem {es : List Sy.Ed} {n k : Nat} {e : Sy.Ed} : e ∈ sat es n k ↔ ∃ p a q : Nat, e = ((p : Int), (a : Int), (q : Int)) /\ p < n /\ a < k /\ q < n /\ tbl es n a p q = true := by
 unfold sat
 simp only [List.mem_flatMap, List.mem_range, List.mem_map, Br.els_mem]
 constructor
 ·rintro ⟨p, hp, a, ha, q, ⟨hq, ht⟩, rfl⟩
  exact ⟨p, a, q, rfl, hp, ha, hq, ht⟩
 ·rintro ⟨p, a, q, rfl, hp, ha, hq, ht⟩
  exact ⟨p, hp, a, ha, q, ⟨hq, ht⟩, rfl⟩
theorem sat_in (es : List Sy.Ed) (n k : Nat) : In n (sat es n k) := fun e he => by
 obtain ⟨p, a, q, rfl, hp, _, hq, _⟩ := sat_mem.1 he
 simp only
 omega
theorem sat_tau {es : List Sy.Ed} {n k p q : Nat} (hk : 0 < k) : tau (sat es n k) p q = true ↔ p < n /\ q < n /\ sil es n p q = true := by
 rw [tau_iff, sat_mem]
 constructor
 ·rintro ⟨p', a, q', e, hp, _, hq, ht⟩
  injection e with e1 e2
  injection e2 with e2 e3
  obtain rfl : p = p' := by omega
  obtain rfl : a = 0 := by omega
  obtain rfl : q = q' := by omega
  exact ⟨hp, hq, ht⟩
 ·rintro ⟨hp, hq, h⟩
  exact ⟨p, 0, q, rfl, hp, hk, hq, h⟩
theorem sat_sil {es : List Sy.Ed} {n k p q : Nat} (hI : In n es) (hk : 0 < k) (hp : p < n) : sil (sat es n k) n p q = sil es n p q := by
 rw [Bool.eq_iff_iff]
 constructor
 ·intro h
  exact sil_least (sat_in es n k) (R := fun p q => sil es n p q = true) (fun p _ => sil_refl es n p) (fun p q h => ((sat_tau hk).1 h).2.2) (fun p v q hv h1 h2 => sil_trans hv h1 h2) hp h
 ·intro h
  have hq : q < n := by rcases sil_in hI h with c | c <;> omega
  exact sil_tau n ((sat_tau hk).2 ⟨hp, hq, h⟩)
theorem sat_tbl {es : List Sy.Ed} {n k a p q : Nat} (hI : In n es) (hk : a < k) (hp : p < n) : tbl (sat es n k) n a p q = tbl es n a p q := by
 by_cases ha : a = 0
 ·subst ha
  exact sat_sil hI hk hp
 ·rw [Bool.eq_iff_iff, tbl_iff (sat_in es n k) ha]
  constructor
  ·rintro ⟨u, v, he, h1, h2⟩
   obtain ⟨u', a', v', e, hu, _, hv, ht⟩ := sat_mem.1 he
   injection e with e1 e2
   injection e2 with e2 e3
   obtain rfl : u = u' := by omega
   obtain rfl : a = a' := by omega
   obtain rfl : v = v' := by omega
   rw [sat_sil hI (by omega) hp] at h1
   rw [sat_sil hI (by omega) hv] at h2
   obtain ⟨x, y, hx, h3, h4⟩ := (tbl_iff hI ha).1 ht
   exact (tbl_iff hI ha).2 ⟨x, y, hx, sil_trans hu h1 h3, sil_trans hv h4 h2⟩
  ·intro h
   have hq := tbl_in hI hp h
   exact ⟨p, q, sat_mem.2 ⟨p, a, q, rfl, hp, hk, hq, h⟩, sil_refl _ _ _, sil_refl _ _ _⟩
theorem flatMap_same {α β : Type} {f g : α -> List β} : ∀ {l : List α}, (∀ x ∈ l, f x = g x) -> l.flatMap f = l.flatMap g
 | [], _ => rfl
 | a :: r, h => by rw [List.flatMap_cons, List.flatMap_cons, h a List.mem_cons_self, flatMap_same fun x hx => h x (List.mem_cons_of_mem _ hx)]
theorem sat_sat {es : List Sy.Ed} {n k : Nat} (hI : In n es) : sat (sat es n k) n k = sat es n k := by
 have h : ∀ p ∈ List.range n, ((List.range k).flatMap fun a => (Br.els (tbl (sat es n k) n a p) n).map fun (q : Nat) => ((p : Int), (a : Int), (q : Int))) = (List.range k).flatMap fun a => (Br.els (tbl es n a p) n).map fun (q : Nat) => ((p : Int), (a : Int), (q : Int)) := fun p hp => by
  have h2 : ∀ a ∈ List.range k, ((Br.els (tbl (sat es n k) n a p) n).map fun (q : Nat) => ((p : Int), (a : Int), (q : Int))) = (Br.els (tbl es n a p) n).map fun (q : Nat) => ((p : Int), (a : Int), (q : Int)) := fun a ha => by
   have : Br.els (tbl (sat es n k) n a p) n = Br.els (tbl es n a p) n := by
    unfold Br.els
    exact List.filter_congr fun q _ => sat_tbl hI (List.mem_range.1 ha) (List.mem_range.1 hp)
   rw [this]
  exact flatMap_same h2
 exact flatMap_same h
theorem sat_right {es : List Sy.Ed} {n k : Nat} {s : Int} (h : Sy.right n k s es = true) (hl : (sat es n k).length <= 10000) : Sy.right n k s (sat es n k) = true := by
 unfold Sy.right at h ⊢
 simp only [Bool.and_eq_true, decide_eq_true_eq, List.all_eq_true] at h ⊢
 refine ⟨⟨⟨h.1.1.1, h.1.1.2.1, h.1.1.2.2.1, h.1.1.2.2.2.1, hl⟩, h.1.2⟩, fun e he => ?_⟩
 obtain ⟨p, a, q, rfl, hp, ha, hq, _⟩ := sat_mem.1 he
 simp only
 omega
theorem in_right {es : List Sy.Ed} {n k : Nat} {s : Int} (h : Sy.right n k s es = true) : In n es := fun e he => by
 unfold Sy.right at h
 simp only [Bool.and_eq_true, decide_eq_true_eq, List.all_eq_true] at h
 have := h.2 e he
 omega
end Wk
section
open Go.RowKit Go.Maps
attribute [local go_sem ↓] Go.wp_at_zero Go.wp_at_succ
def rl (g0 d : Nat) (p : Nat) : Lc := ⟨g0, p * d, d⟩
theorem rl_apart {d p q : Nat} (h : p ≠ q) : p * d + d <= q * d \/ q * d + d <= p * d := by
 rcases Nat.lt_or_ge p q with h1 | h1
 ·have h2 : (p + 1) * d <= q * d := Nat.mul_le_mul_right _ h1
  rw [Nat.add_mul, Nat.one_mul] at h2
  exact .inl h2
 ·have h2 : (q + 1) * d <= p * d := Nat.mul_le_mul_right _ (by omega)
  rw [Nat.add_mul, Nat.one_mul] at h2
  exact .inr h2
theorem rl_off {g0 d p q : Nat} (h : p ≠ q) : Lc.off d (rl g0 d p) (rl g0 d q) := .inr (rl_apart h)
theorem sev_rws {w w' : World} {g0 g1 m d : Nat} (h : Sev w w' g0 g1 m d) : Rws w' w.heap.size g1 m d (rl g0 d) fun _ _ => false := ⟨h.rw, fun _ hp => h.row hp, h.u1, fun _ _ => h.u0⟩
theorem upm_congr {w : World} {B g n d p : Nat} {r : Nat -> Lc} {X : Nat -> Nat -> Bool} {T : Nat -> Bool} {Y : Nat -> Nat -> Bool} (h : Rws w B g n d r (upm X p T)) (hY : ∀ a q, a < n -> q / 64 < d -> Y a q = if a = p then T q else X a q) : Rws w B g n d r Y := h.congr fun a q ha hq => by
 rw [hY a q ha hq]
 by_cases e : a = p
 ·subst e; rw [upm_same, if_pos rfl]
 ·rw [upm_ne _ _ e, if_neg e]
set_option maxRecDepth 100000 in
set_option maxHeartbeats 2000000 in
theorem joinSelf_any (b o d c c2 : Nat) (S : Nat -> Bool) (w : World) (hd : d <= 10000) (hR : RowAt w b o d S) : Calls Tryz.prog 147 #[rowV b o d c, rowV b o d c2] w fun r w' => (∃ v, r = .returned v) /\ RowAt w' b o d S /\ Wr b o d w w' := by
 have HR : Hid _ := And.intro hR trivial
 clear hR
 unfold rowV
 go_enter Tryz.func147, Tryz.ntmps147
 go_wp2_with fail
 go_loopg [8] d (fun k iv wr => ∃ i : Nat, k = d - i /\ i <= d /\ iv = .int .i64 i /\ RowAt wr b o d S /\ Wr b o d w wr)
 case atStart => exact ⟨0, rfl, Nat.zero_le _, rfl, HR.out.1, Wr.refl _ _ _ _⟩
 case round =>
  obtain ⟨i, rfl, hi, rfl, hA, hW⟩ := hrel
  by_cases hlt : i < d
  ·have c0 := hA.cell hlt
   have f0 := hA.free (o + i)
   have h0 : (0 : Int) <= (i : Int) := by omega
   have h1 : (i : Int) < (d : Int) := by omega
   have HA : Hid _ := And.intro hA hW
   clear hA hW
   go_wp2_with (simp only [Br.b_or])
   go_roundg (d - (i + 1))
   case measure => omega
   case rel =>
    refine ⟨i + 1, rfl, by omega, by go_num, ?_, ?_⟩
    ·have hp := HA.out.1.put hlt S fun q hq => rfl
     exact hp
    ·exact HA.out.2.trans (Wr.set wr b o d hlt _)
  ·obtain rfl : i = d := by omega
   have h1 : ¬ (i : Int) < (i : Int) := by omega
   have HA : Hid _ := And.intro hA hW
   clear hA hW
   go_wp2_with fail
   go_end0
   exact ⟨⟨_, rfl⟩, HA.out.1, HA.out.2⟩
end
section
open Go.RowKit Go.Maps
attribute [local go_sem ↓] Go.wp_at_zero Go.wp_at_succ
theorem u64_w {x : Nat} (h : x < 18446744073709551616) : IntKind.u64.wrap (x : Int) = (x : Int) := by rw [IntKind.wrap_u64]; omega
theorem i64_127 {z : Nat} (h : z < 9223372036854775808) : bits .and .i64 (z : Int) 127 = ((z % 128 : Nat) : Int) := by
 have h1 : (BitVec.ofInt 64 (z : Int)).toNat = z := by
  rw [BitVec.ofInt_natCast, BitVec.toNat_ofNat]; exact Nat.mod_eq_of_lt (by omega)
 have h2 : (BitVec.ofInt 64 (127 : Int)).toNat = 127 := by decide
 show IntKind.i64.wrap ((BitVec.ofInt 64 (z : Int) &&& BitVec.ofInt 64 (127 : Int)).toNat : Int) = _
 rw [BitVec.toNat_and, h1, h2, show (127 : Nat) = 2 ^ 7 - 1 from rfl, Nat.and_two_pow_sub_one_eq_mod, IntKind.wrap_i64]
 omega
theorem pop_s1 {x : Nat} (hx : x < 18446744073709551616) (h : Pop.s1 x < 18446744073709551616) : IntKind.u64.wrap (bits .and .u64 ((x : Int) / 2) 6148914691236517205 + bits .and .u64 (x : Int) 6148914691236517205) = ((Pop.s1 x : Nat) : Int) := by
 rw [show (x : Int) / 2 = ((x / 2 : Nat) : Int) by omega, show (6148914691236517205 : Int) = ((6148914691236517205 : Nat) : Int) from rfl, bits_and_u64_nat _ _ (by omega) (by decide), bits_and_u64_nat _ _ hx (by decide), <- Int.natCast_add]
 exact u64_w h
theorem pop_s2 {x : Nat} (hx : x < 18446744073709551616) (h : Pop.s2 x < 18446744073709551616) : IntKind.u64.wrap (bits .and .u64 ((x : Int) / 4) 3689348814741910323 + bits .and .u64 (x : Int) 3689348814741910323) = ((Pop.s2 x : Nat) : Int) := by
 rw [show (x : Int) / 4 = ((x / 4 : Nat) : Int) by omega, show (3689348814741910323 : Int) = ((3689348814741910323 : Nat) : Int) from rfl, bits_and_u64_nat _ _ (by omega) (by decide), bits_and_u64_nat _ _ hx (by decide), <- Int.natCast_add]
 exact u64_w h
theorem pop_s3 {x : Nat} (hx : x < 9223372036854775808) : bits .and .u64 (IntKind.u64.wrap ((x : Int) / 16 + (x : Int))) 1085102592571150095 = ((Pop.s3 x : Nat) : Int) := by
 rw [show (x : Int) / 16 + (x : Int) = ((x / 16 + x : Nat) : Int) by omega, u64_w (by omega), show (1085102592571150095 : Int) = ((1085102592571150095 : Nat) : Int) from rfl, bits_and_u64_nat _ _ (by omega) (by decide)]
 rfl
set_option maxRecDepth 100000 in
set_option maxHeartbeats 2000000 in
theorem ones_any (x : Nat) (hx : x < 18446744073709551616) (w : World) : Calls Tryz.prog 167 #[.int .u64 x] w fun r w' => r = .returned (.int .i64 (Pop.pc x 64 : Nat)) /\ w' = w := by
 obtain ⟨y, z1, z2, z3, hy, h1, h2, e1, e2, e3, l1, l2, l3, hz⟩ := Pop.fold8 hx
 have hy2 : y <= z1 := by omega
 have a1 := pop_s1 hx h1
 have a2 := pop_s2 h1 (by omega : Pop.s2 (Pop.s1 x) < 18446744073709551616)
 have a3 := pop_s3 h2
 rw [<- hy] at a3
 have a4 : IntKind.u64.wrap ((y : Int) + (y : Int) / 256) = (z1 : Int) := by rw [IntKind.wrap_u64]; omega
 have a5 : IntKind.u64.wrap ((z1 : Int) + (z1 : Int) / 65536) = (z2 : Int) := by rw [IntKind.wrap_u64]; omega
 have a6 : IntKind.u64.wrap ((z2 : Int) + (z2 : Int) / 4294967296) = (z3 : Int) := by rw [IntKind.wrap_u64]; omega
 have a7 : wrap64 (z3 : Int) = (z3 : Int) := by unfold wrap64; omega
 have a8 := i64_127 l3
 rw [hz] at a8
 have H : Hid _ := And.intro a1 (And.intro a2 (And.intro a3 (And.intro a4 (And.intro a5 (And.intro a6 (And.intro a7 a8))))))
 generalize Pop.pc x 64 = P at H ⊢
 generalize Pop.s2 (Pop.s1 x) = s2 at H
 generalize Pop.s1 x = s1 at H
 clear hx hy h1 h2 e1 e2 e3 l1 l2 l3 hz hy2 a1 a2 a3 a4 a5 a6 a7 a8
 go_enter Tryz.func167, Tryz.ntmps167
 go_upto_region 2 with fail
 rw [H.out.1]
 go_upto_region 3 with fail
 rw [H.out.2.1]
 go_upto_region 4 with fail
 rw [H.out.2.2.1]
 go_upto_region 5 with fail
 rw [H.out.2.2.2.1]
 go_upto_region 6 with fail
 rw [H.out.2.2.2.2.1]
 go_upto_region 7 with fail
 rw [H.out.2.2.2.2.2.1]
 go_wp2_with fail
 go_ret
 refine ⟨?_, rfl⟩
 show Ending.returned (.int .i64 (bits .and .i64 (wrap64 (z3 : Int)) 127)) = _
 rw [H.out.2.2.2.2.2.2.1, H.out.2.2.2.2.2.2.2]
theorem els_one (S : Nat -> Bool) (N : Nat) : (Br.els S (N + 1)).length = (Br.els S N).length + (if S N then 1 else 0) := by
 unfold Br.els
 rw [List.range_succ, List.filter_append, List.length_append]
 by_cases h : S N <;> simp [h]
theorem els_pc (S : Nat -> Bool) (i : Nat) : ∀ k, k <= 64 -> (Br.els S (64 * i + k)).length = (Br.els S (64 * i)).length + Pop.pc (Br.wd S i) k
 | 0, _ => rfl
 | k + 1, h => by
   have e1 : (Br.els S (64 * i + (k + 1))).length = (Br.els S (64 * i + k)).length + (if S (64 * i + k) then 1 else 0) := els_one S (64 * i + k)
   rw [e1, els_pc S i k (by omega)]
   show _ = _ + (Pop.pc (Br.wd S i) k + _)
   rw [Br.wd_bit, decide_eq_true (by omega : k < 64), Bool.true_and, Nat.add_assoc]
theorem els_le9 (S : Nat -> Bool) (N : Nat) : (Br.els S N).length <= N := by
 unfold Br.els
 have := List.length_filter_le S (List.range N)
 rw [List.length_range] at this
 exact this
set_option maxRecDepth 100000 in
set_option maxHeartbeats 2000000 in
theorem sizeRow_any (b o d c : Nat) (S : Nat -> Bool) (w : World) (hd : d <= 10000) (hR : RowAt w b o d S) : Calls Tryz.prog 148 #[rowV b o d c] w fun r w' => r = .returned (.int .i64 (Br.els S (64 * d)).length) /\ w' = w := by
 have HR : Hid _ := And.intro hR trivial
 clear hR
 unfold rowV
 go_enter Tryz.func148, Tryz.ntmps148
 go_wp2_with fail
 go_loopg [8, 3] d (fun k iv sv wr => ∃ i : Nat, k = d - i /\ i <= d /\ iv = .int .i64 i /\ sv = .int .i64 (Br.els S (64 * i)).length /\ wr = w)
 case atStart => exact ⟨0, rfl, Nat.zero_le _, rfl, rfl, rfl⟩
 case round =>
  obtain ⟨i, rfl, hi, rfl, rfl, hw⟩ := hrel
  obtain rfl := hw.symm
  clear hw
  by_cases hlt : i < d
  ·have c0 := HR.out.1.cell hlt
   have q0 : (0 : Int) <= (i : Int) := by omega
   have q1 : (i : Int) < (d : Int) := by omega
   have hl := els_le9 S (64 * i)
   have hN := els_pc S i 64 (Nat.le_refl _)
   have hO := fun W => ones_any (Br.wd S i) (Br.wd_lt S i) W
   have hp := els_le9 S (64 * i + 64)
   have HN : Hid _ := And.intro hN hO
   obtain ⟨N, hNN⟩ : ∃ N, N = (Br.els S (64 * i)).length := ⟨_, rfl⟩
   obtain ⟨Q, hQ⟩ : ∃ Q, Q = Pop.pc (Br.wd S i) 64 := ⟨_, rfl⟩
   have hb : N + Q <= 1000000 := by rw [hNN, hQ, <- hN]; omega
   rw [<- hNN] at HN ⊢
   rw [<- hQ] at HN
   clear hN hO hl hp hNN hQ
   go_wp2_with fail
   refine Calls.mono (HN.out.2 _) ?_
   rintro r w1 ⟨rfl, hw1⟩
   obtain rfl := hw1.symm
   clear hw1
   go_wp2_with fail
   go_roundg (d - (i + 1))
   case measure => omega
   case rel =>
    refine ⟨i + 1, rfl, by omega, by go_num, ?_, rfl⟩
    rw [show 64 * (i + 1) = 64 * i + 64 by omega, HN.out.1]
    go_num
  ·obtain rfl : i = d := by omega
   have h1 : ¬ (i : Int) < (i : Int) := by omega
   go_wp2_with fail
   go_ret
   exact ⟨rfl, rfl⟩
end
section
open Go.RowKit Go.Maps
attribute [local go_sem ↓] Go.wp_at_zero Go.wp_at_succ
def jn (S : Nat -> Nat -> Bool) (H : Nat -> Bool) (T : Nat -> Bool) (i : Nat) : Nat -> Nat -> Bool := fun p q => S p q || (decide (p < i) && (H p && T q))
theorem jn_step {S : Nat -> Nat -> Bool} {H T : Nat -> Bool} {i : Nat} (a q : Nat) : jn S H T (i + 1) a q = if a = i then (S i q || (H i && T q)) else jn S H T i a q := by
 unfold jn
 by_cases e : a = i
 ·subst e; simp
 ·rw [if_neg e]
  have : decide (a < i + 1) = decide (a < i) := by simp only [decide_eq_decide]; omega
  rw [this]
theorem jn_at {S : Nat -> Nat -> Bool} {H T : Nat -> Bool} {i : Nat} (q : Nat) : jn S H T i i q = S i q := by simp [jn]
def SetAt (g0 n d : Nat) (S : Nat -> Nat -> Bool) (b2 o2 : Nat) (T : Nat -> Bool) : Prop := b2 ≠ g0 \/ ∃ v, v < n /\ b2 = g0 /\ o2 = v * d /\ T = S v
theorem set_stands {w W : World} {B g0 g1 n d i b2 o2 : Nat} {S : Nat -> Nat -> Bool} {H T : Nat -> Bool} (hs : SetAt g0 n d S b2 o2 T) (hT : RowAt w b2 o2 d T) (hk : Kept (fun b => b = g0) w W) (hR : Rws W B g1 n d (rl g0 d) (jn S H T i)) : RowAt W b2 o2 d T := by
 rcases hs with h | ⟨v, hv, rfl, rfl, rfl⟩
 ·exact hT.kept hk h
 ·refine (hR.row v hv).congr fun q _ => ?_
  unfold jn
  cases S v q <;> simp
set_option maxRecDepth 100000 in
set_option maxHeartbeats 4000000 in
theorem joinS_any (g0 g1 n d : Nat) (S : Nat -> Nat -> Bool) (b2 o2 c2 : Nat) (T H : Nat -> Bool) (k1 k2 B : Nat) (w : World) (hd : d <= 10000) (hn : n <= 1000) (hR : Rws w B g1 n d (rl g0 d) S) (hT : RowAt w b2 o2 d T) (hs : SetAt g0 n d S b2 o2 T)
 (hf : ∀ p W, p < n -> Kept (fun b => b = g0) w W -> RowAt W g0 (p * d) d (S p) -> Calls Tryz.prog 101 #[.int .i64 p, .pointer (some ⟨k1, 0, none⟩), .pointer (some ⟨k2, 0, none⟩)] W fun r W' => r = .returned (.bool (H p)) /\ Below W.heap.size W W') :
 Calls Tryz.prog 100 #[.slice (some ⟨g1, 0, none⟩) n n, .func (.func 101) #[] #[.pointer (some ⟨k1, 0, none⟩), .pointer (some ⟨k2, 0, none⟩)], rowV b2 o2 d c2] w fun r w' => r = .returned (.tuple #[]) /\ Rws w' B g1 n d (rl g0 d) (fun p q => S p q || (H p && T q)) /\ Kept (fun b => b = g0) w w' := by
 have HR : Hid _ := And.intro hR (And.intro hT (And.intro hs hf))
 have hE : Enters Tryz.prog 101 := enters_of Tryz.func101 (by kernel_rfl) rfl
 unfold Enters at hE
 clear hR hT hs hf
 unfold rowV
 go_enter Tryz.func100, Tryz.ntmps100
 go_wp2_with fail
 go_loopg [10] n (fun k iv wr => ∃ i : Nat, k = n - i /\ i <= n /\ iv = .int .i64 i /\ Rws wr B g1 n d (rl g0 d) (jn S H T i) /\ Kept (fun b => b = g0) w wr)
 case atStart => exact ⟨0, rfl, Nat.zero_le _, rfl, HR.out.1.congr fun p q _ _ => by simp [jn], Kept.refl _ _⟩
 case round =>
  obtain ⟨i, rfl, hi, rfl, hA, hK⟩ := hrel
  by_cases hlt : i < n
  ·have h0 : (0 : Int) <= (i : Int) := by omega
   have h1 : (i : Int) < (n : Int) := by omega
   have c0 := hA.lst.cell hlt
   unfold rl Lc.v rowV at c0
   simp only at c0
   have hc := HR.out.2.2.2 i wr hlt hK ((hA.row i hlt).congr fun q _ => jn_at q)
   have HA : Hid _ := And.intro hA (And.intro hK hc)
   clear hA hK hc
   obtain ⟨hh, hhh⟩ : ∃ hh, hh = H i := ⟨_, rfl⟩
   rw [<- hhh] at HA
   have HH : Hid (hh = H i) := hhh
   clear hhh
   cases hh
   ·go_wp2_with (go_at_fn 101; refine Calls.mono HA.out.2.2 ?_; rintro r w1 ⟨rfl, hb1⟩; have H1 : Hid _ := hb1; clear hb1)
    go_roundg (n - (i + 1))
    case measure => omega
    case rel =>
     refine ⟨i + 1, rfl, by omega, by go_num, (HA.out.1.below H1.out).congr fun p q hp hq => ?_, HA.out.2.1.trans (Kept.of_below H1.out)⟩
     rw [jn_step]
     by_cases e : p = i
     ·subst e; rw [if_pos rfl, <- HH.out, jn_at]; simp
     ·rw [if_neg e]
   ·go_wp2_with (go_at_fn 101; refine Calls.mono HA.out.2.2 ?_; rintro r w1 ⟨rfl, hb1⟩; have H1 : Hid _ := hb1; clear hb1)
    have hA1 := HA.out.1.below H1.out
    have hK1 := HA.out.2.1.trans (Kept.of_below H1.out)
    have hT1 := set_stands HR.out.2.2.1 HR.out.2.1 hK1 hA1
    have hJ : Calls Tryz.prog 147 #[.slice (some ⟨g0, i * d, none⟩) d d, .slice (some ⟨b2, o2, none⟩) d c2] w1 fun r w' => (∃ v, r = .returned v) /\ RowAt w' g0 (i * d) d (fun q => S i q || T q) /\ Wr g0 (i * d) d w1 w' := by
     have hri : RowAt w1 g0 (i * d) d (S i) := (hA1.row i hlt).congr fun q _ => jn_at q
     rcases HR.out.2.2.1 with h | ⟨v, hv, e1, e2, e3⟩
     ·exact joinRow_any g0 (i * d) d d b2 o2 c2 (S i) T w1 hd hri hT1 (.inl h)
     ·by_cases e : v = i
      ·subst e; subst e1; subst e2; subst e3
       refine (joinSelf_any b2 (v * d) d d c2 (S v) w1 hd hri).mono ?_
       rintro r w' ⟨hr, hx, hw⟩
       exact ⟨hr, hx.congr fun q _ => by simp, hw⟩
      ·refine joinRow_any g0 (i * d) d d b2 o2 c2 (S i) T w1 hd hri hT1 (.inr ?_)
       rw [e2]
       exact rl_apart e
    have HJ : Hid _ := And.intro hJ (And.intro hA1 hK1)
    clear hJ hA1 hK1 hT1
    go_wp2_with fail
    refine Calls.mono HJ.out.1 ?_
    rintro r w2 ⟨⟨vr, rfl⟩, hx, hw⟩
    have H2 : Hid _ := And.intro hx hw
    clear hx hw
    go_wp2_with fail
    go_roundg (n - (i + 1))
    case measure => omega
    case rel =>
     refine ⟨i + 1, rfl, by omega, by go_num, upm_congr (HJ.out.2.1.put hlt H2.out.2 H2.out.1 fun q hq e => rl_off e) fun p q hp hq => ?_, HJ.out.2.2.trans H2.out.2.kp⟩
     rw [jn_step, <- HH.out]
     simp
  ·obtain rfl : i = n := by omega
   have h1 : ¬ (i : Int) < (i : Int) := by omega
   have HA : Hid _ := And.intro hA hK
   clear hA hK
   go_wp2_with fail
   go_end0
   exact ⟨rfl, HA.out.1.congr fun p q hp _ => by simp [jn, hp], HA.out.2⟩
set_option maxRecDepth 100000 in
set_option maxHeartbeats 4000000 in
theorem joinT_any (g0 g1 n d : Nat) (S : Nat -> Nat -> Bool) (b2 o2 c2 : Nat) (T H : Nat -> Bool) (k1 k2 B : Nat) (w : World) (hd : d <= 10000) (hn : n <= 1000) (hR : Rws w B g1 n d (rl g0 d) S) (hT : RowAt w b2 o2 d T) (hs : SetAt g0 n d S b2 o2 T)
 (hf : ∀ p W, p < n -> Kept (fun b => b = g0) w W -> RowAt W g0 (p * d) d (S p) -> Calls Tryz.prog 106 #[.int .i64 p, .pointer (some ⟨k1, 0, none⟩), .pointer (some ⟨k2, 0, none⟩)] W fun r W' => r = .returned (.bool (H p)) /\ Below W.heap.size W W') :
 Calls Tryz.prog 100 #[.slice (some ⟨g1, 0, none⟩) n n, .func (.func 106) #[] #[.pointer (some ⟨k1, 0, none⟩), .pointer (some ⟨k2, 0, none⟩)], rowV b2 o2 d c2] w fun r w' => r = .returned (.tuple #[]) /\ Rws w' B g1 n d (rl g0 d) (fun p q => S p q || (H p && T q)) /\ Kept (fun b => b = g0) w w' := by
 have HR : Hid _ := And.intro hR (And.intro hT (And.intro hs hf))
 have hE : Enters Tryz.prog 106 := enters_of Tryz.func106 (by kernel_rfl) rfl
 unfold Enters at hE
 clear hR hT hs hf
 unfold rowV
 go_enter Tryz.func100, Tryz.ntmps100
 go_wp2_with fail
 go_loopg [10] n (fun k iv wr => ∃ i : Nat, k = n - i /\ i <= n /\ iv = .int .i64 i /\ Rws wr B g1 n d (rl g0 d) (jn S H T i) /\ Kept (fun b => b = g0) w wr)
 case atStart => exact ⟨0, rfl, Nat.zero_le _, rfl, HR.out.1.congr fun p q _ _ => by simp [jn], Kept.refl _ _⟩
 case round =>
  obtain ⟨i, rfl, hi, rfl, hA, hK⟩ := hrel
  by_cases hlt : i < n
  ·have h0 : (0 : Int) <= (i : Int) := by omega
   have h1 : (i : Int) < (n : Int) := by omega
   have c0 := hA.lst.cell hlt
   unfold rl Lc.v rowV at c0
   simp only at c0
   have hc := HR.out.2.2.2 i wr hlt hK ((hA.row i hlt).congr fun q _ => jn_at q)
   have HA : Hid _ := And.intro hA (And.intro hK hc)
   clear hA hK hc
   obtain ⟨hh, hhh⟩ : ∃ hh, hh = H i := ⟨_, rfl⟩
   rw [<- hhh] at HA
   have HH : Hid (hh = H i) := hhh
   clear hhh
   cases hh
   ·go_wp2_with (go_at_fn 106; refine Calls.mono HA.out.2.2 ?_; rintro r w1 ⟨rfl, hb1⟩; have H1 : Hid _ := hb1; clear hb1)
    go_roundg (n - (i + 1))
    case measure => omega
    case rel =>
     refine ⟨i + 1, rfl, by omega, by go_num, (HA.out.1.below H1.out).congr fun p q hp hq => ?_, HA.out.2.1.trans (Kept.of_below H1.out)⟩
     rw [jn_step]
     by_cases e : p = i
     ·subst e; rw [if_pos rfl, <- HH.out, jn_at]; simp
     ·rw [if_neg e]
   ·go_wp2_with (go_at_fn 106; refine Calls.mono HA.out.2.2 ?_; rintro r w1 ⟨rfl, hb1⟩; have H1 : Hid _ := hb1; clear hb1)
    have hA1 := HA.out.1.below H1.out
    have hK1 := HA.out.2.1.trans (Kept.of_below H1.out)
    have hT1 := set_stands HR.out.2.2.1 HR.out.2.1 hK1 hA1
    have hJ : Calls Tryz.prog 147 #[.slice (some ⟨g0, i * d, none⟩) d d, .slice (some ⟨b2, o2, none⟩) d c2] w1 fun r w' => (∃ v, r = .returned v) /\ RowAt w' g0 (i * d) d (fun q => S i q || T q) /\ Wr g0 (i * d) d w1 w' := by
     have hri : RowAt w1 g0 (i * d) d (S i) := (hA1.row i hlt).congr fun q _ => jn_at q
     rcases HR.out.2.2.1 with h | ⟨v, hv, e1, e2, e3⟩
     ·exact joinRow_any g0 (i * d) d d b2 o2 c2 (S i) T w1 hd hri hT1 (.inl h)
     ·by_cases e : v = i
      ·subst e; subst e1; subst e2; subst e3
       refine (joinSelf_any b2 (v * d) d d c2 (S v) w1 hd hri).mono ?_
       rintro r w' ⟨hr, hx, hw⟩
       exact ⟨hr, hx.congr fun q _ => by simp, hw⟩
      ·refine joinRow_any g0 (i * d) d d b2 o2 c2 (S i) T w1 hd hri hT1 (.inr ?_)
       rw [e2]
       exact rl_apart e
    have HJ : Hid _ := And.intro hJ (And.intro hA1 hK1)
    clear hJ hA1 hK1 hT1
    go_wp2_with fail
    refine Calls.mono HJ.out.1 ?_
    rintro r w2 ⟨⟨vr, rfl⟩, hx, hw⟩
    have H2 : Hid _ := And.intro hx hw
    clear hx hw
    go_wp2_with fail
    go_roundg (n - (i + 1))
    case measure => omega
    case rel =>
     refine ⟨i + 1, rfl, by omega, by go_num, upm_congr (HJ.out.2.1.put hlt H2.out.2 H2.out.1 fun q hq e => rl_off e) fun p q hp hq => ?_, HJ.out.2.2.trans H2.out.2.kp⟩
     rw [jn_step, <- HH.out]
     simp
  ·obtain rfl : i = n := by omega
   have h1 : ¬ (i : Int) < (i : Int) := by omega
   have HA : Hid _ := And.intro hA hK
   clear hA hK
   go_wp2_with fail
   go_end0
   exact ⟨rfl, HA.out.1.congr fun p q hp _ => by simp [jn, hp], HA.out.2⟩
end
section
open Go.RowKit
theorem run_append_keep {P : Program} (w : World) (base : Nat) (t ty e : TypeId) (i : TypeInfo) (z : Value) (size bytes : Nat) (ht : P.underlying t = some (.slice e)) (hi : P.info? e = some i) (hz : i.zero = some z)
 (hsize : i.size = size) (hby : i.bytes = bytes) (hzs : z.cells.size = size) (hsz : 0 < size) (v : Value) (n : Nat) (xs : List Value) (hown : w.ownsRow base e size v n xs)
 (a : Addr) (m c : Nat) (news : List Value) (hl : news.length = m * size) (hnews : ∀ j u, news[j]? = some u -> w.cell? (a.add j) = some u) (h1 : ∀ u ∈ news, u.oneCell' = true)
 (h63 : n + m <= maxLen) (hbytes : (n + m) * bytes <= 140737488355328) (hbase : base <= w.heap.size) :
 ∃ v' w', (Builtin.append_ #[t, t] ty #[v, .slice (some a) m c]).run P w = .ok v' w' /\ w'.ownsRow base e size v' (n + m) (xs ++ news) /\
  ((v'.ownBlock = v.ownBlock /\ w.grownBy w' v.ownBlock) \/ ((∀ k, v'.ownBlock = some k -> w.heap.size <= k) /\ w.grownBy w' none)) := by
 obtain ⟨v1, w1, hr1, h2, h3, _, h5⟩ := run_append_own_at (P := P) w base t ty e i z size bytes ht hi hz hsize hby hzs hsz v n xs hown a m c news hl hnews h1 h63 hbytes hbase
 rcases _root_.id hown.2 with ⟨rfl, _⟩ | ⟨g, cap, cur, rfl, hg, hb, hc, hm, hs, htk⟩
 ·refine ⟨v1, w1, hr1, h2, .inr ⟨fun k hk => ?_, h3⟩⟩
  rcases h5 with e | e
  ·rw [e] at hk; cases hk
  ·rw [e] at hk; have := Option.some.inj hk; omega
 ·by_cases hroom : n + m <= cap
  ·subst hsize
   have hr2 := run_append_room (P := P) w t ty e i ht hi g n cap cur hb a m c news hl hnews h1 hroom (by rw [hs, hl, <- Nat.add_mul]; exact Nat.mul_le_mul_right _ hroom)
   rw [hr1] at hr2
   injection hr2 with e1 e2
   exact ⟨v1, w1, hr1, h2, .inl ⟨by rw [e1]; rfl, h3⟩⟩
  ·have hcells : ∀ j u, xs[j]? = some u -> w.cell? ((⟨g, 0, none⟩ : Addr).add j) = some u := fun j u hj => by
    have hlt := (List.getElem?_eq_some_iff.1 hj).1
    rw [addz, World.ownsRow.cellAt hown j (by rw [<- hown.1]; exact hlt), hj]
   obtain ⟨v2, w2, hr2, h6, h7⟩ := run_append_arg_grows (P := P) w t ty e i z size bytes ht hi hz hsize hby hzs hsz ⟨g, 0, none⟩ n cap xs hown.1 hcells a m c news hl hnews (by omega) h63 hbytes
   exact ⟨v2, w2, hr2, row_base h6 hbase, .inr ⟨fun k hk => (World.ownsRow.lt h6 k hk).1, h7⟩⟩
theorem wpList_append_keep {P : Program} (w : World) {ops : Array Oper} {rest : List Oper} {o : Oper} {a : Act} {Q : Exit -> Act -> World -> Prop} (hgd : o.guard = none) (s x : Operand) (t : TypeId)
 (ho : o.op = .call { callee := .builtin .append, args := #[s, x], argTypes := #[t, t] })
 (base : Nat) (e : TypeId) (i : TypeInfo) (z : Value) (size bytes : Nat) (ht : P.underlying t = some (.slice e)) (hi : P.info? e = some i) (hz : i.zero = some z)
 (hsize : i.size = size) (hby : i.bytes = bytes) (hzs : z.cells.size = size) (hsz : 0 < size) (v : Value) (n : Nat) (xs : List Value) (hs : a.eval s = v) (hown : w.ownsRow base e size v n xs)
 (ad : Addr) (m c : Nat) (news : List Value) (hx : a.eval x = .slice (some ad) m c) (hl : news.length = m * size) (hnews : ∀ j u, news[j]? = some u -> w.cell? (ad.add j) = some u) (h1 : ∀ u ∈ news, u.oneCell' = true)
 (h63 : n + m <= maxLen) (hbytes : (n + m) * bytes <= 140737488355328) (hbase : base <= w.heap.size)
 (h : ∀ v' w', w'.ownsRow base e size v' (n + m) (xs ++ news) -> ((v'.ownBlock = v.ownBlock /\ w.grownBy w' v.ownBlock) \/ ((∀ k, v'.ownBlock = some k -> w.heap.size <= k) /\ w.grownBy w' none)) -> wpList P ops Q rest (a.put o.dst v') w') :
 wpList P ops Q (o :: rest) a w := by
 refine wpList_plain hgd fun K hK => ?_
 obtain ⟨v', w', hr, h2, h3⟩ := run_append_keep (P := P) w base t o.type e i z size bytes ht hi hz hsize hby hzs hsz v n xs hown ad m c news hl hnews h1 h63 hbytes hbase
 unfold Oper.wp execOp
 simp only [ho, resolve, invoke, builtin, Sem.run_bind, Sem.run_pure, Result.andThen_ok, List.map_toArray, List.map_cons, List.map_nil, hs, hx, hr]
 exact hK _ _ (h v' w' h2 h3)
end
section
open Go.RowKit
end
namespace BEdges
open Go.RowKit Go.Maps
attribute [local go_sem ↓] Go.wp_at_zero Go.wp_at_succ
abbrev El : Type := Int × Int × Int
def enc (z : El) : List Value := [.int .i64 z.1, .int .i64 z.2.1, .int .i64 z.2.2]
def C (zs : List El) : List Value := zs.flatMap enc
theorem enc_len (z : El) : (enc z).length = 3 := rfl
theorem C_len (zs : List El) : (C zs).length = zs.length * 3 := by
 unfold C
 induction zs with
 | nil => rfl
 | cons z r ih => rw [List.flatMap_cons, List.length_append, ih, enc_len, List.length_cons]; omega
theorem C_app (a b : List El) : C (a ++ b) = C a ++ C b := List.flatMap_append
theorem C_one (zs : List El) : ∀ u ∈ C zs, u.oneCell' = true := fun u hu => by
 obtain ⟨z, _, hz⟩ := List.mem_flatMap.1 hu
 simp only [enc, List.mem_cons, List.not_mem_nil, or_false] at hz
 rcases hz with rfl | rfl | rfl <;> rfl
theorem C_at : ∀ (zs : List El) (k : Nat) (z : El), zs[k]? = some z -> ∀ q, q < 3 -> (C zs)[k * 3 + q]? = (enc z)[q]?
 | [], _, _, h, _, _ => by simp at h
 | y :: r, 0, z, h, q, hq => by
   simp at h
   subst h
   show (enc y ++ C r)[0 * 3 + q]? = _
   rw [List.getElem?_append_left (by rw [enc_len]; omega)]
   congr 1
   omega
 | y :: r, k + 1, z, h, q, hq => by
   have ih := C_at r k z (by simpa using h) q hq
   show (enc y ++ C r)[(k + 1) * 3 + q]? = _
   rw [List.getElem?_append_right (by rw [enc_len]; omega), enc_len, <- ih]
   congr 1
   omega
theorem C_set (zs : List El) {k : Nat} (hk : k < zs.length) (x : El) : C (zs.set k x) = ((((C zs).set (k * 3) (.int .i64 x.1)).set (k * 3 + 1) (.int .i64 x.2.1)).set (k * 3 + 2) (.int .i64 x.2.2)) := by
 apply List.ext_getElem?
 intro j
 by_cases hj : j / 3 = k
 ·obtain ⟨q, hq, rfl⟩ : ∃ q, q < 3 /\ j = k * 3 + q := ⟨j % 3, Nat.mod_lt _ (by decide), by omega⟩
  rw [C_at (zs.set k x) k x (List.getElem?_set_self hk) q hq]
  have hl : (C zs).length = zs.length * 3 := C_len zs
  have hq' : q = 0 \/ q = 1 \/ q = 2 := by omega
  rcases hq' with rfl | rfl | rfl <;> simp [List.getElem?_set, hl, enc] <;> omega
 ·have e : (C (zs.set k x))[j]? = (C zs)[j]? := by
   rcases Nat.lt_or_ge (j / 3) zs.length with h | h
   ·obtain ⟨z, hz⟩ : ∃ z, zs[j / 3]? = some z := ⟨_, List.getElem?_eq_getElem h⟩
    have hz' : (zs.set k x)[j / 3]? = some z := by rw [List.getElem?_set_ne (fun e => hj e.symm)]; exact hz
    have e0 : j = j / 3 * 3 + j % 3 := by omega
    rw [e0, C_at _ _ z hz' _ (Nat.mod_lt _ (by decide)), C_at _ _ z hz _ (Nat.mod_lt _ (by decide))]
   ·rw [List.getElem?_eq_none (by rw [C_len, List.length_set]; omega), List.getElem?_eq_none (by rw [C_len]; omega)]
  rw [e]
  rw [List.getElem?_set_ne (by omega), List.getElem?_set_ne (by omega), List.getElem?_set_ne (by omega)]
def Own (w : World) (B : Nat) (v : Value) (zs : List El) : Prop := w.ownsRow B 70 3 v zs.length (C zs)
def Has (w : World) (v : Value) (zs : List El) : Prop := ∃ ao cap, v = .slice ao zs.length cap /\ ∀ (j : Nat) (u : Value), (C zs)[j]? = some u -> ∃ a, ao = some a /\ w.cell? (a.add j) = some u
theorem Has.below {w w' : World} {v : Value} {zs : List El} (h : Has w v zs) (hb : Below w.heap.size w w') : Has w' v zs := by
 obtain ⟨ao, cap, h1, h2⟩ := h
 refine ⟨ao, cap, h1, fun i p hi => ?_⟩
 obtain ⟨a, ha, c0⟩ := h2 i p hi
 exact ⟨a, ha, (hb.cell (World.block_lt_of_cell? w _ c0)).trans c0⟩
theorem C_nil {zs : List El} (h : zs ≠ []) : ∃ u, (C zs)[0]? = some u := by
 cases zs with
 | nil => exact absurd rfl h
 | cons z r =>
   have h1 := C_at (z :: r) 0 z rfl 0 (by decide)
   have h2 : (enc z)[0]? = some ((enc z)[0]'(by rw [enc_len]; decide)) := List.getElem?_eq_getElem _
   exact ⟨_, h1.trans h2⟩
theorem Own.at {w : World} {B g cap n : Nat} {zs : List El} (h : Own w B (.slice (some ⟨g, 0, none⟩) n cap) zs) {j : Nat} {u : Value} (hj : (C zs)[j]? = some u) : w.cell? ⟨g, j, none⟩ = some u := by
 obtain ⟨ao', cap', hv⟩ := row_shape h
 injection hv with _ e _
 subst e
 have h' : w.ownsRow B 70 3 (.slice (some ⟨g, 0, none⟩) zs.length cap) zs.length (C zs) := h
 rw [h'.cellAt j (by rw [<- h'.1]; exact (List.getElem?_eq_some_iff.1 hj).1), hj]
theorem Own.has {w : World} {B : Nat} {v : Value} {zs : List El} (h : Own w B v zs) : Has w v zs := by
 obtain ⟨ao, cap, hv⟩ := row_shape h
 refine ⟨ao, cap, hv, fun j u hj => ?_⟩
 have hlt := (List.getElem?_eq_some_iff.1 hj).1
 rw [C_len] at hlt
 obtain ⟨g, c, hf, _, _⟩ := World.ownsRow.form h (by omega)
 rw [hv] at hf
 injection hf with e1 e2 e3
 subst e1; subst e3
 refine ⟨_, rfl, ?_⟩
 rw [addz]
 rw [hv] at h
 exact Own.at h hj
theorem add_q (a : Addr) (m q : Nat) : (a.add m).add q = a.add (m + q) := by
 unfold Addr.add
 by_cases h1 : m = 0 <;> by_cases h2 : q = 0 <;> simp [h1, h2] <;> omega
theorem copy_of {w : World} {ao : Option Addr} {n cap : Nat} {zs : List El} (h : Has w (.slice ao n cap) zs) : (ao = none -> n = 0) /\ ∀ ad, ao = some ad -> ∀ j u, (C zs)[j]? = some u -> w.cell? (ad.add j) = some u := by
 obtain ⟨ao', cap', hv, h2⟩ := h
 injection hv with e1 e2 e3
 subst e1
 refine ⟨fun e => ?_, fun ad e j u hj => ?_⟩
 ·rw [e2]
  by_cases hz : zs = []
  ·rw [hz]; rfl
  ·obtain ⟨u, hu⟩ := C_nil hz
   obtain ⟨a, ha, _⟩ := h2 0 u hu
   rw [e] at ha; cases ha
 ·obtain ⟨a, ha, hc⟩ := h2 j u hj
  rw [e] at ha
  cases ha
  exact hc
def mk1 (i k : Nat) : El := (-1 - (i : Int), (k : Int), 7)
def marks (i f n : Nat) : List El := (List.range n).map fun k => mk1 i (f + k)
theorem Tryz.infoE : (Tryz.prog.info? 70).map (fun i => (i.zero, i.size, i.bytes)) = some (some (.agg #[.int .i64 0, .int .i64 0, .int .i64 0]), 3, 24) := by kernel_rfl
theorem C_snoc (zs : List El) (z : El) : C (zs ++ [z]) = C zs ++ enc z := by
 rw [C_app]
 show _ ++ (enc z ++ []) = _
 rw [List.append_nil]
set_option maxRecDepth 100000 in
set_option maxHeartbeats 4000000 in
theorem same_b (va vb : Value) (zs : List El) (w : World) (hn : zs.length <= 1000000000000000) (hA : Has w va zs) (hB : Has w vb zs) :
 Calls Tryz.prog 39 #[va, vb] w fun e w' => e = .returned (.bool true) /\ Below w.heap.size w w' := by
 obtain ⟨ao, cap, rfl, hcA⟩ := hA
 obtain ⟨ao', cap', rfl, hcB⟩ := hB
 obtain ⟨n, hN⟩ : ∃ n, n = zs.length := ⟨_, rfl⟩
 have HH : Hid _ := And.intro hcA (And.intro hcB hN)
 rw [<- hN] at hn ⊢
 clear hcA hcB hN
 have q : ((n : Int) != (n : Int)) = false := by simp
 go_enter Tryz.func39, Tryz.ntmps39
 go_wp2
 go_loopg [5] n (fun g i wr => ∃ j m : Nat, g = n - j /\ j <= n /\ i = .int .i64 j /\ wr = w.drewN m)
 case atStart => exact ⟨0, 0, rfl, Nat.zero_le _, rfl, rfl⟩
 case round =>
  obtain ⟨j, m, rfl, hj, rfl, rfl⟩ := hrel
  by_cases hlt : j < n
  ·obtain ⟨z, hz⟩ : ∃ z, zs[j]? = some z := ⟨zs[j]'(by have := HH.out.2.2; omega), List.getElem?_eq_getElem _⟩
   obtain ⟨a, rfl, c0'⟩ := HH.out.1 (j * 3 + 0) _ ((C_at zs j z hz 0 (by decide)).trans rfl)
   obtain ⟨b, rfl, d0'⟩ := HH.out.2.1 (j * 3 + 0) _ ((C_at zs j z hz 0 (by decide)).trans rfl)
   have c0 : w.cell? (a.add (j * 3)) = some (.int .i64 z.1) := by first | exact c0' | simpa using c0'
   have d0 : w.cell? (b.add (j * 3)) = some (.int .i64 z.1) := by first | exact d0' | simpa using d0'
   clear c0' d0'
   obtain ⟨_, ec1, c1'⟩ := HH.out.1 (j * 3 + 1) _ ((C_at zs j z hz 1 (by decide)).trans rfl)
   cases ec1
   have c1 : w.cell? ⟨(a.add (j * 3)).block, (a.add (j * 3)).off + 1, none⟩ = some (.int .i64 z.2.1) := by rw [<- add_q] at c1'; exact c1'
   clear c1'
   obtain ⟨_, ed1, d1'⟩ := HH.out.2.1 (j * 3 + 1) _ ((C_at zs j z hz 1 (by decide)).trans rfl)
   cases ed1
   have d1 : w.cell? ⟨(b.add (j * 3)).block, (b.add (j * 3)).off + 1, none⟩ = some (.int .i64 z.2.1) := by rw [<- add_q] at d1'; exact d1'
   clear d1'
   obtain ⟨_, ec2, c2'⟩ := HH.out.1 (j * 3 + 2) _ ((C_at zs j z hz 2 (by decide)).trans rfl)
   cases ec2
   have c2 : w.cell? ⟨(a.add (j * 3)).block, (a.add (j * 3)).off + 2, none⟩ = some (.int .i64 z.2.2) := by rw [<- add_q] at c2'; exact c2'
   clear c2'
   obtain ⟨_, ed2, d2'⟩ := HH.out.2.1 (j * 3 + 2) _ ((C_at zs j z hz 2 (by decide)).trans rfl)
   cases ed2
   have d2 : w.cell? ⟨(b.add (j * 3)).block, (b.add (j * 3)).off + 2, none⟩ = some (.int .i64 z.2.2) := by rw [<- add_q] at d2'; exact d2'
   clear d2'
   have q0 : (0 : Int) <= (j : Int) := by omega
   have q1 : (j : Int) < (n : Int) := by omega
   clear hz
   go_wp2_with fail
   go_quiet (fail)
   go_wp2
   go_roundg (n - (j + 1))
   case measure => omega
   case rel => exact ⟨j + 1, _, rfl, by omega, by go_num, by first | rfl | exact World.drewN_drewN _ _ _⟩
  ·obtain rfl : j = n := by omega
   have q1 : ¬ (j : Int) < (j : Int) := by omega
   go_wp2
   go_ret
   exact ⟨rfl, below_drewN (Below.refl _ _) _⟩
end BEdges
section
open Go.RowKit Go.Maps
attribute [local go_sem ↓] Go.wp_at_zero Go.wp_at_succ
def sysV (n k s : Int) (v : Value) : Value := .agg #[.int .i64 n, .int .i64 k, .int .i64 s, v]
theorem four_cells {w : World} {b : Nat} {x0 x1 x2 x3 : Value} {t : TypeId} (h : w.heap[b]? = some (.cells #[x0, x1, x2, x3] t (0, 0))) : w.cell? ⟨b, 0, none⟩ = some x0 /\ w.cell? ⟨b, 1, none⟩ = some x1 /\ w.cell? ⟨b, 2, none⟩ = some x2 /\ w.cell? ⟨b, 3, none⟩ = some x3 := by
 simp [World.cell?, h]
theorem edge_at {w : World} {ao : Option Addr} {n cap : Nat} {es : List BEdges.El} (h : BEdges.Has w (.slice ao n cap) es) {j : Nat} {z : BEdges.El} (hz : es[j]? = some z) :
 ∃ a, ao = some a /\ w.cell? (a.add (j * 3)) = some (.int .i64 z.1) /\ w.cell? ⟨(a.add (j * 3)).block, (a.add (j * 3)).off + 1, none⟩ = some (.int .i64 z.2.1) /\ w.cell? ⟨(a.add (j * 3)).block, (a.add (j * 3)).off + 2, none⟩ = some (.int .i64 z.2.2) := by
 obtain ⟨ao', cap', hv, hc⟩ := h
 injection hv with e1 e2 e3
 subst e1
 obtain ⟨a, rfl, c0⟩ := hc (j * 3 + 0) _ ((BEdges.C_at es j z hz 0 (by decide)).trans rfl)
 obtain ⟨a1, e1, c1⟩ := hc (j * 3 + 1) _ ((BEdges.C_at es j z hz 1 (by decide)).trans rfl)
 cases e1
 obtain ⟨a2, e2, c2⟩ := hc (j * 3 + 2) _ ((BEdges.C_at es j z hz 2 (by decide)).trans rfl)
 cases e2
 refine ⟨a, rfl, by simpa using c0, ?_, ?_⟩
 ·rw [<- BEdges.add_q] at c1; exact c1
 ·rw [<- BEdges.add_q] at c2; exact c2
def edgeOk (n k : Int) (e : Sy.Ed) : Bool := decide (0 <= e.1 /\ e.1 < n /\ 0 <= e.2.2 /\ e.2.2 < n /\ 0 <= e.2.1 /\ e.2.1 < k)
end
section
open Go.RowKit Go.Maps
attribute [local go_sem ↓] Go.wp_at_zero Go.wp_at_succ
def edV (a : Sy.Ed) : Value := .agg #[.int .i64 a.1, .int .i64 a.2.1, .int .i64 a.2.2]
def HasE (w : World) (v : Value) (es : List Sy.Ed) : Prop := ∃ ao cap, v = .slice ao es.length cap /\ es.length <= cap /\ BEdges.Has w v es
end
section
open Go.RowKit Go.Maps
attribute [local go_sem ↓] Go.wp_at_zero Go.wp_at_succ
def SortedAt (w : World) (v : Value) (es : List Sy.Ed) : Prop := Calls Tryz.prog 109 #[v] w fun e w' => ∃ u, e = .returned u /\ BEdges.Own w' w.heap.size u (Sy.nf es) /\ Below w.heap.size w w'
end
section
open Go.RowKit Go.Extern.Stop Go.Stop Go.Extern
theorem Tryz.isTypeOf (v : Value) (w : World) : (Extern.ReflectliteType.typeOf #[.iface 311 v]).run Tryz.prog w = .ok (.iface 183 (.agg #[.pointer (some ⟨21, 311, none⟩)])) w := by kernel_rfl
def cmpEntry : Array Value -> Sem Value := Extern.ReflectliteType.method fun t => do
 Rtype.noPackHeld "Comparable" t
 pure (.bool (<- typeInfo t).comparable)
theorem Tryz.isComparable (w : World) : (cmpEntry #[.agg #[.pointer (some ⟨21, 311, none⟩)]]).run Tryz.prog w = .ok (.bool true) w := by kernel_rfl
theorem Tryz.isMethodComparable (v : Value) (w : World) : (Go.method 443 183 v "Comparable").run Tryz.prog w = .ok (263, v) w := by kernel_rfl
theorem Tryz.isComp : (Tryz.prog.info? 311).map (·.comparable) = some true := by kernel_rfl
theorem Tryz.isSize : (Tryz.prog.info? 331).map (·.size) = some 1 := by kernel_rfl
theorem Tryz.noIsE (v : Value) (xT : TypeId) (w : World) : (Instr.typeAssert (.iface 311 v) xT 185 true).run Tryz.prog w = .ok (.tuple #[.nilIface, .bool false]) w := run_typeAssert_lacksB Tryz.underlying185 (by kernel_rfl) (by kernel_rfl) v xT w
theorem Tryz.noUnwrapE (v : Value) (xT : TypeId) (w : World) : (Instr.typeAssert (.iface 311 v) xT 188 true).run Tryz.prog w = .ok (.tuple #[.nilIface, .bool false]) w := run_typeAssert_lacksB Tryz.underlying188 (by kernel_rfl) (by kernel_rfl) v xT w
theorem Tryz.noUnwrapsE (v : Value) (xT : TypeId) (w : World) : (Instr.typeAssert (.iface 311 v) xT 190 true).run Tryz.prog w = .ok (.tuple #[.nilIface, .bool false]) w := run_typeAssert_lacksB Tryz.underlying190 (by kernel_rfl) (by kernel_rfl) v xT w
theorem Tryz.noIsW (v : Value) (xT : TypeId) (w : World) : (Instr.typeAssert (.iface 92 v) xT 185 true).run Tryz.prog w = .ok (.tuple #[.nilIface, .bool false]) w := run_typeAssert_lacksB Tryz.underlying185 (by kernel_rfl) (by kernel_rfl) v xT w
theorem Tryz.hasUnwrapW (v : Value) (xT : TypeId) (w : World) : (Instr.typeAssert (.iface 92 v) xT 188 true).run Tryz.prog w = .ok (.tuple #[.iface 92 v, .bool true]) w := run_typeAssert_hasB Tryz.underlying188 (by kernel_rfl) v xT w
theorem Tryz.methodUnwrap (v : Value) (w : World) : (Go.method 443 92 v "Unwrap").run Tryz.prog w = .ok (260, v) w := by kernel_rfl

end
section
open Go.RowKit
def Sent (w : World) (g : Nat) (a : Addr) : Prop := w.cell? ⟨g, 0, none⟩ = some (.iface 311 (.pointer (some a))) /\ ∃ c t, w.heap[a.block]? = some (.cells c t (0, 0))
theorem Sent.below {w w1 : World} {g : Nat} {a : Addr} (h : Sent w g a) (hb : Below w.heap.size w w1) : Sent w1 g a := by
 obtain ⟨h1, c, t, h2⟩ := h
 exact ⟨(hb.cell (World.block_lt_of_cell? w _ h1)).trans h1, c, t, by rw [hb.block _ (lt_of_block h2)]; exact h2⟩
end
section
open Go.RowKit Go.Extern.Stop Go.Stop Go.Extern
def Chain (w : World) (l c : Int) (a : Addr) : List ByteArray -> Value -> Prop
 | [], v => v = .iface 311 (.pointer (some a))
 | s :: r, v => ∃ b u, v = .iface 92 (.pointer (some ⟨b, 0, none⟩)) /\ w.heap[b]? = some (.cells #[.string s, .int .i64 l, .int .i64 c, u] 95 (0, 0)) /\ Chain w l c a r u
theorem Chain.below {w w' : World} {l c : Int} {a : Addr} : ∀ {ls : List ByteArray} {v : Value}, Chain w l c a ls v -> Below w.heap.size w w' -> Chain w' l c a ls v
 | [], _, h, _ => h
 | s :: r, v, h, hb => by
   obtain ⟨b, u, h1, h2, h3⟩ := h
   exact ⟨b, u, h1, (hb.block b (Array.getElem?_eq_some_iff.1 h2).1).trans h2, Chain.below h3 hb⟩
theorem Chain.iface {w : World} {l c : Int} {a : Addr} {ls : List ByteArray} {v : Value} (h : Chain w l c a ls v) : ∃ T u, v = .iface T u := by
 cases ls with
 | nil => exact ⟨_, _, h⟩
 | cons s r => obtain ⟨b, u, h1, _⟩ := h; exact ⟨_, _, h1⟩
theorem fault_cells {w : World} {b : Nat} {x0 x1 x2 x3 : Value} {t : TypeId} (h : w.heap[b]? = some (.cells #[x0, x1, x2, x3] t (0, 0))) : w.cell? ⟨b, 0, none⟩ = some x0 /\ w.cell? ⟨b, 1, none⟩ = some x1 /\ w.cell? ⟨b, 2, none⟩ = some x2 /\ w.cell? ⟨b, 3, none⟩ = some x3 := by
 simp [World.cell?, h]
set_option maxRecDepth 100000 in
set_option maxHeartbeats 4000000 in
theorem isLow_chain (v : Value) (ls : List ByteArray) (l c : Int) (a b : Addr) (ca cb : Array Value) (ta tb : TypeId) (w : World) (hC : Chain w l c a ls v) (ha : w.heap[a.block]? = some (.cells ca ta (0, 0))) (hb : w.heap[b.block]? = some (.cells cb tb (0, 0))) :
 Calls Tryz.prog 93 #[v, .iface 311 (.pointer (some b)), .bool true] w fun e w' => e = .returned (.bool (decide (a = b))) /\ w' = w := by
 obtain ⟨i, hi, hcmp⟩ := Option.map_eq_some_iff.1 Tryz.isComp
 obtain ⟨j, hj, hjs⟩ := Option.map_eq_some_iff.1 Tryz.isSize
 have nE := Tryz.noIsE
 have uE := Tryz.noUnwrapE
 have vE := Tryz.noUnwrapsE
 have nW := Tryz.noIsW
 have uW := Tryz.hasUnwrapW
 have mU := Tryz.methodUnwrap
 have heq : (binOp .eql 48 (.iface 311 (.pointer (some a))) (.iface 311 (.pointer (some b)))).run Tryz.prog w = .ok (.bool (decide (a = b))) w := by
  by_cases e : a = b
  ·subst e
   rw [run_eql_iface_ptr_same (P := Tryz.prog) w a Tryz.underlying48 Tryz.underlying311 hi hcmp hj]
   simp
  ·rw [run_eql_iface_ptr_other (P := Tryz.prog) w Tryz.underlying48 Tryz.underlying311 hi hcmp hj (by rw [hjs]; decide) e ha hb]
   simp [e]
 obtain ⟨d, hd⟩ : ∃ d, d = decide (a = b) := ⟨_, rfl⟩
 rw [<- hd] at heq ⊢
 have HC : Hid (Chain w l c a ls v) := hC
 clear hC ha hb hd hi hcmp hj hjs
 go_enter Tryz.func93, Tryz.ntmps93
 go_wp2_with fail
 go_loopg [0] (ls.length + 1) (fun q ev wr => ∃ (r : List ByteArray), q = r.length + 1 /\ wr = w /\ Chain w l c a r ev)
 case atStart => exact ⟨ls, rfl, rfl, HC.out⟩
 case round =>
  obtain ⟨r, rfl, rfl, hCr⟩ := hrel
  clear HC
  cases r with
  | nil =>
    have e : u0 = .iface 311 (.pointer (some a)) := hCr
    subst e
    clear hCr
    cases d
    ·go_wp2
     go_ret
     exact ⟨rfl, rfl⟩
    ·go_wp2
     go_ret
     exact ⟨rfl, rfl⟩
  | cons s r =>
    obtain ⟨pb, u, rfl, hB, hCu⟩ := hCr
    have h1 := (fault_cells hB).2.2.2
    have hty := run_eql_iface_types (P := Tryz.prog) 92 311 (.pointer (some ⟨pb, 0, none⟩)) (.pointer (some b)) Tryz.underlying48 (by decide) wr
    obtain ⟨T, x, rfl⟩ := hCu.iface
    have HU : Hid (Chain wr l c a r (.iface T x)) := hCu
    clear hCu hB heq
    go_wp2
    go_roundg (r.length + 1)
    case measure => simp
    case rel => exact ⟨r, rfl, rfl, HU.out⟩
set_option maxHeartbeats 1000000 in
theorem is_chain (v : Value) (ls : List ByteArray) (l c : Int) (a b : Addr) (ca cb : Array Value) (ta tb : TypeId) (w : World) (hC : Chain w l c a ls v) (ha : w.heap[a.block]? = some (.cells ca ta (0, 0))) (hb : w.heap[b.block]? = some (.cells cb tb (0, 0))) :
 Calls Tryz.prog 28 #[v, .iface 311 (.pointer (some b))] w fun e w' => e = .returned (.bool (decide (a = b))) /\ w' = w := by
 have h8 := @run_callFunc_extern Tryz.prog 92 _ Extern.ReflectliteType.typeOf Tryz.func92 (by kernel_rfl) (by kernel_rfl) (by kernel_rfl) (by kernel_rfl)
 have h32 := @run_callFunc_extern Tryz.prog 263 _ cmpEntry Tryz.func263 (by kernel_rfl) (by kernel_rfl) (by kernel_rfl) (by kernel_rfl)
 have tT := Tryz.isTypeOf
 have cT := Tryz.isComparable
 have mR := Tryz.isMethodComparable
 have HL : Hid _ := isLow_chain v ls l c a b ca cb ta tb w hC ha hb
 obtain ⟨T, x, rfl⟩ := hC.iface
 clear hC ha hb
 go_enter Tryz.func28, Tryz.ntmps28
 go_wp2_with (go_at_call 93; refine Calls.mono HL.out ?_; rintro e w' ⟨rfl, hw⟩; obtain rfl := hw.symm; clear hw)
 go_ret
 exact ⟨rfl, rfl⟩
end
section
open Go.RowKit
structure Er (m : Nat) (w : World) (e : Nat -> Addr) : Prop where
 s1 : 1 <= m -> Sent w 3 (e 1)
 s2 : 2 <= m -> Sent w 2 (e 2)
 s3 : 3 <= m -> Sent w 1 (e 3)
 s4 : 4 <= m -> Sent w 4 (e 4)
 s5 : 5 <= m -> Sent w 5 (e 5)
 s6 : 6 <= m -> Sent w 6 (e 6)
 s7 : 7 <= m -> Sent w 7 (e 7)
 s8 : 8 <= m -> Sent w 8 (e 8)
 s9 : 9 <= m -> Sent w 9 (e 9)
 s10 : 10 <= m -> Sent w 10 (e 10)
 s11 : 11 <= m -> Sent w 13 (e 11)
 s12 : 12 <= m -> Sent w 14 (e 12)
 s13 : 13 <= m -> Sent w 0 (e 13)
 s14 : 14 <= m -> Sent w 11 (e 14)
 s15 : 15 <= m -> Sent w 15 (e 15)
 s16 : 16 <= m -> Sent w 16 (e 16)
 s17 : 17 <= m -> Sent w 17 (e 17)
 s18 : 18 <= m -> Sent w 18 (e 18)
 s19 : 19 <= m -> Sent w 19 (e 19)
 ne : ∀ i j, 1 <= i -> i < j -> j <= m -> e j ≠ e i
end
section
open Go.RowKit
def joinS (x : ByteArray) : List ByteArray -> ByteArray
 | [] => x
 | s :: r => joinS (x ++ s ++ ⟨#[32]⟩) r
end
section
open Go.RowKit Go.Maps
attribute [local go_sem ↓] Go.wp_at_zero Go.wp_at_succ
def sysB : ByteArray := ⟨#[115, 121, 115, 116, 101, 109]⟩
def sysB1 : ByteArray := ⟨#[115, 121, 115, 116, 101, 109, 32]⟩
theorem four_set {w : World} {b : Nat} {x0 x1 x2 x3 a0 a1 a2 a3 : Value} {t : TypeId} (h : w.heap[b]? = some (.cells #[x0, x1, x2, x3] t (0, 0))) : ((((w.setCell ⟨b, 0, none⟩ a0).setCell ⟨b, 1, none⟩ a1).setCell ⟨b, 2, none⟩ a2).setCell ⟨b, 3, none⟩ a3).heap[b]? = some (.cells #[a0, a1, a2, a3] t (0, 0)) :=
 heap_setCell_same _ b 3 _ _ _ (heap_setCell_same _ b 2 _ _ _ (heap_setCell_same _ b 1 _ _ _ (heap_setCell_same w b 0 _ _ _ h)))
theorem four_below {B : Nat} {w w2 : World} {b : Nat} (h : Below B w w2) (hb : B <= b) (a0 a1 a2 a3 : Value) : Below B w ((((w2.setCell ⟨b, 0, none⟩ a0).setCell ⟨b, 1, none⟩ a1).setCell ⟨b, 2, none⟩ a2).setCell ⟨b, 3, none⟩ a3) := (((h.setCell hb _).setCell hb _).setCell hb _).setCell hb _
def chkV (ok : Bool) : Value := if ok then .agg #[.int .i64 0, .int .i64 0, .int .i64 0, .string ⟨#[]⟩] else .agg #[.int .i64 14, .int .i64 0, .int .i64 0, .string sysB1]
end
section
open Go.RowKit Go.Maps
attribute [local go_sem ↓] Go.wp_at_zero Go.wp_at_succ
namespace Sy
theorem place_app (c : Int) (a b : List Int) (h : ∀ x ∈ a, x ≠ c) : place c (a ++ b) = a.length + place c b := by
 induction a with
 | nil => simp
 | cons x r ih =>
   have hx := h x List.mem_cons_self
   simp only [List.cons_append, place, if_neg hx, List.length_cons]
   rw [ih fun y hy => h y (List.mem_cons_of_mem _ hy)]
   omega
theorem canon_step {zs : List Int} {i : Nat} {z : Int} (h : zs[i]? = some z) : canonG [] (zs.take (i + 1)) = canonG [] (zs.take i) ++ [place z (seenG [] (zs.take i))] := by
 obtain ⟨hl, rfl⟩ := List.getElem?_eq_some_iff.1 h
 rw [List.take_succ_eq_append_getElem hl, canonG_app]
 rfl
theorem seen_step {zs : List Int} {i : Nat} {z : Int} (h : zs[i]? = some z) : seenG [] (zs.take (i + 1)) = if place z (seenG [] (zs.take i)) < (seenG [] (zs.take i)).length then seenG [] (zs.take i) else seenG [] (zs.take i) ++ [z] := by
 obtain ⟨hl, rfl⟩ := List.getElem?_eq_some_iff.1 h
 rw [List.take_succ_eq_append_getElem hl, seenG_app]
 rfl
end Sy
def natC (l : List Nat) : List Value := l.map fun (k : Nat) => Value.int .i64 (k : Int)
theorem natC_len (l : List Nat) : (natC l).length = l.length := by simp [natC]
def natI (l : List Nat) : List Int := l.map fun (k : Nat) => (k : Int)
theorem iC_nat (l : List Nat) : iC (natI l) = natC l := by simp [iC, natI, natC]
theorem natC_step (C : List Nat) (n i k : Nat) (hC : C.length = i) (hi : i < n) : (natC C ++ List.replicate (n - i) (Value.int .i64 0)).set i (.int .i64 (k : Int)) = natC (C ++ [k]) ++ List.replicate (n - (i + 1)) (Value.int .i64 0) := by
 have e : n - i = (n - (i + 1)) + 1 := by omega
 rw [List.set_append_right _ _ (by rw [natC_len]; omega), natC_len, hC, Nat.sub_self, e, List.replicate_succ, List.set_cons_zero]
 simp [natC]
end
section
open Go.RowKit Go.Maps
attribute [local go_sem ↓] Go.wp_at_zero Go.wp_at_succ
def Sy.classes (n : Int) (zs : List Int) : Bool := decide ((zs.length : Int) = n) && Sy.formG 0 zs
end
section
open Go.RowKit Go.Maps
def I64s (zs : List Int) : Prop := ∀ z ∈ zs, (Lit.int .i64 z).wf = true
def PCanon : Prop := ∀ (v : Value) (zs : List Int) (W : World), HasI W v zs -> zs.length <= 100000 -> I64s zs -> Calls Tryz.prog 153 #[v] W fun r w' => ∃ u, r = .returned u /\ OwnI w' W.heap.size u (natI (Sy.canon zs)) /\ Below W.heap.size W w'
theorem rg_b {w2 W : World} {P : Prop} (h : P /\ Hid (Below w2.heap.size w2 W)) : Below w2.heap.size w2 W := h.2.out
theorem rg_up4 {w2 wa wb : World} {a0 a1 a2 a3 : Addr} {x0 x1 x2 x3 : Value} (hb : Below wa.heap.size wa wb) (h : (wa.cell? a0 = some x0 /\ wa.cell? a1 = some x1 /\ wa.cell? a2 = some x2 /\ wa.cell? a3 = some x3) /\ Hid (Below w2.heap.size w2 wa)) : (wb.cell? a0 = some x0 /\ wb.cell? a1 = some x1 /\ wb.cell? a2 = some x2 /\ wb.cell? a3 = some x3) /\ Hid (Below w2.heap.size w2 wb) :=
 have up : ∀ {a : Addr} {x : Value}, wa.cell? a = some x -> wb.cell? a = some x := fun c => (hb.cell (World.block_lt_of_cell? wa _ c)).trans c
 ⟨⟨up h.1.1, up h.1.2.1, up h.1.2.2.1, up h.1.2.2.2⟩, (h.2.out.trans (hb.mono h.2.out.size) : Below w2.heap.size w2 wb)⟩
end
section
open Go.RowKit Go.Maps
attribute [local go_sem ↓] Go.wp_at_zero Go.wp_at_succ
theorem sysFault_any (a : Addr) (w : World) : Calls Tryz.prog 145 #[.iface 311 (.pointer (some a))] w fun r w' => ∃ x, r = .returned x /\ Chain w' 0 0 a [sysB] x /\ Below w.heap.size w w' := by
 go_enter Tryz.func145, Tryz.ntmps145
 go_wp2
 go_ret
 exact ⟨_, rfl, ⟨_, _, rfl, (MapKept.heap_alloc w _).1, rfl⟩, (Below.refl _ _).alloc (Nat.le_refl _) _⟩
theorem below_any (a b : Int) (w : World) : Calls Tryz.prog 166 #[.int .i64 a, .int .i64 b] w fun r w' => r = .returned (.bool (decide (0 <= a /\ a < b))) /\ w' = w := by
 by_cases h0 : 0 <= a
 ·by_cases h1 : a < b
  ·go_enter Tryz.func166, Tryz.ntmps166
   go_wp2
   go_ret
   exact ⟨by simp [h0, h1], rfl⟩
  ·go_enter Tryz.func166, Tryz.ntmps166
   go_wp2
   go_ret
   exact ⟨by simp [h1], rfl⟩
 ·go_enter Tryz.func166, Tryz.ntmps166
  go_wp2
  go_ret
  exact ⟨by simp; omega, rfl⟩
set_option maxRecDepth 100000 in
set_option maxHeartbeats 4000000 in
theorem stranger_any (n k s : Int) (v : Value) (b : Nat) (x : Sy.Ed) (w : World) (hB : w.heap[b]? = some (.cells #[.int .i64 n, .int .i64 k, .int .i64 s, v] 24 (0, 0))) :
 Calls Tryz.prog 165 #[edV x, .pointer (some ⟨b, 0, none⟩)] w fun r w' => r = .returned (.bool (!edgeOk n k x)) /\ Below w.heap.size w w' := by
 obtain ⟨b0, b1, b2, b3⟩ := four_cells hB
 have hlt := t_lt hB
 have hne : ¬ b = w.heap.size := by omega
 have hA := fun W => below_any x.1 n W
 have hT := fun W => below_any x.2.2 n W
 have hL := fun W => below_any x.2.1 k W
 have hok : edgeOk n k x = (decide (0 <= x.1 /\ x.1 < n) && decide (0 <= x.2.2 /\ x.2.2 < n) && decide (0 <= x.2.1 /\ x.2.1 < k)) := by
  unfold edgeOk
  rw [Bool.eq_iff_iff]
  simp only [Bool.and_eq_true, decide_eq_true_eq]
  omega
 unfold edV
 rw [hok]
 generalize decide (0 <= x.1 /\ x.1 < n) = pa at hA ⊢
 generalize decide (0 <= x.2.2 /\ x.2.2 < n) = pt at hT ⊢
 generalize decide (0 <= x.2.1 /\ x.2.1 < k) = pl at hL ⊢
 clear hok hB b2 b3
 obtain ⟨x0, x1, x2⟩ := x
 cases pa with
 | false =>
   go_enter Tryz.func165, Tryz.ntmps165
   go_wp2_with (go_at_call 166; refine (hA _).mono ?_; rintro r w' ⟨rfl, hw⟩; obtain rfl := hw.symm)
   go_ret
   exact ⟨rfl, (Below.refl _ _).alloc (Nat.le_refl _) _⟩
 | true =>
   cases pt with
   | false =>
     go_enter Tryz.func165, Tryz.ntmps165
     go_wp2_with fail
     refine (hA _).mono ?_
     rintro r w1 ⟨rfl, hw⟩; obtain rfl := hw.symm
     go_wp2_with fail
     refine (hT _).mono ?_
     rintro r w1 ⟨rfl, hw⟩; obtain rfl := hw.symm
     go_wp2
     go_ret
     exact ⟨rfl, (Below.refl _ _).alloc (Nat.le_refl _) _⟩
   | true =>
     go_enter Tryz.func165, Tryz.ntmps165
     go_wp2_with fail
     refine (hA _).mono ?_
     rintro r w1 ⟨rfl, hw⟩; obtain rfl := hw.symm
     go_wp2_with fail
     refine (hT _).mono ?_
     rintro r w1 ⟨rfl, hw⟩; obtain rfl := hw.symm
     go_wp2_with fail
     refine (hL _).mono ?_
     rintro r w1 ⟨rfl, hw⟩; obtain rfl := hw.symm
     go_wp2
     go_ret
     exact ⟨rfl, (Below.refl _ _).alloc (Nat.le_refl _) _⟩
theorem enter_str : ∀ args w, (callFunc 165 args).run Tryz.prog w = .ok (.enter 165 args) w := enters_of Tryz.func165 (by kernel_rfl) rfl
def firstBad (n k : Int) (es : List Sy.Ed) : Int := if es.all (edgeOk n k) then -1 else ((es.findIdx fun e => !edgeOk n k e : Nat) : Int)
theorem findIdx_at {es : List Sy.Ed} {p : Sy.Ed -> Bool} {i : Nat} {z : Sy.Ed} (hz : es[i]? = some z) (hp : p z = true) (hall : ∀ x ∈ es.take i, p x = false) : es.findIdx p = i := by
 obtain ⟨hl, rfl⟩ := List.getElem?_eq_some_iff.1 hz
 rw [List.findIdx_eq hl]
 refine ⟨hp, fun j hj => hall _ ?_⟩
 exact List.mem_take_iff_getElem.2 ⟨j, by omega, rfl⟩
set_option maxRecDepth 100000 in
set_option maxHeartbeats 4000000 in
theorem idxBad_any (n k s : Int) (ve v : Value) (b : Nat) (es : List Sy.Ed) (w : World) (hn : es.length <= 100000) (hv : BEdges.Has w v es) (hB : w.heap[b]? = some (.cells #[.int .i64 n, .int .i64 k, .int .i64 s, ve] 24 (0, 0))) :
 Calls Tryz.prog 164 #[v, .func (.func 165) #[] #[.pointer (some ⟨b, 0, none⟩)]] w fun r w' => r = .returned (.int .i64 (firstBad n k es)) /\ Below w.heap.size w w' := by
 obtain ⟨ao, cap, rfl, _⟩ := _root_.id hv
 obtain ⟨m, hm⟩ : ∃ m, m = es.length := ⟨_, rfl⟩
 have HV : Hid _ := And.intro hv (And.intro hm hB)
 rw [<- hm] at hn ⊢
 clear hv hm hB
 have he := enter_str
 go_enter Tryz.func164, Tryz.ntmps164
 go_wp2_with fail
 go_loopg [8] m (fun q iv wr => ∃ i : Nat, q = m - i /\ i <= m /\ iv = .int .i64 i /\ Below w.heap.size w wr /\ ∀ x ∈ es.take i, (!edgeOk n k x) = false)
 case atStart => exact ⟨0, rfl, Nat.zero_le _, rfl, Below.refl _ _, fun x hx => by simp at hx⟩
 case round =>
  obtain ⟨i, rfl, hi, rfl, hb, hall⟩ := hrel
  by_cases hlt : i < m
  ·obtain ⟨z, hz⟩ : ∃ z, es[i]? = some z := ⟨es[i]'(by have := HV.out.2.1; omega), List.getElem?_eq_getElem _⟩
   obtain ⟨a, rfl, z0, z1, z2⟩ := edge_at (HV.out.1.below hb) hz
   have q0 : (0 : Int) <= (i : Int) := by omega
   have q1 : (i : Int) < (m : Int) := by omega
   have hC := stranger_any n k s ve b z wr ((hb.block b (t_lt HV.out.2.2)).trans HV.out.2.2)
   unfold edV at hC
   have HB : Hid _ := And.intro hb (And.intro hall hz)
   clear hb hall hz
   cases hq : (!edgeOk n k z) with
   | true =>
     rw [hq] at hC
     have HQ : Hid _ := hq
     clear hq
     go_wp2_with (go_at_fn 165; refine hC.mono ?_; rintro r w1 ⟨rfl, hb1⟩)
     go_ret
     refine ⟨?_, HB.out.1.trans (hb1.mono HB.out.1.size)⟩
     have hf := findIdx_at HB.out.2.2 HQ.out HB.out.2.1
     have hna : es.all (edgeOk n k) = false := by
      rw [List.all_eq_false]
      exact ⟨z, List.mem_of_getElem? HB.out.2.2, by have := HQ.out; simpa using this⟩
     unfold firstBad
     rw [hna, hf]
     rfl
   | false =>
     rw [hq] at hC
     have HQ : Hid _ := hq
     clear hq
     go_wp2_with (go_at_fn 165; refine hC.mono ?_; rintro r w1 ⟨rfl, hb1⟩)
     go_roundg (m - (i + 1))
     case measure => omega
     case rel =>
      refine ⟨i + 1, rfl, by omega, by go_num, HB.out.1.trans (hb1.mono HB.out.1.size), fun x hx => ?_⟩
      rw [take_succ_of HB.out.2.2] at hx
      rcases List.mem_append.1 hx with hx | hx
      ·exact HB.out.2.1 x hx
      ·rw [List.mem_singleton.1 hx]; exact HQ.out
  ·have HB : Hid _ := And.intro hb hall
   clear hb hall
   have q1 : ¬ (i : Int) < (m : Int) := by omega
   go_wp2
   go_ret
   refine ⟨?_, HB.out.1⟩
   have hal : es.all (edgeOk n k) = true := by
    rw [List.all_eq_true]
    intro x hx
    have h1 := HB.out.2 x (by rw [List.take_of_length_le (by have := HV.out.2.1; omega)]; exact hx)
    simpa using h1
   unfold firstBad
   rw [hal]
   rfl
set_option maxRecDepth 100000 in
set_option maxHeartbeats 1000000 in
theorem hasBad_any (n k s : Int) (ve v : Value) (b : Nat) (es : List Sy.Ed) (w : World) (hn : es.length <= 100000) (hv : BEdges.Has w v es) (hB : w.heap[b]? = some (.cells #[.int .i64 n, .int .i64 k, .int .i64 s, ve] 24 (0, 0))) :
 Calls Tryz.prog 143 #[v, .func (.func 165) #[] #[.pointer (some ⟨b, 0, none⟩)]] w fun r w' => r = .returned (.bool (!es.all (edgeOk n k))) /\ Below w.heap.size w w' := by
 have hC := idxBad_any n k s ve v b es w hn hv hB
 have hd : (!es.all (edgeOk n k)) = decide (0 <= firstBad n k es) := by
  unfold firstBad
  cases es.all (edgeOk n k) <;> simp
 rw [hd]
 generalize firstBad n k es = c at hC ⊢
 clear hd hB hv
 by_cases h : 0 <= c
 all_goals
  go_enter Tryz.func143, Tryz.ntmps143
  go_wp2_with (go_at_call 164; refine hC.mono ?_; rintro r w1 ⟨rfl, hb1⟩)
  go_ret
  exact ⟨by simp [h], hb1⟩
theorem mkStr_any (n k s : Int) (v : Value) (w : World) : Calls Tryz.prog 144 #[sysV n k s v] w fun r w' => r = .returned (.func (.func 165) #[] #[.pointer (some ⟨w.heap.size, 0, none⟩)]) /\ w' = w.alloc (.cells #[.int .i64 n, .int .i64 k, .int .i64 s, v] 24) := by
 unfold sysV
 go_enter Tryz.func144, Tryz.ntmps144
 go_wp2
 go_ret
 exact ⟨rfl, rfl⟩
def SErr (a : Addr) (w : World) (ok : Bool) (x : Value) : Prop := if ok = true then x = .nilIface else Chain w 0 0 a [sysB] x
def chkA (n k s : Int) (m : Nat) : Bool := decide (0 <= n /\ n <= 1000) && decide (1 <= k /\ k <= 201) && decide (0 <= s /\ s < max n 1) && decide (m <= 10000)
theorem right_eq (n k s : Int) (es : List Sy.Ed) : Sy.right n k s es = (chkA n k s es.length && es.all (edgeOk n k)) := by
 unfold Sy.right chkA edgeOk
 rw [Bool.eq_iff_iff]
 simp only [Bool.and_eq_true, decide_eq_true_eq]
 constructor
 ·rintro ⟨⟨h1, h2⟩, h3⟩
  refine ⟨⟨⟨⟨⟨h1.1, h1.2.1⟩, h1.2.2.1, h1.2.2.2.1⟩, ?_⟩, h1.2.2.2.2⟩, h3⟩
  rcases Int.lt_or_eq_of_le h1.1 with h | h
  ·have := h2.2 h; omega
  ·have := h2.1 h.symm; omega
 ·rintro ⟨⟨⟨⟨h1, h2⟩, h3⟩, h4⟩, h5⟩
  exact ⟨⟨⟨h1.1, h1.2, h2.1, h2.2, h4⟩, ⟨fun e => by omega, fun e => by omega⟩⟩, h5⟩
set_option maxRecDepth 100000 in
set_option maxHeartbeats 4000000 in
theorem check_early (n k s : Int) (ao : Option Addr) (m cap : Nat) (a : Addr) (w : World) (hS : Sent w 11 a) (h : chkA n k s m = false) :
 Calls Tryz.prog 97 #[sysV n k s (.slice ao m cap)] w fun r w' => ∃ x, r = .returned x /\ Chain w' 0 0 a [sysB] x /\ Below w.heap.size w w' := by
 unfold sysV
 have hg : (w.alloc (.cells #[.int .i64 n, .int .i64 k, .int .i64 s, .slice ao m cap] 24)).cell? ⟨11, 0, none⟩ = some (.iface 311 (.pointer (some a))) := (((Below.refl _ w).alloc (Nat.le_refl _) _).cell (World.block_lt_of_cell? w _ hS.1)).trans hS.1
 have hF := sysFault_any a (w.alloc (.cells #[.int .i64 n, .int .i64 k, .int .i64 s, .slice ao m cap] 24))
 have hb0 : Hid (Below w.heap.size w (w.alloc (.cells #[.int .i64 n, .int .i64 k, .int .i64 s, .slice ao m cap] 24))) := (Below.refl _ w).alloc (Nat.le_refl _) _
 have hc : ¬ 0 <= n \/ 0 <= n /\ ¬ n <= 1000 \/ (0 <= n /\ n <= 1000) /\ (¬ 1 <= k \/ 1 <= k /\ ¬ k <= 201 \/ (1 <= k /\ k <= 201) /\ (s < 0 \/ 0 <= s /\ (n < 1 /\ 1 <= s) \/ 0 <= s /\ (¬ n < 1 /\ n <= s) \/ 0 <= s /\ (n < 1 /\ ¬ 1 <= s) /\ (10000 : Int) < (m : Int) \/ 0 <= s /\ (¬ n < 1 /\ ¬ n <= s) /\ (10000 : Int) < (m : Int))) := by
  unfold chkA at h
  simp only [Bool.and_eq_false_iff, decide_eq_false_iff_not] at h
  omega
 clear h hS
 rcases hc with h | ⟨h1, h2⟩ | ⟨⟨h1, h2⟩, h | ⟨h3, h4⟩ | ⟨⟨h3, h4⟩, h | ⟨h5, h6, h7⟩ | ⟨h5, h6, h7⟩ | ⟨h5, ⟨h6, h7⟩, h8⟩ | ⟨h5, ⟨h6, h7⟩, h8⟩⟩⟩
 all_goals
  go_enter Tryz.func97, Tryz.ntmps97
  go_wp2_with (go_at_call 145; refine hF.mono ?_; rintro r w1 ⟨x, rfl, hC, hb1⟩; have HC : Hid _ := And.intro hC hb1; clear hC hb1)
  go_ret
  exact ⟨x, rfl, HC.out.1, hb0.out.trans (HC.out.2.mono hb0.out.size)⟩
set_option maxRecDepth 100000 in
set_option maxHeartbeats 4000000 in
theorem check_late (n k s : Int) (v : Value) (es : List Sy.Ed) (a : Addr) (w : World) (hS : Sent w 11 a) (hv : BEdges.Has w v es) (h : chkA n k s es.length = true) :
 Calls Tryz.prog 97 #[sysV n k s v] w fun r w' => ∃ x, r = .returned x /\ SErr a w' (es.all (edgeOk n k)) x /\ Below w.heap.size w w' := by
 obtain ⟨w0, hw0⟩ : ∃ w0, w0 = w.alloc (.cells #[.int .i64 n, .int .i64 k, .int .i64 s, v] 24) := ⟨_, rfl⟩
 have hb0 : Below w.heap.size w w0 := by rw [hw0]; exact (Below.refl _ _).alloc (Nat.le_refl _) _
 have hg0 : w0.heap[w.heap.size]? = some (.cells #[.int .i64 n, .int .i64 k, .int .i64 s, v] 24 (0, 0)) := by rw [hw0]; exact heap_alloc_new w _
 obtain ⟨ao, cap, rfl, _⟩ := _root_.id hv
 obtain ⟨m, hm⟩ : ∃ m, m = es.length := ⟨_, rfl⟩
 rw [<- hm] at h hg0 hw0 hv ⊢
 have hc : (0 <= n /\ n <= 1000) /\ (1 <= k /\ k <= 201) /\ (0 <= s /\ (n < 1 /\ ¬ 1 <= s \/ ¬ n < 1 /\ ¬ n <= s)) /\ m <= 10000 := by
  unfold chkA at h
  simp only [Bool.and_eq_true, decide_eq_true_eq] at h
  omega
 obtain ⟨⟨h1, h2⟩, ⟨h3, h4⟩, ⟨h5, h6⟩, h7⟩ := hc
 have h8 : ¬ (10000 : Int) < (m : Int) := by omega
 obtain ⟨x0, x1, x2, x3⟩ := four_cells hg0
 have hM : ∀ W, Below w0.heap.size w0 W -> Calls Tryz.prog 144 #[sysV n k s (.slice ao m cap)] W fun r w' => ∃ b, r = .returned (.func (.func 165) #[] #[.pointer (some ⟨b, 0, none⟩)]) /\ w'.heap[b]? = some (.cells #[.int .i64 n, .int .i64 k, .int .i64 s, .slice ao m cap] 24 (0, 0)) /\ Below W.heap.size W w' := fun W _ => (mkStr_any n k s _ W).mono fun r w' ⟨hr, hw⟩ => ⟨_, hr, by rw [hw]; exact heap_alloc_new W _, by rw [hw]; exact (Below.refl _ _).alloc (Nat.le_refl _) _⟩
 have hC : ∀ W b, Below w0.heap.size w0 W -> W.heap[b]? = some (.cells #[.int .i64 n, .int .i64 k, .int .i64 s, .slice ao m cap] 24 (0, 0)) -> Calls Tryz.prog 143 #[.slice ao m cap, .func (.func 165) #[] #[.pointer (some ⟨b, 0, none⟩)]] W fun r w' => r = .returned (.bool (!es.all (edgeOk n k))) /\ Below W.heap.size W w' := fun W b hb hB => hasBad_any n k s _ _ b es W (by omega) ((hv.below hb0).below hb) hB
 have HC : Hid _ := And.intro hM hC
 have HB : Hid _ := And.intro hb0 hS
 have HW : Hid (w0 = w.alloc (.cells #[.int .i64 n, .int .i64 k, .int .i64 s, .slice ao m cap] 24)) := hw0
 clear hw0
 unfold sysV at HC ⊢
 generalize hq : es.all (edgeOk n k) = q at HC ⊢
 clear hM hC hv hb0 hg0 hm h hS hq
 rcases h6 with ⟨h6, h9⟩ | ⟨h6, h9⟩
 all_goals
  cases q with
  | true =>
    go_enter Tryz.func97, Tryz.ntmps97
    go_upto_region 5 with fail
    rw [<- HW.out]
    go_region_held3 (fun w' => (w'.cell? ⟨w.heap.size, 0, none⟩ = some (.int .i64 n) /\ w'.cell? ⟨w.heap.size, 1, none⟩ = some (.int .i64 k) /\ w'.cell? ⟨w.heap.size, 2, none⟩ = some (.int .i64 s) /\ w'.cell? ⟨w.heap.size, 3, none⟩ = some (.slice ao m cap)) /\ Hid (Below w0.heap.size w0 w')) (first | exact rg_up4 hb3 (by assumption) | exact ⟨⟨x0, x1, x2, x3⟩, ((Below.refl _ _).drew : Below w0.heap.size w0 w0.drew)⟩ | go_keep)
     ((first
       | (go_at_call 144; refine (HC.out.1 _ (rg_b (by assumption))).mono ?_; rintro r w3 ⟨b3, rfl, hB3, hb3⟩)
       | (go_at_call 143; refine (HC.out.2 _ _ (rg_b (by assumption)) hB3).mono ?_; rintro r w3 ⟨rfl, hb3⟩)
       | fail))
    all_goals
     have HF : Hid (Below w0.heap.size w0 w3) := (rg_b (by assumption) : Below w0.heap.size w0 w3)
     clear hb3
     go_wp2_with fail
     go_ret
     exact ⟨_, rfl, by simp [SErr], HB.out.1.trans (HF.out.mono HB.out.1.size)⟩
  | false =>
    go_enter Tryz.func97, Tryz.ntmps97
    go_upto_region 5 with fail
    rw [<- HW.out]
    go_region_held3 (fun w' => (w'.cell? ⟨w.heap.size, 0, none⟩ = some (.int .i64 n) /\ w'.cell? ⟨w.heap.size, 1, none⟩ = some (.int .i64 k) /\ w'.cell? ⟨w.heap.size, 2, none⟩ = some (.int .i64 s) /\ w'.cell? ⟨w.heap.size, 3, none⟩ = some (.slice ao m cap)) /\ Hid (Below w0.heap.size w0 w')) (first | exact rg_up4 hb3 (by assumption) | exact ⟨⟨x0, x1, x2, x3⟩, ((Below.refl _ _).drew : Below w0.heap.size w0 w0.drew)⟩ | go_keep)
     ((first
       | (go_at_call 144; refine (HC.out.1 _ (rg_b (by assumption))).mono ?_; rintro r w3 ⟨b3, rfl, hB3, hb3⟩)
       | (go_at_call 143; refine (HC.out.2 _ _ (rg_b (by assumption)) hB3).mono ?_; rintro r w3 ⟨rfl, hb3⟩)
       | fail))
    all_goals
     have hbw : Below w0.heap.size w0 w3 := rg_b (by assumption)
     have hS3 := (HB.out.2.below HB.out.1).below hbw
     have hg := hS3.1
     have HF : Hid (Below w0.heap.size w0 w3) := hbw
     have hFl := sysFault_any a w3
     clear hb3 hbw hS3
     go_wp2_with (go_at_call 145; refine hFl.mono ?_; rintro r w4 ⟨x, rfl, hC4, hb4⟩; have HC4 : Hid _ := And.intro hC4 hb4; clear hC4 hb4)
     go_ret
     exact ⟨x, rfl, by simpa [SErr] using HC4.out.1, (HB.out.1.trans (HF.out.mono HB.out.1.size)).trans (HC4.out.2.mono (by have := HB.out.1.size; have := HF.out.size; omega))⟩
theorem check_any (n k s : Int) (v : Value) (es : List Sy.Ed) (a : Addr) (w : World) (hS : Sent w 11 a) (hv : BEdges.Has w v es) :
 Calls Tryz.prog 97 #[sysV n k s v] w fun r w' => ∃ x, r = .returned x /\ SErr a w' (Sy.right n k s es) x /\ Below w.heap.size w w' := by
 rw [right_eq]
 cases h : chkA n k s es.length with
 | true =>
   rw [Bool.true_and]
   exact check_late n k s v es a w hS hv h
 | false =>
   obtain ⟨ao, cap, rfl, _⟩ := _root_.id hv
   refine (check_early n k s ao es.length cap a w hS h).mono fun r w' ⟨x, hr, hC, hb⟩ => ⟨x, hr, by simpa [SErr] using hC, hb⟩
end
end Go.Proofs.YthcpliinddjkhaaGreatDoor
