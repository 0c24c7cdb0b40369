/- Texts of this claim, joined: BookNil, BXSteps, SyReaP, BXEdges, SyRight, SySort. -/
import Derived.Test.YtplofbabfkkimaaGreatDoorProg
import Derived.RowKitTokens
import Derived.WalkSmall
import Derived.ProofKit
import Derived.Test.YtplofbabfkkimaaGreatDoorPart3
import Derived.Deep.QuietTactic
import Derived.BigQuiet
import Derived.Deep.DeepCutAuto
import Derived.Deep.RegionHeld3
import Derived.Deep.RegionLaw
/- The book's parts over a kind of which it has no list. -/
namespace Go.Proofs.YtplofbabfkkimaaGreatDoor
open Go.RowKit
set_option maxRecDepth 100000 in
theorem stillTokens_nil (bk : Nat) (w : World) (hc : w.cell? ⟨bk, 2, none⟩ = some (.slice none 0 0)) : Calls Tryz.prog 40 #[.pointer (some ⟨bk, 0, none⟩)] w fun r w' => r = .returned (.bool true) ∧ w' = w := by
 go_enter Tryz.func40, Tryz.ntmps40
 go_wp2
 refine wp_loop_rounds 1 ?_
 rw [rounds_succ]
 go_wp2
 go_ret
 exact ⟨rfl, rfl⟩
set_option maxRecDepth 100000 in
theorem putTokens_nil (bk : Nat) (w : World) (hc : w.cell? ⟨bk, 2, none⟩ = some (.slice none 0 0)) : Calls Tryz.prog 51 #[.pointer (some ⟨bk, 0, none⟩)] w fun r w' => r = .returned (.tuple #[]) ∧ w' = w := by
 go_enter Tryz.func51, Tryz.ntmps51
 go_wp2
 refine wp_loop_rounds 1 ?_
 rw [rounds_succ]
 go_wp2
 go_end0
 exact ⟨rfl, rfl⟩
set_option maxRecDepth 100000 in
theorem growTokens_nil (bk : Nat) (w : World) (hc : w.cell? ⟨bk, 2, none⟩ = some (.slice none 0 0)) : Calls Tryz.prog 62 #[.pointer (some ⟨bk, 0, none⟩)] w fun r w' => r = .returned (.slice none 0 0) ∧ w' = w := by
 go_enter Tryz.func62, Tryz.ntmps62
 go_wp2
 refine wp_loop_rounds 1 ?_
 rw [rounds_succ]
 go_wp2
 go_ret
 exact ⟨rfl, rfl⟩
set_option maxRecDepth 100000 in
theorem markedTokens_nil (w : World) : Calls Tryz.prog 73 #[.slice none 0 0] w fun r w' => r = .returned (.bool true) ∧ w' = w := by
 go_enter Tryz.func73, Tryz.ntmps73
 go_wp2
 refine wp_loop_rounds 1 ?_
 rw [rounds_succ]
 go_wp2
 go_ret
 exact ⟨rfl, rfl⟩
set_option maxRecDepth 100000 in
theorem stillTexts_nil (bk : Nat) (w : World) (hc : w.cell? ⟨bk, 4, none⟩ = some (.slice none 0 0)) : Calls Tryz.prog 41 #[.pointer (some ⟨bk, 0, none⟩)] w fun r w' => r = .returned (.bool true) ∧ w' = w := by
 go_enter Tryz.func41, Tryz.ntmps41
 go_wp2
 refine wp_loop_rounds 1 ?_
 rw [rounds_succ]
 go_wp2
 go_ret
 exact ⟨rfl, rfl⟩
set_option maxRecDepth 100000 in
theorem putTexts_nil (bk : Nat) (w : World) (hc : w.cell? ⟨bk, 4, none⟩ = some (.slice none 0 0)) : Calls Tryz.prog 52 #[.pointer (some ⟨bk, 0, none⟩)] w fun r w' => r = .returned (.tuple #[]) ∧ w' = w := by
 go_enter Tryz.func52, Tryz.ntmps52
 go_wp2
 refine wp_loop_rounds 1 ?_
 rw [rounds_succ]
 go_wp2
 go_end0
 exact ⟨rfl, rfl⟩
set_option maxRecDepth 100000 in
theorem growTexts_nil (bk : Nat) (w : World) (hc : w.cell? ⟨bk, 4, none⟩ = some (.slice none 0 0)) : Calls Tryz.prog 63 #[.pointer (some ⟨bk, 0, none⟩)] w fun r w' => r = .returned (.slice none 0 0) ∧ w' = w := by
 go_enter Tryz.func63, Tryz.ntmps63
 go_wp2
 refine wp_loop_rounds 1 ?_
 rw [rounds_succ]
 go_wp2
 go_ret
 exact ⟨rfl, rfl⟩
set_option maxRecDepth 100000 in
theorem markedTexts_nil (w : World) : Calls Tryz.prog 74 #[.slice none 0 0] w fun r w' => r = .returned (.bool true) ∧ w' = w := by
 go_enter Tryz.func74, Tryz.ntmps74
 go_wp2
 refine wp_loop_rounds 1 ?_
 rw [rounds_succ]
 go_wp2
 go_ret
 exact ⟨rfl, rfl⟩
set_option maxRecDepth 100000 in
theorem stillBools_nil (bk : Nat) (w : World) (hc : w.cell? ⟨bk, 6, none⟩ = some (.slice none 0 0)) : Calls Tryz.prog 42 #[.pointer (some ⟨bk, 0, none⟩)] w fun r w' => r = .returned (.bool true) ∧ w' = w := by
 go_enter Tryz.func42, Tryz.ntmps42
 go_wp2
 refine wp_loop_rounds 1 ?_
 rw [rounds_succ]
 go_wp2
 go_ret
 exact ⟨rfl, rfl⟩
set_option maxRecDepth 100000 in
theorem putBools_nil (bk : Nat) (w : World) (hc : w.cell? ⟨bk, 6, none⟩ = some (.slice none 0 0)) : Calls Tryz.prog 53 #[.pointer (some ⟨bk, 0, none⟩)] w fun r w' => r = .returned (.tuple #[]) ∧ w' = w := by
 go_enter Tryz.func53, Tryz.ntmps53
 go_wp2
 refine wp_loop_rounds 1 ?_
 rw [rounds_succ]
 go_wp2
 go_end0
 exact ⟨rfl, rfl⟩
set_option maxRecDepth 100000 in
theorem growBools_nil (bk : Nat) (w : World) (hc : w.cell? ⟨bk, 6, none⟩ = some (.slice none 0 0)) : Calls Tryz.prog 64 #[.pointer (some ⟨bk, 0, none⟩)] w fun r w' => r = .returned (.slice none 0 0) ∧ w' = w := by
 go_enter Tryz.func64, Tryz.ntmps64
 go_wp2
 refine wp_loop_rounds 1 ?_
 rw [rounds_succ]
 go_wp2
 go_ret
 exact ⟨rfl, rfl⟩
set_option maxRecDepth 100000 in
theorem markedBools_nil (w : World) : Calls Tryz.prog 75 #[.slice none 0 0] w fun r w' => r = .returned (.bool true) ∧ w' = w := by
 go_enter Tryz.func75, Tryz.ntmps75
 go_wp2
 refine wp_loop_rounds 1 ?_
 rw [rounds_succ]
 go_wp2
 go_ret
 exact ⟨rfl, rfl⟩
set_option maxRecDepth 100000 in
theorem stillSteps_nil (bk : Nat) (w : World) (hc : w.cell? ⟨bk, 8, none⟩ = some (.slice none 0 0)) : Calls Tryz.prog 43 #[.pointer (some ⟨bk, 0, none⟩)] w fun r w' => r = .returned (.bool true) ∧ w' = w := by
 go_enter Tryz.func43, Tryz.ntmps43
 go_wp2
 refine wp_loop_rounds 1 ?_
 rw [rounds_succ]
 go_wp2
 go_ret
 exact ⟨rfl, rfl⟩
set_option maxRecDepth 100000 in
theorem putSteps_nil (bk : Nat) (w : World) (hc : w.cell? ⟨bk, 8, none⟩ = some (.slice none 0 0)) : Calls Tryz.prog 54 #[.pointer (some ⟨bk, 0, none⟩)] w fun r w' => r = .returned (.tuple #[]) ∧ w' = w := by
 go_enter Tryz.func54, Tryz.ntmps54
 go_wp2
 refine wp_loop_rounds 1 ?_
 rw [rounds_succ]
 go_wp2
 go_end0
 exact ⟨rfl, rfl⟩
set_option maxRecDepth 100000 in
theorem growSteps_nil (bk : Nat) (w : World) (hc : w.cell? ⟨bk, 8, none⟩ = some (.slice none 0 0)) : Calls Tryz.prog 65 #[.pointer (some ⟨bk, 0, none⟩)] w fun r w' => r = .returned (.slice none 0 0) ∧ w' = w := by
 go_enter Tryz.func65, Tryz.ntmps65
 go_wp2
 refine wp_loop_rounds 1 ?_
 rw [rounds_succ]
 go_wp2
 go_ret
 exact ⟨rfl, rfl⟩
set_option maxRecDepth 100000 in
theorem markedSteps_nil (w : World) : Calls Tryz.prog 76 #[.slice none 0 0] w fun r w' => r = .returned (.bool true) ∧ w' = w := by
 go_enter Tryz.func76, Tryz.ntmps76
 go_wp2
 refine wp_loop_rounds 1 ?_
 rw [rounds_succ]
 go_wp2
 go_ret
 exact ⟨rfl, rfl⟩
set_option maxRecDepth 100000 in
theorem stillNodes_nil (bk : Nat) (w : World) (hc : w.cell? ⟨bk, 12, none⟩ = some (.slice none 0 0)) : Calls Tryz.prog 45 #[.pointer (some ⟨bk, 0, none⟩)] w fun r w' => r = .returned (.bool true) ∧ w' = w := by
 go_enter Tryz.func45, Tryz.ntmps45
 go_wp2
 refine wp_loop_rounds 1 ?_
 rw [rounds_succ]
 go_wp2
 go_ret
 exact ⟨rfl, rfl⟩
set_option maxRecDepth 100000 in
theorem putNodes_nil (bk : Nat) (w : World) (hc : w.cell? ⟨bk, 12, none⟩ = some (.slice none 0 0)) : Calls Tryz.prog 56 #[.pointer (some ⟨bk, 0, none⟩)] w fun r w' => r = .returned (.tuple #[]) ∧ w' = w := by
 go_enter Tryz.func56, Tryz.ntmps56
 go_wp2
 refine wp_loop_rounds 1 ?_
 rw [rounds_succ]
 go_wp2
 go_end0
 exact ⟨rfl, rfl⟩
set_option maxRecDepth 100000 in
theorem growNodes_nil (bk : Nat) (w : World) (hc : w.cell? ⟨bk, 12, none⟩ = some (.slice none 0 0)) : Calls Tryz.prog 67 #[.pointer (some ⟨bk, 0, none⟩)] w fun r w' => r = .returned (.slice none 0 0) ∧ w' = w := by
 go_enter Tryz.func67, Tryz.ntmps67
 go_wp2
 refine wp_loop_rounds 1 ?_
 rw [rounds_succ]
 go_wp2
 go_ret
 exact ⟨rfl, rfl⟩
set_option maxRecDepth 100000 in
theorem markedNodes_nil (w : World) : Calls Tryz.prog 78 #[.slice none 0 0] w fun r w' => r = .returned (.bool true) ∧ w' = w := by
 go_enter Tryz.func78, Tryz.ntmps78
 go_wp2
 refine wp_loop_rounds 1 ?_
 rw [rounds_succ]
 go_wp2
 go_ret
 exact ⟨rfl, rfl⟩
set_option maxRecDepth 100000 in
theorem stillPairs_nil (bk : Nat) (w : World) (hc : w.cell? ⟨bk, 14, none⟩ = some (.slice none 0 0)) : Calls Tryz.prog 46 #[.pointer (some ⟨bk, 0, none⟩)] w fun r w' => r = .returned (.bool true) ∧ w' = w := by
 go_enter Tryz.func46, Tryz.ntmps46
 go_wp2
 refine wp_loop_rounds 1 ?_
 rw [rounds_succ]
 go_wp2
 go_ret
 exact ⟨rfl, rfl⟩
set_option maxRecDepth 100000 in
theorem putPairs_nil (bk : Nat) (w : World) (hc : w.cell? ⟨bk, 14, none⟩ = some (.slice none 0 0)) : Calls Tryz.prog 57 #[.pointer (some ⟨bk, 0, none⟩)] w fun r w' => r = .returned (.tuple #[]) ∧ w' = w := by
 go_enter Tryz.func57, Tryz.ntmps57
 go_wp2
 refine wp_loop_rounds 1 ?_
 rw [rounds_succ]
 go_wp2
 go_end0
 exact ⟨rfl, rfl⟩
set_option maxRecDepth 100000 in
theorem growPairs_nil (bk : Nat) (w : World) (hc : w.cell? ⟨bk, 14, none⟩ = some (.slice none 0 0)) : Calls Tryz.prog 68 #[.pointer (some ⟨bk, 0, none⟩)] w fun r w' => r = .returned (.slice none 0 0) ∧ w' = w := by
 go_enter Tryz.func68, Tryz.ntmps68
 go_wp2
 refine wp_loop_rounds 1 ?_
 rw [rounds_succ]
 go_wp2
 go_ret
 exact ⟨rfl, rfl⟩
set_option maxRecDepth 100000 in
theorem markedPairs_nil (w : World) : Calls Tryz.prog 79 #[.slice none 0 0] w fun r w' => r = .returned (.bool true) ∧ w' = w := by
 go_enter Tryz.func79, Tryz.ntmps79
 go_wp2
 refine wp_loop_rounds 1 ?_
 rw [rounds_succ]
 go_wp2
 go_ret
 exact ⟨rfl, rfl⟩
set_option maxRecDepth 100000 in
theorem stillRows_nil (bk : Nat) (w : World) (hc : w.cell? ⟨bk, 16, none⟩ = some (.slice none 0 0)) : Calls Tryz.prog 47 #[.pointer (some ⟨bk, 0, none⟩)] w fun r w' => r = .returned (.bool true) ∧ w' = w := by
 go_enter Tryz.func47, Tryz.ntmps47
 go_wp2
 refine wp_loop_rounds 1 ?_
 rw [rounds_succ]
 go_wp2
 go_ret
 exact ⟨rfl, rfl⟩
set_option maxRecDepth 100000 in
theorem putRows_nil (bk : Nat) (w : World) (hc : w.cell? ⟨bk, 16, none⟩ = some (.slice none 0 0)) : Calls Tryz.prog 58 #[.pointer (some ⟨bk, 0, none⟩)] w fun r w' => r = .returned (.tuple #[]) ∧ w' = w := by
 go_enter Tryz.func58, Tryz.ntmps58
 go_wp2
 refine wp_loop_rounds 1 ?_
 rw [rounds_succ]
 go_wp2
 go_end0
 exact ⟨rfl, rfl⟩
set_option maxRecDepth 100000 in
theorem growRows_nil (bk : Nat) (w : World) (hc : w.cell? ⟨bk, 16, none⟩ = some (.slice none 0 0)) : Calls Tryz.prog 69 #[.pointer (some ⟨bk, 0, none⟩)] w fun r w' => r = .returned (.slice none 0 0) ∧ w' = w := by
 go_enter Tryz.func69, Tryz.ntmps69
 go_wp2
 refine wp_loop_rounds 1 ?_
 rw [rounds_succ]
 go_wp2
 go_ret
 exact ⟨rfl, rfl⟩
set_option maxRecDepth 100000 in
theorem markedRows_nil (w : World) : Calls Tryz.prog 80 #[.slice none 0 0] w fun r w' => r = .returned (.bool true) ∧ w' = w := by
 go_enter Tryz.func80, Tryz.ntmps80
 go_wp2
 refine wp_loop_rounds 1 ?_
 rw [rounds_succ]
 go_wp2
 go_ret
 exact ⟨rfl, rfl⟩
set_option maxRecDepth 100000 in
theorem stillLines_nil (bk : Nat) (w : World) (hc : w.cell? ⟨bk, 18, none⟩ = some (.slice none 0 0)) : Calls Tryz.prog 48 #[.pointer (some ⟨bk, 0, none⟩)] w fun r w' => r = .returned (.bool true) ∧ w' = w := by
 go_enter Tryz.func48, Tryz.ntmps48
 go_wp2
 refine wp_loop_rounds 1 ?_
 rw [rounds_succ]
 go_wp2
 go_ret
 exact ⟨rfl, rfl⟩
set_option maxRecDepth 100000 in
theorem putLines_nil (bk : Nat) (w : World) (hc : w.cell? ⟨bk, 18, none⟩ = some (.slice none 0 0)) : Calls Tryz.prog 59 #[.pointer (some ⟨bk, 0, none⟩)] w fun r w' => r = .returned (.tuple #[]) ∧ w' = w := by
 go_enter Tryz.func59, Tryz.ntmps59
 go_wp2
 refine wp_loop_rounds 1 ?_
 rw [rounds_succ]
 go_wp2
 go_end0
 exact ⟨rfl, rfl⟩
set_option maxRecDepth 100000 in
theorem growLines_nil (bk : Nat) (w : World) (hc : w.cell? ⟨bk, 18, none⟩ = some (.slice none 0 0)) : Calls Tryz.prog 70 #[.pointer (some ⟨bk, 0, none⟩)] w fun r w' => r = .returned (.slice none 0 0) ∧ w' = w := by
 go_enter Tryz.func70, Tryz.ntmps70
 go_wp2
 refine wp_loop_rounds 1 ?_
 rw [rounds_succ]
 go_wp2
 go_ret
 exact ⟨rfl, rfl⟩
set_option maxRecDepth 100000 in
theorem markedLines_nil (w : World) : Calls Tryz.prog 81 #[.slice none 0 0] w fun r w' => r = .returned (.bool true) ∧ w' = w := by
 go_enter Tryz.func81, Tryz.ntmps81
 go_wp2
 refine wp_loop_rounds 1 ?_
 rw [rounds_succ]
 go_wp2
 go_ret
 exact ⟨rfl, rfl⟩
set_option maxRecDepth 100000 in
theorem stillWalks_nil (bk : Nat) (w : World) (hc : w.cell? ⟨bk, 20, none⟩ = some (.slice none 0 0)) : Calls Tryz.prog 49 #[.pointer (some ⟨bk, 0, none⟩)] w fun r w' => r = .returned (.bool true) ∧ w' = w := by
 go_enter Tryz.func49, Tryz.ntmps49
 go_wp2
 refine wp_loop_rounds 1 ?_
 rw [rounds_succ]
 go_wp2
 go_ret
 exact ⟨rfl, rfl⟩
set_option maxRecDepth 100000 in
theorem putWalks_nil (bk : Nat) (w : World) (hc : w.cell? ⟨bk, 20, none⟩ = some (.slice none 0 0)) : Calls Tryz.prog 60 #[.pointer (some ⟨bk, 0, none⟩)] w fun r w' => r = .returned (.tuple #[]) ∧ w' = w := by
 go_enter Tryz.func60, Tryz.ntmps60
 go_wp2
 refine wp_loop_rounds 1 ?_
 rw [rounds_succ]
 go_wp2
 go_end0
 exact ⟨rfl, rfl⟩
set_option maxRecDepth 100000 in
theorem growWalks_nil (bk : Nat) (w : World) (hc : w.cell? ⟨bk, 20, none⟩ = some (.slice none 0 0)) : Calls Tryz.prog 71 #[.pointer (some ⟨bk, 0, none⟩)] w fun r w' => r = .returned (.slice none 0 0) ∧ w' = w := by
 go_enter Tryz.func71, Tryz.ntmps71
 go_wp2
 refine wp_loop_rounds 1 ?_
 rw [rounds_succ]
 go_wp2
 go_ret
 exact ⟨rfl, rfl⟩
set_option maxRecDepth 100000 in
theorem markedWalks_nil (w : World) : Calls Tryz.prog 82 #[.slice none 0 0] w fun r w' => r = .returned (.bool true) ∧ w' = w := by
 go_enter Tryz.func82, Tryz.ntmps82
 go_wp2
 refine wp_loop_rounds 1 ?_
 rw [rounds_succ]
 go_wp2
 go_ret
 exact ⟨rfl, rfl⟩
end Go.Proofs.YtplofbabfkkimaaGreatDoor
/- The book's lists of Steps: what it holds in memory, and contracts of the book's parts over them. (Written by mkbx.py out of BX.tmpl.) -/
namespace Go.Proofs.YtplofbabfkkimaaGreatDoor.BSteps
open Go.RowKit Go.Maps
attribute [local go_sem ↓] Go.wp_at_zero Go.wp_at_succ
abbrev El : Type := Int × Int
def enc (z : El) : List Value := [.int .i64 z.1, .int .i64 z.2]
def C (zs : List El) : List Value := zs.flatMap enc
theorem enc_len (z : El) : (enc z).length = 2 := rfl
theorem C_len (zs : List El) : (C zs).length = zs.length * 2 := by
 unfold C
 induction zs with
 | nil => rfl
 | cons z r ih => rw [List.flatMap_cons, List.length_append, ih, enc_len, List.length_cons]; omega
theorem C_app (a b : List El) : C (a ++ b) = C a ++ C b := List.flatMap_append
theorem C_at : ∀ (zs : List El) (k : Nat) (z : El), zs[k]? = some z → ∀ q, q < 2 → (C zs)[k * 2 + q]? = (enc z)[q]?
 | [], _, _, h, _, _ => by simp at h
 | y :: r, 0, z, h, q, hq => by
   simp at h
   subst h
   show (enc y ++ C r)[0 * 2 + q]? = _
   rw [List.getElem?_append_left (by rw [enc_len]; omega)]
   congr 1
   omega
 | y :: r, k + 1, z, h, q, hq => by
   have ih := C_at r k z (by simpa using h) q hq
   show (enc y ++ C r)[(k + 1) * 2 + q]? = _
   rw [List.getElem?_append_right (by rw [enc_len]; omega), enc_len, ← ih]
   congr 1
   omega
theorem C_set (zs : List El) {k : Nat} (hk : k < zs.length) (x : El) : C (zs.set k x) = (((C zs).set (k * 2) (.int .i64 x.1)).set (k * 2 + 1) (.int .i64 x.2)) := by
 apply List.ext_getElem?
 intro j
 by_cases hj : j / 2 = k
 ·obtain ⟨q, hq, rfl⟩ : ∃ q, q < 2 ∧ j = k * 2 + q := ⟨j % 2, Nat.mod_lt _ (by decide), by omega⟩
  rw [C_at (zs.set k x) k x (List.getElem?_set_self hk) q hq]
  have hl : (C zs).length = zs.length * 2 := C_len zs
  have hq' : q = 0 ∨ q = 1 := by omega
  rcases hq' with rfl | rfl <;> simp [List.getElem?_set, hl, enc] <;> omega
 ·have e : (C (zs.set k x))[j]? = (C zs)[j]? := by
   rcases Nat.lt_or_ge (j / 2) zs.length with h | h
   ·obtain ⟨z, hz⟩ : ∃ z, zs[j / 2]? = some z := ⟨_, List.getElem?_eq_getElem h⟩
    have hz' : (zs.set k x)[j / 2]? = some z := by rw [List.getElem?_set_ne (fun e => hj e.symm)]; exact hz
    have e0 : j = j / 2 * 2 + j % 2 := by omega
    rw [e0, C_at _ _ z hz' _ (Nat.mod_lt _ (by decide)), C_at _ _ z hz _ (Nat.mod_lt _ (by decide))]
   ·rw [List.getElem?_eq_none (by rw [C_len, List.length_set]; omega), List.getElem?_eq_none (by rw [C_len]; omega)]
  rw [e]
  rw [List.getElem?_set_ne (by omega), List.getElem?_set_ne (by omega)]
def Own (w : World) (B : Nat) (v : Value) (zs : List El) : Prop := w.ownsRow B 128 2 v zs.length (C zs)
def Has (w : World) (v : Value) (zs : List El) : Prop := ∃ ao cap, v = .slice ao zs.length cap ∧ ∀ (j : Nat) (u : Value), (C zs)[j]? = some u → ∃ a, ao = some a ∧ w.cell? (a.add j) = some u
theorem Has.below {w w' : World} {v : Value} {zs : List El} (h : Has w v zs) (hb : Below w.heap.size w w') : Has w' v zs := by
 obtain ⟨ao, cap, h1, h2⟩ := h
 refine ⟨ao, cap, h1, fun i p hi => ?_⟩
 obtain ⟨a, ha, c0⟩ := h2 i p hi
 exact ⟨a, ha, (hb.cell (World.block_lt_of_cell? w _ c0)).trans c0⟩
theorem Own.at {w : World} {B g cap n : Nat} {zs : List El} (h : Own w B (.slice (some ⟨g, 0, none⟩) n cap) zs) {j : Nat} {u : Value} (hj : (C zs)[j]? = some u) : w.cell? ⟨g, j, none⟩ = some u := by
 obtain ⟨ao', cap', hv⟩ := row_shape h
 injection hv with _ e _
 subst e
 have h' : w.ownsRow B 128 2 (.slice (some ⟨g, 0, none⟩) zs.length cap) zs.length (C zs) := h
 rw [h'.cellAt j (by rw [← h'.1]; exact (List.getElem?_eq_some_iff.1 hj).1), hj]
theorem Own.has {w : World} {B : Nat} {v : Value} {zs : List El} (h : Own w B v zs) : Has w v zs := by
 obtain ⟨ao, cap, hv⟩ := row_shape h
 refine ⟨ao, cap, hv, fun j u hj => ?_⟩
 have hlt := (List.getElem?_eq_some_iff.1 hj).1
 rw [C_len] at hlt
 obtain ⟨g, c, hf, _, _⟩ := World.ownsRow.form h (by omega)
 rw [hv] at hf
 injection hf with e1 e2 e3
 subst e1; subst e3
 refine ⟨_, rfl, ?_⟩
 rw [addz]
 rw [hv] at h
 exact Own.at h hj
theorem add_q (a : Addr) (m q : Nat) : (a.add m).add q = a.add (m + q) := by
 unfold Addr.add
 by_cases h1 : m = 0 <;> by_cases h2 : q = 0 <;> simp [h1, h2] <;> omega
def mk1 (i k : Nat) : El := (-1 - (i : Int), (k : Int))
def marks (i f n : Nat) : List El := (List.range n).map fun k => mk1 i (f + k)
theorem Tryz.infoE : (Tryz.prog.info? 128).map (fun i => (i.zero, i.size, i.bytes)) = some (some (.agg #[.int .i64 0, .int .i64 0]), 2, 16) := by kernel_rfl
end Go.Proofs.YtplofbabfkkimaaGreatDoor.BSteps
/- The reachable states: plain facts, and marks and lists in memory. -/
namespace Go.Proofs.YtplofbabfkkimaaGreatDoor
open Go.RowKit Go.Maps
namespace Sy
inductive Rea (es : List Ed) (s : Int) : Int → Prop
 | start : Rea es s s
 | step (e : Ed) : e ∈ es → Rea es s e.1 → Rea es s e.2.2
structure RInv (es : List Ed) (s : Int) (n : Nat) (zs : List Int) (bs : List Bool) (i : Nat) : Prop where
 len : bs.length = n
 iff : ∀ p : Nat, bs[p]? = some true ↔ (p : Int) ∈ zs
 rng : ∀ z ∈ zs, 0 ≤ z ∧ z < (n : Int)
 cnt : zs.length = bs.count true
 rea : ∀ z ∈ zs, Rea es s z
 st : s ∈ zs
 done : ∀ (j : Nat) (z : Int), j < i → zs[j]? = some z → ∀ e ∈ es, e.1 = z → e.2.2 ∈ zs
theorem steps_mem {es : List Ed} {i a b : Int} : (a, b) ∈ steps es i ↔ (i, a, b) ∈ es := by
 unfold steps
 rw [List.mem_map]
 constructor
 ·rintro ⟨e, he, h1⟩
  obtain ⟨h2, h3⟩ := List.mem_filter.1 he
  have e1 : e.1 = i := by simpa using h3
  cases h1
  rw [← e1]
  exact h2
 ·intro h
  exact ⟨(i, a, b), List.mem_filter.2 ⟨h, by simp⟩, rfl⟩
end Sy
def bC (bs : List Bool) : List Value := bs.map Value.bool
theorem step_at {w : World} {ao : Option Addr} {n cap : Nat} {zs : List BSteps.El} (h : BSteps.Has w (.slice ao n cap) zs) {j : Nat} {z : BSteps.El} (hz : zs[j]? = some z) :
 ∃ a, ao = some a ∧ w.cell? (a.add (j * 2)) = some (.int .i64 z.1) ∧ w.cell? ⟨(a.add (j * 2)).block, (a.add (j * 2)).off + 1, none⟩ = some (.int .i64 z.2) := by
 obtain ⟨ao', cap', hv, hc⟩ := h
 injection hv with e1 e2 e3
 subst e1
 obtain ⟨a, rfl, c0⟩ := hc (j * 2 + 0) _ ((BSteps.C_at zs j z hz 0 (by decide)).trans rfl)
 obtain ⟨a1, e1, c1⟩ := hc (j * 2 + 1) _ ((BSteps.C_at zs j z hz 1 (by decide)).trans rfl)
 cases e1
 refine ⟨a, rfl, by simpa using c0, ?_⟩
 rw [← BSteps.add_q] at c1
 exact c1
end Go.Proofs.YtplofbabfkkimaaGreatDoor
/- The book's lists of Edges: what it holds in memory, and contracts of the book's parts over them. (Written by mkbx.py out of BX.tmpl.) -/
namespace Go.Proofs.YtplofbabfkkimaaGreatDoor.BEdges
open Go.RowKit Go.Maps
attribute [local go_sem ↓] Go.wp_at_zero Go.wp_at_succ
abbrev El : Type := Int × Int × Int
def enc (z : El) : List Value := [.int .i64 z.1, .int .i64 z.2.1, .int .i64 z.2.2]
def C (zs : List El) : List Value := zs.flatMap enc
theorem enc_len (z : El) : (enc z).length = 3 := rfl
theorem C_len (zs : List El) : (C zs).length = zs.length * 3 := by
 unfold C
 induction zs with
 | nil => rfl
 | cons z r ih => rw [List.flatMap_cons, List.length_append, ih, enc_len, List.length_cons]; omega
theorem C_app (a b : List El) : C (a ++ b) = C a ++ C b := List.flatMap_append
theorem C_one (zs : List El) : ∀ u ∈ C zs, u.oneCell' = true := fun u hu => by
 obtain ⟨z, _, hz⟩ := List.mem_flatMap.1 hu
 simp only [enc, List.mem_cons, List.not_mem_nil, or_false] at hz
 rcases hz with rfl | rfl | rfl <;> rfl
theorem C_at : ∀ (zs : List El) (k : Nat) (z : El), zs[k]? = some z → ∀ q, q < 3 → (C zs)[k * 3 + q]? = (enc z)[q]?
 | [], _, _, h, _, _ => by simp at h
 | y :: r, 0, z, h, q, hq => by
   simp at h
   subst h
   show (enc y ++ C r)[0 * 3 + q]? = _
   rw [List.getElem?_append_left (by rw [enc_len]; omega)]
   congr 1
   omega
 | y :: r, k + 1, z, h, q, hq => by
   have ih := C_at r k z (by simpa using h) q hq
   show (enc y ++ C r)[(k + 1) * 3 + q]? = _
   rw [List.getElem?_append_right (by rw [enc_len]; omega), enc_len, ← ih]
   congr 1
   omega
theorem C_set (zs : List El) {k : Nat} (hk : k < zs.length) (x : El) : C (zs.set k x) = ((((C zs).set (k * 3) (.int .i64 x.1)).set (k * 3 + 1) (.int .i64 x.2.1)).set (k * 3 + 2) (.int .i64 x.2.2)) := by
 apply List.ext_getElem?
 intro j
 by_cases hj : j / 3 = k
 ·obtain ⟨q, hq, rfl⟩ : ∃ q, q < 3 ∧ j = k * 3 + q := ⟨j % 3, Nat.mod_lt _ (by decide), by omega⟩
  rw [C_at (zs.set k x) k x (List.getElem?_set_self hk) q hq]
  have hl : (C zs).length = zs.length * 3 := C_len zs
  have hq' : q = 0 ∨ q = 1 ∨ q = 2 := by omega
  rcases hq' with rfl | rfl | rfl <;> simp [List.getElem?_set, hl, enc] <;> omega
 ·have e : (C (zs.set k x))[j]? = (C zs)[j]? := by
   rcases Nat.lt_or_ge (j / 3) zs.length with h | h
   ·obtain ⟨z, hz⟩ : ∃ z, zs[j / 3]? = some z := ⟨_, List.getElem?_eq_getElem h⟩
    have hz' : (zs.set k x)[j / 3]? = some z := by rw [List.getElem?_set_ne (fun e => hj e.symm)]; exact hz
    have e0 : j = j / 3 * 3 + j % 3 := by omega
    rw [e0, C_at _ _ z hz' _ (Nat.mod_lt _ (by decide)), C_at _ _ z hz _ (Nat.mod_lt _ (by decide))]
   ·rw [List.getElem?_eq_none (by rw [C_len, List.length_set]; omega), List.getElem?_eq_none (by rw [C_len]; omega)]
  rw [e]
  rw [List.getElem?_set_ne (by omega), List.getElem?_set_ne (by omega), List.getElem?_set_ne (by omega)]
def Own (w : World) (B : Nat) (v : Value) (zs : List El) : Prop := w.ownsRow B 61 3 v zs.length (C zs)
def Has (w : World) (v : Value) (zs : List El) : Prop := ∃ ao cap, v = .slice ao zs.length cap ∧ ∀ (j : Nat) (u : Value), (C zs)[j]? = some u → ∃ a, ao = some a ∧ w.cell? (a.add j) = some u
theorem Has.below {w w' : World} {v : Value} {zs : List El} (h : Has w v zs) (hb : Below w.heap.size w w') : Has w' v zs := by
 obtain ⟨ao, cap, h1, h2⟩ := h
 refine ⟨ao, cap, h1, fun i p hi => ?_⟩
 obtain ⟨a, ha, c0⟩ := h2 i p hi
 exact ⟨a, ha, (hb.cell (World.block_lt_of_cell? w _ c0)).trans c0⟩
theorem C_nil {zs : List El} (h : zs ≠ []) : ∃ u, (C zs)[0]? = some u := by
 cases zs with
 | nil => exact absurd rfl h
 | cons z r =>
   have h1 := C_at (z :: r) 0 z rfl 0 (by decide)
   have h2 : (enc z)[0]? = some ((enc z)[0]'(by rw [enc_len]; decide)) := List.getElem?_eq_getElem _
   exact ⟨_, h1.trans h2⟩
theorem Has.kept {w w' : World} {F : Nat → Prop} {v : Value} {zs : List El} (h : Has w v zs) (hk : Kept F w w') (hf : zs ≠ [] → ∀ i, v.ownBlock = some i → ¬ F i) : Has w' v zs := by
 obtain ⟨ao, cap, rfl, h2⟩ := h
 refine ⟨ao, cap, rfl, fun i z hi => ?_⟩
 obtain ⟨a, rfl, c⟩ := h2 i z hi
 exact ⟨a, rfl, cell_same (hk.block _ (block_lt3 c) (hf (by rintro rfl; simp [C] at hi) a.block rfl)) c⟩
theorem far {w : World} {v : Value} {zs : List El} (h : Has w v zs) (hz : zs ≠ []) {i : Nat} (hi : v.ownBlock = some i) : i < w.heap.size := by
 obtain ⟨ao, cap, rfl, h2⟩ := h
 obtain ⟨u, hu⟩ := C_nil hz
 obtain ⟨a, rfl, c⟩ := h2 0 u hu
 have := block_lt3 c
 simp only [Value.ownBlock, Option.some.injEq] at hi
 omega
theorem Own.at {w : World} {B g cap n : Nat} {zs : List El} (h : Own w B (.slice (some ⟨g, 0, none⟩) n cap) zs) {j : Nat} {u : Value} (hj : (C zs)[j]? = some u) : w.cell? ⟨g, j, none⟩ = some u := by
 obtain ⟨ao', cap', hv⟩ := row_shape h
 injection hv with _ e _
 subst e
 have h' : w.ownsRow B 61 3 (.slice (some ⟨g, 0, none⟩) zs.length cap) zs.length (C zs) := h
 rw [h'.cellAt j (by rw [← h'.1]; exact (List.getElem?_eq_some_iff.1 hj).1), hj]
theorem Own.has {w : World} {B : Nat} {v : Value} {zs : List El} (h : Own w B v zs) : Has w v zs := by
 obtain ⟨ao, cap, hv⟩ := row_shape h
 refine ⟨ao, cap, hv, fun j u hj => ?_⟩
 have hlt := (List.getElem?_eq_some_iff.1 hj).1
 rw [C_len] at hlt
 obtain ⟨g, c, hf, _, _⟩ := World.ownsRow.form h (by omega)
 rw [hv] at hf
 injection hf with e1 e2 e3
 subst e1; subst e3
 refine ⟨_, rfl, ?_⟩
 rw [addz]
 rw [hv] at h
 exact Own.at h hj
theorem add_q (a : Addr) (m q : Nat) : (a.add m).add q = a.add (m + q) := by
 unfold Addr.add
 by_cases h1 : m = 0 <;> by_cases h2 : q = 0 <;> simp [h1, h2] <;> omega
theorem copy_of {w : World} {ao : Option Addr} {n cap : Nat} {zs : List El} (h : Has w (.slice ao n cap) zs) : (ao = none → n = 0) ∧ ∀ ad, ao = some ad → ∀ j u, (C zs)[j]? = some u → w.cell? (ad.add j) = some u := by
 obtain ⟨ao', cap', hv, h2⟩ := h
 injection hv with e1 e2 e3
 subst e1
 refine ⟨fun e => ?_, fun ad e j u hj => ?_⟩
 ·rw [e2]
  by_cases hz : zs = []
  ·rw [hz]; rfl
  ·obtain ⟨u, hu⟩ := C_nil hz
   obtain ⟨a, ha, _⟩ := h2 0 u hu
   rw [e] at ha; cases ha
 ·obtain ⟨a, ha, hc⟩ := h2 j u hj
  rw [e] at ha
  cases ha
  exact hc
def mk1 (i k : Nat) : El := (-1 - (i : Int), (k : Int), 7)
def marks (i f n : Nat) : List El := (List.range n).map fun k => mk1 i (f + k)
theorem marks_len (i f n : Nat) : (marks i f n).length = n := by simp [marks]
theorem marks_succ (i f n : Nat) : marks i f (n + 1) = marks i f n ++ [mk1 i (f + n)] := by
 unfold marks
 rw [List.range_succ, List.map_append]
 rfl
theorem marks_add (i f n m : Nat) : marks i f n ++ marks i (f + n) m = marks i f (n + m) := by
 induction m with
 | zero => simp [marks]
 | succ m ih => rw [marks_succ, ← List.append_assoc, ih, Nat.add_assoc, ← marks_succ]; rfl
theorem marks_at {i f n j : Nat} (h : j < n) : (marks i f n)[j]? = some (mk1 i (f + j)) := by
 unfold marks
 rw [List.getElem?_map, List.getElem?_range h]
 rfl
theorem Tryz.infoE : (Tryz.prog.info? 61).map (fun i => (i.zero, i.size, i.bytes)) = some (some (.agg #[.int .i64 0, .int .i64 0, .int .i64 0]), 3, 24) := by kernel_rfl
theorem Tryz.infoR : (Tryz.prog.info? 22).map (fun i => (i.zero, i.size, i.bytes)) = some (some (.slice none 0 0), 1, 24) := by kernel_rfl
theorem C_snoc (zs : List El) (z : El) : C (zs ++ [z]) = C zs ++ enc z := by
 rw [C_app]
 show _ ++ (enc z ++ []) = _
 rw [List.append_nil]
theorem below_row {w w2 w4 : World} {x : Obj} {v : Value} {n : Nat} {us : List Value} (h1 : w2.ownsRow w.heap.size 61 3 v n us) (hb : Below w.heap.size w w2) (hg : (w2.alloc x).grownBy w4 v.ownBlock) : Below w.heap.size w w4 :=
 (hb.alloc hb.size x).grown hg (by have := hb.size; simp; omega) (fun k hk => (h1.lt k hk).1)
set_option maxRecDepth 100000 in
set_option maxHeartbeats 4000000 in
theorem mark_any (i f n : Nat) (w : World) (hi : i ≤ 1000) (hf : f + n ≤ 1000000000) :
 Calls Tryz.prog 119 #[.int .i64 i, .int .i64 f, .int .i64 n] w fun r w' => ∃ v, r = .returned v ∧ Own w' w.heap.size v (marks i f n) ∧ Below w.heap.size w w' := by
 obtain ⟨i0, hi0, hz0, hz1, hz2⟩ := info_parts Tryz.infoE
 have e1 : IntKind.i64.wrap ((f : Int) + (n : Int)) = (f : Int) + (n : Int) := by rw [IntKind.wrap_i64]; omega
 go_enter Tryz.func119, Tryz.ntmps119
 go_wp2_with fail
 go_loopg [7, 8] n (fun q lv kv wr => ∃ (k : Nat), q = n - k ∧ k ≤ n ∧ kv = .int .i64 ((f : Int) + (k : Int)) ∧ Own wr w.heap.size lv (marks i f k) ∧ Below w.heap.size w wr)
 case atStart => exact ⟨0, rfl, Nat.zero_le _, by simp, World.ownsRow_nil _ _ _ _, Below.refl _ _⟩
 case round =>
  obtain ⟨k, rfl, hk, rfl, hO, hb⟩ := hrel
  by_cases hlt : k < n
  ·have q1 : (f : Int) + (k : Int) < (f : Int) + (n : Int) := by omega
   obtain ⟨al, cl, rfl⟩ := row_shape hO
   have hO' : wr.ownsRow w.heap.size 61 3 (.slice al k cl) k (C (marks i f k)) := by have h1 := hO; unfold Own at h1; rw [marks_len] at h1; exact h1
   have hlk : (marks i f k).length = k := marks_len i f k
   rw [hlk]
   have hml : k + 1 ≤ maxLen := by unfold maxLen; omega
   have hby : (k + 1) * 24 ≤ 140737488355328 := by omega
   have w1 : IntKind.i64.wrap (-1 - (i : Int)) = -1 - (i : Int) := by rw [IntKind.wrap_i64]; omega
   have hle : w.heap.size ≤ (wr.alloc (.cells #[.int .i64 (-1 - (i : Int)), .int .i64 ((f : Int) + (k : Int)), .int .i64 7] 61)).heap.size := by have := hb.size; simp; omega
   have HO : Hid _ := And.intro hO' hb
   clear hO hO' hlk
   go_wp2_with (at_builtin; refine wpList_append_own_at _ rfl _ _ 22 rfl w.heap.size 61 i0 (.agg #[.int .i64 0, .int .i64 0, .int .i64 0]) 3 24 Tryz.underlying22 hi0 hz0 hz1 hz2 rfl (by decide) (.slice al k cl) k (C (marks i f k)) rfl (HO.out.1.alloc _) ⟨wr.heap.size, 0, none⟩ 1 1 [.int .i64 (-1 - (i : Int)), .int .i64 ((f : Int) + (k : Int)), .int .i64 7] rfl rfl (World.news_of_block (cs := #[.int .i64 (-1 - (i : Int)), .int .i64 ((f : Int) + (k : Int)), .int .i64 7]) (t := 61) (fr := (0, 0)) (heap_alloc_new wr _)) (by simp [Value.oneCell']) hml hby hle ?_; intro v2 w2 hown2 hgrow2 hnil2 hat2; have H2 : Hid _ := And.intro hown2 hgrow2; clear hown2 hgrow2 hnil2 hat2)
   have HM : Hid (enc (mk1 i (f + k)) = [.int .i64 (-1 - (i : Int)), .int .i64 ((f : Int) + (k : Int)), .int .i64 7]) := (by simp [enc, mk1] : enc (mk1 i (f + k)) = [.int .i64 (-1 - (i : Int)), .int .i64 ((f : Int) + (k : Int)), .int .i64 7])
   go_roundg (n - (k + 1))
   case measure => omega
   case rel => exact ⟨k + 1, rfl, by omega, by first | go_num | (congr 1; omega), by unfold Own; rw [marks_len, marks_succ, C_snoc, HM.out]; exact H2.out.1, below_row HO.out.1 HO.out.2 H2.out.2⟩
  ·obtain rfl : k = n := by omega
   have q1 : ¬ (f : Int) + (k : Int) < (f : Int) + (k : Int) := by omega
   have HO : Hid _ := And.intro hO hb
   clear hO hb
   go_wp2_with fail
   go_ret
   exact ⟨_, rfl, HO.out.1, HO.out.2⟩
set_option maxRecDepth 100000 in
set_option maxHeartbeats 4000000 in
theorem same_b (va vb : Value) (zs : List El) (w : World) (hn : zs.length ≤ 1000000000000000) (hA : Has w va zs) (hB : Has w vb zs) :
 Calls Tryz.prog 33 #[va, vb] w fun e w' => e = .returned (.bool true) ∧ Below w.heap.size w w' := by
 obtain ⟨ao, cap, rfl, hcA⟩ := hA
 obtain ⟨ao', cap', rfl, hcB⟩ := hB
 obtain ⟨n, hN⟩ : ∃ n, n = zs.length := ⟨_, rfl⟩
 have HH : Hid _ := And.intro hcA (And.intro hcB hN)
 rw [← hN] at hn ⊢
 clear hcA hcB hN
 have q : ((n : Int) != (n : Int)) = false := by simp
 go_enter Tryz.func33, Tryz.ntmps33
 go_wp2
 go_loopg [5] n (fun g i wr => ∃ j m : Nat, g = n - j ∧ j ≤ n ∧ i = .int .i64 j ∧ wr = w.drewN m)
 case atStart => exact ⟨0, 0, rfl, Nat.zero_le _, rfl, rfl⟩
 case round =>
  obtain ⟨j, m, rfl, hj, rfl, rfl⟩ := hrel
  by_cases hlt : j < n
  ·obtain ⟨z, hz⟩ : ∃ z, zs[j]? = some z := ⟨zs[j]'(by have := HH.out.2.2; omega), List.getElem?_eq_getElem _⟩
   obtain ⟨a, rfl, c0'⟩ := HH.out.1 (j * 3 + 0) _ ((C_at zs j z hz 0 (by decide)).trans rfl)
   obtain ⟨b, rfl, d0'⟩ := HH.out.2.1 (j * 3 + 0) _ ((C_at zs j z hz 0 (by decide)).trans rfl)
   have c0 : w.cell? (a.add (j * 3)) = some (.int .i64 z.1) := by first | exact c0' | simpa using c0'
   have d0 : w.cell? (b.add (j * 3)) = some (.int .i64 z.1) := by first | exact d0' | simpa using d0'
   clear c0' d0'
   obtain ⟨_, ec1, c1'⟩ := HH.out.1 (j * 3 + 1) _ ((C_at zs j z hz 1 (by decide)).trans rfl)
   cases ec1
   have c1 : w.cell? ⟨(a.add (j * 3)).block, (a.add (j * 3)).off + 1, none⟩ = some (.int .i64 z.2.1) := by rw [← add_q] at c1'; exact c1'
   clear c1'
   obtain ⟨_, ed1, d1'⟩ := HH.out.2.1 (j * 3 + 1) _ ((C_at zs j z hz 1 (by decide)).trans rfl)
   cases ed1
   have d1 : w.cell? ⟨(b.add (j * 3)).block, (b.add (j * 3)).off + 1, none⟩ = some (.int .i64 z.2.1) := by rw [← add_q] at d1'; exact d1'
   clear d1'
   obtain ⟨_, ec2, c2'⟩ := HH.out.1 (j * 3 + 2) _ ((C_at zs j z hz 2 (by decide)).trans rfl)
   cases ec2
   have c2 : w.cell? ⟨(a.add (j * 3)).block, (a.add (j * 3)).off + 2, none⟩ = some (.int .i64 z.2.2) := by rw [← add_q] at c2'; exact c2'
   clear c2'
   obtain ⟨_, ed2, d2'⟩ := HH.out.2.1 (j * 3 + 2) _ ((C_at zs j z hz 2 (by decide)).trans rfl)
   cases ed2
   have d2 : w.cell? ⟨(b.add (j * 3)).block, (b.add (j * 3)).off + 2, none⟩ = some (.int .i64 z.2.2) := by rw [← add_q] at d2'; exact d2'
   clear d2'
   have q0 : (0 : Int) ≤ (j : Int) := by omega
   have q1 : (j : Int) < (n : Int) := by omega
   clear hz
   go_wp2_with fail
   go_quiet (fail)
   go_wp2
   go_roundg (n - (j + 1))
   case measure => omega
   case rel => exact ⟨j + 1, _, rfl, by omega, by go_num, by first | rfl | exact World.drewN_drewN _ _ _⟩
  ·obtain rfl : j = n := by omega
   have q1 : ¬ (j : Int) < (j : Int) := by omega
   go_wp2
   go_ret
   exact ⟨rfl, below_drewN (Below.refl _ _) _⟩
end Go.Proofs.YtplofbabfkkimaaGreatDoor.BEdges
/- Contracts of the document's Right and Check of systems. -/
namespace Go.Proofs.YtplofbabfkkimaaGreatDoor
open Go.RowKit Go.Maps
attribute [local go_sem ↓] Go.wp_at_zero Go.wp_at_succ
def sysV (n k s : Int) (v : Value) : Value := .agg #[.int .i64 n, .int .i64 k, .int .i64 s, v]
theorem four_cells {w : World} {b : Nat} {x0 x1 x2 x3 : Value} {t : TypeId} (h : w.heap[b]? = some (.cells #[x0, x1, x2, x3] t (0, 0))) : w.cell? ⟨b, 0, none⟩ = some x0 ∧ w.cell? ⟨b, 1, none⟩ = some x1 ∧ w.cell? ⟨b, 2, none⟩ = some x2 ∧ w.cell? ⟨b, 3, none⟩ = some x3 := by
 simp [World.cell?, h]
set_option maxRecDepth 100000 in
set_option maxHeartbeats 4000000 in
theorem right_a (n k s : Int) (ao : Option Addr) (m cap : Nat) (w : World) (h : ¬ (0 ≤ n ∧ n ≤ 1000 ∧ 1 ≤ k ∧ k ≤ 201 ∧ m ≤ 10000)) :
 Calls Tryz.prog 20 #[sysV n k s (.slice ao m cap)] w fun e w' => e = .returned (.bool false) ∧ Below w.heap.size w w' := by
 unfold sysV
 have hc : n < 0 ∨ ¬ n < 0 ∧ (1000 < n ∨ ¬ 1000 < n ∧ (k < 1 ∨ ¬ k < 1 ∧ (201 < k ∨ ¬ 201 < k ∧ (10000 : Int) < (m : Int)))) := by omega
 rcases hc with h1 | ⟨h1, h2 | ⟨h2, h3 | ⟨h3, h4 | ⟨h4, h5⟩⟩⟩⟩
 all_goals
  clear h
  go_enter Tryz.func20, Tryz.ntmps20
  go_wp2
  go_ret
  exact ⟨rfl, (Below.refl _ _).alloc (Nat.le_refl _) _⟩
set_option maxRecDepth 100000 in
set_option maxHeartbeats 4000000 in
theorem right_b (n k s : Int) (ao : Option Addr) (m cap : Nat) (w : World) (h : 0 ≤ n ∧ n ≤ 1000 ∧ 1 ≤ k ∧ k ≤ 201 ∧ m ≤ 10000) (hs : ¬ ((n = 0 → s = 0) ∧ (0 < n → 0 ≤ s ∧ s < n))) :
 Calls Tryz.prog 20 #[sysV n k s (.slice ao m cap)] w fun e w' => e = .returned (.bool false) ∧ Below w.heap.size w w' := by
 unfold sysV
 obtain ⟨h1, h2, h3, h4, h5⟩ := h
 have g1 : ¬ n < 0 := by omega
 have g2 : ¬ 1000 < n := by omega
 have g3 : ¬ k < 1 := by omega
 have g4 : ¬ 201 < k := by omega
 have g5 : ¬ (10000 : Int) < (m : Int) := by omega
 have hc : (n == 0) = true ∧ (s != 0) = true ∨ (n == 0) = false ∧ 0 < n ∧ (s < 0 ∨ ¬ s < 0 ∧ n ≤ s) := by
  by_cases e : n = 0
  ·left; simp [e]; intro e2; exact hs ⟨fun _ => e2, fun h => by omega⟩
  ·right
   refine ⟨by simpa using e, by omega, ?_⟩
   by_cases e2 : s < 0
   ·exact .inl e2
   ·exact .inr ⟨e2, by
     by_cases e3 : n ≤ s
     ·exact e3
     ·exact absurd ⟨fun h => absurd h e, fun _ => ⟨by omega, by omega⟩⟩ hs⟩
 clear hs h1 h2 h3 h4 h5
 rcases hc with ⟨e1, e2⟩ | ⟨e1, e2, e3 | ⟨e3, e4⟩⟩
 all_goals
  go_enter Tryz.func20, Tryz.ntmps20
  go_wp2
  go_ret
  exact ⟨rfl, (Below.refl _ _).alloc (Nat.le_refl _) _⟩
theorem edge_at {w : World} {ao : Option Addr} {n cap : Nat} {es : List BEdges.El} (h : BEdges.Has w (.slice ao n cap) es) {j : Nat} {z : BEdges.El} (hz : es[j]? = some z) :
 ∃ a, ao = some a ∧ w.cell? (a.add (j * 3)) = some (.int .i64 z.1) ∧ w.cell? ⟨(a.add (j * 3)).block, (a.add (j * 3)).off + 1, none⟩ = some (.int .i64 z.2.1) ∧ w.cell? ⟨(a.add (j * 3)).block, (a.add (j * 3)).off + 2, none⟩ = some (.int .i64 z.2.2) := by
 obtain ⟨ao', cap', hv, hc⟩ := h
 injection hv with e1 e2 e3
 subst e1
 obtain ⟨a, rfl, c0⟩ := hc (j * 3 + 0) _ ((BEdges.C_at es j z hz 0 (by decide)).trans rfl)
 obtain ⟨a1, e1, c1⟩ := hc (j * 3 + 1) _ ((BEdges.C_at es j z hz 1 (by decide)).trans rfl)
 cases e1
 obtain ⟨a2, e2, c2⟩ := hc (j * 3 + 2) _ ((BEdges.C_at es j z hz 2 (by decide)).trans rfl)
 cases e2
 refine ⟨a, rfl, by simpa using c0, ?_, ?_⟩
 ·rw [← BEdges.add_q] at c1; exact c1
 ·rw [← BEdges.add_q] at c2; exact c2
def edgeOk (n k : Int) (e : Sy.Ed) : Bool := decide (0 ≤ e.1 ∧ e.1 < n ∧ 0 ≤ e.2.2 ∧ e.2.2 < n ∧ 0 ≤ e.2.1 ∧ e.2.1 < k)
set_option maxRecDepth 100000 in
set_option maxHeartbeats 8000000 in
theorem right_c (n k s : Int) (v : Value) (es : List Sy.Ed) (w : World) (hv : BEdges.Has w v es) (h : 0 ≤ n ∧ n ≤ 1000 ∧ 1 ≤ k ∧ k ≤ 201 ∧ es.length ≤ 10000) (hs : (n = 0 → s = 0) ∧ (0 < n → 0 ≤ s ∧ s < n)) :
 Calls Tryz.prog 20 #[sysV n k s v] w fun e w' => e = .returned (.bool (es.all (edgeOk n k))) ∧ Below w.heap.size w w' := by
 unfold sysV
 obtain ⟨ao, cap, rfl, _⟩ := _root_.id hv
 obtain ⟨m, hm⟩ : ∃ m, m = es.length := ⟨_, rfl⟩
 have HV : Hid _ := And.intro hv hm
 rw [← hm] at h ⊢
 obtain ⟨h1, h2, h3, h4, h5⟩ := h
 have g1 : ¬ n < 0 := by omega
 have g2 : ¬ 1000 < n := by omega
 have g3 : ¬ k < 1 := by omega
 have g4 : ¬ 201 < k := by omega
 have g5 : ¬ (10000 : Int) < (m : Int) := by omega
 have hc : (n == 0) = true ∧ (s != 0) = false ∧ ¬ 0 < n ∨ (n == 0) = false ∧ 0 < n ∧ ¬ s < 0 ∧ ¬ n ≤ s := by
  by_cases e : n = 0
  ·left; simp [e, hs.1 e]
  ·right; have := hs.2 (by omega); exact ⟨by simpa using e, by omega, by omega, by omega⟩
 clear hv hm hs
 rcases hc with ⟨c1, c2, c3⟩ | ⟨c1, c2, c3, c4⟩
 all_goals
  go_enter Tryz.func20, Tryz.ntmps20
  go_wp2_with fail
  go_loopg [3] m (fun q iv wr => ∃ i : Nat, q = m - i ∧ i ≤ m ∧ iv = .int .i64 i ∧ Below w.heap.size w wr ∧ wr.heap[w.heap.size]? = some (.cells #[.int .i64 n, .int .i64 k, .int .i64 s, .slice ao m cap] 24 (0, 0)) ∧ (es.take i).all (edgeOk n k) = true)
  case atStart => exact ⟨0, rfl, Nat.zero_le _, rfl, (Below.refl _ _).alloc (Nat.le_refl _) _, heap_alloc_new w _, by simp⟩
  case round =>
   obtain ⟨i, rfl, hi, rfl, hb, hB, hall⟩ := hrel
   obtain ⟨b0, b1, b2, b3⟩ := four_cells hB
   have n2 : w.heap.size < wr.heap.size := t_lt hB
   have n1 : ¬ w.heap.size = wr.heap.size := by omega
   have HB : Hid _ := And.intro hb (And.intro hB hall)
   clear hb hB hall
   by_cases hlt : i < m
   ·obtain ⟨z, hz⟩ : ∃ z, es[i]? = some z := ⟨es[i]'(by have := HV.out.2; omega), List.getElem?_eq_getElem _⟩
    obtain ⟨a, rfl, z0, z1, z2⟩ := edge_at (HV.out.1.below HB.out.1) hz
    have q0 : (0 : Int) ≤ (i : Int) := by omega
    have q1 : (i : Int) < (m : Int) := by omega
    have HZ : Hid (es[i]? = some z) := hz
    clear hz
    by_cases hok : edgeOk n k z = true
    ·have hk := of_decide_eq_true hok
     obtain ⟨k1, k2, k3, k4, k5, k6⟩ := hk
     have r1 : ¬ z.1 < 0 := by omega
     have r2 : ¬ n ≤ z.1 := by omega
     have r3 : ¬ z.2.2 < 0 := by omega
     have r4 : ¬ n ≤ z.2.2 := by omega
     have r5 : ¬ z.2.1 < 0 := by omega
     have r6 : ¬ k ≤ z.2.1 := by omega
     have HOK : Hid (edgeOk n k z = true) := hok
     clear hok k1 k2 k3 k4 k5 k6
     first
      | (exfalso; omega)
      | (go_wp2
         go_roundg (m - (i + 1))
         case measure => omega
         case rel => exact ⟨i + 1, rfl, by omega, by go_num, HB.out.1.alloc HB.out.1.size _, by rw [Below.heap_alloc wr _ _ (t_lt HB.out.2.1)]; exact HB.out.2.1, by rw [take_succ_of HZ.out, List.all_append, HB.out.2.2]; simp [HOK.out]⟩)
    ·have hk : z.1 < 0 ∨ ¬ z.1 < 0 ∧ (n ≤ z.1 ∨ ¬ n ≤ z.1 ∧ (z.2.2 < 0 ∨ ¬ z.2.2 < 0 ∧ (n ≤ z.2.2 ∨ ¬ n ≤ z.2.2 ∧ (z.2.1 < 0 ∨ ¬ z.2.1 < 0 ∧ k ≤ z.2.1)))) := by
      have : ¬ (0 ≤ z.1 ∧ z.1 < n ∧ 0 ≤ z.2.2 ∧ z.2.2 < n ∧ 0 ≤ z.2.1 ∧ z.2.1 < k) := fun h => hok (decide_eq_true h)
      omega
     have HF : Hid (es.all (edgeOk n k) = false) := (by
      rw [List.all_eq_false]
      exact ⟨z, List.mem_of_getElem? HZ.out, hok⟩ : es.all (edgeOk n k) = false)
     clear hok
     rcases hk with r1 | ⟨r1, r2 | ⟨r2, r3 | ⟨r3, r4 | ⟨r4, r5 | ⟨r5, r6⟩⟩⟩⟩⟩
     all_goals
      first
       | (exfalso; omega)
       | (go_wp2; go_ret; exact ⟨by rw [HF.out]; rfl, HB.out.1.alloc HB.out.1.size _⟩)
   ·obtain rfl : i = m := by omega
    have q1 : ¬ (i : Int) < (i : Int) := by omega
    go_wp2
    go_ret
    refine ⟨?_, HB.out.1⟩
    have h9 := HB.out.2.2
    rw [List.take_of_length_le (by have := HV.out.2; omega)] at h9
    rw [h9]
    rfl
theorem right_any (n k s : Int) (v : Value) (es : List Sy.Ed) (w : World) (hv : BEdges.Has w v es) :
 Calls Tryz.prog 20 #[sysV n k s v] w fun e w' => e = .returned (.bool (Sy.right n k s es)) ∧ Below w.heap.size w w' := by
 unfold Sy.right
 by_cases h1 : 0 ≤ n ∧ n ≤ 1000 ∧ 1 ≤ k ∧ k ≤ 201 ∧ es.length ≤ 10000
 ·by_cases h2 : (n = 0 → s = 0) ∧ (0 < n → 0 ≤ s ∧ s < n)
  ·rw [decide_eq_true h1, decide_eq_true h2]
   exact right_c n k s v es w hv h1 h2
  ·rw [decide_eq_false h2, Bool.and_false, Bool.false_and]
   obtain ⟨ao, cap, rfl, _⟩ := hv
   exact right_b n k s ao es.length cap w h1 h2
 ·rw [decide_eq_false h1, Bool.false_and, Bool.false_and]
  obtain ⟨ao, cap, rfl, _⟩ := hv
  exact right_a n k s ao es.length cap w h1
end Go.Proofs.YtplofbabfkkimaaGreatDoor
/- Contracts of the document's less and Sorted of edges. -/
namespace Go.Proofs.YtplofbabfkkimaaGreatDoor
open Go.RowKit Go.Maps
attribute [local go_sem ↓] Go.wp_at_zero Go.wp_at_succ
def edV (a : Sy.Ed) : Value := .agg #[.int .i64 a.1, .int .i64 a.2.1, .int .i64 a.2.2]
set_option maxRecDepth 100000 in
set_option maxHeartbeats 2000000 in
theorem refLess_any (a b : Sy.Ed) (w : World) : Calls Tryz.prog 104 #[edV a, edV b] w fun e w' => e = .returned (.bool (Sy.lt a b)) ∧ Below w.heap.size w w' := by
 unfold edV
 have hne : ¬ w.heap.size + 1 = w.heap.size := by omega
 have hB : Below w.heap.size w ((w.alloc (.cells #[.int .i64 a.1, .int .i64 a.2.1, .int .i64 a.2.2] 61)).alloc (.cells #[.int .i64 b.1, .int .i64 b.2.1, .int .i64 b.2.2] 61)) := ((Below.refl _ _).alloc (Nat.le_refl _) _).alloc (by simp) _
 have HB : Hid _ := hB
 clear hB
 by_cases h1 : a.1 = b.1
 ·have e1 : (a.1 != b.1) = false := by simpa using h1
  by_cases h2 : a.2.1 = b.2.1
  ·have e2 : (a.2.1 != b.2.1) = false := by simpa using h2
   have HL : Hid (Sy.lt a b = decide (a.2.2 < b.2.2)) := (by unfold Sy.lt; rw [e1, e2]; rfl : Sy.lt a b = decide (a.2.2 < b.2.2))
   clear h1 h2
   go_enter Tryz.func104, Tryz.ntmps104
   go_wp2
   go_ret
   exact ⟨by rw [HL.out]; rfl, HB.out⟩
  ·have e2 : (a.2.1 != b.2.1) = true := by simpa using h2
   have HL : Hid (Sy.lt a b = decide (a.2.1 < b.2.1)) := (by unfold Sy.lt; rw [e1, e2]; rfl : Sy.lt a b = decide (a.2.1 < b.2.1))
   clear h1 h2
   go_enter Tryz.func104, Tryz.ntmps104
   go_wp2
   go_ret
   exact ⟨by rw [HL.out]; rfl, HB.out⟩
 ·have e1 : (a.1 != b.1) = true := by simpa using h1
  have HL : Hid (Sy.lt a b = decide (a.1 < b.1)) := (by unfold Sy.lt; rw [e1]; rfl : Sy.lt a b = decide (a.1 < b.1))
  clear h1
  go_enter Tryz.func104, Tryz.ntmps104
  go_wp2
  go_ret
  exact ⟨by rw [HL.out]; rfl, HB.out⟩
def HasE (w : World) (v : Value) (es : List Sy.Ed) : Prop := ∃ ao cap, v = .slice ao es.length cap ∧ es.length ≤ cap ∧ BEdges.Has w v es
theorem HasE.below {w w' : World} {v : Value} {es : List Sy.Ed} (h : HasE w v es) (hb : Below w.heap.size w w') : HasE w' v es := by
 obtain ⟨ao, cap, h1, h2, h3⟩ := h
 exact ⟨ao, cap, h1, h2, h3.below hb⟩
theorem HasE.of_own {w : World} {B : Nat} {v : Value} {es : List Sy.Ed} (h : BEdges.Own w B v es) : HasE w v es := by
 have h3 := BEdges.Own.has h
 rcases h.2 with ⟨rfl, h0⟩ | ⟨g, cap, cur, rfl, _, _, hc, _⟩
 ·exact ⟨none, 0, by rw [h0], by omega, h3⟩
 ·exact ⟨_, cap, rfl, hc, h3⟩
theorem hasE_take {w : World} {ao : Option Addr} {n cap : Nat} {es : List Sy.Ed} (h : HasE w (.slice ao n cap) es) (k : Nat) (hk : k ≤ es.length) : HasE w (.slice ao k cap) (es.take k) := by
 obtain ⟨ao', cap', hv, hc, h3⟩ := h
 injection hv with e1 e2 e3
 subst e1; subst e2; subst e3
 have hl : (es.take k).length = k := by rw [List.length_take]; omega
 obtain ⟨ao2, cap2, hv2, h4⟩ := h3
 injection hv2 with f1 f2 f3
 subst f1; subst f3
 refine ⟨ao, cap, by rw [hl], by omega, ao, cap, by rw [hl], fun j u hj => ?_⟩
 refine h4 j u ?_
 have e : BEdges.C es = BEdges.C (es.take k) ++ BEdges.C (es.drop k) := by rw [← BEdges.C_app, List.take_append_drop]
 rw [e, List.getElem?_append_left (List.getElem?_eq_some_iff.1 hj).1]
 exact hj
theorem hasE_drop {w : World} {a : Addr} {n cap : Nat} {es : List Sy.Ed} (h : HasE w (.slice (some a) n cap) es) (k : Nat) (hk : k ≤ es.length) : HasE w (.slice (some (a.add (k * 3))) (n - k) (cap - k)) (es.drop k) := by
 obtain ⟨ao', cap', hv, hc, h3⟩ := h
 injection hv with e1 e2 e3
 subst e1; subst e2; subst e3
 have hl : (es.drop k).length = es.length - k := List.length_drop
 obtain ⟨ao2, cap2, hv2, h4⟩ := h3
 injection hv2 with f1 f2 f3
 subst f1; subst f3
 refine ⟨_, _, by rw [hl], by omega, _, _, by rw [hl], fun j u hj => ⟨_, rfl, ?_⟩⟩
 have e : BEdges.C es = BEdges.C (es.take k) ++ BEdges.C (es.drop k) := by rw [← BEdges.C_app, List.take_append_drop]
 have hcl : (BEdges.C (es.take k)).length = k * 3 := by rw [BEdges.C_len, List.length_take, Nat.min_eq_left hk]
 obtain ⟨a2, ha2, hc2⟩ := h4 (k * 3 + j) u (by rw [e, List.getElem?_append_right (by omega), hcl, Nat.add_sub_cancel_left]; exact hj)
 cases ha2
 rw [BEdges.add_q]
 exact hc2
end Go.Proofs.YtplofbabfkkimaaGreatDoor
