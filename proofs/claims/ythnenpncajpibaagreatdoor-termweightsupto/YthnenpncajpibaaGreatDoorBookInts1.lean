/- The book's marks for lists of numbers. -/
import Derived.Test.YthnenpncajpibaaGreatDoorBookNil
import Derived.Test.YthnenpncajpibaaGreatDoorLent
namespace Go.Proofs.YthnenpncajpibaaGreatDoor
open Go.RowKit Go.Maps
attribute [local go_sem ↓] Go.wp_at_zero Go.wp_at_succ
/-- The mark of the list i at the place k. -/
def mk1 (i k : Nat) : Int := -1000000 * (i : Int) - (k : Int) - 7
def marks (i f n : Nat) : List Int := (List.range n).map fun k => mk1 i (f + k)
theorem marks_len (i f n : Nat) : (marks i f n).length = n := by simp [marks]
theorem marks_succ (i f n : Nat) : marks i f (n + 1) = marks i f n ++ [mk1 i (f + n)] := by
  unfold marks
  rw [List.range_succ, List.map_append]
  rfl
theorem marks_add (i f n m : Nat) : marks i f n ++ marks i (f + n) m = marks i f (n + m) := by
  induction m with
  | zero => simp [marks]
  | succ m ih => rw [marks_succ, ← List.append_assoc, ih, Nat.add_assoc, ← marks_succ]; rfl
theorem marks_at {i f n j : Nat} (h : j < n) : (marks i f n)[j]? = some (mk1 i (f + j)) := by
  unfold marks
  rw [List.getElem?_map, List.getElem?_range h]
  rfl
set_option maxRecDepth 100000 in
set_option maxHeartbeats 4000000 in
theorem mark_any (i f n : Nat) (w : World) (hi : i ≤ 1000) (hf : f + n ≤ 1000000000) :
    Calls Tryz.prog 99 #[.int .i64 i, .int .i64 f, .int .i64 n] w fun r w' => ∃ v, r = .returned v ∧ OwnI w' w.heap.size v (marks i f n) ∧ Below w.heap.size w w' := by
  obtain ⟨i0, hi0, hz0, hz1, hz2⟩ := info_parts Tryz.infoI3
  have e1 : IntKind.i64.wrap ((f : Int) + (n : Int)) = (f : Int) + (n : Int) := by rw [IntKind.wrap_i64]; omega
  go_enter Tryz.func99, Tryz.ntmps99
  go_wp2_with fail
  go_loopg [7, 8] n (fun q lv kv wr => ∃ (k : Nat), q = n - k ∧ k ≤ n ∧ kv = .int .i64 ((f : Int) + (k : Int)) ∧ OwnI wr w.heap.size lv (marks i f k) ∧ Below w.heap.size w wr)
  case atStart => exact ⟨0, rfl, Nat.zero_le _, by simp, World.ownsRow_nil _ _ _ _, Below.refl _ _⟩
  case round =>
    obtain ⟨k, rfl, hk, rfl, hO, hb⟩ := hrel
    by_cases hlt : k < n
    · have q1 : (f : Int) + (k : Int) < (f : Int) + (n : Int) := by omega
      obtain ⟨al, cl, rfl⟩ := row_shape hO
      have hO' : wr.ownsRow w.heap.size 3 1 (.slice al k cl) k (iC (marks i f k)) := by have h1 := hO; unfold OwnI at h1; rw [marks_len] at h1; exact h1
      have hlk : (marks i f k).length = k := marks_len i f k
      rw [hlk]
      have hml : k + 1 ≤ maxLen := by unfold maxLen; omega
      have hby : (k + 1) * 8 ≤ 140737488355328 := by omega
      have w1 : IntKind.i64.wrap (-1000000 * (i : Int)) = -1000000 * (i : Int) := by rw [IntKind.wrap_i64]; omega
      have w2 : IntKind.i64.wrap (-1000000 * (i : Int) - ((f : Int) + (k : Int))) = -1000000 * (i : Int) - ((f : Int) + (k : Int)) := by rw [IntKind.wrap_i64]; omega
      have w3 : IntKind.i64.wrap (-1000000 * (i : Int) - ((f : Int) + (k : Int)) - 7) = -1000000 * (i : Int) - ((f : Int) + (k : Int)) - 7 := by rw [IntKind.wrap_i64]; omega
      have hle : w.heap.size ≤ (wr.alloc (.cells #[.int .i64 (-1000000 * (i : Int) - ((f : Int) + (k : Int)) - 7)] 3)).heap.size := by have := hb.size; simp; omega
      have HO : Hid _ := And.intro hO' hb
      clear hO hO' hlk
      go_wp2_with (at_builtin; refine wpList_append_own_at _ rfl _ _ 29 rfl w.heap.size 3 i0 (.int .i64 0) 1 8 Tryz.underlying29 hi0 hz0 hz1 hz2 rfl (by decide) (.slice al k cl) k (iC (marks i f k)) rfl (HO.out.1.alloc _) ⟨wr.heap.size, 0, none⟩ 1 1 [.int .i64 (-1000000 * (i : Int) - ((f : Int) + (k : Int)) - 7)] rfl rfl (World.news_of_block (cs := #[.int .i64 (-1000000 * (i : Int) - ((f : Int) + (k : Int)) - 7)]) (t := 3) (fr := (0, 0)) (heap_alloc_new wr _)) (one_one _) hml hby hle ?_; intro v2 w2 hown2 hgrow2 hnil2 hat2; have H2 : Hid _ := And.intro hown2 hgrow2; clear hown2 hgrow2 hnil2 hat2)
      have HM : Hid (mk1 i (f + k) = -1000000 * (i : Int) - ((f : Int) + (k : Int)) - 7) := (by unfold mk1; omega : mk1 i (f + k) = -1000000 * (i : Int) - ((f : Int) + (k : Int)) - 7)
      go_roundg (n - (k + 1))
      case measure => omega
      case rel => exact ⟨k + 1, rfl, by omega, by first | go_num | (congr 1; omega), by unfold OwnI; rw [marks_len, marks_succ, iC_snoc, HM.out]; exact H2.out.1, lines_belowI HO.out.1 HO.out.2 H2.out.2⟩
    · obtain rfl : k = n := by omega
      have q1 : ¬ (f : Int) + (k : Int) < (f : Int) + (k : Int) := by omega
      have HO : Hid _ := And.intro hO hb
      clear hO hb
      go_wp2_with fail
      go_ret
      exact ⟨_, rfl, HO.out.1, HO.out.2⟩
end Go.Proofs.YthnenpncajpibaaGreatDoor
