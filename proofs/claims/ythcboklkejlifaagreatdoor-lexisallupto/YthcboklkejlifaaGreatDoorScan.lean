/- Contract of lexis.Scan on a text that is not too long: its words, or the error and its place. -/
import Derived.Test.YthcboklkejlifaaGreatDoorEndLine
import Derived.Test.YthcboklkejlifaaGreatDoorWords
import Derived.Deep.DeepCutAuto
namespace Go.Proofs.YthcboklkejlifaaGreatDoor
open Go.RowKit
/-- Scanning, from a place on: the words, or the error's code and place. -/
def scanF (s : ByteArray) : Nat → Nat → Nat → Nat → List Tok → List Tok ⊕ (Nat × Nat × Nat)
  | 0, _, _, _, ts => .inl ts
  | n + 1, p, l, f, ts =>
    if h : p < s.size then
      let c := Lx.powZ (s[p].toNat : Int)
      let e := Lx.runE s.data.toList p
      if c = 7 then (if 32 < e - p then .inr (2, l, p - f + 1) else scanF s n e l f (ts ++ [⟨2, s.extract p e, l, p - f + 1⟩]))
      else if c = 3 then (if (Lx.numR (s.extract p e).data.toList).2 = 0 then scanF s n e l f (ts ++ [⟨3, s.extract p e, l, p - f + 1⟩]) else .inr ((Lx.numR (s.extract p e).data.toList).2, l, p - f + 1))
      else if c = 8 then scanF s n (p + 1) l f (ts ++ [⟨4, s.extract p (p + 1), l, p - f + 1⟩])
      else if c = 16 then scanF s n (p + 1) l f ts
      else if c = 32 then scanF s n (Lx.lineE s.data.toList p) l f ts
      else if c = 64 then scanF s n (p + 1) (l + 1) (p + 1) (endTs ts l (p - f + 1))
      else .inr (4, l, p - f + 1)
    else .inl (endTs ts l (p - f + 1))
theorem scanF_at (s : ByteArray) (n p l f : Nat) (ts : List Tok) (h : p < s.size) : scanF s (n + 1) p l f ts =
      (if Lx.powZ (s[p].toNat : Int) = 7 then (if 32 < Lx.runE s.data.toList p - p then .inr (2, l, p - f + 1) else scanF s n (Lx.runE s.data.toList p) l f (ts ++ [⟨2, s.extract p (Lx.runE s.data.toList p), l, p - f + 1⟩]))
      else if Lx.powZ (s[p].toNat : Int) = 3 then (if (Lx.numR (s.extract p (Lx.runE s.data.toList p)).data.toList).2 = 0 then scanF s n (Lx.runE s.data.toList p) l f (ts ++ [⟨3, s.extract p (Lx.runE s.data.toList p), l, p - f + 1⟩]) else .inr ((Lx.numR (s.extract p (Lx.runE s.data.toList p)).data.toList).2, l, p - f + 1))
      else if Lx.powZ (s[p].toNat : Int) = 8 then scanF s n (p + 1) l f (ts ++ [⟨4, s.extract p (p + 1), l, p - f + 1⟩])
      else if Lx.powZ (s[p].toNat : Int) = 16 then scanF s n (p + 1) l f ts
      else if Lx.powZ (s[p].toNat : Int) = 32 then scanF s n (Lx.lineE s.data.toList p) l f ts
      else if Lx.powZ (s[p].toNat : Int) = 64 then scanF s n (p + 1) (l + 1) (p + 1) (endTs ts l (p - f + 1))
      else .inr (4, l, p - f + 1)) := by
  rw [scanF]; simp only [h, dite_true]
theorem scanF_end (s : ByteArray) (n l f : Nat) (ts : List Tok) : scanF s (n + 1) s.size l f ts = .inl (endTs ts l (s.size - f + 1)) := by
  rw [scanF]; simp
theorem run_gt (s : ByteArray) (p : Nat) (h : p < s.size) (hg : (Lx.powZ (s[p].toNat : Int) % 2 == 1) = true) : p < Lx.runE s.data.toList p := by
  have hl : p < s.data.toList.length := by simpa using h
  rw [← Lx.runE_yes s.data.toList p hl (by rw [Lx.goB_pow]; exact hg)]
  have := Lx.runE_ge s.data.toList (p + 1); omega
theorem line_gt (s : ByteArray) (p : Nat) (h : p < s.size) (hg : (Lx.powZ (s[p].toNat : Int) == 32) = true) : p < Lx.lineE s.data.toList p := by
  have hl : p < s.data.toList.length := by simpa using h
  have h10 : s.data.toList[p].toNat ≠ 10 := by
    intro he
    have : (s[p].toNat : Int) = 10 := by rw [← list_at s p h, he]; rfl
    rw [this] at hg; revert hg; decide
  rw [← Lx.lineE_yes s.data.toList p hl h10]
  unfold Lx.lineE; omega
theorem num_err (TL TW : TypeId) (uL uW : Value) (l : List UInt8) (h : ¬ (Lx.numR l).2 = 0) : ∃ T u, (if (Lx.numR l).2 = 4 then Value.iface TW uW else .iface TL uL) = .iface T u ∧ numOut (.iface TL uL) (.iface TW uW) (Lx.numR l) = .tuple #[.int .i64 0, .iface T u] := by
  have h1 : (Lx.numR l).1 = 0 := by
    unfold Lx.numR at h ⊢
    split
    · rfl
    · rename_i hb
      rw [if_neg hb] at h
      split
      · rename_i v hv; rw [hv] at h; simp at h
      · rfl
  by_cases h4 : (Lx.numR l).2 = 4
  · exact ⟨TW, uW, by simp [h4], by simp [numOut, h1, h4]⟩
  · exact ⟨TL, uL, by simp [h4], by simp [numOut, h, h1, h4]⟩
theorem powZ_cases (c : Int) : Lx.powZ c = 7 ∨ Lx.powZ c = 3 ∨ Lx.powZ c = 8 ∨ Lx.powZ c = 16 ∨ Lx.powZ c = 32 ∨ Lx.powZ c = 64 ∨ Lx.powZ c = 1 ∨ Lx.powZ c = 0 := by
  unfold Lx.powZ
  repeat' split
  all_goals simp
theorem powZ_ten : Lx.powZ 35 = 32 := by decide
/-- The state at a round's head. -/
def Rnd (B : Nat) (s : ByteArray) (eL eW : Value) (R : List Tok ⊕ (Nat × Nat × Nat)) (w : World) (g : Nat) (r : Value) (wr : World) : Prop :=
  (∃ n p l f ts, g = n + 1 ∧ r = .nilIface ∧ p ≤ s.size ∧ f ≤ p ∧ s.size + 1 - p ≤ n ∧ l ≤ p + 1 ∧ ts.length ≤ 2 * p ∧ Sc B s p l f ts wr ∧ Below B w wr ∧ scanF s n p l f ts = R) ∨
  (∃ p l f ts k, g = 0 ∧ r = (if k = 4 then eW else eL) ∧ p ≤ s.size ∧ f ≤ p ∧ l ≤ p + 1 ∧ Sc B s p l f ts wr ∧ Below B w wr ∧ R = .inr (k, l, p - f + 1))
theorem Rnd.go {B : Nat} {s : ByteArray} {eL eW : Value} {R : List Tok ⊕ (Nat × Nat × Nat)} {w : World} {wr : World} (n p l f : Nat) (ts : List Tok) (h1 : p ≤ s.size) (h2 : f ≤ p) (h3 : s.size + 1 - p ≤ n) (h4 : l ≤ p + 1) (h5 : ts.length ≤ 2 * p) (h6 : Sc B s p l f ts wr) (h7 : Below B w wr) (h8 : scanF s n p l f ts = R) : Rnd B s eL eW R w (n + 1) .nilIface wr :=
  .inl ⟨n, p, l, f, ts, rfl, rfl, h1, h2, h3, h4, h5, h6, h7, h8⟩
theorem Rnd.stop {B : Nat} {s : ByteArray} {eL eW : Value} {R : List Tok ⊕ (Nat × Nat × Nat)} {w : World} {wr : World} {r : Value} (p l f : Nat) (ts : List Tok) (k : Nat) (h0 : r = (if k = 4 then eW else eL)) (h1 : p ≤ s.size) (h2 : f ≤ p) (h4 : l ≤ p + 1) (h6 : Sc B s p l f ts wr) (h7 : Below B w wr) (h8 : R = .inr (k, l, p - f + 1)) : Rnd B s eL eW R w 0 r wr :=
  .inr ⟨p, l, f, ts, k, rfl, h0, h1, h2, h4, h6, h7, h8⟩
def scanOut (s : ByteArray) (eL eW : Value) (w : World) (e : Ending) (w' : World) : List Tok ⊕ (Nat × Nat × Nat) → Prop
  | .inl ts => ∃ v, e = .returned (.tuple #[v, .nilIface]) ∧ w'.ownsRow (w.heap.size + 1) 57 4 v ts.length (toksCells ts) ∧ ts.length ≤ 2 * s.size + 1
  | .inr (k, l, c) => ∃ b, e = .returned (.tuple #[.slice none 0 0, .iface 58 (.pointer (some ⟨b, 0, none⟩))]) ∧ w.heap.size ≤ b ∧ w'.heap[b]? = some (.cells #[.string ⟨#[108, 101, 120, 105, 115]⟩, .int .i64 l, .int .i64 c, if k = 4 then eW else eL] 60 (0, 0))
theorem endTs_len (ts : List Tok) (l c : Nat) : (endTs ts l c).length ≤ ts.length + 1 := by
  unfold endTs
  split <;> simp
theorem endLine_any (B : Nat) (s : ByteArray) (p l f c : Nat) (ts : List Tok) (w : World) (hS : Sc B s p l f ts w) (hp : p ≤ s.size) (hf : f ≤ p) (hc : c = p - f + 1) (hs : s.size ≤ 65536) (hl : l ≤ 100000) (hn : ts.length ≤ 200000) :
    Calls Tryz.prog 21 #[.pointer (some ⟨B, 0, none⟩)] w fun r w' => r = .returned (.tuple #[]) ∧ Sc B s (p + 1) (l + 1) (p + 1) (endTs ts l c) w' ∧ Below B w w' := by
  rcases List.eq_nil_or_concat ts with rfl | ⟨us, t, rfl⟩
  · exact endLine_nil B s p l f c w hS hp hs hl
  · rw [List.concat_eq_append] at *
    simp at hn
    by_cases h : t.line = l
    · exact endLine_yes B s p l f c us t w hS h hp hf (by omega) hs hl (by omega)
    · exact endLine_no B s p l f c us t w hS h hp hs hl (by omega)
set_option maxRecDepth 100000 in
set_option maxHeartbeats 8000000 in
theorem scan_any (s : ByteArray) (TL TW : TypeId) (uL uW : Value) (w : World) (hs : s.size ≤ 65536) (hL : w.cell? ⟨0, 0, none⟩ = some (.iface TL uL)) (hW : w.cell? ⟨1, 0, none⟩ = some (.iface TW uW)) :
    Calls Tryz.prog 7 #[.string s] w fun e w' => scanOut s (.iface TL uL) (.iface TW uW) w e w' (scanF s (s.size + 1) 0 1 0 []) ∧ Below w.heap.size w w' := by
  have h9 : decide ((65536 : Int) < (s.size : Int)) = false := by simp; omega
  have HG : Hid (w.cell? ⟨0, 0, none⟩ = some (.iface TL uL) ∧ w.cell? ⟨1, 0, none⟩ = some (.iface TW uW) ∧ 0 < w.heap.size ∧ 1 < w.heap.size) := ⟨hL, hW, World.block_lt_of_cell? w _ hL, World.block_lt_of_cell? w _ hW⟩
  clear hL hW
  obtain ⟨R, hR⟩ : ∃ R, R = scanF s (s.size + 1) 0 1 0 [] := ⟨_, rfl⟩
  rw [← hR]
  have HR : Hid (scanF s (s.size + 1) 0 1 0 [] = R) := hR.symm
  clear hR
  go_enter Tryz.func7, Tryz.ntmps7
  go_wp2_with fail
  go_step3
  go_wp2_with fail
  go_step3
  go_wp2_with fail
  go_loopg [5] (s.size + 2) (fun g r wr => Rnd w.heap.size s (.iface TL uL) (.iface TW uW) R w g r wr)
  case atStart => exact Rnd.go (s.size + 1) 0 1 0 [] (Nat.zero_le _) (Nat.le_refl _) (by omega) (by omega) (Nat.le_refl _) ⟨_, heap_alloc_new w _, World.ownsRow_nil _ _ _ _⟩ ((Below.refl _ _).alloc (Nat.le_refl _) _) HR.out
  case round =>
    clear HR
    rcases hrel with ⟨n, p, l, f, ts, rfl, rfl, hp, hf, hn, hl, ht, hS, hb, hR⟩ | ⟨p, l, f, ts, k, rfl, rfl, hp, hf, hl, hS, hb, rfl⟩
    · have gL : wr.cell? ⟨0, 0, none⟩ = some (.iface TL uL) := (hb.cell HG.out.2.2.1).trans HG.out.1
      have gW : wr.cell? ⟨1, 0, none⟩ = some (.iface TW uW) := (hb.cell HG.out.2.2.2).trans HG.out.2.1
      have HX : Hid (Sc w.heap.size s p l f ts wr ∧ Below w.heap.size w wr) := ⟨hS, hb⟩
      have hBr := Sc_lt hS
      obtain ⟨v, hB, _⟩ := hS
      obtain ⟨d0, d1, d2, d3, d4⟩ := Sc_cells hB
      have f1 := free_of_block hB 1
      clear hB hb
      obtain ⟨n, rfl⟩ : ∃ m, n = m + 1 := ⟨n - 1, by omega⟩
      by_cases hlt : p < s.size
      · have hlen : s.data.toList.length = s.size := by simp
        have hH := here_at w.heap.size s p wr d1 d0 hlt
        have hR2 := scanF_at s n p l f ts hlt
        rw [hR] at hR2
        rcases powZ_cases (s[p].toNat : Int) with hw | hw | hw | hw | hw | hw | hw | hw
        · rw [hw] at hH
          have b4 : bits BinOp.and IntKind.i64 7 4 = 4 := by decide
          have hgt := run_gt s p hlt (by rw [hw]; decide)
          have hre := Lx.runE_le s.data.toList p (by omega)
          rw [hlen] at hre
          by_cases hlong : 32 < Lx.runE s.data.toList p - p
          · have HF : Hid (R = .inr (2, l, p - f + 1)) := (by rw [hR2, hw, if_pos rfl, if_pos hlong] : R = .inr (2, l, p - f + 1))
            clear hR hR2 hw
            go_wp2_with (first | (go_at_call 16; refine hH.mono ?_; rintro e1 w1 ⟨rfl, m1, rfl⟩) | (go_at_call 17; refine (name_long w.heap.size s p l f ts (.iface TL uL) _ (by exact Sc_heap HX.out.1 rfl) hp hs (by exact gL) hlong).mono ?_; rintro e2 w2 ⟨rfl, hb2⟩))
            go_roundg 0
            case measure => omega
            case rel => exact Rnd.stop p l f ts 2 rfl hp hf hl (Sc_belowS (Sc_heap (w' := wr.drewN m1) HX.out.1 rfl) hb2) ((below_drewN HX.out.2 _).trans (hb2.mono (Nat.le_of_lt hBr))) HF.out
          · have HF : Hid (scanF s n (Lx.runE s.data.toList p) l f (ts ++ [⟨2, s.extract p (Lx.runE s.data.toList p), l, p - f + 1⟩]) = R) := (by rw [hR2, hw, if_pos rfl, if_neg hlong] : scanF s n (Lx.runE s.data.toList p) l f (ts ++ [⟨2, s.extract p (Lx.runE s.data.toList p), l, p - f + 1⟩]) = R)
            clear hR hR2 hw
            go_wp2_with (first | (go_at_call 16; refine hH.mono ?_; rintro e1 w1 ⟨rfl, m1, rfl⟩) | (go_at_call 17; refine (name_ok w.heap.size s p l f ts _ (by exact Sc_heap HX.out.1 rfl) hf hp hs (by omega) hlong).mono ?_; rintro e2 w2 ⟨rfl, hS2, hb2⟩))
            go_roundg (n + 1)
            case measure => omega
            case rel => exact Rnd.go n _ l f _ hre (by omega) (by omega) (by omega) (by simp; omega) hS2 ((below_drewN HX.out.2 _).trans hb2) HF.out
        · rw [hw] at hH
          have b4 : bits BinOp.and IntKind.i64 3 4 = 0 := by decide
          have b2 : bits BinOp.and IntKind.i64 3 2 = 2 := by decide
          have hgt := run_gt s p hlt (by rw [hw]; decide)
          have hre := Lx.runE_le s.data.toList p (by omega)
          rw [hlen] at hre
          by_cases hz : (Lx.numR (s.extract p (Lx.runE s.data.toList p)).data.toList).2 = 0
          · have HF : Hid (scanF s n (Lx.runE s.data.toList p) l f (ts ++ [⟨3, s.extract p (Lx.runE s.data.toList p), l, p - f + 1⟩]) = R) := (by rw [hR2, hw, if_neg (by decide), if_pos rfl, if_pos hz] : scanF s n (Lx.runE s.data.toList p) l f (ts ++ [⟨3, s.extract p (Lx.runE s.data.toList p), l, p - f + 1⟩]) = R)
            have HO : Hid (numOut (.iface TL uL) (.iface TW uW) (Lx.numR (s.extract p (Lx.runE s.data.toList p)).data.toList) = .tuple #[.int .i64 ((Lx.numR (s.extract p (Lx.runE s.data.toList p)).data.toList).1 : Nat), .nilIface]) := (by unfold numOut; rw [if_pos hz] : numOut (.iface TL uL) (.iface TW uW) (Lx.numR (s.extract p (Lx.runE s.data.toList p)).data.toList) = .tuple #[.int .i64 ((Lx.numR (s.extract p (Lx.runE s.data.toList p)).data.toList).1 : Nat), .nilIface])
            clear hR hR2 hw hz
            go_wp2_with (first | (go_at_call 16; refine hH.mono ?_; rintro e1 w1 ⟨rfl, m1, rfl⟩) | (go_at_call 18; refine (number_ok w.heap.size s p l f ts (.iface TL uL) (.iface TW uW) _ _ (by exact Sc_heap HX.out.1 rfl) hf hp hs (by omega) (by exact gL) (by exact gW) HO.out).mono ?_; rintro e2 w2 ⟨rfl, hS2, hb2⟩))
            go_roundg (n + 1)
            case measure => omega
            case rel => exact Rnd.go n _ l f _ hre (by omega) (by omega) (by omega) (by simp; omega) hS2 ((below_drewN HX.out.2 _).trans hb2) HF.out
          · have HF : Hid (R = .inr ((Lx.numR (s.extract p (Lx.runE s.data.toList p)).data.toList).2, l, p - f + 1)) := (by rw [hR2, hw, if_neg (by decide), if_pos rfl, if_neg hz] : R = .inr ((Lx.numR (s.extract p (Lx.runE s.data.toList p)).data.toList).2, l, p - f + 1))
            obtain ⟨T, u, hTu, hO⟩ := num_err TL TW uL uW _ hz
            have HO : Hid ((if (Lx.numR (s.extract p (Lx.runE s.data.toList p)).data.toList).2 = 4 then Value.iface TW uW else .iface TL uL) = .iface T u ∧ numOut (.iface TL uL) (.iface TW uW) (Lx.numR (s.extract p (Lx.runE s.data.toList p)).data.toList) = .tuple #[.int .i64 0, .iface T u]) := ⟨hTu, hO⟩
            clear hR hR2 hw hz hTu hO
            go_wp2_with (first | (go_at_call 16; refine hH.mono ?_; rintro e1 w1 ⟨rfl, m1, rfl⟩) | (go_at_call 18; refine (number_bad w.heap.size s p l f ts (.iface TL uL) (.iface TW uW) T u _ (by exact Sc_heap HX.out.1 rfl) hp hs (by exact gL) (by exact gW) HO.out.2).mono ?_; rintro e2 w2 ⟨rfl, hb2⟩))
            go_roundg 0
            case measure => omega
            case rel => exact Rnd.stop p l f ts _ HO.out.1.symm hp hf hl (Sc_belowS (Sc_heap (w' := wr.drewN m1) HX.out.1 rfl) hb2) ((below_drewN HX.out.2 _).trans (hb2.mono (Nat.le_of_lt hBr))) HF.out
        · rw [hw] at hH
          have b4 : bits BinOp.and IntKind.i64 8 4 = 0 := by decide
          have b2 : bits BinOp.and IntKind.i64 8 2 = 0 := by decide
          have b8 : bits BinOp.and IntKind.i64 8 8 = 8 := by decide
          have HF : Hid (scanF s n (p + 1) l f (ts ++ [⟨4, s.extract p (p + 1), l, p - f + 1⟩]) = R) := (by rw [hR2]; simp [hw] : scanF s n (p + 1) l f (ts ++ [⟨4, s.extract p (p + 1), l, p - f + 1⟩]) = R)
          clear hR hR2 hw
          go_wp2_with (first | (go_at_call 16; refine hH.mono ?_; rintro e1 w1 ⟨rfl, m1, rfl⟩) | (go_at_call 19; refine (take_any w.heap.size s p l f ts _ (by exact Sc_heap HX.out.1 rfl) 4 (p + 1) hf (by omega) hlt hs (by omega)).mono ?_; rintro e2 w2 ⟨rfl, hS2, hb2⟩))
          go_roundg (n + 1)
          case measure => omega
          case rel => exact Rnd.go n (p + 1) l f _ hlt (by omega) (by omega) (by omega) (by simp; omega) hS2 ((below_drewN HX.out.2 _).trans hb2) HF.out
        · rw [hw] at hH
          have b4 : bits BinOp.and IntKind.i64 16 4 = 0 := by decide
          have b2 : bits BinOp.and IntKind.i64 16 2 = 0 := by decide
          have b8 : bits BinOp.and IntKind.i64 16 8 = 0 := by decide
          have b16 : bits BinOp.and IntKind.i64 16 16 = 16 := by decide
          have HF : Hid (scanF s n (p + 1) l f ts = R) := (by rw [hR2]; simp [hw] : scanF s n (p + 1) l f ts = R)
          clear hR hR2 hw
          go_wp2_with (first | (go_at_call 16; refine hH.mono ?_; rintro e1 w1 ⟨rfl, m1, rfl⟩))
          go_roundg (n + 1)
          case measure => omega
          case rel => exact Rnd.go n (p + 1) l f ts hlt (by omega) (by omega) (by omega) (by omega) (Sc_setAt (Sc_heap HX.out.1 rfl) (p + 1)) ((below_drewN HX.out.2 _).setCell (Nat.le_refl _) _) HF.out
        · rw [hw] at hH
          have b4 : bits BinOp.and IntKind.i64 32 4 = 0 := by decide
          have b2 : bits BinOp.and IntKind.i64 32 2 = 0 := by decide
          have b8 : bits BinOp.and IntKind.i64 32 8 = 0 := by decide
          have b16 : bits BinOp.and IntKind.i64 32 16 = 0 := by decide
          have b32 : bits BinOp.and IntKind.i64 32 32 = 32 := by decide
          have HF : Hid (scanF s n (Lx.lineE s.data.toList p) l f ts = R) := (by rw [hR2]; simp [hw] : scanF s n (Lx.lineE s.data.toList p) l f ts = R)
          have hgt := line_gt s p hlt (by rw [hw]; decide)
          have hle := Lx.lineE_le s.data.toList p (by omega)
          rw [hlen] at hle
          clear hR hR2 hw
          go_wp2_with (first | (go_at_call 16; refine hH.mono ?_; rintro e1 w1 ⟨rfl, m1, rfl⟩) | (go_at_call 20; refine (skip_any w.heap.size s p l f ts _ (by exact Sc_heap HX.out.1 rfl) hp hs).mono ?_; rintro e2 w2 ⟨rfl, hS2, hb2⟩))
          go_roundg (n + 1)
          case measure => omega
          case rel => exact Rnd.go n _ l f ts hle (by omega) (by omega) (by omega) (by omega) hS2 ((below_drewN HX.out.2 _).trans hb2) HF.out
        · rw [hw] at hH
          have b4 : bits BinOp.and IntKind.i64 64 4 = 0 := by decide
          have b2 : bits BinOp.and IntKind.i64 64 2 = 0 := by decide
          have b8 : bits BinOp.and IntKind.i64 64 8 = 0 := by decide
          have b16 : bits BinOp.and IntKind.i64 64 16 = 0 := by decide
          have b32 : bits BinOp.and IntKind.i64 64 32 = 0 := by decide
          have b64 : bits BinOp.and IntKind.i64 64 64 = 64 := by decide
          have HF : Hid (scanF s n (p + 1) (l + 1) (p + 1) (endTs ts l (p - f + 1)) = R) := (by rw [hR2]; simp [hw] : scanF s n (p + 1) (l + 1) (p + 1) (endTs ts l (p - f + 1)) = R)
          have hel := endTs_len ts l (p - f + 1)
          clear hR hR2 hw
          go_wp2_with (first | (go_at_call 16; refine hH.mono ?_; rintro e1 w1 ⟨rfl, m1, rfl⟩) | (go_at_call 21; refine (endLine_any w.heap.size s p l f (p - f + 1) ts _ (by exact Sc_heap HX.out.1 rfl) hp hf rfl hs (by omega) (by omega)).mono ?_; rintro e2 w2 ⟨rfl, hS2, hb2⟩))
          go_roundg (n + 1)
          case measure => omega
          case rel => exact Rnd.go n (p + 1) (l + 1) (p + 1) _ hlt (Nat.le_refl _) (by omega) (by omega) (by omega) hS2 ((below_drewN HX.out.2 _).trans hb2) HF.out
        · rw [hw] at hH
          have b4 : bits BinOp.and IntKind.i64 1 4 = 0 := by decide
          have b2 : bits BinOp.and IntKind.i64 1 2 = 0 := by decide
          have b8 : bits BinOp.and IntKind.i64 1 8 = 0 := by decide
          have b16 : bits BinOp.and IntKind.i64 1 16 = 0 := by decide
          have b32 : bits BinOp.and IntKind.i64 1 32 = 0 := by decide
          have b64 : bits BinOp.and IntKind.i64 1 64 = 0 := by decide
          have b128 : bits BinOp.and IntKind.i64 1 128 = 0 := by decide
          have HF : Hid (R = .inr (4, l, p - f + 1)) := (by rw [hR2]; simp [hw] : R = .inr (4, l, p - f + 1))
          clear hR hR2 hw
          go_wp2_with (first | (go_at_call 16; refine hH.mono ?_; rintro e1 w1 ⟨rfl, m1, rfl⟩))
          go_roundg 0
          case measure => omega
          case rel => exact Rnd.stop p l f ts 4 rfl hp hf hl (Sc_heap HX.out.1 rfl) (below_drewN HX.out.2 _) HF.out
        · rw [hw] at hH
          have b4 : bits BinOp.and IntKind.i64 0 4 = 0 := by decide
          have b2 : bits BinOp.and IntKind.i64 0 2 = 0 := by decide
          have b8 : bits BinOp.and IntKind.i64 0 8 = 0 := by decide
          have b16 : bits BinOp.and IntKind.i64 0 16 = 0 := by decide
          have b32 : bits BinOp.and IntKind.i64 0 32 = 0 := by decide
          have b64 : bits BinOp.and IntKind.i64 0 64 = 0 := by decide
          have b128 : bits BinOp.and IntKind.i64 0 128 = 0 := by decide
          have HF : Hid (R = .inr (4, l, p - f + 1)) := (by rw [hR2]; simp [hw] : R = .inr (4, l, p - f + 1))
          clear hR hR2 hw
          go_wp2_with (first | (go_at_call 16; refine hH.mono ?_; rintro e1 w1 ⟨rfl, m1, rfl⟩))
          go_roundg 0
          case measure => omega
          case rel => exact Rnd.stop p l f ts 4 rfl hp hf hl (Sc_heap HX.out.1 rfl) (below_drewN HX.out.2 _) HF.out
      · obtain rfl : p = s.size := by omega
        have hH := here_end w.heap.size s wr d1 d0
        have hR2 := scanF_end s n l f ts
        rw [hR] at hR2
        have HF : Hid (R = .inl (endTs ts l (s.size - f + 1))) := hR2
        have hel := endTs_len ts l (s.size - f + 1)
        have b4 : bits BinOp.and IntKind.i64 128 4 = 0 := by decide
        have b2 : bits BinOp.and IntKind.i64 128 2 = 0 := by decide
        have b8 : bits BinOp.and IntKind.i64 128 8 = 0 := by decide
        have b16 : bits BinOp.and IntKind.i64 128 16 = 0 := by decide
        have b32 : bits BinOp.and IntKind.i64 128 32 = 0 := by decide
        have b64 : bits BinOp.and IntKind.i64 128 64 = 0 := by decide
        have b128 : bits BinOp.and IntKind.i64 128 128 = 128 := by decide
        clear hR hR2
        go_wp2_with (first | (go_at_call 16; refine hH.mono ?_; rintro e1 w1 ⟨rfl, m1, rfl⟩) | (go_at_call 21; refine (endLine_any w.heap.size s s.size l f (s.size - f + 1) ts _ (by exact Sc_heap HX.out.1 rfl) hp hf rfl hs (by omega) (by omega)).mono ?_; rintro e2 w2 ⟨rfl, hS2, hb2⟩; have HZ : Hid _ := And.intro hS2 ((below_drewN HX.out.2 _).trans hb2); obtain ⟨v2, hB2, ho2⟩ := hS2; obtain ⟨z0, z1, z2, z3, z4⟩ := Sc_cells hB2; have HO : Hid _ := ho2; clear hB2 ho2 hb2))
        rw [Exit.noGoto_ret]
        go_ret2
        refine ⟨?_, HZ.out.2⟩
        rw [HF.out]
        exact ⟨v2, rfl, HO.out, by omega⟩
    · obtain ⟨T, u, hTu⟩ : ∃ T u, (if k = 4 then Value.iface TW uW else .iface TL uL) = .iface T u := by
        split
        · exact ⟨_, _, rfl⟩
        · exact ⟨_, _, rfl⟩
      have HE : Hid ((if k = 4 then Value.iface TW uW else .iface TL uL) = .iface T u) := hTu
      rw [hTu]
      have HX : Hid (Sc w.heap.size s p l f ts wr ∧ Below w.heap.size w wr) := ⟨hS, hb⟩
      have hBr := Sc_lt hS
      obtain ⟨v, hB, _⟩ := hS
      obtain ⟨d0, d1, d2, d3, d4⟩ := Sc_cells hB
      clear hB hb hTu
      obtain ⟨c, hc⟩ : ∃ c : Nat, c = p - f + 1 := ⟨_, rfl⟩
      have HC : Hid ((c : Int) = (p : Int) - f + 1) := (by omega : (c : Int) = (p : Int) - f + 1)
      have hp6 : p ≤ 1000000 := by omega
      have HD : Hid (p - f + 1 = c) := hc.symm
      clear hc
      go_wp2_with fail
      go_region_held3 (fun w' => w'.cell? ⟨w.heap.size, 2, none⟩ = some (.int .i64 l)) (go_keep)
        ((first | (go_at_call 22; refine (col_c w.heap.size p f c _ (by exact d1) (by exact d3) HC.out hf hp6).mono ?_; rintro r2 w2 ⟨rfl, hb1⟩; have hb2 := below_of_drew hb1; clear hb1; have g2 : w2.cell? ⟨w.heap.size, 2, none⟩ = some (.int .i64 l) := (hb2.cell hBr).trans d2; have HB2 : Hid (Below wr.heap.size wr w2) := hb2; clear hb2)))
      all_goals go_wp2
      all_goals (rw [Exit.noGoto_ret])
      all_goals go_ret2
      have hle : w.heap.size ≤ w2.heap.size := Nat.le_trans (Nat.le_of_lt hBr) HB2.out.size
      refine ⟨?_, (HX.out.2.trans (HB2.out.mono (Nat.le_of_lt hBr))).alloc hle _⟩
      rw [HD.out]
      exact ⟨w2.heap.size, rfl, hle, by rw [HE.out]; exact heap_alloc_new w2 _⟩
end Go.Proofs.YthcboklkejlifaaGreatDoor
