/- Contract of the document's own Scan on a text that is not too long: it answers what the contract of lexis.Scan says. -/
import Derived.Test.YthcboklkejlifaaGreatDoorRefScan0
import Derived.Test.YthcboklkejlifaaGreatDoorRefNum
import Derived.Test.YthcboklkejlifaaGreatDoorScan
namespace Go.Proofs.YthcboklkejlifaaGreatDoor
open Go.RowKit
/-- The last word stands on this line or ahead of it. -/
def lastLe (ts : List Tok) (l : Nat) : Prop := ∀ t, ts.getLast? = some t → t.line ≤ l
theorem lastLe_snoc (ts : List Tok) (t : Tok) (l : Nat) (h : t.line ≤ l) : lastLe (ts ++ [t]) l := by
  intro u hu
  simp at hu
  subst hu; exact h
theorem lastOn_snoc (ts : List Tok) (t : Tok) (l : Nat) (h : t.line = l) : lastOn (ts ++ [t]) l = true := by
  simp [lastOn, h]
theorem lastOn_next {ts : List Tok} {l : Nat} (h : lastLe ts l) : lastOn ts (l + 1) = false := by
  unfold lastOn
  cases e : ts.getLast? with
  | none => rfl
  | some t => have := h t e; simp; omega
theorem lastLe_next {ts : List Tok} {l : Nat} (h : lastLe ts l) : lastLe ts (l + 1) := fun t ht => Nat.le_succ_of_le (h t ht)
def zeroErr : Array Value := #[.int .i64 0, .int .i64 0, .int .i64 0, .string ⟨#[]⟩]
/-- The memory of the document's Scan: its second result's block, and the words. -/
def RB (w : World) (v : Value) (ts : List Tok) (wr : World) : Prop :=
  wr.heap[w.heap.size]? = some (.cells #[.int .i64 0, .int .i64 0, .int .i64 0, .string ⟨#[]⟩] 44 (0, 0)) ∧ wr.ownsRow (w.heap.size + 1) 57 4 v ts.length (toksCells ts) ∧ Below w.heap.size w wr
/-- The state at a round's head. -/
def RS (s : ByteArray) (R : List Tok ⊕ (Nat × Nat × Nat)) (w : World) (g : Nat) (v l f sm i : Value) (wr : World) : Prop :=
  (∃ n p ln fr ts b vv, v = vv ∧ g = n + 1 ∧ i = .int .i64 (p : Nat) ∧ l = .int .i64 (ln : Nat) ∧ f = .int .i64 (fr : Nat) ∧ sm = .bool b ∧ p ≤ s.size ∧ fr ≤ p ∧ s.size + 1 - p ≤ n ∧ ln ≤ p + 1 ∧ ts.length ≤ 2 * p ∧ b = lastOn ts ln ∧ lastLe ts ln ∧ RB w vv ts wr ∧ scanF s n p ln fr ts = R) ∨
  (∃ ts vv, v = vv ∧ g = 0 ∧ i = .int .i64 ((s.size + 1 : Nat) : Int) ∧ RB w vv ts wr ∧ ts.length ≤ 2 * s.size + 1 ∧ R = .inl ts)
theorem RS.go {s : ByteArray} {R : List Tok ⊕ (Nat × Nat × Nat)} {w wr : World} {v : Value} {xi xl xf : Int} (n p ln fr : Nat) (ts : List Tok) (b : Bool) (e1 : xi = (p : Int)) (e2 : xl = (ln : Int)) (e3 : xf = (fr : Int)) (h1 : p ≤ s.size) (h2 : fr ≤ p) (h3 : s.size + 1 - p ≤ n) (h4 : ln ≤ p + 1) (h5 : ts.length ≤ 2 * p) (h6 : b = lastOn ts ln) (h7 : lastLe ts ln) (h8 : RB w v ts wr) (h9 : scanF s n p ln fr ts = R) : RS s R w (n + 1) v (.int .i64 xl) (.int .i64 xf) (.bool b) (.int .i64 xi) wr := by
  subst e1; subst e2; subst e3
  exact .inl ⟨n, p, ln, fr, ts, b, _, rfl, rfl, rfl, rfl, rfl, rfl, h1, h2, h3, h4, h5, h6, h7, h8, h9⟩
theorem RS.done {s : ByteArray} {R : List Tok ⊕ (Nat × Nat × Nat)} {w wr : World} {v l f sm : Value} {xi : Int} (ts : List Tok) (e1 : xi = ((s.size + 1 : Nat) : Int)) (h8 : RB w v ts wr) (h5 : ts.length ≤ 2 * s.size + 1) (h9 : R = .inl ts) : RS s R w 0 v l f sm (.int .i64 xi) wr := by
  subst e1
  exact .inr ⟨ts, _, rfl, rfl, rfl, h8, h5, h9⟩
/-- One word more. -/
theorem RB.snoc {w wr w3 : World} {v : Value} {ts : List Tok} {gg cap k l c : Nat} {x : ByteArray} {cz : Int} {o : Obj} (h : RB w v ts wr) (hc : cz = (c : Int)) (hown : w3.ownsRow (w.heap.size + 1) 57 4 (.slice (some ⟨gg, 0, none⟩) (ts.length + 1) cap) (ts.length + 1) (toksCells ts ++ [.int .i64 k, .string x, .int .i64 l, .int .i64 cz])) (hg : (wr.alloc o).grownBy w3 v.ownBlock) : RB w (.slice (some ⟨gg, 0, none⟩) (ts.length + 1) cap) (ts ++ [⟨k, x, l, c⟩]) w3 := by
  subst hc
  obtain ⟨h1, h2, h3⟩ := h
  have hlt := lt_of_block h1
  have hv : ∀ g, v.ownBlock = some g → w.heap.size < g := fun g hg => by have := h2.lt _ hg; omega
  refine ⟨?_, ?_, ?_⟩
  · rw [hg.block _ (by simp; omega) (fun e => by have := hv _ e.symm; omega), Below.heap_alloc _ _ _ hlt]; exact h1
  · rw [toksCells_snoc, List.length_append, List.length_singleton]; exact hown
  · exact (h3.alloc (Nat.le_of_lt hlt) o).grown hg (by simp; omega) (fun k hk => by have := hv k hk; omega)
def refOut (s : ByteArray) (w : World) (e : Ending) (w' : World) : List Tok ⊕ (Nat × Nat × Nat) → Prop
  | .inl ts => ∃ v, e = .returned (.tuple #[v, .agg #[.int .i64 0, .int .i64 0, .int .i64 0, .string ⟨#[]⟩]]) ∧ w'.ownsRow (w.heap.size + 1) 57 4 v ts.length (toksCells ts) ∧ ts.length ≤ 2 * s.size + 1
  | .inr (k, l, c) => e = .returned (.tuple #[.slice none 0 0, .agg #[.int .i64 k, .int .i64 l, .int .i64 c, .string ⟨#[108, 101, 120, 105, 115, 32]⟩]])
theorem endTs_on (ts : List Tok) (l c : Nat) (h : lastOn ts l = true) : endTs ts l c = ts ++ [⟨1, ⟨#[10]⟩, l, c⟩] := by unfold endTs; rw [if_pos h]; rfl
theorem endTs_off (ts : List Tok) (l c : Nat) (h : lastOn ts l = false) : endTs ts l c = ts := by unfold endTs; rw [h]; rfl
theorem rdB {wr : World} {B : Nat} {a b c d x0 x1 x2 x3 : Value} {t : TypeId} {o : Obj} (h : wr.heap[B]? = some (.cells #[x0, x1, x2, x3] t (0, 0))) : (((((wr.setCell ⟨B, 0, none⟩ a).setCell ⟨B, 1, none⟩ b).setCell ⟨B, 2, none⟩ c).setCell ⟨B, 3, none⟩ d).alloc o).heap[B]? = some (.cells #[a, b, c, d] t (0, 0)) := by
  have hlt := lt_of_block h
  rw [Below.heap_alloc _ _ _ (by simpa using hlt), heap_setCell_same _ B 3 _ _ _ (heap_setCell_same _ B 2 _ _ _ (heap_setCell_same _ B 1 _ _ _ (heap_setCell_same _ B 0 _ _ _ h)))]
  rfl
theorem rd0 {wr : World} {B : Nat} {a b c d x0 x1 x2 x3 : Value} {t : TypeId} {o : Obj} (h : wr.heap[B]? = some (.cells #[x0, x1, x2, x3] t (0, 0))) : (((((wr.setCell ⟨B, 0, none⟩ a).setCell ⟨B, 1, none⟩ b).setCell ⟨B, 2, none⟩ c).setCell ⟨B, 3, none⟩ d).alloc o).cell? ⟨B, 0, none⟩ = some a := by rw [cell_of_block (rdB h)]; rfl
theorem rd1 {wr : World} {B : Nat} {a b c d x0 x1 x2 x3 : Value} {t : TypeId} {o : Obj} (h : wr.heap[B]? = some (.cells #[x0, x1, x2, x3] t (0, 0))) : (((((wr.setCell ⟨B, 0, none⟩ a).setCell ⟨B, 1, none⟩ b).setCell ⟨B, 2, none⟩ c).setCell ⟨B, 3, none⟩ d).alloc o).cell? ⟨B, 1, none⟩ = some b := by rw [cell_of_block (rdB h)]; rfl
theorem rd2 {wr : World} {B : Nat} {a b c d x0 x1 x2 x3 : Value} {t : TypeId} {o : Obj} (h : wr.heap[B]? = some (.cells #[x0, x1, x2, x3] t (0, 0))) : (((((wr.setCell ⟨B, 0, none⟩ a).setCell ⟨B, 1, none⟩ b).setCell ⟨B, 2, none⟩ c).setCell ⟨B, 3, none⟩ d).alloc o).cell? ⟨B, 2, none⟩ = some c := by rw [cell_of_block (rdB h)]; rfl
theorem rd3 {wr : World} {B : Nat} {a b c d x0 x1 x2 x3 : Value} {t : TypeId} {o : Obj} (h : wr.heap[B]? = some (.cells #[x0, x1, x2, x3] t (0, 0))) : (((((wr.setCell ⟨B, 0, none⟩ a).setCell ⟨B, 1, none⟩ b).setCell ⟨B, 2, none⟩ c).setCell ⟨B, 3, none⟩ d).alloc o).cell? ⟨B, 3, none⟩ = some d := by rw [cell_of_block (rdB h)]; rfl
theorem bad_out {s : ByteArray} {R : List Tok ⊕ (Nat × Nat × Nat)} {w wr : World} {v : Value} {ts : List Tok} {k l c : Nat} {kz cz : Int} {o : Obj} (hB : RB w v ts wr) (hR : R = .inr (k, l, c)) (hk : kz = (k : Int)) (hc : cz = (c : Int)) :
    refOut s w (.returned (.tuple #[.slice none 0 0, .agg #[.int .i64 kz, .int .i64 l, .int .i64 cz, .string ⟨#[108, 101, 120, 105, 115, 32]⟩]])) (((((wr.setCell ⟨w.heap.size, 0, none⟩ (.int .i64 kz)).setCell ⟨w.heap.size, 1, none⟩ (.int .i64 l)).setCell ⟨w.heap.size, 2, none⟩ (.int .i64 cz)).setCell ⟨w.heap.size, 3, none⟩ (.string ⟨#[108, 101, 120, 105, 115, 32]⟩)).alloc o) R ∧
    Below w.heap.size w (((((wr.setCell ⟨w.heap.size, 0, none⟩ (.int .i64 kz)).setCell ⟨w.heap.size, 1, none⟩ (.int .i64 l)).setCell ⟨w.heap.size, 2, none⟩ (.int .i64 cz)).setCell ⟨w.heap.size, 3, none⟩ (.string ⟨#[108, 101, 120, 105, 115, 32]⟩)).alloc o) := by
  subst hR; subst hk; subst hc
  refine ⟨rfl, ((((hB.2.2.setCell (Nat.le_refl _) _).setCell (Nat.le_refl _) _).setCell (Nat.le_refl _) _).setCell (Nat.le_refl _) _).alloc ?_ _⟩
  have := hB.2.2.size
  simp; omega
set_option maxRecDepth 100000 in
set_option maxHeartbeats 16000000 in
theorem refScan_any (s : ByteArray) (w : World) (hs : s.size ≤ 65536) :
    Calls Tryz.prog 8 #[.string s] w fun e w' => refOut s w e w' (scanF s (s.size + 1) 0 1 0 []) ∧ Below w.heap.size w w' := by
  have h9 : decide ((65536 : Int) < (s.size : Int)) = false := by simp; omega
  obtain ⟨R, hR⟩ : ∃ R, R = scanF s (s.size + 1) 0 1 0 [] := ⟨_, rfl⟩
  rw [← hR]
  have HR : Hid (scanF s (s.size + 1) 0 1 0 [] = R) := hR.symm
  have HLEN : Hid (s.data.toList.length = s.size) := (by simp : s.data.toList.length = s.size)
  obtain ⟨i0, hi0, hz0, hz1, hz2⟩ := info_parts Tryz.infoTok
  clear hR
  go_enter Tryz.func8, Tryz.ntmps8
  go_wp2_with fail
  go_loopg [4, 5, 6, 7, 8] (s.size + 2) (fun g v l f sm i wr => RS s R w g v l f sm i wr)
  case atStart => exact RS.go (s.size + 1) 0 1 0 [] false rfl rfl rfl (Nat.zero_le _) (Nat.le_refl _) (by omega) (by omega) (Nat.le_refl _) rfl (fun t h => by cases h) ⟨heap_alloc_new w _, World.ownsRow_nil _ _ _ _, (Below.refl _ _).alloc (Nat.le_refl _) _⟩ HR.out
  case round =>
    clear HR
    rcases hrel with ⟨n, p, ln, fr, ts, b, v, hvv, rfl, rfl, rfl, rfl, rfl, hp, hf, hn, hl, ht, hlo, hle, hRB, hR⟩ | ⟨ts, v, hvv, rfl, rfl, hRB, ht, rfl⟩
    · have hv2 := hvv.symm
      clear hvv
      subst hv2
      have HB : Hid (RB w v ts wr) := hRB
      have hBr := lt_of_block hRB.1
      have hbase : w.heap.size + 1 ≤ wr.heap.size + 1 := by omega
      have hml : ts.length + 1 ≤ maxLen := by unfold maxLen; omega
      have hby : (ts.length + 1) * 40 ≤ 140737488355328 := by omega
      have hcz : ((p : Int) - fr + 1) = ((p - fr + 1 : Nat) : Int) := by omega
      have HCZ : Hid (((p : Int) - fr + 1) = ((p - fr + 1 : Nat) : Int)) := hcz
      have HL : Hid (b = lastOn ts ln ∧ lastLe ts ln) := ⟨hlo, hle⟩
      have g0 := cell_of_block hRB.1 0
      have g1 := cell_of_block hRB.1 1
      have g2 := cell_of_block hRB.1 2
      have g3 := cell_of_block hRB.1 3
      have y0 := free_of_block hRB.1 0
      have y1 := free_of_block hRB.1 1
      have y2 := free_of_block hRB.1 2
      have y3 := free_of_block hRB.1 3
      simp at g0 g1 g2 g3
      clear hcz hlo hle hRB
      obtain ⟨n, rfl⟩ : ∃ m, n = m + 1 := ⟨n - 1, by omega⟩
      by_cases hlt : p < s.size
      · have hb := byte_range s p hlt
        have hR2 := scanF_at s n p ln fr ts hlt
        rw [hR] at hR2
        have hPN := pow_ne (s[p].toNat : Int)
        rcases powZ_cases (s[p].toNat : Int) with hw | hw | hw | hw | hw | hw | hw | hw
        · obtain ⟨hlet, hgo⟩ := pow_seven _ hw
          have hrg := letter_range _ hlet
          have HW : Hid (R = if 32 < Lx.runE s.data.toList p - p then .inr (2, ln, p - fr + 1) else scanF s n (Lx.runE s.data.toList p) ln fr (ts ++ [⟨2, s.extract p (Lx.runE s.data.toList p), ln, p - fr + 1⟩])) := (by rw [hR2, hw, if_pos rfl] : R = if 32 < Lx.runE s.data.toList p - p then .inr (2, ln, p - fr + 1) else scanF s n (Lx.runE s.data.toList p) ln fr (ts ++ [⟨2, s.extract p (Lx.runE s.data.toList p), ln, p - fr + 1⟩]))
          have t0 : ((p : Int) == (s.size : Int)) = false := beq_eq_false_iff_ne.2 (by omega)
          have t1 : ((s[p].toNat : Int) == 10) = false := beq_eq_false_iff_ne.2 (by omega)
          have t2 : ((s[p].toNat : Int) == 32) = false := beq_eq_false_iff_ne.2 (by omega)
          have t3 : ((s[p].toNat : Int) == 9) = false := beq_eq_false_iff_ne.2 (by omega)
          have t4 : ((s[p].toNat : Int) == 13) = false := beq_eq_false_iff_ne.2 (by omega)
          have t5 : ((s[p].toNat : Int) == 35) = false := beq_eq_false_iff_ne.2 (by omega)
          have t6 : ((s[p].toNat : Int) != 95) = true := by rw [bne_iff_ne]; omega
          have HRUN : Hid (Lx.runE s.data.toList (p + 1) = Lx.runE s.data.toList p) := Lx.runE_yes _ _ (by have := HLEN.out; omega) hgo
          clear hR hR2 hw hPN
          go_wp2_with (first | (go_at_call 25; refine (letter_any _ _).mono ?_; rintro e1 w1 ⟨rfl, rfl⟩) | (go_at_call 24; refine (inner_any _ _).mono ?_; rintro e1 w1 ⟨rfl, rfl⟩))
          go_loop [10] (fun e => ∃ j : Nat, p < j ∧ j ≤ s.size ∧ e = .int .i64 j ∧ Lx.runE s.data.toList j = Lx.runE s.data.toList p) (fun e => s.size - (intOf e).toNat)
          case atStart => exact ⟨p + 1, by omega, by omega, by go_num, HRUN.out⟩
          case round =>
            obtain ⟨j, hpj, hj, rfl, hr⟩ := hrel
            have HJ : Hid (Lx.runE s.data.toList j = Lx.runE s.data.toList p) := hr
            clear hr
            by_cases hjl : j < s.size
            · have hjd : j < s.data.toList.length := by have := HLEN.out; omega
              cases hg : Lx.goB (s[j].toNat : Int) with
              | true =>
                go_wp2_with (first | (go_at_call 24; refine (inner_any _ _).mono ?_; rintro e1 w1 ⟨rfl, rfl⟩))
                go_round
                case rel => exact ⟨j + 1, by omega, by omega, by go_num, by rw [Lx.runE_yes _ _ hjd hg]; exact HJ.out⟩
                case measure => simp [intOf]; omega
              | false =>
                have HE : Hid (Lx.runE s.data.toList p = j) := (by rw [← HJ.out, Lx.runE_no _ _ hjd hg] : Lx.runE s.data.toList p = j)
                by_cases hlong : 32 < j - p
                · have HF : Hid (R = .inr (2, ln, p - fr + 1)) := (by rw [HW.out, if_pos (by rw [HE.out]; exact hlong)] : R = .inr (2, ln, p - fr + 1))
                  have q5 : (32 : Int) < (j : Int) - p := by omega
                  go_wp2_with (first | (go_at_call 25; refine (letter_any _ _).mono ?_; rintro e1 w1 ⟨rfl, rfl⟩) | (go_at_call 24; refine (inner_any _ _).mono ?_; rintro e1 w1 ⟨rfl, rfl⟩) | (go_at_call 28; refine (mark_any _ _ hb.1 hb.2).mono ?_; rintro e1 w1 ⟨rfl, rfl⟩) | (go_at_call 27; refine (badAt_any _ _ _ _).mono ?_; rintro e1 w1 ⟨rfl, rfl⟩))
                  exact bodyPost_ret (v := .tuple #[.slice none 0 0, .agg #[.int .i64 2, .int .i64 ln, .int .i64 ((p : Int) - fr + 1), .string ⟨#[108, 101, 120, 105, 115, 32]⟩]]) (by simp [results, Tryz.results8, go_sem, rd0 HB.out.1, rd1 HB.out.1, rd2 HB.out.1, rd3 HB.out.1]) rfl (bad_out HB.out HF.out rfl HCZ.out)
                · have HF : Hid (scanF s n j ln fr (ts ++ [⟨2, s.extract p j, ln, p - fr + 1⟩]) = R) := (by rw [HW.out, if_neg (by rw [HE.out]; exact hlong), HE.out] : scanF s n j ln fr (ts ++ [⟨2, s.extract p j, ln, p - fr + 1⟩]) = R)
                  have q5 : ¬ (32 : Int) < (j : Int) - p := by omega
                  have u0 : (0 : Int) ≤ (p : Int) := by omega
                  have u1 : (p : Int) ≤ (j : Int) := by omega
                  have u2 : (j : Int) ≤ (s.size : Int) := by omega
                  go_wp2_with (first | (go_at_call 25; refine (letter_any _ _).mono ?_; rintro e1 w1 ⟨rfl, rfl⟩) | (go_at_call 24; refine (inner_any _ _).mono ?_; rintro e1 w1 ⟨rfl, rfl⟩) | (at_builtin; refine wpList_append_lies _ rfl _ _ _ rfl (w.heap.size + 1) 57 i0 _ 4 40 Tryz.underlying38 hi0 hz0 hz1 hz2 rfl (Nat.succ_pos 3) v ts.length (toksCells ts) rfl (HB.out.2.1.alloc _) _ 1 1 [.int .i64 2, .string (s.extract p j), .int .i64 ln, .int .i64 ((p : Int) - fr + 1)] rfl rfl (World.news_of_block (cs := #[.int .i64 2, .string (s.extract p j), .int .i64 ln, .int .i64 ((p : Int) - fr + 1)]) (t := 57) (fr := (0, 0)) (heap_alloc_new _ _)) (by simp [Value.oneCell']) Nat.one_pos hml hby (by simp; omega) _ rfl ?_; intro gg cap w3 hown3 hgrow hat hlt3; have HT : Hid _ := HB.out.snoc HCZ.out hown3 hgrow; clear hown3 hgrow hat hlt3))
                  go_roundg (n + 1)
                  case measure => omega
                  case rel => exact RS.go n j ln fr _ true rfl rfl rfl hj (by omega) (by omega) (by omega) (by simp; omega) (lastOn_snoc _ _ _ rfl).symm (lastLe_snoc _ _ _ (Nat.le_refl _)) HT.out HF.out
            · have HE : Hid (Lx.runE s.data.toList p = j) := (by rw [← HJ.out, show j = s.data.toList.length from by have := HLEN.out; omega]; exact Lx.runE_end _ : Lx.runE s.data.toList p = j)
              by_cases hlong : 32 < j - p
              · have HF : Hid (R = .inr (2, ln, p - fr + 1)) := (by rw [HW.out, if_pos (by rw [HE.out]; exact hlong)] : R = .inr (2, ln, p - fr + 1))
                have q5 : (32 : Int) < (j : Int) - p := by omega
                go_wp2_with (first | (go_at_call 25; refine (letter_any _ _).mono ?_; rintro e1 w1 ⟨rfl, rfl⟩) | (go_at_call 24; refine (inner_any _ _).mono ?_; rintro e1 w1 ⟨rfl, rfl⟩) | (go_at_call 28; refine (mark_any _ _ hb.1 hb.2).mono ?_; rintro e1 w1 ⟨rfl, rfl⟩) | (go_at_call 27; refine (badAt_any _ _ _ _).mono ?_; rintro e1 w1 ⟨rfl, rfl⟩))
                exact bodyPost_ret (v := .tuple #[.slice none 0 0, .agg #[.int .i64 2, .int .i64 ln, .int .i64 ((p : Int) - fr + 1), .string ⟨#[108, 101, 120, 105, 115, 32]⟩]]) (by simp [results, Tryz.results8, go_sem, rd0 HB.out.1, rd1 HB.out.1, rd2 HB.out.1, rd3 HB.out.1]) rfl (bad_out HB.out HF.out rfl HCZ.out)
              · have HF : Hid (scanF s n j ln fr (ts ++ [⟨2, s.extract p j, ln, p - fr + 1⟩]) = R) := (by rw [HW.out, if_neg (by rw [HE.out]; exact hlong), HE.out] : scanF s n j ln fr (ts ++ [⟨2, s.extract p j, ln, p - fr + 1⟩]) = R)
                have q5 : ¬ (32 : Int) < (j : Int) - p := by omega
                have u0 : (0 : Int) ≤ (p : Int) := by omega
                have u1 : (p : Int) ≤ (j : Int) := by omega
                have u2 : (j : Int) ≤ (s.size : Int) := by omega
                go_wp2_with (first | (go_at_call 25; refine (letter_any _ _).mono ?_; rintro e1 w1 ⟨rfl, rfl⟩) | (go_at_call 24; refine (inner_any _ _).mono ?_; rintro e1 w1 ⟨rfl, rfl⟩) | (at_builtin; refine wpList_append_lies _ rfl _ _ _ rfl (w.heap.size + 1) 57 i0 _ 4 40 Tryz.underlying38 hi0 hz0 hz1 hz2 rfl (Nat.succ_pos 3) v ts.length (toksCells ts) rfl (HB.out.2.1.alloc _) _ 1 1 [.int .i64 2, .string (s.extract p j), .int .i64 ln, .int .i64 ((p : Int) - fr + 1)] rfl rfl (World.news_of_block (cs := #[.int .i64 2, .string (s.extract p j), .int .i64 ln, .int .i64 ((p : Int) - fr + 1)]) (t := 57) (fr := (0, 0)) (heap_alloc_new _ _)) (by simp [Value.oneCell']) Nat.one_pos hml hby (by simp; omega) _ rfl ?_; intro gg cap w3 hown3 hgrow hat hlt3; have HT : Hid _ := HB.out.snoc HCZ.out hown3 hgrow; clear hown3 hgrow hat hlt3))
                go_roundg (n + 1)
                case measure => omega
                case rel => exact RS.go n j ln fr _ true rfl rfl rfl hj (by omega) (by omega) (by omega) (by simp; omega) (lastOn_snoc _ _ _ rfl).symm (lastLe_snoc _ _ _ (Nat.le_refl _)) HT.out HF.out
        · obtain ⟨hlet, hd1, hd2, hgo⟩ := hPN.1 hw
          have HW : Hid (R = if (Lx.numR (s.extract p (Lx.runE s.data.toList p)).data.toList).2 = 0 then scanF s n (Lx.runE s.data.toList p) ln fr (ts ++ [⟨3, s.extract p (Lx.runE s.data.toList p), ln, p - fr + 1⟩]) else .inr ((Lx.numR (s.extract p (Lx.runE s.data.toList p)).data.toList).2, ln, p - fr + 1)) := (by rw [hR2, hw, if_neg (by decide), if_pos rfl] : R = if (Lx.numR (s.extract p (Lx.runE s.data.toList p)).data.toList).2 = 0 then scanF s n (Lx.runE s.data.toList p) ln fr (ts ++ [⟨3, s.extract p (Lx.runE s.data.toList p), ln, p - fr + 1⟩]) else .inr ((Lx.numR (s.extract p (Lx.runE s.data.toList p)).data.toList).2, ln, p - fr + 1))
          have t0 : ((p : Int) == (s.size : Int)) = false := beq_eq_false_iff_ne.2 (by omega)
          have t1 : ((s[p].toNat : Int) == 10) = false := beq_eq_false_iff_ne.2 (by omega)
          have t2 : ((s[p].toNat : Int) == 32) = false := beq_eq_false_iff_ne.2 (by omega)
          have t3 : ((s[p].toNat : Int) == 9) = false := beq_eq_false_iff_ne.2 (by omega)
          have t4 : ((s[p].toNat : Int) == 13) = false := beq_eq_false_iff_ne.2 (by omega)
          have t5 : ((s[p].toNat : Int) == 35) = false := beq_eq_false_iff_ne.2 (by omega)
          have t6 : ((s[p].toNat : Int) != 95) = true := by rw [bne_iff_ne]; omega
          have HRUN : Hid (Lx.runE s.data.toList (p + 1) = Lx.runE s.data.toList p) := Lx.runE_yes _ _ (by have := HLEN.out; omega) hgo
          clear hR hR2 hw hPN
          go_wp2_with (first | (go_at_call 25; refine (letter_any _ _).mono ?_; rintro e1 w1 ⟨rfl, rfl⟩) | (go_at_call 24; refine (inner_any _ _).mono ?_; rintro e1 w1 ⟨rfl, rfl⟩))
          go_loop [10] (fun e => ∃ j : Nat, p < j ∧ j ≤ s.size ∧ e = .int .i64 j ∧ Lx.runE s.data.toList j = Lx.runE s.data.toList p) (fun e => s.size - (intOf e).toNat)
          case atStart => exact ⟨p + 1, by omega, by omega, by go_num, HRUN.out⟩
          case round =>
            obtain ⟨j, hpj, hj, rfl, hr⟩ := hrel
            have HJ : Hid (Lx.runE s.data.toList j = Lx.runE s.data.toList p) := hr
            clear hr
            by_cases hjl : j < s.size
            · have hjd : j < s.data.toList.length := by have := HLEN.out; omega
              cases hg : Lx.goB (s[j].toNat : Int) with
              | true =>
                go_wp2_with (first | (go_at_call 24; refine (inner_any _ _).mono ?_; rintro e1 w1 ⟨rfl, rfl⟩))
                go_round
                case rel => exact ⟨j + 1, by omega, by omega, by go_num, by rw [Lx.runE_yes _ _ hjd hg]; exact HJ.out⟩
                case measure => simp [intOf]; omega
              | false =>
                have HE : Hid (Lx.runE s.data.toList p = j) := (by rw [← HJ.out, Lx.runE_no _ _ hjd hg] : Lx.runE s.data.toList p = j)
                have hx : (s.extract p j).size ≤ maxLen := by rw [ByteArray.size_extract]; unfold maxLen; omega
                obtain ⟨nv, nk, hnum⟩ : ∃ a b, Lx.numR (s.extract p j).data.toList = (a, b) := ⟨_, _, rfl⟩
                have hC := fun W => refNumber_any (s.extract p j) W hx
                rw [hnum] at hC
                simp only at hC
                have u0 : (0 : Int) ≤ (p : Int) := by omega
                have u1 : (p : Int) ≤ (j : Int) := by omega
                have u2 : (j : Int) ≤ (s.size : Int) := by omega
                by_cases hz : nk = 0
                · have HF : Hid (scanF s n j ln fr (ts ++ [⟨3, s.extract p j, ln, p - fr + 1⟩]) = R) := (by rw [HW.out, HE.out, hnum, if_pos hz] : scanF s n j ln fr (ts ++ [⟨3, s.extract p j, ln, p - fr + 1⟩]) = R)
                  subst hz
                  have q7 : (((0 : Nat) : Int) != 0) = false := by simp
                  clear hnum
                  go_wp2_with (first | (go_at_call 25; refine (letter_any _ _).mono ?_; rintro e1 w1 ⟨rfl, rfl⟩) | (go_at_call 24; refine (inner_any _ _).mono ?_; rintro e1 w1 ⟨rfl, rfl⟩) | (go_at_call 26; refine (hC _).mono ?_; rintro e1 w1 ⟨rfl, rfl⟩) | (at_builtin; refine wpList_append_lies _ rfl _ _ _ rfl (w.heap.size + 1) 57 i0 _ 4 40 Tryz.underlying38 hi0 hz0 hz1 hz2 rfl (Nat.succ_pos 3) v ts.length (toksCells ts) rfl (HB.out.2.1.alloc _) _ 1 1 [.int .i64 3, .string (s.extract p j), .int .i64 ln, .int .i64 ((p : Int) - fr + 1)] rfl rfl (World.news_of_block (cs := #[.int .i64 3, .string (s.extract p j), .int .i64 ln, .int .i64 ((p : Int) - fr + 1)]) (t := 57) (fr := (0, 0)) (heap_alloc_new _ _)) (by simp [Value.oneCell']) Nat.one_pos hml hby (by simp; omega) _ rfl ?_; intro gg cap w3 hown3 hgrow hat hlt3; have HT : Hid _ := HB.out.snoc HCZ.out hown3 hgrow; clear hown3 hgrow hat hlt3))
                  go_roundg (n + 1)
                  case measure => omega
                  case rel => exact RS.go n j ln fr _ true rfl rfl rfl hj (by omega) (by omega) (by omega) (by simp; omega) (lastOn_snoc _ _ _ rfl).symm (lastLe_snoc _ _ _ (Nat.le_refl _)) HT.out HF.out
                · have HF : Hid (R = .inr (nk, ln, p - fr + 1)) := (by rw [HW.out, HE.out, hnum, if_neg hz] : R = .inr (nk, ln, p - fr + 1))
                  have q7 : ((nk : Int) != 0) = true := by rw [bne_iff_ne]; omega
                  clear hnum
                  go_wp2_with (first | (go_at_call 25; refine (letter_any _ _).mono ?_; rintro e1 w1 ⟨rfl, rfl⟩) | (go_at_call 24; refine (inner_any _ _).mono ?_; rintro e1 w1 ⟨rfl, rfl⟩) | (go_at_call 28; refine (mark_any _ _ hb.1 hb.2).mono ?_; rintro e1 w1 ⟨rfl, rfl⟩) | (go_at_call 26; refine (hC _).mono ?_; rintro e1 w1 ⟨rfl, rfl⟩) | (go_at_call 27; refine (badAt_any _ _ _ _).mono ?_; rintro e1 w1 ⟨rfl, rfl⟩))
                  exact bodyPost_ret (v := .tuple #[.slice none 0 0, .agg #[.int .i64 nk, .int .i64 ln, .int .i64 ((p : Int) - fr + 1), .string ⟨#[108, 101, 120, 105, 115, 32]⟩]]) (by simp [results, Tryz.results8, go_sem, rd0 HB.out.1, rd1 HB.out.1, rd2 HB.out.1, rd3 HB.out.1]) rfl (bad_out HB.out HF.out rfl HCZ.out)
            · have HE : Hid (Lx.runE s.data.toList p = j) := (by rw [← HJ.out, show j = s.data.toList.length from by have := HLEN.out; omega]; exact Lx.runE_end _ : Lx.runE s.data.toList p = j)
              have hx : (s.extract p j).size ≤ maxLen := by rw [ByteArray.size_extract]; unfold maxLen; omega
              obtain ⟨nv, nk, hnum⟩ : ∃ a b, Lx.numR (s.extract p j).data.toList = (a, b) := ⟨_, _, rfl⟩
              have hC := fun W => refNumber_any (s.extract p j) W hx
              rw [hnum] at hC
              simp only at hC
              have u0 : (0 : Int) ≤ (p : Int) := by omega
              have u1 : (p : Int) ≤ (j : Int) := by omega
              have u2 : (j : Int) ≤ (s.size : Int) := by omega
              by_cases hz : nk = 0
              · have HF : Hid (scanF s n j ln fr (ts ++ [⟨3, s.extract p j, ln, p - fr + 1⟩]) = R) := (by rw [HW.out, HE.out, hnum, if_pos hz] : scanF s n j ln fr (ts ++ [⟨3, s.extract p j, ln, p - fr + 1⟩]) = R)
                subst hz
                have q7 : (((0 : Nat) : Int) != 0) = false := by simp
                clear hnum
                go_wp2_with (first | (go_at_call 25; refine (letter_any _ _).mono ?_; rintro e1 w1 ⟨rfl, rfl⟩) | (go_at_call 24; refine (inner_any _ _).mono ?_; rintro e1 w1 ⟨rfl, rfl⟩) | (go_at_call 26; refine (hC _).mono ?_; rintro e1 w1 ⟨rfl, rfl⟩) | (at_builtin; refine wpList_append_lies _ rfl _ _ _ rfl (w.heap.size + 1) 57 i0 _ 4 40 Tryz.underlying38 hi0 hz0 hz1 hz2 rfl (Nat.succ_pos 3) v ts.length (toksCells ts) rfl (HB.out.2.1.alloc _) _ 1 1 [.int .i64 3, .string (s.extract p j), .int .i64 ln, .int .i64 ((p : Int) - fr + 1)] rfl rfl (World.news_of_block (cs := #[.int .i64 3, .string (s.extract p j), .int .i64 ln, .int .i64 ((p : Int) - fr + 1)]) (t := 57) (fr := (0, 0)) (heap_alloc_new _ _)) (by simp [Value.oneCell']) Nat.one_pos hml hby (by simp; omega) _ rfl ?_; intro gg cap w3 hown3 hgrow hat hlt3; have HT : Hid _ := HB.out.snoc HCZ.out hown3 hgrow; clear hown3 hgrow hat hlt3))
                go_roundg (n + 1)
                case measure => omega
                case rel => exact RS.go n j ln fr _ true rfl rfl rfl hj (by omega) (by omega) (by omega) (by simp; omega) (lastOn_snoc _ _ _ rfl).symm (lastLe_snoc _ _ _ (Nat.le_refl _)) HT.out HF.out
              · have HF : Hid (R = .inr (nk, ln, p - fr + 1)) := (by rw [HW.out, HE.out, hnum, if_neg hz] : R = .inr (nk, ln, p - fr + 1))
                have q7 : ((nk : Int) != 0) = true := by rw [bne_iff_ne]; omega
                clear hnum
                go_wp2_with (first | (go_at_call 25; refine (letter_any _ _).mono ?_; rintro e1 w1 ⟨rfl, rfl⟩) | (go_at_call 24; refine (inner_any _ _).mono ?_; rintro e1 w1 ⟨rfl, rfl⟩) | (go_at_call 28; refine (mark_any _ _ hb.1 hb.2).mono ?_; rintro e1 w1 ⟨rfl, rfl⟩) | (go_at_call 26; refine (hC _).mono ?_; rintro e1 w1 ⟨rfl, rfl⟩) | (go_at_call 27; refine (badAt_any _ _ _ _).mono ?_; rintro e1 w1 ⟨rfl, rfl⟩))
                exact bodyPost_ret (v := .tuple #[.slice none 0 0, .agg #[.int .i64 nk, .int .i64 ln, .int .i64 ((p : Int) - fr + 1), .string ⟨#[108, 101, 120, 105, 115, 32]⟩]]) (by simp [results, Tryz.results8, go_sem, rd0 HB.out.1, rd1 HB.out.1, rd2 HB.out.1, rd3 HB.out.1]) rfl (bad_out HB.out HF.out rfl HCZ.out)
        · obtain ⟨hmk, hgo, k1, k2, k3, k4, k5⟩ := hPN.2.2.2.2.2.1 hw
          have HF : Hid (scanF s n (p + 1) ln fr (ts ++ [⟨4, s.extract p (p + 1), ln, p - fr + 1⟩]) = R) := (by rw [hR2, hw]; rfl : scanF s n (p + 1) ln fr (ts ++ [⟨4, s.extract p (p + 1), ln, p - fr + 1⟩]) = R)
          have t0 : ((p : Int) == (s.size : Int)) = false := beq_eq_false_iff_ne.2 (by omega)
          have t1 : ((s[p].toNat : Int) == 10) = false := beq_eq_false_iff_ne.2 (by omega)
          have t2 : ((s[p].toNat : Int) == 32) = false := beq_eq_false_iff_ne.2 (by omega)
          have t3 : ((s[p].toNat : Int) == 9) = false := beq_eq_false_iff_ne.2 (by omega)
          have t4 : ((s[p].toNat : Int) == 13) = false := beq_eq_false_iff_ne.2 (by omega)
          have t5 : ((s[p].toNat : Int) == 35) = false := beq_eq_false_iff_ne.2 (by omega)
          have u0 : (0 : Int) ≤ (p : Int) := by omega
          have u2 : (p : Int) + 1 ≤ (s.size : Int) := by omega
          clear hR hR2 hw hPN k1 k2 k3 k4 k5
          go_wp2_with (first | (go_at_call 25; refine (letter_any _ _).mono ?_; rintro e1 w1 ⟨rfl, rfl⟩) | (go_at_call 24; refine (inner_any _ _).mono ?_; rintro e1 w1 ⟨rfl, rfl⟩) | (go_at_call 28; refine (mark_any _ _ hb.1 hb.2).mono ?_; rintro e1 w1 ⟨rfl, rfl⟩) | (at_builtin; refine wpList_append_lies _ rfl _ _ _ rfl (w.heap.size + 1) 57 i0 _ 4 40 Tryz.underlying38 hi0 hz0 hz1 hz2 rfl (Nat.succ_pos 3) v ts.length (toksCells ts) rfl (HB.out.2.1.alloc _) _ 1 1 [.int .i64 4, .string (s.extract p (p + 1)), .int .i64 ln, .int .i64 ((p : Int) - fr + 1)] rfl rfl (World.news_of_block (cs := #[.int .i64 4, .string (s.extract p (p + 1)), .int .i64 ln, .int .i64 ((p : Int) - fr + 1)]) (t := 57) (fr := (0, 0)) (heap_alloc_new _ _)) (by simp [Value.oneCell']) Nat.one_pos hml hby (by simp; omega) _ rfl ?_; intro gg cap w3 hown3 hgrow hat hlt3; have HT : Hid _ := HB.out.snoc HCZ.out hown3 hgrow; clear hown3 hgrow hat hlt3))
          go_roundg (n + 1)
          case measure => omega
          case rel => exact RS.go n (p + 1) ln fr _ true rfl rfl rfl hlt (by omega) (by omega) (by omega) (by simp; omega) (lastOn_snoc _ _ _ rfl).symm (lastLe_snoc _ _ _ (Nat.le_refl _)) HT.out HF.out
        · have HF : Hid (scanF s n (p + 1) ln fr ts = R) := (by rw [hR2, hw]; rfl : scanF s n (p + 1) ln fr ts = R)
          have hcc := hPN.2.1 hw
          have t0 : ((p : Int) == (s.size : Int)) = false := beq_eq_false_iff_ne.2 (by omega)
          have t1 : ((s[p].toNat : Int) == 10) = false := beq_eq_false_iff_ne.2 (by omega)
          clear hR hR2 hw hPN
          rcases hcc with hcc | hcc | hcc
          · have t2 : ((s[p].toNat : Int) == 32) = true := beq_iff_eq.2 hcc
            clear hcc
            go_wp2_with fail
            go_roundg (n + 1)
            case measure => omega
            case rel => exact RS.go n (p + 1) ln fr ts b rfl rfl rfl hlt (by omega) (by omega) (by omega) (by omega) HL.out.1 HL.out.2 HB.out HF.out
          · have t2 : ((s[p].toNat : Int) == 32) = false := beq_eq_false_iff_ne.2 (by omega)
            have t3 : ((s[p].toNat : Int) == 9) = true := beq_iff_eq.2 hcc
            clear hcc
            go_wp2_with fail
            go_roundg (n + 1)
            case measure => omega
            case rel => exact RS.go n (p + 1) ln fr ts b rfl rfl rfl hlt (by omega) (by omega) (by omega) (by omega) HL.out.1 HL.out.2 HB.out HF.out
          · have t2 : ((s[p].toNat : Int) == 32) = false := beq_eq_false_iff_ne.2 (by omega)
            have t3 : ((s[p].toNat : Int) == 9) = false := beq_eq_false_iff_ne.2 (by omega)
            have t4 : ((s[p].toNat : Int) == 13) = true := beq_iff_eq.2 hcc
            clear hcc
            go_wp2_with fail
            go_roundg (n + 1)
            case measure => omega
            case rel => exact RS.go n (p + 1) ln fr ts b rfl rfl rfl hlt (by omega) (by omega) (by omega) (by omega) HL.out.1 HL.out.2 HB.out HF.out
        · have HF : Hid (scanF s n (Lx.lineE s.data.toList p) ln fr ts = R) := (by rw [hR2, hw]; rfl : scanF s n (Lx.lineE s.data.toList p) ln fr ts = R)
          have hcc := hPN.2.2.1 hw
          have hgt := line_gt s p hlt (by rw [hw]; decide)
          have hle := Lx.lineE_le s.data.toList p (by have := HLEN.out; omega)
          rw [HLEN.out] at hle
          have HG : Hid (p < Lx.lineE s.data.toList p ∧ Lx.lineE s.data.toList p ≤ s.size) := ⟨hgt, hle⟩
          have t0 : ((p : Int) == (s.size : Int)) = false := beq_eq_false_iff_ne.2 (by omega)
          have t1 : ((s[p].toNat : Int) == 10) = false := beq_eq_false_iff_ne.2 (by omega)
          have t2 : ((s[p].toNat : Int) == 32) = false := beq_eq_false_iff_ne.2 (by omega)
          have t3 : ((s[p].toNat : Int) == 9) = false := beq_eq_false_iff_ne.2 (by omega)
          have t4 : ((s[p].toNat : Int) == 13) = false := beq_eq_false_iff_ne.2 (by omega)
          have t5 : ((s[p].toNat : Int) == 35) = true := beq_iff_eq.2 hcc
          clear hR hR2 hw hPN hcc hgt hle
          go_wp2_with fail
          go_loop [8] (fun e => ∃ j : Nat, j ≤ s.size ∧ e = .int .i64 j ∧ Lx.lineE s.data.toList j = Lx.lineE s.data.toList p) (fun e => s.size - (intOf e).toNat)
          case atStart => exact ⟨p, hp, rfl, rfl⟩
          case round =>
            obtain ⟨j, hj, rfl, hr⟩ := hrel
            have HJ : Hid (Lx.lineE s.data.toList j = Lx.lineE s.data.toList p) := hr
            clear hr
            by_cases hjl : j < s.size
            · have hjd : j < s.data.toList.length := by have := HLEN.out; omega
              by_cases h10 : s[j].toNat = 10
              · have HE : Hid (Lx.lineE s.data.toList p = j) := (by rw [← HJ.out, Lx.lineE_no _ _ hjd h10] : Lx.lineE s.data.toList p = j)
                have q2 : ((s[j].toNat : Int) != 10) = false := by simp [h10]
                clear h10
                go_wp2_with fail
                go_roundg (n + 1)
                case measure => omega
                case rel => exact RS.go n j ln fr ts b rfl rfl rfl hj (by have := HG.out.1; rw [HE.out] at this; omega) (by have := HG.out.1; rw [HE.out] at this; omega) (by have := HG.out.1; rw [HE.out] at this; omega) (by have := HG.out.1; rw [HE.out] at this; omega) HL.out.1 HL.out.2 HB.out (by rw [← HE.out]; exact HF.out)
              · have q2 : ((s[j].toNat : Int) != 10) = true := by rw [bne_iff_ne]; omega
                have HN : Hid (Lx.lineE s.data.toList (j + 1) = Lx.lineE s.data.toList p) := (by rw [Lx.lineE_yes _ _ hjd h10]; exact HJ.out : Lx.lineE s.data.toList (j + 1) = Lx.lineE s.data.toList p)
                clear h10
                go_wp2_with fail
                go_round
                case rel => exact ⟨j + 1, by omega, by go_num, HN.out⟩
                case measure => simp [intOf]; omega
            · have HE : Hid (Lx.lineE s.data.toList p = j) := (by rw [← HJ.out, show j = s.data.toList.length from by have := HLEN.out; omega]; exact Lx.lineE_end _ : Lx.lineE s.data.toList p = j)
              go_wp2_with fail
              go_roundg (n + 1)
              case measure => omega
              case rel => exact RS.go n j ln fr ts b rfl rfl rfl hj (by have := HG.out.1; rw [HE.out] at this; omega) (by have := HG.out.1; rw [HE.out] at this; omega) (by have := HG.out.1; rw [HE.out] at this; omega) (by have := HG.out.1; rw [HE.out] at this; omega) HL.out.1 HL.out.2 HB.out (by rw [← HE.out]; exact HF.out)
        · have HF : Hid (scanF s n (p + 1) (ln + 1) (p + 1) (endTs ts ln (p - fr + 1)) = R) := (by rw [hR2, hw]; rfl : scanF s n (p + 1) (ln + 1) (p + 1) (endTs ts ln (p - fr + 1)) = R)
          have hcc := hPN.2.2.2.1 hw
          have t0 : ((p : Int) == (s.size : Int)) = false := beq_eq_false_iff_ne.2 (by omega)
          have t1 : ((s[p].toNat : Int) == 10) = true := beq_iff_eq.2 hcc
          clear hR hR2 hw hPN hcc
          cases b with
          | true =>
            have HF2 : Hid (scanF s n (p + 1) (ln + 1) (p + 1) (ts ++ [⟨1, ⟨#[10]⟩, ln, p - fr + 1⟩]) = R) := (by rw [← HF.out, endTs_on _ _ _ HL.out.1.symm] : scanF s n (p + 1) (ln + 1) (p + 1) (ts ++ [⟨1, ⟨#[10]⟩, ln, p - fr + 1⟩]) = R)
            go_wp2_with (first | (at_builtin; refine wpList_append_lies _ rfl _ _ _ rfl (w.heap.size + 1) 57 i0 _ 4 40 Tryz.underlying38 hi0 hz0 hz1 hz2 rfl (Nat.succ_pos 3) v ts.length (toksCells ts) rfl (HB.out.2.1.alloc _) _ 1 1 [.int .i64 1, .string ⟨#[10]⟩, .int .i64 ln, .int .i64 ((p : Int) - fr + 1)] rfl rfl (World.news_of_block (cs := #[.int .i64 1, .string ⟨#[10]⟩, .int .i64 ln, .int .i64 ((p : Int) - fr + 1)]) (t := 57) (fr := (0, 0)) (heap_alloc_new _ _)) (by simp [Value.oneCell']) Nat.one_pos hml hby (by simp; omega) _ rfl ?_; intro gg cap w3 hown3 hgrow hat hlt3; have HT : Hid _ := HB.out.snoc HCZ.out hown3 hgrow; clear hown3 hgrow hat hlt3))
            go_roundg (n + 1)
            case measure => omega
            case rel => exact RS.go n (p + 1) (ln + 1) (p + 1) _ false rfl rfl rfl hlt (Nat.le_refl _) (by omega) (by omega) (by simp; omega) (lastOn_next (lastLe_snoc _ _ _ (Nat.le_refl _))).symm (lastLe_next (lastLe_snoc _ _ _ (Nat.le_refl _))) HT.out HF2.out
          | false =>
            have HF2 : Hid (scanF s n (p + 1) (ln + 1) (p + 1) ts = R) := (by rw [← HF.out, endTs_off _ _ _ HL.out.1.symm] : scanF s n (p + 1) (ln + 1) (p + 1) ts = R)
            go_wp2_with fail
            go_roundg (n + 1)
            case measure => omega
            case rel => exact RS.go n (p + 1) (ln + 1) (p + 1) ts false rfl rfl rfl hlt (Nat.le_refl _) (by omega) (by omega) (by omega) (lastOn_next HL.out.2).symm (lastLe_next HL.out.2) HB.out HF2.out
        · have hcc := hPN.2.2.2.2.1 hw
          have HF : Hid (R = .inr (4, ln, p - fr + 1)) := (by rw [hR2, hw]; rfl : R = .inr (4, ln, p - fr + 1))
          have t0 : ((p : Int) == (s.size : Int)) = false := beq_eq_false_iff_ne.2 (by omega)
          have t1 : ((s[p].toNat : Int) == 10) = false := beq_eq_false_iff_ne.2 (by omega)
          have t2 : ((s[p].toNat : Int) == 32) = false := beq_eq_false_iff_ne.2 (by omega)
          have t3 : ((s[p].toNat : Int) == 9) = false := beq_eq_false_iff_ne.2 (by omega)
          have t4 : ((s[p].toNat : Int) == 13) = false := beq_eq_false_iff_ne.2 (by omega)
          have t5 : ((s[p].toNat : Int) == 35) = false := beq_eq_false_iff_ne.2 (by omega)
          have t6 : ((s[p].toNat : Int) != 95) = false := by rw [hcc]; rfl
          have hgo : Lx.goB (s[p].toNat : Int) = true := by rw [hcc]; decide
          have hmk : Lx.markZ (s[p].toNat : Int) = false := by rw [hcc]; decide
          clear hR hR2 hw hPN hcc
          go_wp2_with (first | (go_at_call 25; refine (letter_any _ _).mono ?_; rintro e1 w1 ⟨rfl, rfl⟩) | (go_at_call 24; refine (inner_any _ _).mono ?_; rintro e1 w1 ⟨rfl, rfl⟩) | (go_at_call 28; refine (mark_any _ _ hb.1 hb.2).mono ?_; rintro e1 w1 ⟨rfl, rfl⟩) | (go_at_call 27; refine (badAt_any _ _ _ _).mono ?_; rintro e1 w1 ⟨rfl, rfl⟩))
          exact bodyPost_ret (v := .tuple #[.slice none 0 0, .agg #[.int .i64 4, .int .i64 ln, .int .i64 ((p : Int) - fr + 1), .string ⟨#[108, 101, 120, 105, 115, 32]⟩]]) (by simp [results, Tryz.results8, go_sem, rd0 HB.out.1, rd1 HB.out.1, rd2 HB.out.1, rd3 HB.out.1]) rfl (bad_out HB.out HF.out rfl HCZ.out)
        · obtain ⟨hmk, hgo, k1, k2, k3, k4, k5⟩ := hPN.2.2.2.2.2.2 hw
          have HF : Hid (R = .inr (4, ln, p - fr + 1)) := (by rw [hR2, hw]; rfl : R = .inr (4, ln, p - fr + 1))
          have t0 : ((p : Int) == (s.size : Int)) = false := beq_eq_false_iff_ne.2 (by omega)
          have t1 : ((s[p].toNat : Int) == 10) = false := beq_eq_false_iff_ne.2 (by omega)
          have t2 : ((s[p].toNat : Int) == 32) = false := beq_eq_false_iff_ne.2 (by omega)
          have t3 : ((s[p].toNat : Int) == 9) = false := beq_eq_false_iff_ne.2 (by omega)
          have t4 : ((s[p].toNat : Int) == 13) = false := beq_eq_false_iff_ne.2 (by omega)
          have t5 : ((s[p].toNat : Int) == 35) = false := beq_eq_false_iff_ne.2 (by omega)
          clear hR hR2 hw hPN k1 k2 k3 k4 k5
          go_wp2_with (first | (go_at_call 25; refine (letter_any _ _).mono ?_; rintro e1 w1 ⟨rfl, rfl⟩) | (go_at_call 24; refine (inner_any _ _).mono ?_; rintro e1 w1 ⟨rfl, rfl⟩) | (go_at_call 28; refine (mark_any _ _ hb.1 hb.2).mono ?_; rintro e1 w1 ⟨rfl, rfl⟩) | (go_at_call 27; refine (badAt_any _ _ _ _).mono ?_; rintro e1 w1 ⟨rfl, rfl⟩))
          exact bodyPost_ret (v := .tuple #[.slice none 0 0, .agg #[.int .i64 4, .int .i64 ln, .int .i64 ((p : Int) - fr + 1), .string ⟨#[108, 101, 120, 105, 115, 32]⟩]]) (by simp [results, Tryz.results8, go_sem, rd0 HB.out.1, rd1 HB.out.1, rd2 HB.out.1, rd3 HB.out.1]) rfl (bad_out HB.out HF.out rfl HCZ.out)
      · obtain rfl : p = s.size := by omega
        have hR2 := scanF_end s n ln fr ts
        rw [hR] at hR2
        have HF : Hid (R = .inl (endTs ts ln (s.size - fr + 1))) := hR2
        have t0 : ((s.size : Int) == (s.size : Int)) = true := by simp
        clear hR hR2
        cases b with
        | true =>
          have HF2 : Hid (R = .inl (ts ++ [⟨1, ⟨#[10]⟩, ln, s.size - fr + 1⟩])) := (by rw [HF.out, endTs_on _ _ _ HL.out.1.symm] : R = .inl (ts ++ [⟨1, ⟨#[10]⟩, ln, s.size - fr + 1⟩]))
          go_wp2_with (first | (at_builtin; refine wpList_append_lies _ rfl _ _ _ rfl (w.heap.size + 1) 57 i0 _ 4 40 Tryz.underlying38 hi0 hz0 hz1 hz2 rfl (Nat.succ_pos 3) v ts.length (toksCells ts) rfl (HB.out.2.1.alloc _) _ 1 1 [.int .i64 1, .string ⟨#[10]⟩, .int .i64 ln, .int .i64 ((s.size : Int) - fr + 1)] rfl rfl (World.news_of_block (cs := #[.int .i64 1, .string ⟨#[10]⟩, .int .i64 ln, .int .i64 ((s.size : Int) - fr + 1)]) (t := 57) (fr := (0, 0)) (heap_alloc_new _ _)) (by simp [Value.oneCell']) Nat.one_pos hml hby (by simp; omega) _ rfl ?_; intro gg cap w3 hown3 hgrow hat hlt3; have HT : Hid _ := HB.out.snoc HCZ.out hown3 hgrow; clear hown3 hgrow hat hlt3))
          go_roundg 0
          case measure => omega
          case rel => exact RS.done _ (by omega) HT.out (by simp; omega) HF2.out
        | false =>
          have HF2 : Hid (R = .inl ts) := (by rw [HF.out, endTs_off _ _ _ HL.out.1.symm] : R = .inl ts)
          go_wp2_with fail
          go_roundg 0
          case measure => omega
          case rel => exact RS.done ts (by omega) HB.out (by omega) HF2.out
    · have hv2 := hvv.symm
      clear hvv
      subst hv2
      have HB : Hid (RB w v ts wr) := hRB
      have g0 := cell_of_block hRB.1 0
      have g1 := cell_of_block hRB.1 1
      have g2 := cell_of_block hRB.1 2
      have g3 := cell_of_block hRB.1 3
      have y0 := free_of_block hRB.1 0
      have y1 := free_of_block hRB.1 1
      have y2 := free_of_block hRB.1 2
      have y3 := free_of_block hRB.1 3
      simp at g0 g1 g2 g3
      have q0 : ¬ (s.size : Int) + 1 ≤ (s.size : Int) := by omega
      clear hRB
      go_wp2_with fail
      exact bodyPost_ret (v := .tuple #[v, .agg #[.int .i64 0, .int .i64 0, .int .i64 0, .string ⟨#[]⟩]]) (by simp [results, Tryz.results8, go_sem, g0, g1, g2, g3]) rfl ⟨⟨v, rfl, ownsRow_setCell_below (ownsRow_setCell_below (ownsRow_setCell_below (ownsRow_setCell_below HB.out.2.1 (Nat.lt_succ_self _) _) (Nat.lt_succ_self _) _) (Nat.lt_succ_self _) _) (Nat.lt_succ_self _) _, ht⟩, (((HB.out.2.2.setCell (Nat.le_refl _) _).setCell (Nat.le_refl _) _).setCell (Nat.le_refl _) _).setCell (Nat.le_refl _) _⟩
end Go.Proofs.YthcboklkejlifaaGreatDoor
