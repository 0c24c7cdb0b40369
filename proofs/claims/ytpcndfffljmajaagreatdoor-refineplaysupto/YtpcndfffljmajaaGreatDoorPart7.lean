/- Texts of this claim, joined: RfLay, RfOf0. -/
import Derived.Test.YtpcndfffljmajaaGreatDoorPart1
import Derived.Test.YtpcndfffljmajaaGreatDoorPart6
import Derived.Test.YtpcndfffljmajaaGreatDoorPart5
import Derived.Laws.IdiomCopy
/- refine: lay. -/
namespace Go.Proofs.YtpcndfffljmajaaGreatDoor
open Go.RowKit Go.Maps
attribute [local go_sem ↓] Go.wp_at_zero Go.wp_at_succ
theorem zero_all2 : Tryz.zeroCells57.toList.all isZ = true := by kernel_rfl
/-- A row of a thousand numbers by a function. -/
def iR (f : Nat → Nat) : List Value := (List.range 1000).map fun b : Nat => .int .i64 (f b)
theorem iR_at (f : Nat → Nat) {b : Nat} (h : b < 1000) : (iR f)[b]? = some (.int .i64 (f b)) := by simp [iR, h]
theorem iR_len (f : Nat → Nat) : (iR f).length = 1000 := by simp [iR]
theorem iR_set (f : Nat → Nat) (b x : Nat) : (iR f).set b (.int .i64 x) = iR (upd f b x) := by
  apply List.ext_getElem?
  intro j
  rw [List.getElem?_set]
  by_cases hj : j < 1000
  · rw [iR_at f hj, iR_at (upd f b x) hj, iR_len]
    unfold upd
    by_cases h : b = j
    · subst h; simp [hj]
    · simp [h, Ne.symm h]
  · rw [List.getElem?_eq_none (by rw [iR_len]; omega), List.getElem?_eq_none (by rw [iR_len]; omega)]
    split
    · split
      · rename_i h1 h2; rw [iR_len] at h2; omega
      · rfl
    · rfl
theorem zero_list2 : Tryz.zeroCells57.toList = iR fun _ => 0 := by
  apply List.ext_getElem
  · rw [iR_len, Array.length_toList]
    exact Tryz.zeroCells57_size
  · intro i h1 h2
    have h3 : (iR fun _ => 0)[i]? = some (.int .i64 ((0 : Nat) : Int)) := iR_at _ (by rw [iR_len] at h2; exact h2)
    rw [List.getElem?_eq_getElem h2] at h3
    rw [Option.some.inj h3]
    exact isZ_eq (List.all_eq_true.1 zero_all2 _ (List.getElem_mem h1))
/-- The greatest block and one, so far. -/
def tp (O : Nat → Nat) (m : Nat) : Nat → Nat
  | 0 => m
  | i + 1 => max (tp O m i) (O i + 1)
theorem tp_mono (O : Nat → Nat) (m : Nat) {i : Nat} : ∀ j, i ≤ j → tp O m i ≤ tp O m j := by
  intro j
  induction j with
  | zero => intro h; rw [show i = 0 by omega]; exact Nat.le_refl _
  | succ j ih =>
    intro h
    by_cases e : i = j + 1
    · rw [e]; exact Nat.le_refl _
    · have := ih (by omega); simp only [tp]; omega
theorem tp_lt (O : Nat → Nat) (m : Nat) {i n : Nat} (h : i < n) : O i < tp O m n := by
  have h1 := tp_mono O m (i := i + 1) n h
  simp only [tp] at h1
  omega
/-- The partition and the sizes beside it. -/
structure Ly (w0 w wr : World) (g sz : Nat) (c : Nat → Int) (f : Nat → Nat) : Prop where
  pt : Pt w0 wr g c
  az : Arr 57 w0 wr sz (iR f)
  ne : sz ≠ g
  su : w.heap.size ≤ sz
  kp : Kept (fun i => i = g) w wr
theorem Ly.setP {w0 w wr : World} {g sz : Nat} {c : Nat → Int} {f : Nat → Nat} (h : Ly w0 w wr g sz c f) (i : Nat) (x : Int) : Ly w0 w (wr.setCell ⟨g, i, none⟩ (.int .i64 x)) g sz (upd c i x) f :=
  have hk := Kept.setCell wr g i (.int .i64 x)
  ⟨h.pt.set i x, h.az.kept hk fun b hb => ⟨by rw [hb]; exact h.pt.gu, by rw [hb]; exact fun e => h.ne e.symm⟩, h.ne, h.su, h.kp.trans hk⟩
theorem Ly.setS {w0 w wr : World} {g sz : Nat} {c : Nat → Int} {f : Nat → Nat} (h : Ly w0 w wr g sz c f) (b x : Nat) : Ly w0 w (wr.setCell ⟨sz, b, none⟩ (.int .i64 x)) g sz c (upd f b x) := by
  have hk := Kept.setCell wr sz b (.int .i64 x)
  have h1 := h.az.set b (.int .i64 x)
  rw [iR_set] at h1
  exact ⟨h.pt.kept hk fun q hq => ⟨by rw [hq]; exact h.az.gu, by rw [hq]; exact h.ne⟩, h1, h.ne, h.su, h.kp.trans2 hk fun q hq => Or.inr (by rw [hq]; exact h.su)⟩
theorem Ly.below {w0 w wr w' : World} {g sz : Nat} {c : Nat → Int} {f : Nat → Nat} (h : Ly w0 w wr g sz c f) (hb : Below wr.heap.size wr w') : Ly w0 w w' g sz c f := ⟨h.pt.below hb, h.az.below hb, h.ne, h.su, h.kp.trans (Kept.of_below hb)⟩
theorem Ly.turn {w0 w wr w' : World} {g sz : Nat} {c c' : Nat → Int} {f : Nat → Nat} (h : Ly w0 w wr g sz c f) (hP : Pt w0 w' g c') (hk : Kept (fun i => i = g) wr w') : Ly w0 w w' g sz c' f := ⟨hP, h.az.kept hk fun b hb => ⟨by rw [hb]; exact h.pt.gu, by rw [hb]; exact fun e => h.ne e.symm⟩, h.ne, h.su, h.kp.trans hk⟩
theorem ly_new {w0 w : World} {g : Nat} {c : Nat → Int} (hP : Pt w0 w g c) : Ly w0 w (w.alloc (.cells Tryz.zeroCells57 57)) g w.heap.size c (fun _ => 0) := by
  have hb : Below w.heap.size w (w.alloc (.cells Tryz.zeroCells57 57)) := (Below.refl _ _).alloc (Nat.le_refl _) _
  have hl := Arr.lt hP
  exact ⟨hP.below hb, ⟨hP.bl.trans (hb.mono hP.bl.size), ⟨_, (MapKept.heap_alloc w _).1, zero_list2⟩, hP.bl.size⟩, by omega, Nat.le_refl _, Kept.of_below hb⟩
theorem cu_step (O : Nat → Nat) (i : Nat) : (fun b => cu O b (i + 1)) = upd (fun b => cu O b i) (O i) (cu O (O i) i + 1) := by
  funext b
  unfold upd
  by_cases h : b = O i
  · subst h; simp [cu]
  · rw [if_neg h]; simp [cu, Ne.symm h]
theorem upd_upd {α : Type} (f : Nat → α) (i : Nat) (x y : α) : upd (upd f i x) i y = upd f i y := by
  funext j
  unfold upd
  by_cases h : j = i
  · simp [h]
  · simp [h]
theorem upd_id {α : Type} {f : Nat → α} {i : Nat} {x : α} (h : f i = x) : upd f i x = f := by
  funext j
  unfold upd
  by_cases e : j = i
  · subst e; simp [h]
  · simp [e]
theorem place_inj8 (O : Nat → Nat) {n x y : Nat} (hx : x < n) (hy : y < n) (h : tot (fun b => cu O b n) (O x) + cu O (O x) x = tot (fun b => cu O b n) (O y) + cu O (O y) y) : x = y := by
  have h1 := cu_lt O (b := O x) hx rfl
  have h2 := cu_lt O (b := O y) hy rfl
  have h3 := tot_apart (fun b => cu O b n) (a := O x) (b := O y) (k := tot (fun b => cu O b n) (O x) + cu O (O x) x) (by omega) (by omega) (by omega) (by omega)
  rw [h3] at h
  exact cu_inj O h3 rfl (by rw [← h3] at h ⊢; omega)
theorem cu_le (O : Nat → Nat) (b : Nat) : ∀ i, cu O b i ≤ i := by
  intro i
  induction i with
  | zero => exact Nat.le_refl _
  | succ i ih => simp only [cu]; split <;> omega
set_option maxRecDepth 100000 in
set_option maxHeartbeats 8000000 in
theorem lay_any (g : Nat) (c : Nat → Int) (n m0 : Nat) (O : Nat → Nat) (w0 w : World) (hP : Pt w0 w g c) (hc0 : c 0 = n) (hc1 : c 1 = m0) (hco : ∀ e, e < n → c (2002 + e) = O e) (hn : n ≤ 1000) (hO : ∀ e, e < n → O e < 1000) (hm : tp O m0 n ≤ 1000) :
    Calls Tryz.prog 21 #[.pointer (some ⟨g, 0, none⟩)] w fun r w' => r = .returned (.tuple #[]) ∧ ∃ c', Pt w0 w' g c' ∧ Kept (fun i => i = g) w w' ∧ c' 0 = n ∧ c' 1 = tp O m0 n ∧ (∀ e, e < n → c' (2002 + e) = O e) ∧ (∀ e, e < n → c' (1002 + e) = ((tot (fun b => cu O b n) (O e) + cu O (O e) e : Nat) : Int)) ∧ (∀ e, e < n → c' (2 + (tot (fun b => cu O b n) (O e) + cu O (O e) e)) = e) ∧ (∀ b, b < tp O m0 n → c' (3002 + b * 3) = ((tot (fun b => cu O b n) b : Nat) : Int) ∧ c' (3002 + b * 3 + 1) = ((tot (fun b => cu O b n) b : Nat) : Int) ∧ c' (3002 + b * 3 + 2) = ((tot (fun b => cu O b n) b + cu O b n : Nat) : Int)) := by
  have H0 : Hid (Ly w0 w (w.alloc (.cells Tryz.zeroCells57 57)) g w.heap.size c (fun _ => 0)) := ly_new hP
  have HC : Hid (c 0 = n ∧ c 1 = m0 ∧ (∀ e, e < n → c (2002 + e) = O e) ∧ (∀ e, e < n → O e < 1000) ∧ tp O m0 n ≤ 1000) := ⟨hc0, hc1, hco, hO, hm⟩
  have p1 : (0 : Int) ≤ (n : Int) := by omega
  have p2 : (n : Int) ≤ 1000 := by omega
  clear hP hc0 hc1 hco hO hm
  go_enter Tryz.func21, Tryz.ntmps21
  go_upto_region 1 with fail
  obtain ⟨w1, hw1⟩ : ∃ w1, w1 = w.alloc (.cells Tryz.zeroCells57 57) := ⟨_, rfl⟩
  obtain ⟨sz, hsz⟩ : ∃ sz, sz = w.heap.size := ⟨_, rfl⟩
  rw [← hw1, ← hsz] at H0
  rw [← hw1, ← hsz]
  clear hw1 hsz
  have y0 := H0.out.pt.cell (i := 0) (by omega)
  rw [HC.out.1] at y0
  go_region
  all_goals go_wp2_with fail
  go_loopg [19] n (fun q kv wr => ∃ i : Nat, kv = .int .i64 i ∧ i ≤ n ∧ n - i ≤ q ∧ Ly w0 w wr g sz (upd c 1 (tp O m0 i)) (fun b => cu O b i))
  case atStart =>
    have h9 : upd c 1 ((tp O m0 0 : Nat) : Int) = c := upd_id HC.out.2.1
    refine ⟨0, rfl, Nat.zero_le _, Nat.le_refl _, ?_⟩
    rw [h9]
    exact H0.out.below (Below.refl _ _).drew
  case round =>
    obtain ⟨i, rfl, hi, hq, hLy⟩ := hrel
    clear y0 H0
    by_cases hin : i < n
    · have r1 : (i : Int) < (n : Int) := by omega
      have r2 : (0 : Int) ≤ (i : Int) := by omega
      have hOi := HC.out.2.2.2.1 i hin
      have z1 := hLy.pt.cell (i := 2002 + i) (by omega)
      rw [upd_ne _ _ (by omega), HC.out.2.2.1 i hin] at z1
      have z2 := hLy.pt.cell (i := 1) (by omega)
      rw [upd_same] at z2
      have f2 := hLy.pt.free 1
      have z3 := hLy.az.cell (iR_at _ hOi)
      have f3 := hLy.az.free (O i)
      have hcl := cu_le O (O i) i
      have htp := tp_mono O m0 (i := i) n (by omega)
      have htm := HC.out.2.2.2.2
      have hst := cu_step O i
      have htq : tp O m0 (i + 1) = max (tp O m0 i) (O i + 1) := rfl
      have HS : Hid _ := And.intro hLy (And.intro hst htq)
      have hgs : ¬ g = sz := fun e => hLy.ne e.symm
      have hgs2 : ¬ sz = g := hLy.ne
      clear hLy hst htq
      generalize O i = b at z1 z3 f3 HS hcl hOi
      generalize cu O b i = cb at z3 HS hcl
      generalize tp O m0 i = tt at z2 HS htp
      have b0 : (0 : Int) ≤ (b : Int) := by omega
      have b1 : (b : Int) < 1000 := by omega
      have b2 : IntKind.i64.wrap ((cb : Int) + 1) = ((cb + 1 : Nat) : Int) := by rw [IntKind.wrap_i64]; omega
      have b3 : IntKind.i64.wrap ((b : Int) + 1) = (b : Int) + 1 := by rw [IntKind.wrap_i64]; omega
      by_cases hmx : tt < b + 1
      · have m1 : (tt : Int) < (b : Int) + 1 := by omega
        have m2 : ¬ (b : Int) + 1 ≤ (tt : Int) := by omega
        have m3 : max (tt : Int) ((b : Int) + 1) = (b : Int) + 1 := by omega
        go_wp2_with fail
        all_goals
          go_roundg (n - (i + 1))
          case measure => omega
          case rel =>
            refine ⟨i + 1, by go_num, by omega, Nat.le_refl _, ?_⟩
            have h := (HS.out.1.setS b (cb + 1)).setP 1 ((b + 1 : Nat) : Int)
            rw [upd_upd] at h
            rw [HS.out.2.1, HS.out.2.2, show max tt (b + 1) = b + 1 by omega]
            simp only [Int.natCast_add, Int.natCast_one] at h ⊢
            exact h
      · have m1 : ¬ (tt : Int) < (b : Int) + 1 := by omega
        have m2 : (b : Int) + 1 ≤ (tt : Int) := by omega
        have m3 : max (tt : Int) ((b : Int) + 1) = (tt : Int) := by omega
        go_wp2_with fail
        all_goals
          go_roundg (n - (i + 1))
          case measure => omega
          case rel =>
            refine ⟨i + 1, by go_num, by omega, Nat.le_refl _, ?_⟩
            have h := (HS.out.1.setS b (cb + 1)).setP 1 (tt : Int)
            rw [upd_upd] at h
            rw [HS.out.2.1, HS.out.2.2, show max tt (b + 1) = tt by omega]
            simp only [Int.natCast_add, Int.natCast_one] at h
            exact h
    · have r1 : ¬ (i : Int) < (n : Int) := by omega
      have hin' : i = n := by omega
      rw [hin'] at hLy
      obtain ⟨T, hT⟩ : ∃ T, T = tp O m0 n := ⟨_, rfl⟩
      have hT1 : T ≤ 1000 := by have := HC.out.2.2.2.2; omega
      obtain ⟨F, hF⟩ : ∃ F, F = fun b => cu O b n := ⟨_, rfl⟩
      rw [← hF, ← hT] at hLy
      have H1 : Hid (Ly w0 w wr g sz (upd c 1 T) F ∧ T = tp O m0 n ∧ F = fun b => cu O b n) := ⟨hLy, hT, hF⟩
      have z2 := hLy.pt.cell (i := 1) (by omega)
      rw [upd_same] at z2
      obtain ⟨wq, hwq⟩ : ∃ wq, wq = wr := ⟨_, rfl⟩
      subst hwq
      clear hLy hT hF
      go_wp2_with fail
      clear z2
      go_loopg [5, 43] T (fun q av bv wr => ∃ (b : Nat) (cb : Nat → Int), bv = .int .i64 b ∧ av = .int .i64 ((tot F b : Nat) : Int) ∧ b ≤ T ∧ T - b ≤ q ∧ Ly w0 w wr g sz cb F ∧ (∀ i, i < 3002 → cb i = upd c 1 T i) ∧ (∀ x, x < b → cb (3002 + x * 3) = ((tot F x : Nat) : Int) ∧ cb (3002 + x * 3 + 1) = ((tot F x : Nat) : Int) ∧ cb (3002 + x * 3 + 2) = ((tot F x : Nat) : Int)))
      case atStart => exact ⟨0, upd c 1 T, rfl, rfl, Nat.zero_le _, Nat.le_refl _, H1.out.1, fun _ _ => rfl, fun x hx => absurd hx (Nat.not_lt_zero _)⟩
      case round =>
        obtain ⟨b, cb, rfl, rfl, hb, hqb, hLb, hcb, hbb⟩ := hrel
        have htot : ∀ x, x ≤ T → tot F x ≤ n := fun x hx => by
          have h1 := tot_mono F T hx
          have h2 : tot F T = n := by rw [H1.out.2.2, H1.out.2.1]; exact tot_cu O _ n fun e he => tp_lt O m0 he
          omega
        have HTt : Hid (∀ x, x ≤ T → tot F x ≤ n) := htot
        by_cases hbT : b < T
        · have r3 : (b : Int) < (T : Int) := by omega
          have r4 : (0 : Int) ≤ (b : Int) := by omega
          have r5 : (b : Int) < 1000 := by omega
          have g1 := hLb.pt.cell (i := 3002 + b * 3) (by omega)
          have g2 := hLb.pt.cell (i := 3002 + b * 3 + 1) (by omega)
          have g3 := hLb.pt.cell (i := 3002 + b * 3 + 2) (by omega)
          have f1 := hLb.pt.free (3002 + b * 3)
          have f2 := hLb.pt.free (3002 + b * 3 + 1)
          have f3 := hLb.pt.free (3002 + b * 3 + 2)
          have g4 := hLb.az.cell (iR_at _ (show b < 1000 by omega))
          have hgs : ¬ g = sz := fun e => hLb.ne e.symm
          have hgs2 : ¬ sz = g := hLb.ne
          have h1 := htot b (by omega)
          have h2 := htot (b + 1) (by omega)
          have h3 : tot F (b + 1) = tot F b + F b := rfl
          have HB : Hid (Ly w0 w wr g sz cb F ∧ (∀ i, i < 3002 → cb i = upd c 1 T i) ∧ (∀ x, x < b → cb (3002 + x * 3) = ((tot F x : Nat) : Int) ∧ cb (3002 + x * 3 + 1) = ((tot F x : Nat) : Int) ∧ cb (3002 + x * 3 + 2) = ((tot F x : Nat) : Int)) ∧ tot F (b + 1) = tot F b + F b) := ⟨hLb, hcb, hbb, h3⟩
          clear hLb hcb hbb htot
          rw [h3] at h2
          clear h3
          obtain ⟨A, hA⟩ : ∃ A, A = tot F b := ⟨_, rfl⟩
          obtain ⟨S, hS⟩ : ∃ S, S = F b := ⟨_, rfl⟩
          rw [← hA] at h1 h2 ⊢
          rw [← hS] at g4 h2
          have HAS : Hid (A = tot F b ∧ S = F b) := ⟨hA, hS⟩
          clear hA hS
          have r6 : IntKind.i64.wrap ((A : Int) + (S : Int)) = (A : Int) + (S : Int) := by rw [IntKind.wrap_i64]; omega
          go_wp2_with fail
          go_roundg (T - (b + 1))
          case measure => omega
          case rel =>
            refine ⟨b + 1, _, by go_num, by rw [HB.out.2.2.2, ← HAS.out.1, ← HAS.out.2, Int.natCast_add], by omega, Nat.le_refl _, ((HB.out.1.setP (3002 + b * 3) A).setP (3002 + b * 3 + 1) A).setP (3002 + b * 3 + 2) A, fun i hi => ?_, fun x hx => ?_⟩
            · rw [upd_ne _ _ (by omega), upd_ne _ _ (by omega), upd_ne _ _ (by omega)]
              exact HB.out.2.1 i hi
            · by_cases hxb : x = b
              · subst hxb
                rw [← HAS.out.1]
                refine ⟨?_, ?_, ?_⟩
                · rw [upd_ne _ _ (by omega), upd_ne _ _ (by omega), upd_same]
                · rw [upd_ne _ _ (by omega), upd_same]
                · rw [upd_same]
              · have h5 := HB.out.2.2.1 x (by omega)
                rw [upd_ne _ _ (by omega), upd_ne _ _ (by omega), upd_ne _ _ (by omega), upd_ne _ _ (by omega), upd_ne _ _ (by omega), upd_ne _ _ (by omega), upd_ne _ _ (by omega), upd_ne _ _ (by omega), upd_ne _ _ (by omega)]
                exact h5
        · have r3 : ¬ (b : Int) < (T : Int) := by omega
          have hbT' : b = T := by omega
          rw [hbT'] at hbb
          have z0 := hLb.pt.cell (i := 0) (by omega)
          rw [hcb 0 (by omega), upd_ne _ _ (by omega), HC.out.1] at z0
          have HB : Hid (Ly w0 w wr g sz cb F ∧ (∀ i, i < 3002 → cb i = upd c 1 T i) ∧ (∀ x, x < T → cb (3002 + x * 3) = ((tot F x : Nat) : Int) ∧ cb (3002 + x * 3 + 1) = ((tot F x : Nat) : Int) ∧ cb (3002 + x * 3 + 2) = ((tot F x : Nat) : Int))) := ⟨hLb, hcb, hbb⟩
          clear hLb hcb hbb htot
          obtain ⟨wp, hwp⟩ : ∃ wp, wp = wr := ⟨_, rfl⟩
          subst hwp
          go_upto_region 14 with fail
          go_region
          all_goals go_wp2_with fail
          clear z0
          go_loopg [70] n (fun q kv wr => ∃ (e : Nat) (ce : Nat → Int), kv = .int .i64 e ∧ e ≤ n ∧ n - e ≤ q ∧ Ly w0 w wr g sz ce F ∧ (ce 0 = n ∧ ce 1 = T ∧ ∀ x, x < n → ce (2002 + x) = O x) ∧ (∀ x, x < e → ce (1002 + x) = ((tot F (O x) + cu O (O x) x : Nat) : Int)) ∧ (∀ x, x < e → ce (2 + (tot F (O x) + cu O (O x) x)) = x) ∧ (∀ x, x < T → ce (3002 + x * 3) = ((tot F x : Nat) : Int) ∧ ce (3002 + x * 3 + 1) = ((tot F x : Nat) : Int) ∧ ce (3002 + x * 3 + 2) = ((tot F x + cu O x e : Nat) : Int)))
          case atStart =>
            refine ⟨0, cb, rfl, Nat.zero_le _, Nat.le_refl _, HB.out.1.below (Below.refl _ _).drew, ⟨?_, ?_, fun x hx => ?_⟩, fun x hx => absurd hx (Nat.not_lt_zero _), fun x hx => absurd hx (Nat.not_lt_zero _), HB.out.2.2⟩
            · rw [HB.out.2.1 0 (by omega), upd_ne _ _ (by omega)]; exact HC.out.1
            · rw [HB.out.2.1 1 (by omega), upd_same]
            · rw [HB.out.2.1 _ (by omega), upd_ne _ _ (by omega)]; exact HC.out.2.2.1 x hx
          case round =>
            obtain ⟨e, ce, rfl, he, hqe, hLe, ⟨k0, k1, k2⟩, k3, k4, k5⟩ := hrel
            by_cases hen : e < n
            · have r7 : (e : Int) < (n : Int) := by omega
              have r8 : (0 : Int) ≤ (e : Int) := by omega
              have hOe : O e < T := by rw [H1.out.2.1]; exact tp_lt O m0 hen
              have z1 := hLe.pt.cell (i := 2002 + e) (by omega)
              rw [k2 e hen] at z1
              have z2 := hLe.pt.cell (i := 3002 + O e * 3 + 2) (by omega)
              rw [(k5 _ hOe).2.2] at z2
              have hpl : tot F (O e) + cu O (O e) e < n := by
                have h1 := cu_lt O (b := O e) hen rfl
                have h2 := HTt.out (O e + 1) (by omega)
                have h3 : tot F (O e + 1) = tot F (O e) + F (O e) := rfl
                have h4 : F (O e) = cu O (O e) n := by rw [H1.out.2.2]
                omega
              have hPu := put_any g ce e (tot F (O e) + cu O (O e) e) w0 wr hLe.pt (by omega) (by omega)
              obtain ⟨pl, hpe⟩ : ∃ pl, pl = tot F (O e) + cu O (O e) e := ⟨_, rfl⟩
              obtain ⟨b, hbe⟩ : ∃ b, b = O e := ⟨_, rfl⟩
              have HE : Hid (Ly w0 w wr g sz ce F ∧ (ce 0 = n ∧ ce 1 = T ∧ ∀ x, x < n → ce (2002 + x) = O x) ∧ (∀ x, x < e → ce (1002 + x) = ((tot F (O x) + cu O (O x) x : Nat) : Int)) ∧ (∀ x, x < e → ce (2 + (tot F (O x) + cu O (O x) x)) = x) ∧ (∀ x, x < T → ce (3002 + x * 3) = ((tot F x : Nat) : Int) ∧ ce (3002 + x * 3 + 1) = ((tot F x : Nat) : Int) ∧ ce (3002 + x * 3 + 2) = ((tot F x + cu O x e : Nat) : Int)) ∧ pl = tot F (O e) + cu O (O e) e ∧ b = O e) := ⟨hLe, ⟨k0, k1, k2⟩, k3, k4, k5, hpe, hbe⟩
              have hz2 := (k5 _ hOe).2.2
              rw [← hpe] at z2 hPu hpl hz2
              rw [← hbe] at z1 z2 hOe hz2
              have HPu : Hid _ := And.intro hPu hz2
              have b0 : (0 : Int) ≤ (b : Int) := by omega
              have b1 : (b : Int) < 1000 := by omega
              have b2 : IntKind.i64.wrap ((pl : Int) + 1) = (pl : Int) + 1 := by rw [IntKind.wrap_i64]; omega
              clear hLe k0 k1 k2 k3 k4 k5 hPu hpe hbe hz2
              go_wp2_with (go_at_call 83; refine Calls.mono HPu.out.1 ?_; rintro r w2 ⟨rfl, hP2, hK2⟩; have z3 := hP2.cell (i := 3002 + b * 3 + 2) (by omega); rw [upd_ne _ _ (by omega), upd_ne _ _ (by omega), HPu.out.2] at z3; have f3 := hP2.free (3002 + b * 3 + 2); have H2 : Hid _ := And.intro hP2 hK2; clear hP2 hK2)
              go_roundg (n - (e + 1))
              case measure => omega
              case rel =>
                obtain ⟨hLe, ⟨k0, k1, k2⟩, k3, k4, k5, hpe, hbe⟩ := HE.out
                have h := (hLe.turn H2.out.1 H2.out.2).setP (3002 + b * 3 + 2) ((pl : Int) + 1)
                refine ⟨e + 1, _, by go_num, by omega, Nat.le_refl _, h, ⟨?_, ?_, fun x hx => ?_⟩, fun x hx => ?_, fun x hx => ?_, fun x hx => ?_⟩
                · rw [upd_ne _ _ (by omega), upd_ne _ _ (by omega), upd_ne _ _ (by omega)]; exact k0
                · rw [upd_ne _ _ (by omega), upd_ne _ _ (by omega), upd_ne _ _ (by omega)]; exact k1
                · rw [upd_ne _ _ (by omega), upd_ne _ _ (by omega), upd_ne _ _ (by omega)]; exact k2 x hx
                · rw [upd_ne _ _ (by omega)]
                  by_cases hxe : x = e
                  · subst hxe; rw [upd_same, hpe]
                  · rw [upd_ne _ _ (by omega), upd_ne _ _ (by omega)]; exact k3 x (by omega)
                · have hpx : tot F (O x) + cu O (O x) x < n := by
                    have h1 := cu_lt O (b := O x) (show x < n by omega) rfl
                    have hOx : O x < T := by rw [H1.out.2.1]; exact tp_lt O m0 (show x < n by omega)
                    have h2 := HTt.out (O x + 1) (by omega)
                    have h3 : tot F (O x + 1) = tot F (O x) + F (O x) := rfl
                    have h4 : F (O x) = cu O (O x) n := by rw [H1.out.2.2]
                    omega
                  rw [upd_ne _ _ (by omega), upd_ne _ _ (by omega)]
                  by_cases hxe : x = e
                  · subst hxe; rw [← hpe, upd_same]
                  · have hne : tot F (O x) + cu O (O x) x ≠ pl := fun h9 => hxe (by
                      rw [hpe, H1.out.2.2] at h9
                      exact place_inj8 O (n := n) (by omega) hen h9)
                    rw [upd_ne _ _ (by omega)]; exact k4 x (by omega)
                · obtain ⟨j1, j2, j3⟩ := k5 x hx
                  refine ⟨?_, ?_, ?_⟩
                  · rw [upd_ne _ _ (by omega), upd_ne _ _ (by omega), upd_ne _ _ (by omega)]; exact j1
                  · rw [upd_ne _ _ (by omega), upd_ne _ _ (by omega), upd_ne _ _ (by omega)]; exact j2
                  · by_cases hxb : x = b
                    · subst hxb
                      rw [upd_same, hpe, ← hbe]
                      simp only [cu]
                      rw [if_pos hbe.symm]
                      omega
                    · rw [upd_ne _ _ (by omega), upd_ne _ _ (by omega), upd_ne _ _ (by omega), j3]
                      simp only [cu]
                      rw [if_neg (fun h9 => hxb (h9.symm.trans hbe.symm))]
                      rfl
            · have r7 : ¬ (e : Int) < (n : Int) := by omega
              have hen' : e = n := by omega
              rw [hen'] at k3 k4 k5
              have HE : Hid (Ly w0 w wr g sz ce F ∧ (ce 0 = n ∧ ce 1 = T ∧ ∀ x, x < n → ce (2002 + x) = O x) ∧ (∀ x, x < n → ce (1002 + x) = ((tot F (O x) + cu O (O x) x : Nat) : Int)) ∧ (∀ x, x < n → ce (2 + (tot F (O x) + cu O (O x) x)) = x) ∧ (∀ x, x < T → ce (3002 + x * 3) = ((tot F x : Nat) : Int) ∧ ce (3002 + x * 3 + 1) = ((tot F x : Nat) : Int) ∧ ce (3002 + x * 3 + 2) = ((tot F x + cu O x n : Nat) : Int))) := ⟨hLe, ⟨k0, k1, k2⟩, k3, k4, k5⟩
              clear hLe k0 k1 k2 k3 k4 k5
              go_wp2_with fail
              go_end0
              obtain ⟨hLe, ⟨k0, k1, k2⟩, k3, k4, k5⟩ := HE.out
              have hT := H1.out.2.1
              have hF := H1.out.2.2
              rw [hF] at k3 k4 k5
              rw [hT] at k1 k5
              exact ⟨rfl, ce, hLe.pt, hLe.kp, k0, k1, k2, k3, k4, k5⟩
end Go.Proofs.YtpcndfffljmajaaGreatDoor
/- refine: the blocks of classes, in the one form. Plain facts. -/
namespace Go.Proofs.YtpcndfffljmajaaGreatDoor
open Go.RowKit Go.Maps
/-- The class of an element in the one form. -/
def cO (zs : List Int) (e : Nat) : Nat := (Sy.canon zs).getD e 0
theorem canon_len8 (zs : List Int) : (Sy.canon zs).length = zs.length := by simp [Sy.canon, Sy.canonG_len]
theorem cO_at (zs : List Int) {e : Nat} (h : e < zs.length) : (Sy.canon zs)[e]? = some (cO zs e) := by
  unfold cO
  rw [List.getD_eq_getElem?_getD, List.getElem?_eq_getElem (by rw [canon_len8]; exact h)]
  rfl
theorem canon_take (zs : List Int) : ∀ i, i ≤ zs.length → Sy.canonG [] (zs.take i) = (Sy.canon zs).take i := by
  intro i hi
  have h : zs = zs.take i ++ zs.drop i := (List.take_append_drop i zs).symm
  have h2 : Sy.canon zs = Sy.canonG [] (zs.take i) ++ Sy.canonG (Sy.seenG [] (zs.take i)) (zs.drop i) := by
    unfold Sy.canon
    conv => lhs; rw [h]
    exact Sy.canonG_app _ _ _
  have h3 : (Sy.canonG [] (zs.take i)).length = i := by rw [Sy.canonG_len, List.length_take]; omega
  rw [h2]
  generalize Sy.canonG [] (zs.take i) = A at h3 ⊢
  generalize Sy.canonG (Sy.seenG [] (zs.take i)) (zs.drop i) = B
  subst h3
  simp
theorem tp_top (zs : List Int) : ∀ i, i ≤ zs.length → tp (cO zs) 0 i = Sy.top (Sy.canonG [] (zs.take i)) := by
  intro i
  induction i with
  | zero => intro _; rfl
  | succ i ih =>
    intro hi
    have h1 := ih (by omega)
    have h2 : (Sy.canon zs).take (i + 1) = (Sy.canon zs).take i ++ [cO zs i] := by
      rw [List.take_add_one, cO_at zs (by omega)]; rfl
    rw [canon_take zs _ hi, h2, Sy.top_snoc, ← canon_take zs i (by omega), ← h1]
    rfl
theorem cO_le (zs : List Int) {i : Nat} (hi : i < zs.length) : cO zs i ≤ tp (cO zs) 0 i := by
  rw [tp_top zs i (by omega)]
  obtain ⟨z, hz⟩ : ∃ z, zs[i]? = some z := ⟨_, List.getElem?_eq_getElem hi⟩
  have h1 := Sy.canon_step hz
  rw [canon_take zs _ (by omega), canon_take zs _ (by omega)] at h1
  have h2 : (Sy.canon zs).take (i + 1) = (Sy.canon zs).take i ++ [cO zs i] := by
    rw [List.take_add_one, cO_at zs hi]; rfl
  rw [h2] at h1
  have h3 := List.append_cancel_left h1
  injection h3 with h4
  rw [h4]
  have h5 : Sy.top (Sy.canonG [] (zs.take i)) = (Sy.seenG [] (zs.take i)).length := Sy.together_eq (zs.take i)
  rw [h5]
  exact Sy.place_le _ _
theorem tp_onto {O : Nat → Nat} : ∀ n, (∀ i, i < n → O i ≤ tp O 0 i) → ∀ b, b < tp O 0 n → ∃ e, e < n ∧ O e = b := by
  intro n
  induction n with
  | zero => intro _ b hb; exact absurd hb (Nat.not_lt_zero _)
  | succ n ih =>
    intro h b hb
    by_cases h1 : b < tp O 0 n
    · obtain ⟨e, h2, h3⟩ := ih (fun i hi => h i (by omega)) b h1
      exact ⟨e, by omega, h3⟩
    · have h2 := h n (by omega)
      simp only [tp] at hb
      exact ⟨n, by omega, by omega⟩
theorem tp_le {O : Nat → Nat} : ∀ n, (∀ i, i < n → O i ≤ tp O 0 i) → tp O 0 n ≤ n := by
  intro n
  induction n with
  | zero => intro _; exact Nat.le_refl _
  | succ n ih => intro h; have h1 := ih fun i hi => h i (by omega); have h2 := h n (by omega); simp only [tp]; omega
theorem tp_one {O : Nat → Nat} {n : Nat} (h : 0 < n) : tp O 1 n = tp O 0 n := by
  have h1 : ∀ k, tp O 1 (k + 1) = tp O 0 (k + 1) := by
    intro k
    induction k with
    | zero => simp only [tp]; omega
    | succ k ih => rw [tp, ih]; rfl
  obtain ⟨k, rfl⟩ : ∃ k, n = k + 1 := ⟨n - 1, by omega⟩
  exact h1 k
/-- Cells from o on are these numbers. -/
def updL (c : Nat → Int) (o : Nat) : List Int → Nat → Int
  | [] => c
  | z :: r => updL (upd c o z) (o + 1) r
theorem updL_out (zs : List Int) : ∀ (c : Nat → Int) (o i : Nat), (i < o ∨ o + zs.length ≤ i) → updL c o zs i = c i := by
  induction zs with
  | nil => intro c o i _; rfl
  | cons z r ih =>
    intro c o i h
    simp only [List.length_cons] at h
    rw [updL, ih (upd c o z) (o + 1) i (by omega), upd_ne _ _ (by omega)]
theorem updL_in (zs : List Int) : ∀ (c : Nat → Int) (o j : Nat) (z : Int), zs[j]? = some z → updL c o zs (o + j) = z := by
  induction zs with
  | nil => intro c o j z h; simp at h
  | cons x r ih =>
    intro c o j z h
    rw [updL]
    cases j with
    | zero =>
      rw [updL_out r _ _ _ (by omega), Nat.add_zero, upd_same]
      simpa using h
    | succ j =>
      rw [show o + (j + 1) = o + 1 + j by omega]
      exact ih _ _ j z (by simpa using h)
theorem Pt.setCells {w0 : World} {g : Nat} (zs : List Int) : ∀ {wr : World} {c : Nat → Int} (o : Nat), Pt w0 wr g c → Pt w0 (wr.setCells g o (iC zs)) g (updL c o zs) := by
  induction zs with
  | nil => intro wr c o h; exact h
  | cons z r ih => intro wr c o h; exact ih (o + 1) (h.set o z)
theorem kept_setCells (g : Nat) (vs : List Value) : ∀ (wr : World) (o : Nat), Kept (fun i => i = g) wr (wr.setCells g o vs) := by
  induction vs with
  | nil => intro wr o; exact Kept.refl _ _
  | cons z r ih => intro wr o; exact (Kept.setCell wr g o z).trans (ih _ _)
end Go.Proofs.YtpcndfffljmajaaGreatDoor
