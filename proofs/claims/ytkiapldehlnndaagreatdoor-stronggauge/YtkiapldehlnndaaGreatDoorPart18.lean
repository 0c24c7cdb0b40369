/- Texts of this claim, joined: SgGauge, ErLaid, SgLaid, SyLent, SyArgI, SyArg. -/
import Derived.Test.YtkiapldehlnndaaGreatDoorPart17
import Derived.Test.YtkiapldehlnndaaGreatDoorRows
import Derived.Test.YtkiapldehlnndaaGreatDoorPart0
import Derived.Test.YtkiapldehlnndaaGreatDoorPart5
import Derived.ProofKit
import Derived.LaidMore
import Derived.Stop.LaidErr
import Derived.OpenShut
import Derived.Test.YtkiapldehlnndaaGreatDoorPart2
import Derived.Lib.SmallJoins
import Derived.Deep.Slices
/- StrongGauge as a call. -/
namespace Go.Proofs.YtkiapldehlnndaaGreatDoor
open Go.RowKit Go.Maps
attribute [local go_sem ↓] Go.wp_at_zero Go.wp_at_succ
set_option maxRecDepth 100000 in
set_option maxHeartbeats 4000000 in
theorem lawGauge_out (n k s : Int) (v : Value) (es : List Sy.Ed) (w : World) (hA : PAl9 w) (hv : HasE w v es) (hlen : 300 < n ∨ 3000 < es.length) :
    Calls Tryz.prog 6 #[sysV n k s v] w fun r w' => r = .returned (.bool true) ∧ Below w.heap.size w w' := by
  obtain ⟨ao, cap, rfl, hcap, hH⟩ := hv
  obtain ⟨L, hL⟩ : ∃ L, L = es.length := ⟨_, rfl⟩
  rw [← hL] at hcap hlen ⊢
  have HA : Hid (PAl9 w) := hA
  have HB := alb w
  unfold sysV
  clear hA hH hcap hL
  by_cases h1 : 300 < n
  · have q1 : decide ((300 : Int) < n) = true := by simpa using h1
    clear hlen
    go_enter Tryz.func6, Tryz.ntmps6
    go_wp2_with (go_at_call 10; refine Calls.mono (HA.out _ (HB.out _)) ?_; rintro r w1 ⟨rfl, hb1⟩; have hb2 := bel9 hb1 (HB.out _))
    go_ret
    exact ⟨rfl, hb2⟩
  · have q1 : decide ((300 : Int) < n) = false := by simpa using h1
    have q2 : (3000 : Int) < (L : Int) := by omega
    clear hlen
    go_enter Tryz.func6, Tryz.ntmps6
    go_wp2_with (go_at_call 10; refine Calls.mono (HA.out _ (HB.out _)) ?_; rintro r w1 ⟨rfl, hb1⟩; have hb2 := bel9 hb1 (HB.out _))
    go_ret
    exact ⟨rfl, hb2⟩
set_option maxRecDepth 100000 in
set_option maxHeartbeats 4000000 in
theorem lawGauge_bad (hS : SortOk 1000000) (n k s : Int) (v : Value) (es : List Sy.Ed) (aS aC a1 a3 : Addr) (w : World) (hA : PAl9 w) (hE : EnvS w aS aC a1 a3) (hv : HasE w v es) (hn : n ≤ 300) (hlen : es.length ≤ 3000) (hq : Sy.right n k s es = false) :
    Calls Tryz.prog 6 #[sysV n k s v] w fun r w' => r = .returned (.bool true) ∧ Below w.heap.size w w' := by
  obtain ⟨ao, cap, rfl, hcap, hH⟩ := hv
  obtain ⟨L, hL⟩ : ∃ L, L = es.length := ⟨_, rfl⟩
  obtain ⟨w1, hw1⟩ : ∃ w1, w1 = w.alloc (.cells #[.int .i64 n, .int .i64 k, .int .i64 s, .slice ao L cap] 24) := ⟨_, rfl⟩
  have hb1 : Below w.heap.size w w1 := by rw [hw1]; exact (Below.refl _ _).alloc (Nat.le_refl _) _
  have hg1 : w1.heap[w.heap.size]? = some (.cells #[.int .i64 n, .int .i64 k, .int .i64 s, .slice ao L cap] 24 (0, 0)) := by rw [hw1]; exact heap_alloc_new w _
  have hCl := refine_bad hS n k s _ es aS w1 (hE.below hb1).sy (hH.below hb1) (by omega) hq
  rw [← hL] at hCl hlen ⊢
  unfold sysV at hCl ⊢
  have H1 : Hid _ := And.intro hw1 (And.intro hb1 (And.intro hCl hA))
  obtain ⟨x0, x1, x2, x3⟩ := four_cellsB hg1
  have q1 : decide ((300 : Int) < n) = false := by simpa using hn
  have q2 : ¬ (3000 : Int) < (L : Int) := by omega
  clear hA hE hH hcap hL hw1 hb1 hg1 hq hCl
  go_enter Tryz.func6, Tryz.ntmps6
  go_upto_region 1 with fail
  rw [← H1.out.1]
  go_wp2_with fail
  refine Calls.mono H1.out.2.2.1 ?_
  rintro r w3 ⟨b, rfl, hC3, hb3⟩
  have H3 : Hid (∀ o, Below w.heap.size w (w3.alloc o)) := fun o => bel9 ((alb w3).out o) (bel9 hb3 H1.out.2.1)
  clear hC3 hb3 x0 x1 x2 x3
  go_wp2_with fail
  refine Calls.mono (H1.out.2.2.2 _ (H3.out _)) ?_
  rintro r w4 ⟨rfl, hb4⟩
  have H4 : Hid _ := bel9 hb4 (H3.out _)
  clear hb4
  go_wp2_with fail
  go_ret
  exact ⟨rfl, H4.out⟩
set_option maxRecDepth 100000 in
set_option maxHeartbeats 8000000 in
theorem lawGauge_ok (hS : SortOk 1000000) (m kk : Nat) (s : Int) (v : Value) (es : List Sy.Ed) (aS aC a1 a3 : Addr) (w : World) (hA : PAl9 w) (hE : EnvS w aS aC a1 a3) (hv : HasE w v es) (hn : m ≤ 300) (hlen : es.length ≤ 3000) (hq : Sy.right m kk s es = true) :
    Calls Tryz.prog 6 #[sysV m kk s v] w fun r w' => r = .returned (.bool true) ∧ Below w.heap.size w w' := by
  obtain ⟨ao, cap, rfl, hcap, hH⟩ := hv
  obtain ⟨L, hL⟩ : ∃ L, L = es.length := ⟨_, rfl⟩
  obtain ⟨w1, hw1⟩ : ∃ w1, w1 = w.alloc (.cells #[.int .i64 m, .int .i64 kk, .int .i64 s, .slice ao L cap] 24) := ⟨_, rfl⟩
  have hb1 : Below w.heap.size w w1 := by rw [hw1]; exact (Below.refl _ _).alloc (Nat.le_refl _) _
  have hg1 : w1.heap[w.heap.size]? = some (.cells #[.int .i64 m, .int .i64 kk, .int .i64 s, .slice ao L cap] 24 (0, 0)) := by rw [hw1]; exact heap_alloc_new w _
  have hCl := (refine_ok hS m kk s _ es aS w1 (hE.below hb1).sy (hH.below hb1) (by omega) hq).mono (R' := fun e w' => ∃ (aU : Option Addr) (nU cU : Nat) (aT : Option Addr) (nT cT : Nat) (aG : Option Addr) (cG : Nat), e = .returned (.tuple #[.agg #[.slice aU nU cU, .slice aT nT cT, .slice aG m cG], .nilIface]) ∧ (∀ i, i < m → ∃ (b g : Nat), aG = some ⟨b, 0, none⟩ ∧ w'.cell? ⟨b, i, none⟩ = some (.int .i64 g) ∧ 1 ≤ g ∧ 2 ^ (g - 1) ≤ m) ∧ Below w1.heap.size w1 w') fun e w' ⟨u, vT, vG, G, tk, O, he, ⟨g1, g2, g3, g4⟩, hR⟩ => by
    obtain ⟨H, h, hh, hEn⟩ := hR.hist
    obtain ⟨aU, cU, e1⟩ := row_shape hR.cls
    obtain ⟨aT, cT, e2⟩ := row_shape hR.row
    have hqu := hR.q.q 0 _ rfl
    obtain ⟨aG, cG, e3, _⟩ := hqu.shape
    simp only [gOf_len, g1] at e3
    refine ⟨aU, _, cU, aT, _, cT, aG, cG, by rw [he, e1, e2, e3], fun i hi => ?_, hR.bl⟩
    have hO := hqu.own (hR.fl _ List.mem_cons_self) (by simp only [gOf_len, g1]; omega)
    simp only [e3] at hO
    have hgg := hh.gauge_end hEn (e := i) (by omega)
    obtain ⟨b, hb, hc⟩ := own_num hO (j := i) (z := (Sg.gn (tk.map (·.2)) i : Int)) (gOf_at (by omega))
    exact ⟨b, _, hb, hc, hgg.1, by rw [g1] at hgg; exact hgg.2⟩
  rw [← hL] at hCl hlen ⊢
  unfold sysV at hCl ⊢
  have H1 : Hid _ := And.intro hw1 (And.intro hb1 (And.intro hg1 (And.intro hCl hA)))
  obtain ⟨x0, x1, x2, x3⟩ := four_cellsB hg1
  have q1 : decide ((300 : Int) < (m : Int)) = false := by simp; omega
  have q2 : ¬ (3000 : Int) < (L : Int) := by omega
  clear hA hE hH hcap hL hw1 hb1 hg1 hq hCl
  go_enter Tryz.func6, Tryz.ntmps6
  go_upto_region 1 with fail
  rw [← H1.out.1]
  go_wp2_with fail
  refine Calls.mono H1.out.2.2.2.1 ?_
  rintro r w3 ⟨aU, nU, cU, aT, nT, cT, aG, cG, rfl, hgs, hb3⟩
  obtain ⟨w4, hw4⟩ : ∃ w4, w4 = w3.alloc (.cells #[.slice aU nU cU, .slice aT nT cT, .slice aG m cG] 60) := ⟨_, rfl⟩
  have hb4 : Below w3.heap.size w3 w4 := by rw [hw4]; exact (Below.refl _ _).alloc (Nat.le_refl _) _
  have hr4 : w4.heap[w3.heap.size]? = some (.cells #[.slice aU nU cU, .slice aT nT cT, .slice aG m cG] 60 (0, 0)) := by rw [hw4]; exact heap_alloc_new w3 _
  have d2 : w4.cell? ⟨w3.heap.size, 2, none⟩ = some (.slice aG m cG) := cell0_of hr4 rfl
  have y0 : w4.cell? ⟨w.heap.size, 0, none⟩ = some (.int .i64 m) := (four_cellsB (bup hb4 (bup hb3 H1.out.2.2.1))).1
  have H3 : Hid _ := And.intro hw4 (And.intro (fun i hi => by obtain ⟨b, g, h1, h2, h3⟩ := hgs i hi; exact (⟨b, g, h1, cell_up h2 hb4, h3⟩ : ∃ (b g : Nat), aG = some ⟨b, 0, none⟩ ∧ w4.cell? ⟨b, i, none⟩ = some (.int .i64 g) ∧ 1 ≤ g ∧ 2 ^ (g - 1) ≤ m)) (bel9 hb4 (bel9 hb3 H1.out.2.1)))
  clear hw4 hb4 hr4 hgs hb3 x0 x1 x2 x3
  go_upto_region 4 with fail
  rw [← H3.out.1]
  go_wp2_with fail
  go_loopg [5, 6] (m + 1) (fun q9 mv nv wr => ∃ (j x : Nat), q9 = x + 1 ∧ x = m / 2 ^ j ∧ j + x ≤ m ∧ mv = .int .i64 ((j : Int) + 1) ∧ nv = .int .i64 (x : Int) ∧ wr = w4)
  case atStart => exact ⟨0, m, rfl, by simp, by omega, rfl, rfl, rfl⟩
  case round =>
    obtain ⟨j, x, rfl, hx, hjx, rfl, rfl, hwr⟩ := hrel
    have hwr2 := hwr.symm
    clear hwr
    subst hwr2
    by_cases h1 : 1 < x
    · have r1 : (1 : Int) < (x : Int) := by omega
      have HX : Hid _ := And.intro hx hjx
      clear hx
      go_wp2_with fail
      go_roundg (x / 2 + 1)
      case measure => omega
      case rel => exact ⟨j + 1, x / 2, rfl, by rw [HX.out.1, Nat.pow_succ, Nat.div_div_eq_div_mul], by omega, by go_num, by go_num, rfl⟩
    · have r1 : ¬ (1 : Int) < (x : Int) := by omega
      have HX : Hid _ := And.intro (show m / 2 ^ j ≤ 1 by omega) hjx
      have n0 : ((m : Int) != (m : Int)) = false := by simp
      clear hx
      go_wp2_with fail
      go_loopg [7] m (fun q9 iv wr => ∃ i : Nat, q9 = m - i ∧ i ≤ m ∧ iv = .int .i64 i ∧ Below w4.heap.size w4 wr)
      case atStart => exact ⟨0, rfl, Nat.zero_le _, rfl, Below.refl _ _⟩
      case round =>
        obtain ⟨i, rfl, hi, rfl, hbr⟩ := hrel
        obtain ⟨w5, rfl⟩ : ∃ w5, w5 = wr := ⟨_, rfl⟩
        have e2 := cell_up d2 hbr
        by_cases him : i < m
        · obtain ⟨b, g, rfl, hc, hg1, hg2⟩ := H3.out.2.1 i him
          have e3 := cell_up hc hbr
          have hgm := Sg.gauge_most hg2 HX.out.1
          have s0 : (0 : Int) ≤ (i : Int) := by omega
          have s1 : (i : Int) < (m : Int) := by omega
          have s2 : decide ((g : Int) < 1) = false := decide_eq_false (by omega)
          have s3 : ¬ ((j : Int) + 1 < (g : Int)) := by omega
          have s4 : decide ((j : Int) + 1 < (g : Int)) = false := decide_eq_false s3
          have H5 : Hid _ := hbr
          clear hbr hc hg1 hg2 hgm
          go_wp2_with fail
          go_roundg (m - (i + 1))
          case measure => omega
          case rel => exact ⟨i + 1, rfl, by omega, by go_num, H5.out⟩
        · obtain rfl : i = m := by omega
          have s1 : ¬ (i : Int) < (i : Int) := by omega
          have H5 : Hid _ := bel9 hbr H3.out.2.2
          clear hbr
          go_wp2_with fail
          refine Calls.mono (H1.out.2.2.2.2 _ H5.out) ?_
          rintro r w8 ⟨rfl, hb8⟩
          have H8 : Hid _ := bel9 hb8 H5.out
          clear hb8
          go_wp2_with fail
          go_ret
          exact ⟨rfl, H8.out⟩
theorem lawGauge_any (hS : SortOk 1000000) (n k s : Int) (v : Value) (es : List Sy.Ed) (aS aC a1 a3 : Addr) (w : World) (hE : EnvS w aS aC a1 a3) (hv : HasE w v es) :
    Calls Tryz.prog 6 #[sysV n k s v] w fun r w' => r = .returned (.bool true) ∧ Below w.heap.size w w' := by
  have hA := pAl9 hS aS aC a1 a3 w hE
  by_cases h1 : 300 < n ∨ 3000 < es.length
  · exact lawGauge_out n k s v es w hA hv h1
  · cases hq : Sy.right n k s es with
    | false => exact lawGauge_bad hS n k s v es aS aC a1 a3 w hA hE hv (by omega) (by omega) hq
    | true =>
      have hp := right_parts hq
      obtain ⟨m, rfl⟩ : ∃ m : Nat, n = (m : Int) := ⟨n.toNat, by omega⟩
      obtain ⟨kk, rfl⟩ : ∃ m : Nat, k = (m : Int) := ⟨k.toNat, by omega⟩
      exact lawGauge_ok hS m kk s v es aS aC a1 a3 w hA hE hv (by omega) (by omega) hq
end Go.Proofs.YtkiapldehlnndaaGreatDoor
/- What the listed package variables give: api's errors lie in memory, each at an address of its own, whichever are listed. (Written by mker.py.) -/
namespace Go.Proofs.YtkiapldehlnndaaGreatDoor
open Go.ChangeShapes Go.WideShapes Go.ChangeAt Go.WideMaps Go.WideElems Go.RowKit
theorem Tryz.own : ownKnob Tryz.prog.godebug = none := by kernel_rfl
theorem Tryz.laidOut : laidOutB Tryz.prog = true := by kernel_rfl
theorem Tryz.cellsE : Tryz.prog.cellsOf 307 = 1 := by kernel_rfl
theorem Tryz.cellsS : Tryz.prog.cellsOf 9 = 1 := by kernel_rfl
set_option maxRecDepth 100000 in
theorem Tryz.star : "*" ++ "errors.errorString" = "*errors.errorString" := by decide
set_option maxRecDepth 100000 in
theorem Tryz.rowE (u : TypeId) (h : Tryz.prog.typeName? 3 u = some "*errors.errorString") : u = 287 :=
  typeName_ptr_named (nm := "errors.errorString") (by rw [Tryz.star]; kernel_rfl) (by kernel_rfl) (by decide) u (by rw [Tryz.star]; exact h)
set_option maxRecDepth 100000 in
theorem laid_step {W : World} {n : String} {g : Nat} {text : List UInt8} {r : List (String × DataW Unit)} {ps : List MemPlace} (hg : Tryz.prog.globalNamed n = some g) (ht : (Tryz.prog.globals[g]?).map (·.type) = some 30)
    (h : DataW.LaidVars Tryz.prog W ((n, .iface "*errors.errorString" (.ptr (.agg [.lit (.string text)]))) :: r) ps)
    (hrows : ∀ b off, MemPlace.cell b off ∈ ps → (∃ c t, W.heap[b]? = some (.cells c t (0, 0))) ∧ ∀ u v, W.cell? ⟨b, off, none⟩ = some (.iface u v) → Value.okWide Tryz.prog W .any 0 u v) :
    ∃ a q, Sent W g a ∧ DataW.LaidVars Tryz.prog W r q ∧ ps = MemPlace.cell g 0 :: MemPlace.cell a.block a.off :: q := by
  obtain ⟨g0, t0, cs0, f0, p0, q0, hg0, ht0, hv0, hd0, hr, e0⟩ := h
  obtain rfl := Option.some.inj (hg.symm.trans hg0)
  obtain rfl := Option.some.inj (ht.symm.trans ht0)
  subst e0
  obtain ⟨l0⟩ := cs0
  have ok0 : ∀ u v, l0 = [.iface u v] → Value.okWide Tryz.prog W .any 0 u v := fun u v e => by
    subst e
    exact (hrows g 0 (by simp [MemPlace.row])).2 u v (by simpa using World.var?_cell hg0 hv0 0)
  obtain ⟨a0, s0, rfl, hc0, hs0, hz0, rfl⟩ := errorString_of_trod Tryz.underlying30 Tryz.rowE Tryz.underlying287 Tryz.underlying307 rfl rfl Tryz.underlying9 Tryz.cellsE Tryz.cellsS hd0 ok0
  refine ⟨a0, q0, ⟨by simpa using World.var?_cell hg0 hv0 0, (hrows a0.block a0.off (by simp [MemPlace.row])).1⟩, hr, ?_⟩
  simp [MemPlace.row]
abbrev LE : Type := String × Nat × List UInt8
def leV (x : LE) : String × DataW Unit := (x.1, .iface "*errors.errorString" (.ptr (.agg [.lit (.string x.2.2)])))
theorem laid_list {W : World} {r : List (String × DataW Unit)} : ∀ (xs : List LE) (ps : List MemPlace), (∀ x ∈ xs, Tryz.prog.globalNamed x.1 = some x.2.1 ∧ (Tryz.prog.globals[x.2.1]?).map (·.type) = some 30) →
    DataW.LaidVars Tryz.prog W (xs.map leV ++ r) ps → (∀ b off, MemPlace.cell b off ∈ ps → (∃ c t, W.heap[b]? = some (.cells c t (0, 0))) ∧ ∀ u v, W.cell? ⟨b, off, none⟩ = some (.iface u v) → Value.okWide Tryz.prog W .any 0 u v) →
    ∃ ads : List Addr, ads.length = xs.length ∧ (∀ (i : Nat) (x : LE) (a : Addr), xs[i]? = some x → ads[i]? = some a → Sent W x.2.1 a) ∧ (∀ a ∈ ads, MemPlace.cell a.block a.off ∈ ps) ∧ (ps.Nodup → ads.Pairwise (· ≠ ·))
  | [], ps, _, _, _ => ⟨[], rfl, fun i x a h => by simp at h, fun a h => by simp at h, fun _ => List.Pairwise.nil⟩
  | x :: xs, ps, hx, h, hr => by
    obtain ⟨a, q, hs, hq, rfl⟩ := laid_step (hx x List.mem_cons_self).1 (hx x List.mem_cons_self).2 h hr
    obtain ⟨ads, h1, h2, h3, h4⟩ := laid_list xs q (fun y hy => hx y (List.mem_cons_of_mem _ hy)) hq (fun b off hb => hr b off (List.mem_cons_of_mem _ (List.mem_cons_of_mem _ hb)))
    refine ⟨a :: ads, by simp [h1], fun i y b hy hb => ?_, fun b hb => ?_, fun hn => ?_⟩
    · cases i with
      | zero => simp at hy hb; subst hy; subst hb; exact hs
      | succ i => exact h2 i y b (by simpa using hy) (by simpa using hb)
    · rcases List.mem_cons.1 hb with rfl | hb
      · exact List.mem_cons_of_mem _ List.mem_cons_self
      · exact List.mem_cons_of_mem _ (List.mem_cons_of_mem _ (h3 b hb))
    · have hn2 := (List.nodup_cons.1 hn).2
      have hn3 := List.nodup_cons.1 hn2
      exact List.Pairwise.cons (fun b hb e => hn3.1 (by rw [e]; exact h3 b hb)) (h4 hn3.2)
end Go.Proofs.YtkiapldehlnndaaGreatDoor
/- What the listed package variables give strong's statements: four errors and the handle that errors.As asks. -/
namespace Go.Proofs.YtkiapldehlnndaaGreatDoor
open Go.ChangeShapes Go.WideShapes Go.ChangeAt Go.WideMaps Go.WideElems Go.RowKit
theorem Tryz.et : Tryz.prog.globalNamed "errors.errorType" = some 19 := by kernel_rfl
theorem Tryz.rt : (Tryz.prog.cutTypes.find? (·.1 == "internal/reflectlite.rtype")).map (·.2) = some 200 := by kernel_rfl
theorem Tryz.oneRow : ((List.range Tryz.prog.types.size).filter fun t => Tryz.prog.rowNamed t [101, 114, 114, 111, 114]) = [30] := by kernel_rfl
set_option maxRecDepth 100000 in
theorem handle_of {W : World} (h : handlesMet Tryz.prog [("errors.errorType", Rows.laid_errors_errorType)] W) : W.cell? ⟨19, 0, none⟩ = some (.iface 200 (.agg #[.pointer (some ⟨20, 30, none⟩)])) := by
  obtain ⟨name, u, ty, e1, e2, e3, e4, e5⟩ := h _ (List.mem_singleton.2 rfl)
  have en : name = [101, 114, 114, 111, 114] := (Option.some.inj e1).symm
  subst en
  obtain rfl := Option.some.inj (Tryz.rt.symm.trans e2)
  have hm : ty ∈ (List.range Tryz.prog.types.size).filter fun t => Tryz.prog.rowNamed t [101, 114, 114, 111, 114] := List.mem_filter.2 ⟨List.mem_range.2 e3, e4⟩
  rw [Tryz.oneRow] at hm
  obtain rfl := List.mem_singleton.1 hm
  have hh : typeHandle Tryz.prog 30 = .pointer (some ⟨20, 30, none⟩) := by kernel_rfl
  rw [hh] at e5
  simpa using World.var?_cell Tryz.et e5 0
theorem four_of {W : World} {x1 x3 x14 x15 : List UInt8} {r : List (String × DataW Unit)} (h : laidMet Tryz.prog (("semblance/api.ErrArg", .iface "*errors.errorString" (.ptr (.agg [.lit (.string x1)]))) :: ("semblance/api.ErrIndex", .iface "*errors.errorString" (.ptr (.agg [.lit (.string x3)]))) :: ("semblance/api.ErrSystem", .iface "*errors.errorString" (.ptr (.agg [.lit (.string x14)]))) :: ("semblance/api.ErrClasses", .iface "*errors.errorString" (.ptr (.agg [.lit (.string x15)]))) :: r) W) : ∃ a1 a3 aS aC, Sent W 2 a1 ∧ Sent W 4 a3 ∧ Sent W 0 aS ∧ Sent W 1 aC := by
  obtain ⟨ps, h0, hnd, r0⟩ := h
  obtain ⟨ads, h1, h2, _, _⟩ := laid_list [("semblance/api.ErrArg", 2, x1), ("semblance/api.ErrIndex", 4, x3), ("semblance/api.ErrSystem", 0, x14), ("semblance/api.ErrClasses", 1, x15)] ps (fun x hx => by
    simp only [List.mem_cons, List.not_mem_nil, or_false] at hx
    rcases hx with rfl | rfl | rfl | rfl
    · exact ⟨by kernel_rfl, by kernel_rfl⟩
    · exact ⟨by kernel_rfl, by kernel_rfl⟩
    · exact ⟨by kernel_rfl, by kernel_rfl⟩
    · exact ⟨by kernel_rfl, by kernel_rfl⟩) h0 r0
  have at' : ∀ i, i < 4 → ∃ a, ads[i]? = some a := fun i hi => ⟨_, List.getElem?_eq_getElem (by rw [h1]; exact hi)⟩
  obtain ⟨a, ha⟩ := at' 0 (by decide)
  obtain ⟨b, hb⟩ := at' 1 (by decide)
  obtain ⟨c, hc⟩ := at' 2 (by decide)
  obtain ⟨d, hd⟩ := at' 3 (by decide)
  exact ⟨a, b, c, d, h2 0 _ a rfl ha, h2 1 _ b rfl hb, h2 2 _ c rfl hc, h2 3 _ d rfl hd⟩
theorem envS_of {W : World} {x1 x3 x14 x15 : List UInt8} {r : List (String × DataW Unit)} (h : laidMet Tryz.prog (("semblance/api.ErrArg", .iface "*errors.errorString" (.ptr (.agg [.lit (.string x1)]))) :: ("semblance/api.ErrIndex", .iface "*errors.errorString" (.ptr (.agg [.lit (.string x3)]))) :: ("semblance/api.ErrSystem", .iface "*errors.errorString" (.ptr (.agg [.lit (.string x14)]))) :: ("semblance/api.ErrClasses", .iface "*errors.errorString" (.ptr (.agg [.lit (.string x15)]))) :: r) W ∧ handlesMet Tryz.prog [("errors.errorType", Rows.laid_errors_errorType)] W) : ∃ aS aC a1 a3, EnvS W aS aC a1 a3 := by
  obtain ⟨a1, a3, aS, aC, h1, h3, hs, hc⟩ := four_of h.1
  exact ⟨aS, aC, a1, a3, hs, hc, h1, h3, handle_of h.2⟩
end Go.Proofs.YtkiapldehlnndaaGreatDoor
/- Contracts of the book's SameSystem, Lent and Stays. -/
namespace Go.Proofs.YtkiapldehlnndaaGreatDoor
open Go.RowKit Go.Maps
attribute [local go_sem ↓] Go.wp_at_zero Go.wp_at_succ
def mk3 : List Sy.Ed := [(-7, 0, 0), (-7, 1, 0), (-7, 2, 0)]
def LentE (w : World) (B : Nat) (u : Value) (es : List Sy.Ed) : Prop := ∃ g cap, u = .slice (some ⟨g, 0, none⟩) es.length cap ∧ es.length + 3 ≤ cap ∧ BEdges.Own w B (.slice (some ⟨g, 0, none⟩) (es.length + 3) cap) (es ++ mk3)
end Go.Proofs.YtkiapldehlnndaaGreatDoor
/- A list of numbers that came in, as a plain list. -/
namespace Go.Proofs.YtkiapldehlnndaaGreatDoor
open Go.ChangeShapes Go.WideShapes Go.ChangeAt Go.WideMaps Go.WideElems Go.RowKit
theorem Tryz.cIntE : Tryz.prog.cellsOf 3 = 1 := by kernel_rfl
end Go.Proofs.YtkiapldehlnndaaGreatDoor
/- A list of edges, and a system, that came in, out of their reading. -/
namespace Go.Proofs.YtkiapldehlnndaaGreatDoor
open Go.ChangeShapes Go.WideShapes Go.ChangeAt Go.WideMaps Go.WideElems Go.RowKit
theorem Tryz.cEdge : Tryz.prog.cellsOf 72 = 3 := by kernel_rfl
theorem Tryz.cSys : Tryz.prog.cellsOf 24 = 4 := by kernel_rfl
theorem ed_choose {n : Nat} {p : Nat → Sy.Ed → Prop} (h : ∀ i, i < n → ∃ x, p i x) : ∃ f : Nat → Sy.Ed, ∀ i, i < n → p i (f i) := by
  classical
  refine ⟨fun i => if hi : i < n then Classical.choose (h i hi) else (0, 0, 0), fun i hi => ?_⟩
  simp only [hi, dif_pos]
  exact Classical.choose_spec (h i hi)
set_option maxRecDepth 100000 in
theorem edge_in {H : Type} {enc : TypeId × Value → H} {W : World} {fuel i : Nat} {a : Addr} {cs : List Value} {x : DataW H × List MemPlace} (hc : W.cells? 0 (a.add (i * 3)) 3 = some cs) (h : DataW.trod enc Tryz.prog W 0 (fun _ => true) true fuel 72 cs = some x) :
    ∃ z : Sy.Ed, ∀ q u, (BEdges.enc z)[q]? = some u → W.cell? (a.add (i * 3 + q)) = some u := by
  obtain ⟨_, hlen, hcell⟩ := World.cells?_some hc
  obtain ⟨xs, k, hk, _, _, hxl, hf⟩ := DataW.trod_struct Tryz.underlying72 h
  match xs, hxl, cs, hlen with
  | [y0, y1, y2], _, [v0, v1, v2], _ =>
    have g0 := hf 0 _ rfl
    have g1 := hf 1 _ rfl
    have g2 := hf 2 _ rfl
    simp [Tryz.cIntE] at g0 g1 g2
    obtain ⟨z0, e0, _⟩ := DataW.trod_int Tryz.underlying3 g0
    obtain ⟨z1, e1, _⟩ := DataW.trod_int Tryz.underlying3 g1
    obtain ⟨z2, e2, _⟩ := DataW.trod_int Tryz.underlying3 g2
    obtain rfl : v0 = .int .i64 z0 := by simpa using e0
    obtain rfl : v1 = .int .i64 z1 := by simpa using e1
    obtain rfl : v2 = .int .i64 z2 := by simpa using e2
    have c0 := hcell 0 (by omega)
    have c1 := hcell 1 (by omega)
    have c2 := hcell 2 (by omega)
    rw [Go.Deep.add_add] at c0 c1 c2
    refine ⟨(z0, z1, z2), fun q u hq => ?_⟩
    match q, hq with
    | 0, hq => cases hq; simpa using c0
    | 1, hq => cases hq; simpa using c1
    | 2, hq => cases hq; simpa using c2
    | q + 3, hq => simp [BEdges.enc] at hq
set_option maxRecDepth 100000 in
theorem edges_in {H : Type} {enc : TypeId × Value → H} {W : World} {fuel : Nat} {v : Value} {x : DataW H × List MemPlace} (h : DataW.trod enc Tryz.prog W 0 (fun _ => true) true fuel 22 [v] = some x) : ∃ es, HasE W v es ∧ es.length ≤ maxLen := by
  rcases Go.Deep.open_slice Tryz.underlying22 h with ⟨hc, _⟩ | ⟨a, len, cap, m, n, D, Pl, hc, _, hl, hm, hmm, _, hx⟩
  · obtain rfl : v = .slice none 0 0 := by injection hc
    exact ⟨[], ⟨none, 0, rfl, Nat.le_refl _, none, 0, rfl, fun i s h => by simp [BEdges.C] at h⟩, by simp⟩
  · obtain rfl : v = .slice (some a) len cap := by injection hc
    have hm' : m = cap := by simpa using hmm
    rw [Tryz.cEdge] at hx
    have each : ∀ i, i < len → ∃ z : Sy.Ed, ∀ q u, (BEdges.enc z)[q]? = some u → W.cell? (a.add (i * 3 + q)) = some u := fun i hi => by
      obtain ⟨cs, h1, h2⟩ := hx i (by omega)
      exact edge_in h1 h2
    obtain ⟨f, hf'⟩ := ed_choose each
    have hL : ((List.range len).map f).length = len := by simp
    refine ⟨(List.range len).map f, ⟨some a, cap, by rw [hL], by rw [hL]; omega, some a, cap, by rw [hL], fun j u hj => ⟨a, rfl, ?_⟩⟩, by rw [hL]; omega⟩
    have hj3 : j < len * 3 := by have := (List.getElem?_eq_some_iff.1 hj).1; rw [BEdges.C_len, hL] at this; exact this
    have hi : j / 3 < len := by omega
    have hz : ((List.range len).map f)[j / 3]? = some (f (j / 3)) := by rw [List.getElem?_map, List.getElem?_range hi]; rfl
    have h9 := BEdges.C_at _ _ _ hz (j % 3) (Nat.mod_lt _ (by decide))
    have e9 : j / 3 * 3 + j % 3 = j := by omega
    rw [e9, hj] at h9
    have h8 := hf' (j / 3) hi (j % 3) u h9.symm
    rw [e9] at h8
    exact h8
set_option maxRecDepth 100000 in
theorem has_sys {H : Type} {enc : TypeId × Value → H} {W : World} {base : Nat} {v : Value} {d : DataW H} {ps : List MemPlace} (hok : Value.okWide Tryz.prog W .any base 24 v) (h : DataW.Trod enc Tryz.prog W 0 (fun _ => true) true 24 v d ps) :
    ∃ (n k s : Int) (u : Value) (es : List Sy.Ed), v = sysV n k s u ∧ HasE W u es ∧ es.length ≤ maxLen := by
  obtain ⟨v0, v1, v2, v3, y0, y1, y2, y3, f, rfl, _, _, t0, t1, t2, t3⟩ := Go.Joins.open_agg4 Tryz.underlying24 (by kernel_rfl) Tryz.cSys hok h
  obtain ⟨z0, e0, _⟩ := DataW.trod_int Tryz.underlying3 t0
  obtain ⟨z1, e1, _⟩ := DataW.trod_int Tryz.underlying3 t1
  obtain ⟨z2, e2, _⟩ := DataW.trod_int Tryz.underlying3 t2
  obtain rfl : v0 = .int .i64 z0 := by simpa using e0
  obtain rfl : v1 = .int .i64 z1 := by simpa using e1
  obtain rfl : v2 = .int .i64 z2 := by simpa using e2
  obtain ⟨es, h1, h2⟩ := edges_in t3
  exact ⟨z0, z1, z2, v3, es, rfl, h1, h2⟩
end Go.Proofs.YtkiapldehlnndaaGreatDoor
