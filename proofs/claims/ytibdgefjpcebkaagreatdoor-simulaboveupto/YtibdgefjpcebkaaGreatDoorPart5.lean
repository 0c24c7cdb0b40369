/- Texts of this claim, joined: ErTold, SyNormal, SyCanon, SyForms, SyProg, SyChk, SyView, SoRow, SoIns, Shelf, SoSmall, SyClone. -/
import Derived.Test.YtibdgefjpcebkaaGreatDoorErCode
import Derived.Deep.QuietTactic
import Derived.BigQuiet
import Derived.ProofKit
import Derived.Test.YtibdgefjpcebkaaGreatDoorPart2
import Derived.Test.YtibdgefjpcebkaaGreatDoorPart0
import Derived.Shelf.Abstract
import Derived.Deep.RegionHeld3
import Derived.Sort.AssemblyPlain
import Derived.Shelf.Small.Bits
import Derived.Shelf.Small.Wraps
import Derived.Shelf.Strconv.Itoa0
import Derived.Test.YtibdgefjpcebkaaGreatDoorProg
import Derived.Test.YtibdgefjpcebkaaGreatDoorPart1
import Derived.Lib.SliceRun
import Derived.Lib.Walk
/- The book's Told at a chain of faults, however many layers it has. -/
namespace Go.Proofs.YtibdgefjpcebkaaGreatDoor
open Go.RowKit
theorem castY (v : Value) (w : World) : (Instr.typeAssert (.iface 83 v) 47 83 true).run Tryz.prog w = .ok (.tuple #[v, .bool true]) w := by kernel_rfl
theorem castN (v : Value) (w : World) : (Instr.typeAssert (.iface 240 v) 47 83 true).run Tryz.prog w = .ok (.tuple #[.pointer none, .bool false]) w := by kernel_rfl
def joinS (x : ByteArray) : List ByteArray → ByteArray
  | [] => x
  | s :: r => joinS (x ++ s ++ ⟨#[32]⟩) r
theorem joinS_size (ls : List ByteArray) (h : ∀ s ∈ ls, s.size ≤ 100) : ∀ x, (joinS x ls).size ≤ x.size + 101 * ls.length ∧ x.size ≤ (joinS x ls).size := by
  induction ls with
  | nil => intro x; simp [joinS]
  | cons s r ih =>
    intro x
    have h1 := h s List.mem_cons_self
    have h2 := ih (fun y hy => h y (List.mem_cons_of_mem _ hy)) (x ++ s ++ ⟨#[32]⟩)
    have h3 : (x ++ s ++ ⟨#[32]⟩).size = x.size + s.size + 1 := by rw [ByteArray.size_append, ByteArray.size_append]; rfl
    simp only [joinS, List.length_cons]
    omega
theorem Chain.drew {w : World} {l c : Int} {a : Addr} {ls : List ByteArray} {v : Value} (h : Chain w l c a ls v) (n : Nat) : Chain (w.drewN n) l c a ls v := h.below (below_drewN (Below.refl _ _) n)
set_option maxRecDepth 100000 in
set_option maxHeartbeats 8000000 in
theorem told_gen (k : Nat) (h1 : 1 ≤ k) (v : Value) (ls : List ByteArray) (l c : Int) (ae : Addr) (w : World) (hcode : ∀ W (x : Value) (r : List ByteArray), Below w.heap.size w W → Chain W l c ae r x → Calls Tryz.prog 31 #[x] W fun r w' => r = .returned (.int .i64 k) ∧ w' = W) (hC : Chain w l c ae ls v) (hl : ls.length ≤ 19) (hs : ∀ s ∈ ls, s.size ≤ 100) :
    Calls Tryz.prog 11 #[v, .agg #[.int .i64 k, .int .i64 l, .int .i64 c, .string (joinS ⟨#[]⟩ ls)]] w fun r w' => r = .returned (.bool true) ∧ Below w.heap.size w w' := by
  have y := castY
  have n := castN
  have z0 : ((k : Int) == 0) = false := by simp; omega
  have z3 : ((k : Int) != (k : Int)) = false := by simp
  have z4 : ((k : Int) == (k : Int)) = true := by simp
  have z5 : (l != l) = false := by simp
  have z6 : (c != c) = false := by simp
  obtain ⟨J, hJ⟩ : ∃ J, J = joinS ⟨#[]⟩ ls := ⟨_, rfl⟩
  have HE : Hid _ := And.intro hC (And.intro hs (And.intro hJ hl))
  have HC : Hid _ := hcode
  rw [← hJ]
  obtain ⟨T0, x0, rfl⟩ := hC.iface
  clear hC hs hcode hJ h1
  go_enter Tryz.func11, Tryz.ntmps11
  go_wp2_with fail
  obtain ⟨w1, hw1⟩ : ∃ w1, w1 = w.alloc (.cells #[.int .i64 k, .int .i64 l, .int .i64 c, .string J] 29) := ⟨_, rfl⟩
  rw [← hw1]
  have hb1 : Below w.heap.size w w1 := by rw [hw1]; exact (Below.refl _ _).alloc (Nat.le_refl _) _
  have hN : w1.heap[w.heap.size]? = some (.cells #[.int .i64 k, .int .i64 l, .int .i64 c, .string J] 29 (0, 0)) := by rw [hw1]; exact (MapKept.heap_alloc w _).1
  have H1 : Hid _ := And.intro hb1 (And.intro hN (HE.out.1.below hb1))
  clear hb1 hN hw1
  obtain ⟨e0, e1, e2, e3⟩ := fault_cells H1.out.2.1
  go_quiet ((go_at_call 31; exact Calls.quiet_of_same (HC.out _ _ _ (below_drewN H1.out.1 _) (H1.out.2.2.drew _))))
  obtain ⟨w2, hw2⟩ : ∃ w2, w2 = w1.drewN nq := ⟨_, rfl⟩
  rw [← hw2]
  have H2 : Hid _ := And.intro (below_drewN H1.out.1 nq) (And.intro (H1.out.2.2.drew nq) (show (w1.drewN nq).heap[w.heap.size]? = some (.cells #[.int .i64 k, .int .i64 l, .int .i64 c, .string J] 29 (0, 0)) from H1.out.2.1))
  rw [← hw2] at H2
  clear hw2 e0 e1 e2 e3 H1
  go_wp2_with fail
  go_loopg [0, 5, 6] (ls.length + 1) (fun q ev lv nv wr => ∃ (done r : List ByteArray) (x : ByteArray), q = r.length + 1 ∧ ls = done ++ r ∧ nv = .int .i64 done.length ∧ lv = .string x ∧ joinS x r = J ∧ Below w.heap.size w wr ∧ Chain wr l c ae r ev ∧ wr.heap[w.heap.size]? = some (.cells #[.int .i64 k, .int .i64 l, .int .i64 c, .string J] 29 (0, 0)))
  case atStart => exact ⟨[], ls, _, rfl, rfl, rfl, rfl, HE.out.2.2.1.symm, H2.out.1, H2.out.2.1, H2.out.2.2⟩
  case round =>
    obtain ⟨done, r, x, rfl, hls, rfl, rfl, hj, hbr, hCr, hNr⟩ := hrel
    clear H2
    have hlen : done.length + r.length = ls.length := by rw [hls, List.length_append]
    have hdl : (done.length : Int) < 20 := by have := HE.out.2.2.2; omega
    obtain ⟨e0, e1, e2, e3⟩ := fault_cells hNr
    cases r with
    | nil =>
      have ev : u0 = .iface 240 (.pointer (some ae)) := hCr
      subst ev
      have hx : x = J := hj
      subst hx
      have HR : Hid _ := And.intro hCr hbr
      clear hCr hj hls hNr hbr hlen
      go_wp2_with fail
      go_quiet ((go_at_call 31; exact Calls.quiet_of_same (HC.out _ _ [] (below_drewN HR.out.2 _) rfl)))
      go_wp2
      go_ret
      exact ⟨rfl, below_drewN HR.out.2 _⟩
    | cons s r =>
      obtain ⟨pb, u, rfl, hB, hCu⟩ := hCr
      obtain ⟨f0, f1, f2, f3⟩ := fault_cells hB
      have hz := joinS_size r (fun y hy => HE.out.2.1 y (by rw [hls]; exact List.mem_append_right _ (List.mem_cons_of_mem _ hy))) (x ++ s ++ ⟨#[32]⟩)
      have hz0 := joinS_size ls HE.out.2.1 ⟨#[]⟩
      have hz1 : (x ++ s ++ ⟨#[32]⟩).size ≤ 2000 := by
        have h2 : (joinS (x ++ s ++ ⟨#[32]⟩) r).size ≤ 0 + 101 * ls.length := by
          have h3 : joinS (x ++ s ++ ⟨#[32]⟩) r = J := hj
          rw [h3, HE.out.2.2.1]; exact hz0.1
        have := HE.out.2.2.2
        omega
      have hz3 : (x ++ s ++ ⟨#[32]⟩).size = x.size + s.size + 1 := by rw [ByteArray.size_append, ByteArray.size_append]; rfl
      have cat1 := fun W => run_string_add_sum (P := Tryz.prog) (w := W) x s (by omega)
      have cat2 := fun W => run_string_add_sum (P := Tryz.prog) (w := W) (x ++ s) ⟨#[32]⟩ (by rw [ByteArray.size_append]; show x.size + s.size + 1 ≤ _; omega)
      have HR : Hid _ := And.intro hCu (And.intro hls (And.intro hj (And.intro hbr hNr)))
      clear hCu hls hj hB hz hz0 hz1 hz3 hbr hNr hlen
      go_wp2_with fail
      go_quiet (fail)
      obtain ⟨w3, hw3⟩ : ∃ w3, w3 = wr.drewN nq := ⟨_, rfl⟩
      have g0 : w3.cell? ⟨pb, 0, none⟩ = some (.string s) := by rw [hw3]; exact f0
      have g3 : w3.cell? ⟨pb, 3, none⟩ = some u := by rw [hw3]; exact f3
      have H3 : Hid _ := And.intro (HR.out.1.drew nq) (And.intro (below_drewN HR.out.2.2.2.1 nq) (show (wr.drewN nq).heap[w.heap.size]? = some (.cells #[.int .i64 k, .int .i64 l, .int .i64 c, .string J] 29 (0, 0)) from HR.out.2.2.2.2))
      rw [← hw3] at H3 ⊢
      clear hw3 f0 f1 f2 f3 e0 e1 e2 e3
      go_wp2
      go_roundg (r.length + 1)
      case measure => simp
      case rel => exact ⟨done ++ [s], r, _, rfl, by rw [HR.out.2.1, List.append_assoc]; rfl, by rw [List.length_append]; go_num, rfl, HR.out.2.2.1, H3.out.2.1, H3.out.1, H3.out.2.2⟩
theorem told_chain {m : Nat} (k : Nat) (h1 : 1 ≤ k) (h19 : k ≤ 19) (hm : k ≤ m) (v : Value) (ls : List ByteArray) (l c : Int) (e : Nat → Addr) (w : World) (hE : Er m w e) (hC : Chain w l c (e k) ls v) (hl : ls.length ≤ 19) (hs : ∀ s ∈ ls, s.size ≤ 100) :
    Calls Tryz.prog 11 #[v, .agg #[.int .i64 k, .int .i64 l, .int .i64 c, .string (joinS ⟨#[]⟩ ls)]] w fun r w' => r = .returned (.bool true) ∧ Below w.heap.size w w' :=
  told_gen k h1 v ls l c (e k) w (fun W x r hb h => code_chain k h1 h19 hm x r l c e W (hE.below hb) h) hC hl hs
theorem told_none (l c : Int) (x : ByteArray) (w : World) :
    Calls Tryz.prog 11 #[.nilIface, .agg #[.int .i64 0, .int .i64 l, .int .i64 c, .string x]] w fun e w' => e = .returned (.bool true) ∧ Below w.heap.size w w' := by
  go_enter Tryz.func11, Tryz.ntmps11
  go_wp2
  go_ret
  exact ⟨rfl, (Below.refl _ _).alloc (Nat.le_refl _) _⟩
end Go.Proofs.YtibdgefjpcebkaaGreatDoor
/- Contracts of the document's Check and Normal of systems. -/
namespace Go.Proofs.YtibdgefjpcebkaaGreatDoor
open Go.RowKit Go.Maps
attribute [local go_sem ↓] Go.wp_at_zero Go.wp_at_succ
def sysB : ByteArray := ⟨#[115, 121, 115, 116, 101, 109]⟩
def sysB1 : ByteArray := ⟨#[115, 121, 115, 116, 101, 109, 32]⟩
set_option maxHeartbeats 1000000 in
theorem badSys (k : Int) (w : World) : Calls Tryz.prog 19 #[.string ⟨#[115, 121, 115, 116, 101, 109]⟩, .int .i64 k] w fun e w' => e = .returned (.agg #[.int .i64 k, .int .i64 0, .int .i64 0, .string sysB1]) ∧ Below w.heap.size w w' := by
  have zs : (⟨#[115, 121, 115, 116, 101, 109]⟩ ++ ⟨#[32]⟩ : ByteArray) = sysB1 := by decide
  go_enter Tryz.func19, Tryz.ntmps19
  go_wp2
  exact bodyPost_ret (v := .agg #[.int .i64 k, .int .i64 0, .int .i64 0, .string sysB1]) (by simp [results, Tryz.results19, go_sem]) rfl ⟨rfl, (Below.refl _ _).alloc (Nat.le_refl _) _⟩
theorem four_set {w : World} {b : Nat} {x0 x1 x2 x3 a0 a1 a2 a3 : Value} {t : TypeId} (h : w.heap[b]? = some (.cells #[x0, x1, x2, x3] t (0, 0))) : ((((w.setCell ⟨b, 0, none⟩ a0).setCell ⟨b, 1, none⟩ a1).setCell ⟨b, 2, none⟩ a2).setCell ⟨b, 3, none⟩ a3).heap[b]? = some (.cells #[a0, a1, a2, a3] t (0, 0)) :=
  heap_setCell_same _ b 3 _ _ _ (heap_setCell_same _ b 2 _ _ _ (heap_setCell_same _ b 1 _ _ _ (heap_setCell_same w b 0 _ _ _ h)))
theorem four_below {B : Nat} {w w2 : World} {b : Nat} (h : Below B w w2) (hb : B ≤ b) (a0 a1 a2 a3 : Value) : Below B w ((((w2.setCell ⟨b, 0, none⟩ a0).setCell ⟨b, 1, none⟩ a1).setCell ⟨b, 2, none⟩ a2).setCell ⟨b, 3, none⟩ a3) := (((h.setCell hb _).setCell hb _).setCell hb _).setCell hb _
def chkV (ok : Bool) : Value := if ok then .agg #[.int .i64 0, .int .i64 0, .int .i64 0, .string ⟨#[]⟩] else .agg #[.int .i64 14, .int .i64 0, .int .i64 0, .string sysB1]
set_option maxRecDepth 100000 in
set_option maxHeartbeats 2000000 in
theorem refCheck_any (n k s : Int) (v : Value) (es : List Sy.Ed) (w : World) (hv : BEdges.Has w v es) :
    Calls Tryz.prog 81 #[sysV n k s v] w fun e w' => e = .returned (chkV (Sy.right n k s es)) ∧ Below w.heap.size w w' := by
  obtain ⟨w1, hw1⟩ : ∃ w1, w1 = (w.alloc (.cells #[.int .i64 n, .int .i64 k, .int .i64 s, v] 24)).alloc (.cells #[.int .i64 0, .int .i64 0, .int .i64 0, .string ⟨#[]⟩] 29) := ⟨_, rfl⟩
  have hb1 : Below w.heap.size w w1 := by rw [hw1]; exact ((Below.refl _ _).alloc (Nat.le_refl _) _).alloc (by simp) _
  have hR := right_any n k s v es w1 (hv.below hb1)
  have hg : w1.heap[w.heap.size + 1]? = some (.cells #[.int .i64 0, .int .i64 0, .int .i64 0, .string ⟨#[]⟩] 29 (0, 0)) := by rw [hw1]; exact two_alloc w _ _
  have H1 : Hid _ := And.intro hR (And.intro hb1 (And.intro hg hw1))
  obtain ⟨ao, cap, rfl, _⟩ := hv
  clear hR hb1 hg hw1
  unfold sysV at H1 ⊢
  cases hr : Sy.right n k s es with
  | true =>
    rw [hr] at H1
    clear hr
    go_enter Tryz.func81, Tryz.ntmps81
    go_wp2_with fail
    rw [← H1.out.2.2.2]
    refine Calls.mono H1.out.1 ?_
    rintro e w2 ⟨rfl, hb2⟩
    have hg2 := (hb2.block _ (t_lt H1.out.2.2.1)).trans H1.out.2.2.1
    obtain ⟨y0, y1, y2, y3⟩ := four_cells hg2
    have z0 := blk_free hg2 0
    have z1 := blk_free hg2 1
    have z2 := blk_free hg2 2
    have z3 := blk_free hg2 3
    have H2 : Hid _ := And.intro (H1.out.2.1.trans (hb2.mono H1.out.2.1.size)) hg2
    clear hb2 hg2
    go_wp2_with fail
    have hgf := four_set (a0 := .int .i64 0) (a1 := .int .i64 0) (a2 := .int .i64 0) (a3 := .string ⟨#[]⟩) H2.out.2
    have hbf := four_below H2.out.1 (b := w.heap.size + 1) (by omega) (.int .i64 0) (.int .i64 0) (.int .i64 0) (.string ⟨#[]⟩)
    generalize ((((w2.setCell ⟨w.heap.size + 1, 0, none⟩ (.int .i64 0)).setCell ⟨w.heap.size + 1, 1, none⟩ (.int .i64 0)).setCell ⟨w.heap.size + 1, 2, none⟩ (.int .i64 0)).setCell ⟨w.heap.size + 1, 3, none⟩ (.string ⟨#[]⟩)) = wf at hgf hbf ⊢
    obtain ⟨c0, c1, c2, c3⟩ := four_cells hgf
    exact bodyPost_ret (v := .agg #[.int .i64 0, .int .i64 0, .int .i64 0, .string ⟨#[]⟩]) (by simp [results, Tryz.results81, go_sem, c0, c1, c2, c3]) rfl ⟨rfl, hbf⟩
  | false =>
    rw [hr] at H1
    clear hr
    go_enter Tryz.func81, Tryz.ntmps81
    go_wp2_with fail
    rw [← H1.out.2.2.2]
    refine Calls.mono H1.out.1 ?_
    rintro e w2 ⟨rfl, hb2⟩
    have hg2 := (hb2.block _ (t_lt H1.out.2.2.1)).trans H1.out.2.2.1
    have H2 : Hid _ := And.intro (H1.out.2.1.trans (hb2.mono H1.out.2.1.size)) hg2
    clear hb2 hg2
    go_wp2_with fail
    refine (badSys 14 w2).mono ?_
    rintro e w3 ⟨rfl, hb3⟩
    have hg3 := (hb3.block _ (t_lt H2.out.2)).trans H2.out.2
    obtain ⟨y0, y1, y2, y3⟩ := four_cells hg3
    have z0 := blk_free hg3 0
    have z1 := blk_free hg3 1
    have z2 := blk_free hg3 2
    have z3 := blk_free hg3 3
    have H3 : Hid _ := And.intro (H2.out.1.trans (hb3.mono H2.out.1.size)) hg3
    clear hb3 hg3
    go_wp2_with fail
    have hgf := four_set (a0 := .int .i64 14) (a1 := .int .i64 0) (a2 := .int .i64 0) (a3 := .string sysB1) H3.out.2
    have hbf := four_below H3.out.1 (b := w.heap.size + 1) (by omega) (.int .i64 14) (.int .i64 0) (.int .i64 0) (.string sysB1)
    generalize ((((w3.setCell ⟨w.heap.size + 1, 0, none⟩ (.int .i64 14)).setCell ⟨w.heap.size + 1, 1, none⟩ (.int .i64 0)).setCell ⟨w.heap.size + 1, 2, none⟩ (.int .i64 0)).setCell ⟨w.heap.size + 1, 3, none⟩ (.string sysB1)) = wf at hgf hbf ⊢
    clear y0 y1 y2 y3 z0 z1 z2 z3
    obtain ⟨c0, c1, c2, c3⟩ := four_cells hgf
    exact bodyPost_ret (v := .agg #[.int .i64 14, .int .i64 0, .int .i64 0, .string sysB1]) (by simp [results, Tryz.results81, go_sem, c0, c1, c2, c3]) rfl ⟨rfl, hbf⟩
end Go.Proofs.YtibdgefjpcebkaaGreatDoor
/- Contracts of the document's Canon, Together and Classes. -/
namespace Go.Proofs.YtibdgefjpcebkaaGreatDoor
open Go.RowKit Go.Maps
attribute [local go_sem ↓] Go.wp_at_zero Go.wp_at_succ
namespace Sy
theorem place_app (c : Int) (a b : List Int) (h : ∀ x ∈ a, x ≠ c) : place c (a ++ b) = a.length + place c b := by
  induction a with
  | nil => simp
  | cons x r ih =>
    have hx := h x List.mem_cons_self
    simp only [List.cons_append, place, if_neg hx, List.length_cons]
    rw [ih fun y hy => h y (List.mem_cons_of_mem _ hy)]
    omega
theorem canon_step {zs : List Int} {i : Nat} {z : Int} (h : zs[i]? = some z) : canonG [] (zs.take (i + 1)) = canonG [] (zs.take i) ++ [place z (seenG [] (zs.take i))] := by
  obtain ⟨hl, rfl⟩ := List.getElem?_eq_some_iff.1 h
  rw [List.take_succ_eq_append_getElem hl, canonG_app]
  rfl
theorem seen_step {zs : List Int} {i : Nat} {z : Int} (h : zs[i]? = some z) : seenG [] (zs.take (i + 1)) = if place z (seenG [] (zs.take i)) < (seenG [] (zs.take i)).length then seenG [] (zs.take i) else seenG [] (zs.take i) ++ [z] := by
  obtain ⟨hl, rfl⟩ := List.getElem?_eq_some_iff.1 h
  rw [List.take_succ_eq_append_getElem hl, seenG_app]
  rfl
end Sy
def natC (l : List Nat) : List Value := l.map fun (k : Nat) => Value.int .i64 (k : Int)
theorem natC_len (l : List Nat) : (natC l).length = l.length := by simp [natC]
def natI (l : List Nat) : List Int := l.map fun (k : Nat) => (k : Int)
theorem iC_nat (l : List Nat) : iC (natI l) = natC l := by simp [iC, natI, natC]
theorem natC_step (C : List Nat) (n i k : Nat) (hC : C.length = i) (hi : i < n) : (natC C ++ List.replicate (n - i) (Value.int .i64 0)).set i (.int .i64 (k : Int)) = natC (C ++ [k]) ++ List.replicate (n - (i + 1)) (Value.int .i64 0) := by
  have e : n - i = (n - (i + 1)) + 1 := by omega
  rw [List.set_append_right _ _ (by rw [natC_len]; omega), natC_len, hC, Nat.sub_self, e, List.replicate_succ, List.set_cons_zero]
  simp [natC]
set_option maxRecDepth 100000 in
set_option maxHeartbeats 8000000 in
theorem refCanon_any (v : Value) (zs : List Int) (w : World) (hv : HasI w v zs) (hn : zs.length ≤ 100000) :
    Calls Tryz.prog 33 #[v] w fun e w' => ∃ u, e = .returned u ∧ OwnI w' w.heap.size u (natI (Sy.canon zs)) ∧ Below w.heap.size w w' := by
  obtain ⟨i0, hi0, hz0, hz1, hz2⟩ := info_parts Tryz.infoI4
  obtain ⟨ao, cap, rfl, hcs⟩ := hv
  obtain ⟨n, hN⟩ : ∃ n, n = zs.length := ⟨_, rfl⟩
  have HH : Hid _ := And.intro hcs hN
  rw [← hN] at hn ⊢
  clear hcs hN
  have hmk := makeI n (by omega) w
  go_enter Tryz.func33, Tryz.ntmps33
  go_wp2_with fail
  clear hmk
  go_loopg [4, 5] n (fun q sv iv wr => ∃ (i : Nat) (seen : List Int), q = n - i ∧ i ≤ n ∧ iv = .int .i64 i ∧ seen = Sy.seenG [] (zs.take i) ∧ OwnI wr (w.heap.size + 1) sv seen ∧ Arr 3 w wr w.heap.size (natC (Sy.canonG [] (zs.take i)) ++ List.replicate (n - i) (.int .i64 0)))
  case atStart => exact ⟨0, [], rfl, Nat.zero_le _, rfl, by simp [Sy.seenG], World.ownsRow_nil _ _ _ _, by simpa [Sy.canonG, natC] using arr_new 3 (.int .i64 0) rfl n w⟩
  case round =>
    obtain ⟨i, seen, rfl, hi, rfl, hseen, hO, hA⟩ := hrel
    obtain ⟨wq, rfl⟩ : ∃ wq, wq = wr := ⟨_, rfl⟩
    by_cases hlt : i < n
    · obtain ⟨z, hz⟩ : ∃ z, zs[i]? = some z := ⟨zs[i]'(by have := HH.out.2; omega), List.getElem?_eq_getElem _⟩
      obtain ⟨a, rfl, c0⟩ := HH.out.1 i z hz
      have cz : wq.cell? (a.add i) = some (.int .i64 z) := (hA.bl.cell (World.block_lt_of_cell? w _ c0)).trans c0
      have hsl : seen.length ≤ i := by
        have := Sy.seenG_len (zs.take i) []
        rw [← hseen, List.length_take] at this
        simp at this; omega
      obtain ⟨m, hm⟩ : ∃ m, m = seen.length := ⟨_, rfl⟩
      obtain ⟨as0, cs, rfl⟩ := row_shape hO
      have q0 : (0 : Int) ≤ (i : Int) := by omega
      have q1 : (i : Int) < (n : Int) := by omega
      have HO : Hid _ := And.intro hO (And.intro hA (And.intro hseen (And.intro hz hm)))
      rw [← hm]
      rw [← hm] at hsl
      clear hO hA hseen hz hm c0
      go_wp2_with fail
      go_loopg [6] m (fun q kv wr => ∃ (k d : Nat), q = m - k ∧ k ≤ m ∧ kv = .int .i64 k ∧ wr = wq.drewN d ∧ ∀ x ∈ seen.take k, x ≠ z)
      case atStart => exact ⟨0, 0, rfl, Nat.zero_le _, rfl, rfl, fun x hx => by simp at hx⟩
      case round =>
        obtain ⟨k, d, rfl, hk, rfl, rfl, hne⟩ := hrel
        have HN : Hid _ := hne
        clear hne
        by_cases hkm : k < m
        · obtain ⟨s, hs⟩ : ∃ s, seen[k]? = some s := ⟨seen[k]'(by have := HO.out.2.2.2.2; omega), List.getElem?_eq_getElem _⟩
          obtain ⟨ao2, cap2, hv2, hc2⟩ := HO.out.1.has
          injection hv2 with e1 e2 e3
          subst e1
          obtain ⟨b, rfl, cs0⟩ := hc2 k s hs
          have p0 : (0 : Int) ≤ (k : Int) := by omega
          have p1 : (k : Int) < (m : Int) := by omega
          have p2 : decide ((k : Int) < (m : Int)) = true := decide_eq_true p1
          have HS : Hid (seen[k]? = some s) := hs
          clear hs hc2 e2 e3
          by_cases hsz : s = z
          · have e1 : (s != z) = false := by simp [hsz]
            have hpl : Sy.place z seen = k := by
              have h1 := List.take_append_drop k seen
              have h2 : seen.drop k = s :: seen.drop (k + 1) := by
                obtain ⟨hl, rfl⟩ := List.getElem?_eq_some_iff.1 HS.out
                exact List.drop_eq_getElem_cons hl
              rw [← h1, Sy.place_app z _ _ HN.out, h2]
              simp only [Sy.place, if_pos hsz, List.length_take]
              have := HO.out.2.2.2.2
              omega
            have p3 : ((k : Int) == (m : Int)) = false := by simp; omega
            have cx := (HO.out.2.1).cell (i := i) (x := .int .i64 0) (by
              rw [List.getElem?_append_right (by rw [natC_len, Sy.canonG_len, List.length_take]; omega), natC_len, Sy.canonG_len, List.length_take, List.getElem?_replicate, if_pos (by have := HH.out.2; omega)])
            have cf := (HO.out.2.1).free i
            have HP : Hid _ := And.intro hpl hsz
            clear hpl hsz
            go_wp2_with fail
            go_quiet (fail)
            rw [World.drewN_drewN]
            go_wp2
            go_roundg (n - (i + 1))
            case measure => omega
            case rel =>
              have hC : (Sy.canonG [] (zs.take i)).length = i := by rw [Sy.canonG_len, List.length_take]; have := HH.out.2; omega
              have hAs := (HO.out.2.1.below (below_drewN (Below.refl _ _) (d + nq))).set i (.int .i64 (k : Int))
              rw [natC_step _ n i k hC hlt] at hAs
              refine ⟨i + 1, seen, rfl, by omega, by go_num, ?_, ?_, ?_⟩
              · rw [Sy.seen_step HO.out.2.2.2.1, ← HO.out.2.2.1, if_pos (by rw [HP.out.1]; have := HO.out.2.2.2.2; omega)]
              · have hO1 := HO.out.1
                rw [← HO.out.2.2.2.2] at hO1
                refine trow_at (w' := (wq.drewN (d + nq)).setCell ⟨w.heap.size, i, none⟩ (.int .i64 (k : Int))) hO1 fun b hb => ?_
                rw [set_other _ _ _ _ _ (by have := (hO1.lt b hb).1; omega)]
                rfl
              · rw [Sy.canon_step HO.out.2.2.2.1, ← HO.out.2.2.1, HP.out.1]
                exact hAs
          · have e1 : (s != z) = true := by simpa using hsz
            have HZ : Hid (¬ s = z) := hsz
            clear hsz
            go_wp2_with fail
            go_quiet (fail)
            rw [World.drewN_drewN]
            go_wp2
            go_roundg (m - (k + 1))
            case measure => omega
            case rel => exact ⟨k + 1, _, rfl, by omega, by go_num, rfl, fun x hx => by
              rw [take_succ_of HS.out] at hx
              rcases List.mem_append.1 hx with hx | hx
              · exact HN.out x hx
              · rw [List.mem_singleton.1 hx]; exact HZ.out⟩
        · obtain rfl : k = m := by omega
          have p1 : ¬ (k : Int) < (k : Int) := by omega
          have p2 : decide ((k : Int) < (k : Int)) = false := decide_eq_false p1
          have p3 : ((k : Int) == (k : Int)) = true := by simp
          have hpl : Sy.place z seen = k := by
            have h1 := HN.out
            rw [List.take_of_length_le (by have := HO.out.2.2.2.2; omega)] at h1
            have h2 := Sy.place_app z seen [] h1
            rw [List.append_nil] at h2
            rw [h2]; simp [Sy.place]; exact HO.out.2.2.2.2.symm
          have hml : k + 1 ≤ maxLen := by unfold maxLen; omega
          have hby : (k + 1) * 8 ≤ 140737488355328 := by omega
          have HP : Hid _ := hpl
          clear hpl
          go_wp2_with fail
          go_quiet (fail)
          rw [World.drewN_drewN]
          obtain ⟨wz, hwz⟩ : ∃ wz, wz = wq.drewN (d + nq) := ⟨_, rfl⟩
          have hbz : Below wq.heap.size wq wz := by rw [hwz]; exact below_drewN (Below.refl _ _) _
          have cz2 : wz.cell? (a.add i) = some (.int .i64 z) := (hbz.cell (World.block_lt_of_cell? wq _ cz)).trans cz
          have hAz := HO.out.2.1.below hbz
          have hOz : wz.ownsRow (w.heap.size + 1) 3 1 (.slice as0 k cs) k (iC seen) := by have h1 := trow_at (w' := wz) HO.out.1 fun b hb => hbz.block b (HO.out.1.lt b hb).2; rw [← HO.out.2.2.2.2] at h1; exact h1
          rw [← hwz]
          have hle : w.heap.size + 1 ≤ (wz.alloc (.cells #[.int .i64 z] 3)).heap.size := by have := hAz.lt; simp; omega
          have HZ : Hid _ := And.intro hAz hOz
          clear hwz hbz hAz hOz cz
          go_wp2_with (at_builtin; refine wpList_append_own_at _ rfl _ _ 50 rfl (w.heap.size + 1) 3 i0 (.int .i64 0) 1 8 Tryz.underlying50 hi0 hz0 hz1 hz2 rfl (by decide) (.slice as0 k cs) k (iC seen) rfl (HZ.out.2.alloc _) ⟨wz.heap.size, 0, none⟩ 1 1 [.int .i64 z] rfl rfl (World.news_of_block (cs := #[.int .i64 z]) (t := 3) (fr := (0, 0)) (heap_alloc_new wz _)) (by simp [Value.oneCell']) hml hby hle ?_; intro v2 w2 hown2 hgrow2 hnil2 hat2; have hA2 : Arr 3 w w2 w.heap.size (natC (Sy.canonG [] (zs.take i)) ++ List.replicate (n - i) (.int .i64 0)) := HZ.out.1.kept (grown_alloc hgrow2) (fun b hb => by have := (HZ.out.2.lt b hb).1; omega); have cx := hA2.cell (i := i) (x := .int .i64 0) (by rw [List.getElem?_append_right (by rw [natC_len, Sy.canonG_len, List.length_take]; omega), natC_len, Sy.canonG_len, List.length_take, List.getElem?_replicate, if_pos (by have := HH.out.2; omega)]); have cf := hA2.free i; have H2 : Hid _ := And.intro hown2 hA2; clear hown2 hgrow2 hnil2 hat2 hA2)
          go_roundg (n - (i + 1))
          case measure => omega
          case rel =>
            have hC : (Sy.canonG [] (zs.take i)).length = i := by rw [Sy.canonG_len, List.length_take]; have := HH.out.2; omega
            have hAs := H2.out.2.set i (.int .i64 (k : Int))
            rw [natC_step _ n i k hC hlt] at hAs
            refine ⟨i + 1, seen ++ [z], rfl, by omega, by go_num, ?_, ?_, ?_⟩
            · rw [Sy.seen_step HO.out.2.2.2.1, ← HO.out.2.2.1, if_neg (by rw [HP.out]; have := HO.out.2.2.2.2; omega)]
            · have h1 : w2.ownsRow (w.heap.size + 1) 3 1 v2 (k + 1) (iC seen ++ [.int .i64 z]) := H2.out.1
              have h2 : OwnI w2 (w.heap.size + 1) v2 (seen ++ [z]) := by unfold OwnI; rw [iC_snoc, List.length_append, ← HO.out.2.2.2.2]; exact h1
              exact trow_at h2 fun b hb => set_other _ _ _ _ _ (by have := (h2.lt b hb).1; omega)
            · rw [Sy.canon_step HO.out.2.2.2.1, ← HO.out.2.2.1, HP.out]
              exact hAs
    · obtain rfl : i = n := by omega
      have q1 : ¬ (i : Int) < (i : Int) := by omega
      have HA : Hid _ := hA
      clear hA hO hseen
      go_wp2_with fail
      go_ret
      have hzt : zs.take i = zs := List.take_of_length_le (by have := HH.out.2; omega)
      have h1 := HA.out.own (by rw [List.length_append, natC_len, Sy.canonG_len, List.length_replicate, List.length_take]; unfold maxLen; omega)
      rw [hzt, Nat.sub_self, List.replicate_zero, List.append_nil, natC_len, Sy.canonG_len, ← HH.out.2] at h1
      refine ⟨_, rfl, ?_, HA.out.bl⟩
      unfold OwnI
      rw [iC_nat]
      have h2 : (natI (Sy.canon zs)).length = i := by unfold natI Sy.canon; rw [List.length_map, Sy.canonG_len]; exact HH.out.2.symm
      rw [h2]
      exact h1
end Go.Proofs.YtibdgefjpcebkaaGreatDoor
/- Contracts of the document's Together and Classes. -/
namespace Go.Proofs.YtibdgefjpcebkaaGreatDoor
open Go.RowKit Go.Maps
attribute [local go_sem ↓] Go.wp_at_zero Go.wp_at_succ
def Sy.classes (n : Int) (zs : List Int) : Bool := decide ((zs.length : Int) = n) && Sy.formG 0 zs
end Go.Proofs.YtibdgefjpcebkaaGreatDoor
/- What the program's functions of chapter 7 answer: the contracts that the laws lean on. -/
namespace Go.Proofs.YtibdgefjpcebkaaGreatDoor
open Go.RowKit Go.Maps
def I64s (zs : List Int) : Prop := ∀ z ∈ zs, (Lit.int .i64 z).wf = true
def PCanon : Prop := ∀ (v : Value) (zs : List Int) (W : World), HasI W v zs → zs.length ≤ 100000 → I64s zs → Calls Tryz.prog 30 #[v] W fun r w' => ∃ u, r = .returned u ∧ OwnI w' W.heap.size u (natI (Sy.canon zs)) ∧ Below W.heap.size W w'
theorem rg_b {w2 W : World} {P : Prop} (h : P ∧ Hid (Below w2.heap.size w2 W)) : Below w2.heap.size w2 W := h.2.out
theorem rg_up4 {w2 wa wb : World} {a0 a1 a2 a3 : Addr} {x0 x1 x2 x3 : Value} (hb : Below wa.heap.size wa wb) (h : (wa.cell? a0 = some x0 ∧ wa.cell? a1 = some x1 ∧ wa.cell? a2 = some x2 ∧ wa.cell? a3 = some x3) ∧ Hid (Below w2.heap.size w2 wa)) : (wb.cell? a0 = some x0 ∧ wb.cell? a1 = some x1 ∧ wb.cell? a2 = some x2 ∧ wb.cell? a3 = some x3) ∧ Hid (Below w2.heap.size w2 wb) :=
  have up : ∀ {a : Addr} {x : Value}, wa.cell? a = some x → wb.cell? a = some x := fun c => (hb.cell (World.block_lt_of_cell? wa _ c)).trans c
  ⟨⟨up h.1.1, up h.1.2.1, up h.1.2.2.1, up h.1.2.2.2⟩, (h.2.out.trans (hb.mono h.2.out.size) : Below w2.heap.size w2 wb)⟩
end Go.Proofs.YtibdgefjpcebkaaGreatDoor
/- Contracts of the program's Check and what it calls. -/
namespace Go.Proofs.YtibdgefjpcebkaaGreatDoor
open Go.RowKit Go.Maps
attribute [local go_sem ↓] Go.wp_at_zero Go.wp_at_succ
theorem sysFault_any (a : Addr) (w : World) : Calls Tryz.prog 141 #[.iface 240 (.pointer (some a))] w fun r w' => ∃ x, r = .returned x ∧ Chain w' 0 0 a [sysB] x ∧ Below w.heap.size w w' := by
  go_enter Tryz.func141, Tryz.ntmps141
  go_wp2
  go_ret
  exact ⟨_, rfl, ⟨_, _, rfl, (MapKept.heap_alloc w _).1, rfl⟩, (Below.refl _ _).alloc (Nat.le_refl _) _⟩
theorem below_any (a b : Int) (w : World) : Calls Tryz.prog 146 #[.int .i64 a, .int .i64 b] w fun r w' => r = .returned (.bool (decide (0 ≤ a ∧ a < b))) ∧ w' = w := by
  by_cases h0 : 0 ≤ a
  · by_cases h1 : a < b
    · go_enter Tryz.func146, Tryz.ntmps146
      go_wp2
      go_ret
      exact ⟨by simp [h0, h1], rfl⟩
    · go_enter Tryz.func146, Tryz.ntmps146
      go_wp2
      go_ret
      exact ⟨by simp [h1], rfl⟩
  · go_enter Tryz.func146, Tryz.ntmps146
    go_wp2
    go_ret
    exact ⟨by simp; omega, rfl⟩
set_option maxRecDepth 100000 in
set_option maxHeartbeats 4000000 in
theorem stranger_any (n k s : Int) (v : Value) (b : Nat) (x : Sy.Ed) (w : World) (hB : w.heap[b]? = some (.cells #[.int .i64 n, .int .i64 k, .int .i64 s, v] 24 (0, 0))) :
    Calls Tryz.prog 153 #[edV x, .pointer (some ⟨b, 0, none⟩)] w fun r w' => r = .returned (.bool (!edgeOk n k x)) ∧ Below w.heap.size w w' := by
  obtain ⟨b0, b1, b2, b3⟩ := four_cells hB
  have hlt := t_lt hB
  have hne : ¬ b = w.heap.size := by omega
  have hA := fun W => below_any x.1 n W
  have hT := fun W => below_any x.2.2 n W
  have hL := fun W => below_any x.2.1 k W
  have hok : edgeOk n k x = (decide (0 ≤ x.1 ∧ x.1 < n) && decide (0 ≤ x.2.2 ∧ x.2.2 < n) && decide (0 ≤ x.2.1 ∧ x.2.1 < k)) := by
    unfold edgeOk
    rw [Bool.eq_iff_iff]
    simp only [Bool.and_eq_true, decide_eq_true_eq]
    omega
  unfold edV
  rw [hok]
  generalize decide (0 ≤ x.1 ∧ x.1 < n) = pa at hA ⊢
  generalize decide (0 ≤ x.2.2 ∧ x.2.2 < n) = pt at hT ⊢
  generalize decide (0 ≤ x.2.1 ∧ x.2.1 < k) = pl at hL ⊢
  clear hok hB b2 b3
  obtain ⟨x0, x1, x2⟩ := x
  cases pa with
  | false =>
    go_enter Tryz.func153, Tryz.ntmps153
    go_wp2_with (go_at_call 146; refine (hA _).mono ?_; rintro r w' ⟨rfl, hw⟩; obtain rfl := hw.symm)
    go_ret
    exact ⟨rfl, (Below.refl _ _).alloc (Nat.le_refl _) _⟩
  | true =>
    cases pt with
    | false =>
      go_enter Tryz.func153, Tryz.ntmps153
      go_wp2_with fail
      refine (hA _).mono ?_
      rintro r w1 ⟨rfl, hw⟩; obtain rfl := hw.symm
      go_wp2_with fail
      refine (hT _).mono ?_
      rintro r w1 ⟨rfl, hw⟩; obtain rfl := hw.symm
      go_wp2
      go_ret
      exact ⟨rfl, (Below.refl _ _).alloc (Nat.le_refl _) _⟩
    | true =>
      go_enter Tryz.func153, Tryz.ntmps153
      go_wp2_with fail
      refine (hA _).mono ?_
      rintro r w1 ⟨rfl, hw⟩; obtain rfl := hw.symm
      go_wp2_with fail
      refine (hT _).mono ?_
      rintro r w1 ⟨rfl, hw⟩; obtain rfl := hw.symm
      go_wp2_with fail
      refine (hL _).mono ?_
      rintro r w1 ⟨rfl, hw⟩; obtain rfl := hw.symm
      go_wp2
      go_ret
      exact ⟨rfl, (Below.refl _ _).alloc (Nat.le_refl _) _⟩
theorem enter_str : ∀ args w, (callFunc 153 args).run Tryz.prog w = .ok (.enter 153 args) w := enters_of Tryz.func153 (by kernel_rfl) rfl
def firstBad (n k : Int) (es : List Sy.Ed) : Int := if es.all (edgeOk n k) then -1 else ((es.findIdx fun e => !edgeOk n k e : Nat) : Int)
theorem findIdx_at {es : List Sy.Ed} {p : Sy.Ed → Bool} {i : Nat} {z : Sy.Ed} (hz : es[i]? = some z) (hp : p z = true) (hall : ∀ x ∈ es.take i, p x = false) : es.findIdx p = i := by
  obtain ⟨hl, rfl⟩ := List.getElem?_eq_some_iff.1 hz
  rw [List.findIdx_eq hl]
  refine ⟨hp, fun j hj => hall _ ?_⟩
  exact List.mem_take_iff_getElem.2 ⟨j, by omega, rfl⟩
set_option maxRecDepth 100000 in
set_option maxHeartbeats 4000000 in
theorem idxBad_any (n k s : Int) (ve v : Value) (b : Nat) (es : List Sy.Ed) (w : World) (hn : es.length ≤ 100000) (hv : BEdges.Has w v es) (hB : w.heap[b]? = some (.cells #[.int .i64 n, .int .i64 k, .int .i64 s, ve] 24 (0, 0))) :
    Calls Tryz.prog 152 #[v, .func (.func 153) #[] #[.pointer (some ⟨b, 0, none⟩)]] w fun r w' => r = .returned (.int .i64 (firstBad n k es)) ∧ Below w.heap.size w w' := by
  obtain ⟨ao, cap, rfl, _⟩ := _root_.id hv
  obtain ⟨m, hm⟩ : ∃ m, m = es.length := ⟨_, rfl⟩
  have HV : Hid _ := And.intro hv (And.intro hm hB)
  rw [← hm] at hn ⊢
  clear hv hm hB
  have he := enter_str
  go_enter Tryz.func152, Tryz.ntmps152
  go_wp2_with fail
  go_loopg [8] m (fun q iv wr => ∃ i : Nat, q = m - i ∧ i ≤ m ∧ iv = .int .i64 i ∧ Below w.heap.size w wr ∧ ∀ x ∈ es.take i, (!edgeOk n k x) = false)
  case atStart => exact ⟨0, rfl, Nat.zero_le _, rfl, Below.refl _ _, fun x hx => by simp at hx⟩
  case round =>
    obtain ⟨i, rfl, hi, rfl, hb, hall⟩ := hrel
    by_cases hlt : i < m
    · obtain ⟨z, hz⟩ : ∃ z, es[i]? = some z := ⟨es[i]'(by have := HV.out.2.1; omega), List.getElem?_eq_getElem _⟩
      obtain ⟨a, rfl, z0, z1, z2⟩ := edge_at (HV.out.1.below hb) hz
      have q0 : (0 : Int) ≤ (i : Int) := by omega
      have q1 : (i : Int) < (m : Int) := by omega
      have hC := stranger_any n k s ve b z wr ((hb.block b (t_lt HV.out.2.2)).trans HV.out.2.2)
      unfold edV at hC
      have HB : Hid _ := And.intro hb (And.intro hall hz)
      clear hb hall hz
      cases hq : (!edgeOk n k z) with
      | true =>
        rw [hq] at hC
        have HQ : Hid _ := hq
        clear hq
        go_wp2_with (go_at_fn 153; refine hC.mono ?_; rintro r w1 ⟨rfl, hb1⟩)
        go_ret
        refine ⟨?_, HB.out.1.trans (hb1.mono HB.out.1.size)⟩
        have hf := findIdx_at HB.out.2.2 HQ.out HB.out.2.1
        have hna : es.all (edgeOk n k) = false := by
          rw [List.all_eq_false]
          exact ⟨z, List.mem_of_getElem? HB.out.2.2, by have := HQ.out; simpa using this⟩
        unfold firstBad
        rw [hna, hf]
        rfl
      | false =>
        rw [hq] at hC
        have HQ : Hid _ := hq
        clear hq
        go_wp2_with (go_at_fn 153; refine hC.mono ?_; rintro r w1 ⟨rfl, hb1⟩)
        go_roundg (m - (i + 1))
        case measure => omega
        case rel =>
          refine ⟨i + 1, rfl, by omega, by go_num, HB.out.1.trans (hb1.mono HB.out.1.size), fun x hx => ?_⟩
          rw [take_succ_of HB.out.2.2] at hx
          rcases List.mem_append.1 hx with hx | hx
          · exact HB.out.2.1 x hx
          · rw [List.mem_singleton.1 hx]; exact HQ.out
    · have HB : Hid _ := And.intro hb hall
      clear hb hall
      have q1 : ¬ (i : Int) < (m : Int) := by omega
      go_wp2
      go_ret
      refine ⟨?_, HB.out.1⟩
      have hal : es.all (edgeOk n k) = true := by
        rw [List.all_eq_true]
        intro x hx
        have h1 := HB.out.2 x (by rw [List.take_of_length_le (by have := HV.out.2.1; omega)]; exact hx)
        simpa using h1
      unfold firstBad
      rw [hal]
      rfl
set_option maxRecDepth 100000 in
set_option maxHeartbeats 1000000 in
theorem hasBad_any (n k s : Int) (ve v : Value) (b : Nat) (es : List Sy.Ed) (w : World) (hn : es.length ≤ 100000) (hv : BEdges.Has w v es) (hB : w.heap[b]? = some (.cells #[.int .i64 n, .int .i64 k, .int .i64 s, ve] 24 (0, 0))) :
    Calls Tryz.prog 139 #[v, .func (.func 153) #[] #[.pointer (some ⟨b, 0, none⟩)]] w fun r w' => r = .returned (.bool (!es.all (edgeOk n k))) ∧ Below w.heap.size w w' := by
  have hC := idxBad_any n k s ve v b es w hn hv hB
  have hd : (!es.all (edgeOk n k)) = decide (0 ≤ firstBad n k es) := by
    unfold firstBad
    cases es.all (edgeOk n k) <;> simp
  rw [hd]
  generalize firstBad n k es = c at hC ⊢
  clear hd hB hv
  by_cases h : 0 ≤ c
  all_goals
    go_enter Tryz.func139, Tryz.ntmps139
    go_wp2_with (go_at_call 152; refine hC.mono ?_; rintro r w1 ⟨rfl, hb1⟩)
    go_ret
    exact ⟨by simp [h], hb1⟩
theorem mkStr_any (n k s : Int) (v : Value) (w : World) : Calls Tryz.prog 140 #[sysV n k s v] w fun r w' => r = .returned (.func (.func 153) #[] #[.pointer (some ⟨w.heap.size, 0, none⟩)]) ∧ w' = w.alloc (.cells #[.int .i64 n, .int .i64 k, .int .i64 s, v] 24) := by
  unfold sysV
  go_enter Tryz.func140, Tryz.ntmps140
  go_wp2
  go_ret
  exact ⟨rfl, rfl⟩
def SErr (a : Addr) (w : World) (ok : Bool) (x : Value) : Prop := if ok = true then x = .nilIface else Chain w 0 0 a [sysB] x
def chkA (n k s : Int) (m : Nat) : Bool := decide (0 ≤ n ∧ n ≤ 1000) && decide (1 ≤ k ∧ k ≤ 201) && decide (0 ≤ s ∧ s < max n 1) && decide (m ≤ 10000)
theorem right_eq (n k s : Int) (es : List Sy.Ed) : Sy.right n k s es = (chkA n k s es.length && es.all (edgeOk n k)) := by
  unfold Sy.right chkA edgeOk
  rw [Bool.eq_iff_iff]
  simp only [Bool.and_eq_true, decide_eq_true_eq]
  constructor
  · rintro ⟨⟨h1, h2⟩, h3⟩
    refine ⟨⟨⟨⟨⟨h1.1, h1.2.1⟩, h1.2.2.1, h1.2.2.2.1⟩, ?_⟩, h1.2.2.2.2⟩, h3⟩
    rcases Int.lt_or_eq_of_le h1.1 with h | h
    · have := h2.2 h; omega
    · have := h2.1 h.symm; omega
  · rintro ⟨⟨⟨⟨h1, h2⟩, h3⟩, h4⟩, h5⟩
    exact ⟨⟨⟨h1.1, h1.2, h2.1, h2.2, h4⟩, ⟨fun e => by omega, fun e => by omega⟩⟩, h5⟩
set_option maxRecDepth 100000 in
set_option maxHeartbeats 4000000 in
theorem check_early (n k s : Int) (ao : Option Addr) (m cap : Nat) (a : Addr) (w : World) (hS : Sent w 14 a) (h : chkA n k s m = false) :
    Calls Tryz.prog 129 #[sysV n k s (.slice ao m cap)] w fun r w' => ∃ x, r = .returned x ∧ Chain w' 0 0 a [sysB] x ∧ Below w.heap.size w w' := by
  unfold sysV
  have hg : (w.alloc (.cells #[.int .i64 n, .int .i64 k, .int .i64 s, .slice ao m cap] 24)).cell? ⟨14, 0, none⟩ = some (.iface 240 (.pointer (some a))) := (((Below.refl _ w).alloc (Nat.le_refl _) _).cell (World.block_lt_of_cell? w _ hS.1)).trans hS.1
  have hF := sysFault_any a (w.alloc (.cells #[.int .i64 n, .int .i64 k, .int .i64 s, .slice ao m cap] 24))
  have hb0 : Hid (Below w.heap.size w (w.alloc (.cells #[.int .i64 n, .int .i64 k, .int .i64 s, .slice ao m cap] 24))) := (Below.refl _ w).alloc (Nat.le_refl _) _
  have hc : ¬ 0 ≤ n ∨ 0 ≤ n ∧ ¬ n ≤ 1000 ∨ (0 ≤ n ∧ n ≤ 1000) ∧ (¬ 1 ≤ k ∨ 1 ≤ k ∧ ¬ k ≤ 201 ∨ (1 ≤ k ∧ k ≤ 201) ∧ (s < 0 ∨ 0 ≤ s ∧ (n < 1 ∧ 1 ≤ s) ∨ 0 ≤ s ∧ (¬ n < 1 ∧ n ≤ s) ∨ 0 ≤ s ∧ (n < 1 ∧ ¬ 1 ≤ s) ∧ (10000 : Int) < (m : Int) ∨ 0 ≤ s ∧ (¬ n < 1 ∧ ¬ n ≤ s) ∧ (10000 : Int) < (m : Int))) := by
    unfold chkA at h
    simp only [Bool.and_eq_false_iff, decide_eq_false_iff_not] at h
    omega
  clear h hS
  rcases hc with h | ⟨h1, h2⟩ | ⟨⟨h1, h2⟩, h | ⟨h3, h4⟩ | ⟨⟨h3, h4⟩, h | ⟨h5, h6, h7⟩ | ⟨h5, h6, h7⟩ | ⟨h5, ⟨h6, h7⟩, h8⟩ | ⟨h5, ⟨h6, h7⟩, h8⟩⟩⟩
  all_goals
    go_enter Tryz.func129, Tryz.ntmps129
    go_wp2_with (go_at_call 141; refine hF.mono ?_; rintro r w1 ⟨x, rfl, hC, hb1⟩; have HC : Hid _ := And.intro hC hb1; clear hC hb1)
    go_ret
    exact ⟨x, rfl, HC.out.1, hb0.out.trans (HC.out.2.mono hb0.out.size)⟩
set_option maxRecDepth 100000 in
set_option maxHeartbeats 4000000 in
theorem check_late (n k s : Int) (v : Value) (es : List Sy.Ed) (a : Addr) (w : World) (hS : Sent w 14 a) (hv : BEdges.Has w v es) (h : chkA n k s es.length = true) :
    Calls Tryz.prog 129 #[sysV n k s v] w fun r w' => ∃ x, r = .returned x ∧ SErr a w' (es.all (edgeOk n k)) x ∧ Below w.heap.size w w' := by
  obtain ⟨w0, hw0⟩ : ∃ w0, w0 = w.alloc (.cells #[.int .i64 n, .int .i64 k, .int .i64 s, v] 24) := ⟨_, rfl⟩
  have hb0 : Below w.heap.size w w0 := by rw [hw0]; exact (Below.refl _ _).alloc (Nat.le_refl _) _
  have hg0 : w0.heap[w.heap.size]? = some (.cells #[.int .i64 n, .int .i64 k, .int .i64 s, v] 24 (0, 0)) := by rw [hw0]; exact heap_alloc_new w _
  obtain ⟨ao, cap, rfl, _⟩ := _root_.id hv
  obtain ⟨m, hm⟩ : ∃ m, m = es.length := ⟨_, rfl⟩
  rw [← hm] at h hg0 hw0 hv ⊢
  have hc : (0 ≤ n ∧ n ≤ 1000) ∧ (1 ≤ k ∧ k ≤ 201) ∧ (0 ≤ s ∧ (n < 1 ∧ ¬ 1 ≤ s ∨ ¬ n < 1 ∧ ¬ n ≤ s)) ∧ m ≤ 10000 := by
    unfold chkA at h
    simp only [Bool.and_eq_true, decide_eq_true_eq] at h
    omega
  obtain ⟨⟨h1, h2⟩, ⟨h3, h4⟩, ⟨h5, h6⟩, h7⟩ := hc
  have h8 : ¬ (10000 : Int) < (m : Int) := by omega
  obtain ⟨x0, x1, x2, x3⟩ := four_cells hg0
  have hM : ∀ W, Below w0.heap.size w0 W → Calls Tryz.prog 140 #[sysV n k s (.slice ao m cap)] W fun r w' => ∃ b, r = .returned (.func (.func 153) #[] #[.pointer (some ⟨b, 0, none⟩)]) ∧ w'.heap[b]? = some (.cells #[.int .i64 n, .int .i64 k, .int .i64 s, .slice ao m cap] 24 (0, 0)) ∧ Below W.heap.size W w' := fun W _ => (mkStr_any n k s _ W).mono fun r w' ⟨hr, hw⟩ => ⟨_, hr, by rw [hw]; exact heap_alloc_new W _, by rw [hw]; exact (Below.refl _ _).alloc (Nat.le_refl _) _⟩
  have hC : ∀ W b, Below w0.heap.size w0 W → W.heap[b]? = some (.cells #[.int .i64 n, .int .i64 k, .int .i64 s, .slice ao m cap] 24 (0, 0)) → Calls Tryz.prog 139 #[.slice ao m cap, .func (.func 153) #[] #[.pointer (some ⟨b, 0, none⟩)]] W fun r w' => r = .returned (.bool (!es.all (edgeOk n k))) ∧ Below W.heap.size W w' := fun W b hb hB => hasBad_any n k s _ _ b es W (by omega) ((hv.below hb0).below hb) hB
  have HC : Hid _ := And.intro hM hC
  have HB : Hid _ := And.intro hb0 hS
  have HW : Hid (w0 = w.alloc (.cells #[.int .i64 n, .int .i64 k, .int .i64 s, .slice ao m cap] 24)) := hw0
  clear hw0
  unfold sysV at HC ⊢
  generalize hq : es.all (edgeOk n k) = q at HC ⊢
  clear hM hC hv hb0 hg0 hm h hS hq
  rcases h6 with ⟨h6, h9⟩ | ⟨h6, h9⟩
  all_goals
    cases q with
    | true =>
      go_enter Tryz.func129, Tryz.ntmps129
      go_upto_region 5 with fail
      rw [← HW.out]
      go_region_held3 (fun w' => (w'.cell? ⟨w.heap.size, 0, none⟩ = some (.int .i64 n) ∧ w'.cell? ⟨w.heap.size, 1, none⟩ = some (.int .i64 k) ∧ w'.cell? ⟨w.heap.size, 2, none⟩ = some (.int .i64 s) ∧ w'.cell? ⟨w.heap.size, 3, none⟩ = some (.slice ao m cap)) ∧ Hid (Below w0.heap.size w0 w')) (first | exact rg_up4 hb3 (by assumption) | exact ⟨⟨x0, x1, x2, x3⟩, ((Below.refl _ _).drew : Below w0.heap.size w0 w0.drew)⟩ | go_keep)
        ((first
          | (go_at_call 140; refine (HC.out.1 _ (rg_b (by assumption))).mono ?_; rintro r w3 ⟨b3, rfl, hB3, hb3⟩)
          | (go_at_call 139; refine (HC.out.2 _ _ (rg_b (by assumption)) hB3).mono ?_; rintro r w3 ⟨rfl, hb3⟩)
          | fail))
      all_goals
        have HF : Hid (Below w0.heap.size w0 w3) := (rg_b (by assumption) : Below w0.heap.size w0 w3)
        clear hb3
        go_wp2_with fail
        go_ret
        exact ⟨_, rfl, by simp [SErr], HB.out.1.trans (HF.out.mono HB.out.1.size)⟩
    | false =>
      go_enter Tryz.func129, Tryz.ntmps129
      go_upto_region 5 with fail
      rw [← HW.out]
      go_region_held3 (fun w' => (w'.cell? ⟨w.heap.size, 0, none⟩ = some (.int .i64 n) ∧ w'.cell? ⟨w.heap.size, 1, none⟩ = some (.int .i64 k) ∧ w'.cell? ⟨w.heap.size, 2, none⟩ = some (.int .i64 s) ∧ w'.cell? ⟨w.heap.size, 3, none⟩ = some (.slice ao m cap)) ∧ Hid (Below w0.heap.size w0 w')) (first | exact rg_up4 hb3 (by assumption) | exact ⟨⟨x0, x1, x2, x3⟩, ((Below.refl _ _).drew : Below w0.heap.size w0 w0.drew)⟩ | go_keep)
        ((first
          | (go_at_call 140; refine (HC.out.1 _ (rg_b (by assumption))).mono ?_; rintro r w3 ⟨b3, rfl, hB3, hb3⟩)
          | (go_at_call 139; refine (HC.out.2 _ _ (rg_b (by assumption)) hB3).mono ?_; rintro r w3 ⟨rfl, hb3⟩)
          | fail))
      all_goals
        have hbw : Below w0.heap.size w0 w3 := rg_b (by assumption)
        have hS3 := (HB.out.2.below HB.out.1).below hbw
        have hg := hS3.1
        have HF : Hid (Below w0.heap.size w0 w3) := hbw
        have hFl := sysFault_any a w3
        clear hb3 hbw hS3
        go_wp2_with (go_at_call 141; refine hFl.mono ?_; rintro r w4 ⟨x, rfl, hC4, hb4⟩; have HC4 : Hid _ := And.intro hC4 hb4; clear hC4 hb4)
        go_ret
        exact ⟨x, rfl, by simpa [SErr] using HC4.out.1, (HB.out.1.trans (HF.out.mono HB.out.1.size)).trans (HC4.out.2.mono (by have := HB.out.1.size; have := HF.out.size; omega))⟩
theorem check_any (n k s : Int) (v : Value) (es : List Sy.Ed) (a : Addr) (w : World) (hS : Sent w 14 a) (hv : BEdges.Has w v es) :
    Calls Tryz.prog 129 #[sysV n k s v] w fun r w' => ∃ x, r = .returned x ∧ SErr a w' (Sy.right n k s es) x ∧ Below w.heap.size w w' := by
  rw [right_eq]
  cases h : chkA n k s es.length with
  | true =>
    rw [Bool.true_and]
    exact check_late n k s v es a w hS hv h
  | false =>
    obtain ⟨ao, cap, rfl, _⟩ := _root_.id hv
    refine (check_early n k s ao es.length cap a w hS h).mono fun r w' ⟨x, hr, hC, hb⟩ => ⟨x, hr, by simpa [SErr] using hC, hb⟩
end Go.Proofs.YtibdgefjpcebkaaGreatDoor
/- Contracts of cmp's Compare and Or at ints, of the program's views and their comparison. -/
namespace Go.Proofs.YtibdgefjpcebkaaGreatDoor
open Go.RowKit Go.Maps
attribute [local go_sem ↓] Go.wp_at_zero Go.wp_at_succ
def cmpI (a b : Int) : Int := if a < b then -1 else if b < a then 1 else 0
theorem isNaN_any (a : Int) (w : World) : Calls Tryz.prog 164 #[.int .i64 a] w fun r w' => r = .returned (.bool false) ∧ w' = w := by
  have e : (a != a) = false := by simp
  go_enter Tryz.func164, Tryz.ntmps164
  go_wp2
  go_ret
  exact ⟨by simp, rfl⟩
set_option maxRecDepth 100000 in
theorem cmpI_any (a b : Int) (w : World) : Calls Tryz.prog 145 #[.int .i64 a, .int .i64 b] w fun r w' => r = .returned (.int .i64 (cmpI a b)) ∧ w' = w := by
  have hN := fun (x : Int) (W : World) => isNaN_any x W
  have HN : Hid _ := hN
  clear hN
  by_cases h1 : a < b
  · go_enter Tryz.func145, Tryz.ntmps145
    go_wp2_with (go_at_call 164; refine (HN.out _ _).mono ?_; rintro r w' ⟨rfl, hw⟩; obtain rfl := hw.symm)
    go_ret
    exact ⟨by simp [cmpI, h1], rfl⟩
  · by_cases h2 : b < a
    · go_enter Tryz.func145, Tryz.ntmps145
      go_wp2_with (go_at_call 164; refine (HN.out _ _).mono ?_; rintro r w' ⟨rfl, hw⟩; obtain rfl := hw.symm)
      go_ret
      exact ⟨by simp [cmpI, h1, h2], rfl⟩
    · go_enter Tryz.func145, Tryz.ntmps145
      go_wp2_with (go_at_call 164; refine (HN.out _ _).mono ?_; rintro r w' ⟨rfl, hw⟩; obtain rfl := hw.symm)
      go_ret
      exact ⟨by simp [cmpI]; split <;> (try split) <;> omega, rfl⟩
def orI (a b c : Int) : Int := if a = 0 then if b = 0 then c else b else a
set_option maxRecDepth 100000 in
set_option maxHeartbeats 1000000 in
theorem orI_any (g : Nat) (a b c : Int) (w : World) (hg : w.heap[g]? = some (.cells #[.int .i64 a, .int .i64 b, .int .i64 c] 3 (0, 0))) : Calls Tryz.prog 144 #[.slice (some ⟨g, 0, none⟩) 3 3] w fun r w' => r = .returned (.int .i64 (orI a b c)) ∧ w' = w := by
  have c0 : w.cell? ⟨g, 0, none⟩ = some (.int .i64 a) := cell0_of hg rfl
  have c1 : w.cell? ⟨g, 1, none⟩ = some (.int .i64 b) := cell0_of hg rfl
  have c2 : w.cell? ⟨g, 2, none⟩ = some (.int .i64 c) := cell0_of hg rfl
  have cs : ∀ (i : Nat) (z : Int), [a, b, c][i]? = some z → w.cell? ⟨g, i, none⟩ = some (.int .i64 z) := fun i z h => by
    match i, h with
    | 0, h => simp at h; rw [← h]; exact c0
    | 1, h => simp at h; rw [← h]; exact c1
    | 2, h => simp at h; rw [← h]; exact c2
    | i + 3, h => simp at h
  have HC : Hid _ := cs
  clear cs hg c0 c1 c2
  go_enter Tryz.func144, Tryz.ntmps144
  go_wp2_with fail
  go_loopg [8] 3 (fun q iv wr => ∃ i : Nat, q = 3 - i ∧ i ≤ 3 ∧ iv = .int .i64 i ∧ wr = w ∧ ∀ x ∈ [a, b, c].take i, x = 0)
  case atStart => exact ⟨0, rfl, by omega, rfl, rfl, fun x hx => by simp at hx⟩
  case round =>
    obtain ⟨i, rfl, hi, rfl, rfl, hz⟩ := hrel
    by_cases hlt : i < 3
    · obtain ⟨z, hz1⟩ : ∃ z, [a, b, c][i]? = some z := ⟨[a, b, c][i]'(by simp; omega), List.getElem?_eq_getElem _⟩
      have cz := HC.out i z hz1
      have q0 : (0 : Int) ≤ (i : Int) := by omega
      have q1 : (i : Int) < 3 := by omega
      have HZ : Hid _ := And.intro hz hz1
      clear hz hz1
      by_cases h0 : z = 0
      · have e0 : (z != 0) = false := by simp [h0]
        have HE : Hid _ := h0
        clear h0
        go_wp2
        go_roundg (3 - (i + 1))
        case measure => omega
        case rel =>
          refine ⟨i + 1, rfl, by omega, by go_num, rfl, fun x hx => ?_⟩
          rw [take_succ_of HZ.out.2] at hx
          rcases List.mem_append.1 hx with hx | hx
          · exact HZ.out.1 x hx
          · rw [List.mem_singleton.1 hx]; exact HE.out
      · have e0 : (z != 0) = true := by simp [h0]
        have HE : Hid _ := h0
        clear h0
        go_wp2
        go_ret
        refine ⟨?_, rfl⟩
        have h1 := HZ.out.2
        have h2 := HZ.out.1
        have h3 := HE.out
        show Ending.returned (Value.int .i64 z) = _
        congr 2
        match i, h1, h2 with
        | 0, h1, h2 => simp at h1; subst h1; unfold orI; rw [if_neg h3]
        | 1, h1, h2 => simp at h1 h2; subst h1; unfold orI; rw [if_pos h2, if_neg h3]
        | 2, h1, h2 => simp at h1 h2; subst h1; unfold orI; rw [if_pos h2.1, if_pos h2.2]
        | i + 3, h1, h2 => simp at h1
    · obtain rfl : i = 3 := by omega
      have HZ : Hid _ := hz
      clear hz
      go_wp2
      go_ret
      refine ⟨?_, rfl⟩
      have h2 := HZ.out
      simp at h2
      simp [orI, h2]
def cmpE (a b : Sy.Ed) : Int := orI (cmpI a.1 b.1) (cmpI a.2.1 b.2.1) (cmpI a.2.2 b.2.2)
theorem cmpE_lt (a b : Sy.Ed) : decide (cmpE a b < 0) = Sy.lt a b := by
  rw [Bool.eq_iff_iff, Sy.lt_iff, decide_eq_true_eq]
  unfold cmpE orI cmpI
  (repeat' split) <;> omega
def ViewAt (f : Nat) (vw : Sy.Ed → Sy.Ed) : Prop := (∀ args w, (callFunc f args).run Tryz.prog w = .ok (.enter f args) w) ∧ ∀ (x : Sy.Ed) (w : World), Calls Tryz.prog f #[edV x] w fun r w' => r = .returned (.tuple #[.int .i64 (vw x).1, .agg #[.int .i64 (vw x).2.1, .int .i64 (vw x).2.2]]) ∧ Below w.heap.size w w'
set_option maxRecDepth 100000 in
set_option maxHeartbeats 1000000 in
theorem forward_at : ViewAt 115 fun x => x := ⟨enters_of Tryz.func115 (by kernel_rfl) rfl, fun x w => by
  obtain ⟨x0, x1, x2⟩ := x
  unfold edV
  go_enter Tryz.func115, Tryz.ntmps115
  go_wp2_with fail
  go_region
  all_goals
    go_wp2_with fail
    refine bodyPost_ret (v := .tuple #[.int .i64 x0, .agg #[.int .i64 x1, .int .i64 x2]]) (by simp [results, Tryz.results115, go_sem]) rfl ⟨rfl, ?_⟩
    first | exact (by repeat (first | exact Below.refl _ _ | assumption | refine Below.drew ?_ | refine Below.setCell ?_ (by simp) _ | refine Below.alloc ?_ (by simp) _)) | exact (by repeat (first | exact Below.refl _ _ | assumption | refine Below.setCell ?_ (by simp) _ | refine Below.alloc ?_ (by simp) _ | refine Below.drew ?_))⟩
set_option maxRecDepth 100000 in
set_option maxHeartbeats 1000000 in
theorem backward_at : ViewAt 117 Sy.turn := ⟨enters_of Tryz.func117 (by kernel_rfl) rfl, fun x w => by
  obtain ⟨x0, x1, x2⟩ := x
  unfold edV
  go_enter Tryz.func117, Tryz.ntmps117
  go_wp2_with fail
  go_region
  all_goals
    go_wp2_with fail
    refine bodyPost_ret (v := .tuple #[.int .i64 x2, .agg #[.int .i64 x1, .int .i64 x0]]) (by simp [results, Tryz.results117, go_sem]) rfl ⟨rfl, ?_⟩
    first | exact (by repeat (first | exact Below.refl _ _ | assumption | refine Below.drew ?_ | refine Below.setCell ?_ (by simp) _ | refine Below.alloc ?_ (by simp) _)) | exact (by repeat (first | exact Below.refl _ _ | assumption | refine Below.setCell ?_ (by simp) _ | refine Below.alloc ?_ (by simp) _ | refine Below.drew ?_))⟩
theorem enter_cmp : ∀ args w, (callFunc 133 args).run Tryz.prog w = .ok (.enter 133 args) w := enters_of Tryz.func133 (by kernel_rfl) rfl
set_option maxRecDepth 100000 in
set_option maxHeartbeats 4000000 in
theorem compare_any (f : Nat) (vw : Sy.Ed → Sy.Ed) (hV : ViewAt f vw) (a b : Sy.Ed) (w : World) :
    Calls Tryz.prog 133 #[.func (.func f) #[] #[], edV a, edV b] w fun r w' => r = .returned (.int .i64 (cmpE (vw a) (vw b))) ∧ Below w.heap.size w w' := by
  obtain ⟨he, hv⟩ := hV
  obtain ⟨a0, a1, a2⟩ := a
  obtain ⟨b0, b1, b2⟩ := b
  obtain ⟨w0, hw0⟩ : ∃ w0, w0 = (w.alloc (.cells #[.int .i64 a0, .int .i64 a1, .int .i64 a2] 66)).alloc (.cells #[.int .i64 b0, .int .i64 b1, .int .i64 b2] 66) := ⟨_, rfl⟩
  have hb0 : Below w.heap.size w w0 := by rw [hw0]; exact ((Below.refl _ _).alloc (Nat.le_refl _) _).alloc (by simp) _
  have hgb : w0.heap[w.heap.size + 1]? = some (.cells #[.int .i64 b0, .int .i64 b1, .int .i64 b2] 66 (0, 0)) := by rw [hw0]; exact two_alloc w _ _
  have hA := hv (a0, a1, a2)
  have hB := hv (b0, b1, b2)
  unfold cmpE
  generalize vw (a0, a1, a2) = p at hA ⊢
  generalize vw (b0, b1, b2) = q at hB ⊢
  obtain ⟨p0, p1, p2⟩ := p
  obtain ⟨q0, q1, q2⟩ := q
  unfold edV at hA hB ⊢
  have HA : Hid _ := And.intro hA hB
  have H0 : Hid _ := And.intro hb0 (And.intro hgb hw0)
  clear hA hB hb0 hgb hw0 hv
  simp only at HA ⊢
  go_enter Tryz.func133, Tryz.ntmps133
  go_wp2_with fail
  rw [← H0.out.2.2]
  refine Calls.mono (HA.out.1 _) ?_
  rintro r w1 ⟨rfl, hb1⟩
  have hgb1 := (hb1.block _ (t_lt H0.out.2.1)).trans H0.out.2.1
  obtain ⟨w2, hw2⟩ : ∃ w2, w2 = (w1.alloc (.cells #[.int .i64 p1, .int .i64 p2] 115)) := ⟨_, rfl⟩
  have hb2 : Below w1.heap.size w1 w2 := by rw [hw2]; exact (Below.refl _ _).alloc (Nat.le_refl _) _
  have hg2 : w2.heap[w1.heap.size]? = some (.cells #[.int .i64 p1, .int .i64 p2] 115 (0, 0)) := by rw [hw2]; exact heap_alloc_new w1 _
  have hgb2 := (hb2.block _ (t_lt hgb1)).trans hgb1
  have c0 : (w1.alloc (.cells #[.int .i64 p1, .int .i64 p2] 115)).cell? ⟨w.heap.size + 1, 0, none⟩ = some (.int .i64 b0) := by rw [← hw2]; exact cell0_of hgb2 rfl
  have c1 : (w1.alloc (.cells #[.int .i64 p1, .int .i64 p2] 115)).cell? ⟨w.heap.size + 1, 1, none⟩ = some (.int .i64 b1) := by rw [← hw2]; exact cell0_of hgb2 rfl
  have c2 : (w1.alloc (.cells #[.int .i64 p1, .int .i64 p2] 115)).cell? ⟨w.heap.size + 1, 2, none⟩ = some (.int .i64 b2) := by rw [← hw2]; exact cell0_of hgb2 rfl
  have hbw : Below w.heap.size w w2 := (H0.out.1.trans (hb1.mono H0.out.1.size)).trans (hb2.mono (by have := H0.out.1.size; have := hb1.size; omega))
  have H1 : Hid _ := And.intro hbw (And.intro hg2 hw2)
  clear hb1 hgb1 hb2 hg2 hgb2 hw2 H0 hbw
  go_wp2_with fail
  rw [← H1.out.2.2]
  refine Calls.mono (HA.out.2 _) ?_
  rintro r w3 ⟨rfl, hb3⟩
  have hg3 := (hb3.block _ (t_lt H1.out.2.1)).trans H1.out.2.1
  obtain ⟨w4, hw4⟩ : ∃ w4, w4 = (w3.alloc (.cells #[.int .i64 q1, .int .i64 q2] 115)) := ⟨_, rfl⟩
  have hb4 : Below w3.heap.size w3 w4 := by rw [hw4]; exact (Below.refl _ _).alloc (Nat.le_refl _) _
  have hg4 : w4.heap[w3.heap.size]? = some (.cells #[.int .i64 q1, .int .i64 q2] 115 (0, 0)) := by rw [hw4]; exact heap_alloc_new w3 _
  have hp4 := (hb4.block _ (t_lt hg3)).trans hg3
  have x0 : w4.cell? ⟨w1.heap.size, 0, none⟩ = some (.int .i64 p1) := cell0_of hp4 rfl
  have x1 : w4.cell? ⟨w1.heap.size, 1, none⟩ = some (.int .i64 p2) := cell0_of hp4 rfl
  have x2 : w4.cell? ⟨w3.heap.size, 0, none⟩ = some (.int .i64 q1) := cell0_of hg4 rfl
  have x3 : w4.cell? ⟨w3.heap.size, 1, none⟩ = some (.int .i64 q2) := cell0_of hg4 rfl
  have hbw : Below w.heap.size w w4 := (H1.out.1.trans (hb3.mono H1.out.1.size)).trans (hb4.mono (by have := H1.out.1.size; have := hb3.size; omega))
  have H2 : Hid _ := And.intro hbw hw4
  have hC : ∀ (x y : Int) (W : World), Calls Tryz.prog 145 #[.int .i64 x, .int .i64 y] W fun r w' => r = .returned (.int .i64 (cmpI x y)) ∧ Below W.heap.size W w' := fun x y W => (cmpI_any x y W).mono fun r w' ⟨hr, hw⟩ => ⟨hr, by rw [hw]; exact Below.refl _ _⟩
  have hO : ∀ (x y z : Int) (W : World), Calls Tryz.prog 144 #[.slice (some ⟨W.heap.size, 0, none⟩) 3 3] (W.alloc (.cells #[.int .i64 x, .int .i64 y, .int .i64 z] 3)) fun r w' => r = .returned (.int .i64 (orI x y z)) ∧ Below (W.alloc (.cells #[.int .i64 x, .int .i64 y, .int .i64 z] 3)).heap.size (W.alloc (.cells #[.int .i64 x, .int .i64 y, .int .i64 z] 3)) w' := fun x y z W => (orI_any _ x y z _ (heap_alloc_new W _)).mono fun r w' ⟨hr, hw⟩ => ⟨hr, by rw [hw]; exact Below.refl _ _⟩
  have HC : Hid _ := And.intro hC hO
  clear hb3 hg3 hb4 hg4 hp4 hw4 hbw H1 HA c0 c1 c2 hC hO
  go_upto_region 3 with fail
  rw [← H2.out.2]
  have HB : Hid _ := H2.out.1
  clear H2
  go_region_held3 (fun w' => (w'.cell? ⟨w1.heap.size, 0, none⟩ = some (.int .i64 p1) ∧ w'.cell? ⟨w1.heap.size, 1, none⟩ = some (.int .i64 p2) ∧ w'.cell? ⟨w3.heap.size, 0, none⟩ = some (.int .i64 q1) ∧ w'.cell? ⟨w3.heap.size, 1, none⟩ = some (.int .i64 q2)) ∧ Hid (Below w4.heap.size w4 w')) (first | exact rg_up4 hb5 (by assumption) | exact rg_up4 ((Below.refl _ _).alloc (Nat.le_refl _) _) (by assumption) | exact ⟨⟨x0, x1, x2, x3⟩, ((Below.refl _ _).drew : Below w4.heap.size w4 w4.drew)⟩ | go_keep)
    ((first
      | (go_at_call 145; refine (HC.out.1 _ _ _).mono ?_; rintro r w5 ⟨rfl, hb5⟩)
      | (go_at_call 144; refine (HC.out.2 _ _ _ _).mono ?_; rintro r w5 ⟨rfl, hb5⟩)
      | fail))
  all_goals
    have HF : Hid (Below w4.heap.size w4 w5) := (rg_b (by assumption) : Below w4.heap.size w4 w5)
    clear hb5
    go_wp2_with fail
    go_ret
    exact ⟨rfl, HB.out.trans (HF.out.mono HB.out.size)⟩
end Go.Proofs.YtibdgefjpcebkaaGreatDoor
/- Rows of edges in memory that are being sorted: their cells, and an exchange of two. -/
namespace Go.Proofs.YtibdgefjpcebkaaGreatDoor
open Go.RowKit Go.Maps
def RowE (w wr : World) (g : Nat) (d : Array Sy.Ed) (rest : List Value) : Prop := Arr 66 w wr g (BEdges.C d.toList ++ rest)
theorem RowE.below {w wr w' : World} {g : Nat} {d : Array Sy.Ed} {rest : List Value} (h : RowE w wr g d rest) (hb : Below wr.heap.size wr w') : RowE w w' g d rest := Arr.below h hb
theorem getb {d : Array Sy.Ed} {j : Nat} (hj : j < d.size) : d.toList[j]? = some d[j]! := by
  rw [Array.getElem?_toList, Array.getElem?_eq_getElem hj, getElem!_pos d j hj]
theorem RowE.at {w wr : World} {g : Nat} {d : Array Sy.Ed} {rest : List Value} (h : RowE w wr g d rest) {j : Nat} {z : Sy.Ed} (hj : d.toList[j]? = some z) : wr.cell? ⟨g, j * 3, none⟩ = some (.int .i64 z.1) ∧ wr.cell? ⟨g, j * 3 + 1, none⟩ = some (.int .i64 z.2.1) ∧ wr.cell? ⟨g, j * 3 + 2, none⟩ = some (.int .i64 z.2.2) := by
  have hl : j < d.toList.length := (List.getElem?_eq_some_iff.1 hj).1
  have hc := BEdges.C_len d.toList
  have h0 := BEdges.C_at d.toList j z hj 0 (by decide)
  have h1 := BEdges.C_at d.toList j z hj 1 (by decide)
  have h2 := BEdges.C_at d.toList j z hj 2 (by decide)
  refine ⟨Arr.cell h ?_, Arr.cell h ?_, Arr.cell h ?_⟩
  · rw [List.getElem?_append_left (by omega)]; exact h0
  · rw [List.getElem?_append_left (by omega)]; exact h1
  · rw [List.getElem?_append_left (by omega)]; exact h2
theorem RowE.cells {w wr : World} {g : Nat} {d : Array Sy.Ed} {rest : List Value} (h : RowE w wr g d rest) {j : Nat} (hj : j < d.size) : wr.cell? ⟨g, j * 3, none⟩ = some (.int .i64 (d[j]!).1) ∧ wr.cell? ⟨g, j * 3 + 1, none⟩ = some (.int .i64 (d[j]!).2.1) ∧ wr.cell? ⟨g, j * 3 + 2, none⟩ = some (.int .i64 (d[j]!).2.2) := h.at (getb hj)
theorem RowE.free {w wr : World} {g : Nat} {d : Array Sy.Ed} {rest : List Value} (h : RowE w wr g d rest) (k : Nat) : wr.frozen? ⟨g, k, none⟩ = false := Arr.free h k
def st3 (w : World) (g k : Nat) (x : Sy.Ed) : World := ((w.setCell ⟨g, k * 3, none⟩ (.int .i64 x.1)).setCell ⟨g, k * 3 + 1, none⟩ (.int .i64 x.2.1)).setCell ⟨g, k * 3 + 2, none⟩ (.int .i64 x.2.2)
theorem RowE.store {w wr : World} {g : Nat} {d : Array Sy.Ed} {rest : List Value} (h : RowE w wr g d rest) {k : Nat} (hk : k < d.size) (x : Sy.Ed) : RowE w (st3 wr g k x) g (d.setIfInBounds k x) rest := by
  have h1 := ((Arr.set h (k * 3) (.int .i64 x.1)).set (k * 3 + 1) (.int .i64 x.2.1)).set (k * 3 + 2) (.int .i64 x.2.2)
  have hk' : k < d.toList.length := by simpa using hk
  have hc := BEdges.C_len d.toList
  rw [List.set_append_left _ _ (by omega), List.set_append_left _ _ (by rw [List.length_set]; omega), List.set_append_left _ _ (by rw [List.length_set, List.length_set]; omega), ← BEdges.C_set d.toList hk' x] at h1
  unfold RowE st3
  rw [Array.toList_setIfInBounds]
  exact h1
theorem RowE.swap {w wr : World} {g : Nat} {d : Array Sy.Ed} {rest : List Value} (h : RowE w wr g d rest) {i j : Nat} (hi : i < d.size) (hj : j < d.size) : RowE w (st3 (st3 wr g i d[j]!) g j d[i]!) g (Sort.swp d i j) rest :=
  (h.store hi d[j]!).store (by simpa using hj) d[i]!
def cmpV (f : Nat) : Value := .func (.func 133) #[.func (.func f) #[] #[]] #[]
def ltV (vw : Sy.Ed → Sy.Ed) (x y : Sy.Ed) : Bool := Sy.lt (vw x) (vw y)
theorem swoV (vw : Sy.Ed → Sy.Ed) : Sort.SWO (ltV vw) where
  irrefl x := Sy.lt_irrefl _
  trans x y z h1 h2 := Sy.lt_trans h1 h2
  ntrans x y z h1 h2 := by
    unfold ltV at *
    cases h : Sy.lt (vw x) (vw z) with
    | false => rfl
    | true =>
      cases h3 : Sy.lt (vw y) (vw x) with
      | true => have := Sy.lt_trans h3 h; rw [h2] at this; cases this
      | false =>
        have e := Sy.eq_of_not h1 h3
        rw [e, h2] at h
        cases h
theorem cmpV_neg (vw : Sy.Ed → Sy.Ed) (x y : Sy.Ed) : (cmpE (vw x) (vw y) < 0) ↔ ltV vw x y = true := by
  unfold ltV
  rw [← cmpE_lt]
  simp
theorem rg_up6 {w2 wa wb : World} {a0 a1 a2 a3 a4 a5 : Addr} {x0 x1 x2 x3 x4 x5 : Value} (hb : Below wa.heap.size wa wb) (h : ((wa.cell? a0 = some x0 ∧ wa.cell? a1 = some x1 ∧ wa.cell? a2 = some x2) ∧ (wa.cell? a3 = some x3 ∧ wa.cell? a4 = some x4 ∧ wa.cell? a5 = some x5)) ∧ Hid (Below w2.heap.size w2 wa)) : ((wb.cell? a0 = some x0 ∧ wb.cell? a1 = some x1 ∧ wb.cell? a2 = some x2) ∧ (wb.cell? a3 = some x3 ∧ wb.cell? a4 = some x4 ∧ wb.cell? a5 = some x5)) ∧ Hid (Below w2.heap.size w2 wb) :=
  have up : ∀ {a : Addr} {x : Value}, wa.cell? a = some x → wb.cell? a = some x := fun c => (hb.cell (World.block_lt_of_cell? wa _ c)).trans c
  ⟨⟨⟨up h.1.1.1, up h.1.1.2.1, up h.1.1.2.2⟩, ⟨up h.1.2.1, up h.1.2.2.1, up h.1.2.2.2⟩⟩, (h.2.out.trans (hb.mono h.2.out.size) : Below w2.heap.size w2 wb)⟩
theorem ins_go (lt : Sy.Ed → Sy.Ed → Bool) (a j : Nat) (d : Array Sy.Ed) (hj : a < j + 1) (hl : lt d[j + 1]! d[j]! = true) : Sort.insInner lt a (j + 1) d = Sort.insInner lt a j (Sort.swp d (j + 1) j) := by
  rw [Sort.insInner, if_pos (by simp [hl, hj])]
theorem ins_stop (lt : Sy.Ed → Sy.Ed → Bool) (a j : Nat) (d : Array Sy.Ed) (hl : lt d[j + 1]! d[j]! = false) : Sort.insInner lt a (j + 1) d = d := by
  rw [Sort.insInner, if_neg (by simp [hl])]
theorem ins_at (lt : Sy.Ed → Sy.Ed → Bool) (a j : Nat) (d : Array Sy.Ed) (hj : ¬ a < j) : Sort.insInner lt a j d = d := by
  cases j with
  | zero => rfl
  | succ j => rw [Sort.insInner, if_neg (by simp; omega)]
theorem ins_next (lt : Sy.Ed → Sy.Ed → Bool) (a b i : Nat) (d : Array Sy.Ed) (h : i < b) : Sort.insOuter lt a b i d = Sort.insOuter lt a b (i + 1) (Sort.insInner lt a i d) := by rw [Sort.insOuter, if_pos h]
theorem ins_end (lt : Sy.Ed → Sy.Ed → Bool) (a b i : Nat) (d : Array Sy.Ed) (h : ¬ i < b) : Sort.insOuter lt a b i d = d := by rw [Sort.insOuter, if_neg h]
theorem RowE.swapped {w wr : World} {g : Nat} {d : Array Sy.Ed} {rest : List Value} (h : RowE w wr g d rest) {i j : Nat} {x y : Sy.Ed} (hi : i < d.size) (hj : j < d.size) (hx : x = d[i]!) (hy : y = d[j]!) : RowE w (st3 (st3 wr g i y) g j x).drew g (Sort.swp d i j) rest := by
  subst hx hy
  exact (h.swap hi hj).below (Below.refl _ _).drew
end Go.Proofs.YtibdgefjpcebkaaGreatDoor
/- Contract of slices' insertion sort of edges by a view's comparison. -/
namespace Go.Proofs.YtibdgefjpcebkaaGreatDoor
open Go.RowKit Go.Maps
attribute [local go_sem ↓] Go.wp_at_zero Go.wp_at_succ
set_option maxRecDepth 100000 in
set_option maxHeartbeats 8000000 in
theorem insSort_any (f : Nat) (vw : Sy.Ed → Sy.Ed) (hV : ViewAt f vw) (g cap a b : Nat) (d : Array Sy.Ed) (rest : List Value) (w0 w : World) (hR : RowE w0 w g d rest) (hab : a ≤ b) (hb : b ≤ d.size) (hsz : d.size ≤ 1000000) :
    Calls Tryz.prog 154 #[.slice (some ⟨g, 0, none⟩) d.size cap, .int .i64 a, .int .i64 b, cmpV f] w fun r w' => r = .returned (.tuple #[]) ∧ RowE w0 w' g (Sort.insertionSort (ltV vw) d a b) rest := by
  obtain ⟨n, hn⟩ : ∃ n, n = d.size := ⟨_, rfl⟩
  have HR : Hid _ := And.intro hR (And.intro hn hV)
  rw [← hn] at hb hsz ⊢
  unfold cmpV Sort.insertionSort
  clear hR hn hV
  have he := enter_cmp
  go_enter Tryz.func154, Tryz.ntmps154
  go_wp2_with fail
  go_loopg [8] (b - a) (fun q iv wr => ∃ (i : Nat) (dk : Array Sy.Ed), iv = .int .i64 i ∧ a < i ∧ b + 1 - i ≤ q + 1 ∧ dk.size = n ∧ RowE w0 wr g dk rest ∧ Hid (Sort.insOuter (ltV vw) a b i dk = Sort.insOuter (ltV vw) a b (a + 1) d))
  case atStart => exact ⟨a + 1, d, by go_num, by omega, by omega, HR.out.2.1.symm, HR.out.1, rfl⟩
  case round =>
    obtain ⟨i, dk, rfl, hai, hq, hsk, hRk, HO⟩ := hrel
    by_cases hlt : i < b
    · have hltz : (i : Int) < (b : Int) := by omega
      have HK : Hid _ := And.intro hRk hsk
      clear hRk hsk
      obtain ⟨wq, rfl⟩ : ∃ wq, wq = wr := ⟨_, rfl⟩
      go_wp2_with fail
      go_loopg [9] i (fun p jv wr => ∃ (j : Nat) (dj : Array Sy.Ed), jv = .int .i64 j ∧ j ≤ i ∧ j ≤ p ∧ dj.size = n ∧ RowE w0 wr g dj rest ∧ Hid (Sort.insInner (ltV vw) a j dj = Sort.insInner (ltV vw) a i dk))
      case atStart => exact ⟨i, dk, rfl, Nat.le_refl _, Nat.le_refl _, HK.out.2, HK.out.1, rfl⟩
      case round =>
        obtain ⟨j, dj, rfl, hji, hp, hsj, hRj, HI⟩ := hrel
        by_cases hja : a < j
        · obtain ⟨jp, rfl⟩ : ∃ jp, j = jp + 1 := ⟨j - 1, by omega⟩
          obtain ⟨x0, x1, x2⟩ := hRj.cells (j := jp + 1) (by omega)
          obtain ⟨y0, y1, y2⟩ := hRj.cells (j := jp) (by omega)
          have hcm := fun W => compare_any f vw HR.out.2.2 (dj[jp + 1]!) (dj[jp]!) W
          unfold edV at hcm
          have hlt2 := cmpV_neg vw (dj[jp + 1]!) (dj[jp]!)
          have HJ : Hid _ := And.intro hRj hsj
          obtain ⟨xe, hxe⟩ : ∃ xe, xe = dj[jp + 1]! := ⟨_, rfl⟩
          obtain ⟨ye, hye⟩ : ∃ ye, ye = dj[jp]! := ⟨_, rfl⟩
          rw [← hxe] at x0 x1 x2 hcm hlt2
          rw [← hye] at y0 y1 y2 hcm hlt2
          have HE : Hid _ := And.intro hxe hye
          clear hRj hsj hxe hye
          obtain ⟨xa, xb, xc⟩ := xe
          obtain ⟨ya, yb, yc⟩ := ye
          generalize cmpE (vw (xa, xb, xc)) (vw (ya, yb, yc)) = c at hcm hlt2
          have HC : Hid _ := hcm
          have HL : Hid _ := hlt2
          clear hcm hlt2
          simp only at x0 x1 x2 y0 y1 y2
          have p0 : (0 : Int) ≤ (jp : Int) + 1 := by omega
          have p1 : (jp : Int) + 1 < (n : Int) := by have := HJ.out.2; omega
          have p2 : (0 : Int) ≤ (jp : Int) := by omega
          have p3 : (jp : Int) < (n : Int) := by omega
          have p4 : decide ((a : Int) < (jp : Int) + 1) = true := decide_eq_true (by omega)
          have p5 : ((jp : Int) + 1).toNat = jp + 1 := by omega
          have p7 : IntKind.i64.wrap (jp : Int) = (jp : Int) := by rw [IntKind.wrap_i64]; omega
          have p8 : IntKind.i64.wrap ((jp : Int) + 1 - 1) = (jp : Int) := by rw [IntKind.wrap_i64]; omega
          by_cases hc : c < 0
          · have p6 : decide (c < 0) = true := decide_eq_true hc
            go_upto_region 4 with fail
            go_region_held3 (fun w' => ((w'.cell? ⟨g, (jp + 1) * 3, none⟩ = some (.int .i64 xa) ∧ w'.cell? ⟨g, (jp + 1) * 3 + 1, none⟩ = some (.int .i64 xb) ∧ w'.cell? ⟨g, (jp + 1) * 3 + 2, none⟩ = some (.int .i64 xc)) ∧ (w'.cell? ⟨g, jp * 3, none⟩ = some (.int .i64 ya) ∧ w'.cell? ⟨g, jp * 3 + 1, none⟩ = some (.int .i64 yb) ∧ w'.cell? ⟨g, jp * 3 + 2, none⟩ = some (.int .i64 yc))) ∧ Hid (Below wr.heap.size wr w')) (first | exact rg_up6 hb3 (by assumption) | exact ⟨⟨⟨x0, x1, x2⟩, ⟨y0, y1, y2⟩⟩, ((Below.refl _ _).drew : Below wr.heap.size wr wr.drew)⟩ | go_keep)
              ((first
                | (go_at_fn 133; refine (HC.out _).mono ?_; rintro r w3 ⟨rfl, hb3⟩)
                | fail))
            have hR3 : RowE w0 w3 g dj rest := HJ.out.1.below (rg_b (by assumption))
            have HJ3 : Hid _ := And.intro hR3 HJ.out.2
            have f0 := hR3.free ((jp + 1) * 3)
            have f1 := hR3.free ((jp + 1) * 3 + 1)
            have f2 := hR3.free ((jp + 1) * 3 + 2)
            have f3 := hR3.free (jp * 3)
            have f4 := hR3.free (jp * 3 + 1)
            have f5 := hR3.free (jp * 3 + 2)
            obtain ⟨z0, z1, z2⟩ := hR3.at (z := (xa, xb, xc)) (by rw [HE.out.1]; exact getb (by have := HJ.out.2; omega))
            obtain ⟨z3, z4, z5⟩ := hR3.at (z := (ya, yb, yc)) (by rw [HE.out.2]; exact getb (by have := HJ.out.2; omega))
            simp only at z0 z1 z2 z3 z4 z5
            clear x0 x1 x2 y0 y1 y2 hb3 hR3 HC HJ
            rename_i hS3
            clear hS3
            go_wp2_with fail
            go_region
            all_goals go_wp2_with fail
            go_roundg jp
            case measure => omega
            case rel =>
              refine ⟨jp, Sort.swp dj (jp + 1) jp, by go_num, by omega, Nat.le_refl _, by rw [Sort.size_swp]; exact HJ3.out.2, HJ3.out.1.swapped (i := jp + 1) (j := jp) (x := (xa, xb, xc)) (y := (ya, yb, yc)) (by have := HJ3.out.2; omega) (by have := HJ3.out.2; omega) HE.out.1 HE.out.2, (show Hid _ from ?_)⟩
              show _ = _
              rw [← HI.out, ins_go _ _ _ _ hja (by rw [← HE.out.1, ← HE.out.2]; exact HL.out.1 hc)]
          · have p6 : decide (c < 0) = false := decide_eq_false hc
            go_upto_region 4 with fail
            go_region_held3 (fun w' => ((w'.cell? ⟨g, (jp + 1) * 3, none⟩ = some (.int .i64 xa) ∧ w'.cell? ⟨g, (jp + 1) * 3 + 1, none⟩ = some (.int .i64 xb) ∧ w'.cell? ⟨g, (jp + 1) * 3 + 2, none⟩ = some (.int .i64 xc)) ∧ (w'.cell? ⟨g, jp * 3, none⟩ = some (.int .i64 ya) ∧ w'.cell? ⟨g, jp * 3 + 1, none⟩ = some (.int .i64 yb) ∧ w'.cell? ⟨g, jp * 3 + 2, none⟩ = some (.int .i64 yc))) ∧ Hid (Below wr.heap.size wr w')) (first | exact rg_up6 hb3 (by assumption) | exact ⟨⟨⟨x0, x1, x2⟩, ⟨y0, y1, y2⟩⟩, ((Below.refl _ _).drew : Below wr.heap.size wr wr.drew)⟩ | go_keep)
              ((first
                | (go_at_fn 133; refine (HC.out _).mono ?_; rintro r w3 ⟨rfl, hb3⟩)
                | fail))
            have hR3 : RowE w0 w3 g dj rest := HJ.out.1.below (rg_b (by assumption))
            have HJ3 : Hid _ := And.intro hR3 HJ.out.2
            clear x0 x1 x2 y0 y1 y2 hb3 hR3 HC HJ
            rename_i hS3
            clear hS3
            go_wp2_with fail
            go_roundg (b - (i + 1))
            case measure => omega
            case rel =>
              refine ⟨i + 1, dj, by go_num, by omega, by omega, HJ3.out.2, HJ3.out.1, (show Hid _ from ?_)⟩
              show _ = _
              have hl : ltV vw dj[jp + 1]! dj[jp]! = false := by
                rw [← HE.out.1, ← HE.out.2]
                cases h : ltV vw (xa, xb, xc) (ya, yb, yc) with
                | false => rfl
                | true => exact absurd (HL.out.2 h) (by omega)
              rw [← HO.out, ins_next _ _ _ _ _ hlt, ← HI.out, ins_stop _ _ _ _ hl]
        · have p4 : decide ((a : Int) < (j : Int)) = false := decide_eq_false (by omega)
          have p5 : ¬ (a : Int) < (j : Int) := by omega
          have HJ3 : Hid _ := And.intro hRj hsj
          clear hRj hsj
          go_wp2_with fail
          go_region
          all_goals go_wp2_with fail
          go_roundg (b - (i + 1))
          case measure => omega
          case rel =>
            refine ⟨i + 1, dj, by go_num, by omega, by omega, HJ3.out.2, HJ3.out.1.below (Below.refl _ _).drew, (show Hid _ from ?_)⟩
            show _ = _
            rw [← HO.out, ins_next _ _ _ _ _ hlt, ← HI.out, ins_at _ _ _ _ hja]
    · have hltz : ¬ (i : Int) < (b : Int) := by omega
      go_wp2
      go_end0
      exact ⟨rfl, by rw [← HO.out, ins_end _ _ _ _ _ hlt]; exact hRk⟩
end Go.Proofs.YtibdgefjpcebkaaGreatDoor
/- Contracts of three functions of Go's library at this program, laid by the shelf's own tools in plain words. -/
namespace Go.Proofs
open Go.Shelf
def Tryz.lays128_ren : Go.Shelf.Ren := ⟨fun | 128 => 162 | n => n, fun | 51 => 227 | 3 => 3 | 4 => 4 | 46 => 178 | 5 => 5 | 9 => 9 | n => n, fun | n => n⟩
def Tryz.lays125_ren : Go.Shelf.Ren := ⟨fun | 125 => 143 | 128 => 162 | 129 => 163 | n => n, fun | 46 => 178 | 3 => 3 | 51 => 227 | 53 => 125 | 4 => 4 | 5 => 5 | 9 => 9 | n => n, fun | n => n⟩
theorem Tryz.lays125 : Go.Proofs.Lays.n125 Tryz.prog Tryz.lays125_ren := {
  mixed := by kernel_rfl
  f125 := Tryz.func143.trans (congrArg some (by kernel_rfl))
  f128 := Tryz.func162.trans (congrArg some (by kernel_rfl))
  f129 := Tryz.func163.trans (congrArg some (by kernel_rfl))
  t3 := Tryz.underlying3
  a3 := Tryz.isAgg3
  z3 := Tryz.sizeOf3
  v3 := Tryz.zeroValue3
  t4 := Tryz.underlying4
  a4 := Tryz.isAgg4
  z4 := Tryz.sizeOf4
  v4 := Tryz.zeroValue4
  t5 := Tryz.underlying5
  a5 := Tryz.isAgg5
  z5 := Tryz.sizeOf5
  v5 := Tryz.zeroValue5
  t9 := Tryz.underlying9
  a9 := Tryz.isAgg9
  z9 := Tryz.sizeOf9
  v9 := Tryz.zeroValue9
  t46 := Tryz.underlying178
  a46 := Tryz.isAgg178
  z46 := Tryz.sizeOf178
  v46 := Tryz.zeroValue178
  t51 := Tryz.underlying227
  a51 := Tryz.isAgg227
  z51 := Tryz.sizeOf227
  v51 := Tryz.zeroValue227
  t53 := Tryz.underlying125
  a53 := Tryz.isAgg125
  z53 := Tryz.sizeOf125
  v53 := Tryz.zeroValue125 }
theorem Tryz.bits_Len (x : Int) (w : World) (h0 : 0 ≤ x) (h1 : x ≤ 18446744073709551615) :
    Calls Tryz.prog 143 #[.int .u64 x] w fun e w' => e = .returned (.int .i64 (Lib.bitLen x.toNat)) ∧ w' = w := Any.bits_Len Tryz.lays125 x w h0 h1
def Tryz.lays215_ren : Go.Shelf.Ren := ⟨fun | 215 => 164 | n => n, fun | 3 => 3 | 4 => 4 | n => n, fun | n => n⟩
def Tryz.lays122_ren : Go.Shelf.Ren := ⟨fun | 122 => 145 | 215 => 164 | n => n, fun | 3 => 3 | 4 => 4 | n => n, fun | n => n⟩
def Tryz.lays129_ren : Go.Shelf.Ren := ⟨fun | 129 => 163 | n => n, fun | 53 => 125 | 3 => 3 | 4 => 4 | 46 => 178 | 5 => 5 | 9 => 9 | n => n, fun | n => n⟩
end Go.Proofs
/- Contract of slices.SortFunc of at most twelve edges by a view's comparison. -/
namespace Go.Proofs.YtibdgefjpcebkaaGreatDoor
open Go.RowKit Go.Maps
attribute [local go_sem ↓] Go.wp_at_zero Go.wp_at_succ
def SortOk (m : Nat) : Prop := ∀ (f : Nat) (vw : Sy.Ed → Sy.Ed), ViewAt f vw → ∀ (g cap : Nat) (d : Array Sy.Ed) (rest : List Value) (w0 w : World), RowE w0 w g d rest → d.size ≤ m →
  Calls Tryz.prog 132 #[.slice (some ⟨g, 0, none⟩) d.size cap, cmpV f] w fun r w' => r = .returned (.tuple #[]) ∧ ∃ d', Sort.PermIn 0 d.size d d' ∧ Sort.SortedIn (ltV vw) 0 d.size d' ∧ RowE w0 w' g d' rest
end Go.Proofs.YtibdgefjpcebkaaGreatDoor
/- Contracts of slices.Clone of edges and of steps. (Written by mkclone.py.) -/
namespace Go.Proofs.YtibdgefjpcebkaaGreatDoor
open Go.RowKit Go.Maps
theorem Tryz.infoClEdges : (Tryz.prog.info? 66).map (fun i => (i.zero, i.size, i.bytes)) = some (some (.agg #[.int .i64 0, .int .i64 0, .int .i64 0]), 3, 24) := by kernel_rfl
theorem Tryz.eqClEdges (w : World) (a : Option Addr) (n c n' c' : Nat) : (binOp .eql 22 (.slice a n c) (.slice none n' c')).run Tryz.prog w = .ok (.bool a.isNone) w := Lib.run_eql_slice_nil w _ _ a n c n' c' Tryz.underlying22
set_option maxRecDepth 100000 in
set_option maxHeartbeats 1000000 in
theorem cloneEdges_any (v : Value) (es : List BEdges.El) (w : World) (hn : es.length ≤ 1000000) (hv : BEdges.Has w v es) :
    Calls Tryz.prog 131 #[v] w fun r w' => ∃ u, r = .returned u ∧ BEdges.Own w' w.heap.size u es ∧ Below w.heap.size w w' := by
  obtain ⟨i0, hi0, hz0, hz1, hz2⟩ := info_parts Tryz.infoClEdges
  obtain ⟨ao, cap, rfl, _⟩ := _root_.id hv
  have hq := Tryz.eqClEdges
  have hl := BEdges.C_len es
  cases ao with
  | none =>
    have h0 : es = [] := by
      have h1 := (BEdges.copy_of hv).1 rfl
      exact List.eq_nil_of_length_eq_zero h1
    subst h0
    clear hv
    go_enter Tryz.func131, Tryz.ntmps131
    go_wp2
    go_ret
    exact ⟨_, rfl, World.ownsRow_nil _ _ _ _, Below.refl _ _⟩
  | some a =>
    have hcs := (BEdges.copy_of hv).2 a rfl
    obtain ⟨n, hN⟩ : ∃ n, n = es.length := ⟨_, rfl⟩
    have A : Aside (∀ j u, (BEdges.C es)[j]? = some u → w.cell? (a.add j) = some u) := hcs
    have HN : Hid _ := hN
    rw [← hN] at hn hl ⊢
    clear hv hcs hN
    go_enter Tryz.func131, Tryz.ntmps131
    go_wp2_with (at_builtin; refine wpList_append_own _ rfl _ _ 22 rfl w.heap.size 66 i0 (.agg #[.int .i64 0, .int .i64 0, .int .i64 0]) 3 24 Tryz.underlying22 hi0 hz0 hz1 hz2 rfl (by decide) _ _ _ rfl (World.ownsRow_made w #[] 0 (Nat.le_refl _) (Nat.zero_le _) (by simp)) a n cap (BEdges.C es) rfl ?qc1 ?qc2 ?qc3 ?qc4 ?qc5 ?qc6 ?_)
    case qc1 => exact hl
    case qc2 =>
      intro j u hj
      have h1 := A.out j u hj
      exact (((Below.refl _ w).alloc (Nat.le_refl _) _).cell (World.block_lt_of_cell? w _ h1)).trans h1
    case qc3 => exact BEdges.C_one es
    case qc4 => unfold maxLen; omega
    case qc5 => omega
    case qc6 => simp
    intro v' w1 hown hgrow hnil
    go_wp2
    go_ret
    refine ⟨v', rfl, ?_, ?_⟩
    · have h1 := hown
      rw [HN.out] at h1
      exact h1
    · exact ((Below.refl _ w).alloc (Nat.le_refl _) _).grown hgrow (by simp) (by intro k hk; simp [Value.ownBlock] at hk; omega)
theorem Tryz.infoClSteps : (Tryz.prog.info? 115).map (fun i => (i.zero, i.size, i.bytes)) = some (some (.agg #[.int .i64 0, .int .i64 0]), 2, 16) := by kernel_rfl
theorem Tryz.eqClSteps (w : World) (a : Option Addr) (n c n' c' : Nat) : (binOp .eql 113 (.slice a n c) (.slice none n' c')).run Tryz.prog w = .ok (.bool a.isNone) w := Lib.run_eql_slice_nil w _ _ a n c n' c' Tryz.underlying113
set_option maxRecDepth 100000 in
set_option maxHeartbeats 1000000 in
theorem cloneSteps_any (v : Value) (es : List BSteps.El) (w : World) (hn : es.length ≤ 1000000) (hv : BSteps.Has w v es) :
    Calls Tryz.prog 147 #[v] w fun r w' => ∃ u, r = .returned u ∧ BSteps.Own w' w.heap.size u es ∧ Below w.heap.size w w' := by
  obtain ⟨i0, hi0, hz0, hz1, hz2⟩ := info_parts Tryz.infoClSteps
  obtain ⟨ao, cap, rfl, _⟩ := _root_.id hv
  have hq := Tryz.eqClSteps
  have hl := BSteps.C_len es
  cases ao with
  | none =>
    have h0 : es = [] := by
      have h1 := (BSteps.copy_of hv).1 rfl
      exact List.eq_nil_of_length_eq_zero h1
    subst h0
    clear hv
    go_enter Tryz.func147, Tryz.ntmps147
    go_wp2
    go_ret
    exact ⟨_, rfl, World.ownsRow_nil _ _ _ _, Below.refl _ _⟩
  | some a =>
    have hcs := (BSteps.copy_of hv).2 a rfl
    obtain ⟨n, hN⟩ : ∃ n, n = es.length := ⟨_, rfl⟩
    have A : Aside (∀ j u, (BSteps.C es)[j]? = some u → w.cell? (a.add j) = some u) := hcs
    have HN : Hid _ := hN
    rw [← hN] at hn hl ⊢
    clear hv hcs hN
    go_enter Tryz.func147, Tryz.ntmps147
    go_wp2_with (at_builtin; refine wpList_append_own _ rfl _ _ 113 rfl w.heap.size 115 i0 (.agg #[.int .i64 0, .int .i64 0]) 2 16 Tryz.underlying113 hi0 hz0 hz1 hz2 rfl (by decide) _ _ _ rfl (World.ownsRow_made w #[] 0 (Nat.le_refl _) (Nat.zero_le _) (by simp)) a n cap (BSteps.C es) rfl ?qc1 ?qc2 ?qc3 ?qc4 ?qc5 ?qc6 ?_)
    case qc1 => exact hl
    case qc2 =>
      intro j u hj
      have h1 := A.out j u hj
      exact (((Below.refl _ w).alloc (Nat.le_refl _) _).cell (World.block_lt_of_cell? w _ h1)).trans h1
    case qc3 => exact BSteps.C_one es
    case qc4 => unfold maxLen; omega
    case qc5 => omega
    case qc6 => simp
    intro v' w1 hown hgrow hnil
    go_wp2
    go_ret
    refine ⟨v', rfl, ?_, ?_⟩
    · have h1 := hown
      rw [HN.out] at h1
      exact h1
    · exact ((Below.refl _ w).alloc (Nat.le_refl _) _).grown hgrow (by simp) (by intro k hk; simp [Value.ownBlock] at hk; omega)
end Go.Proofs.YtibdgefjpcebkaaGreatDoor
