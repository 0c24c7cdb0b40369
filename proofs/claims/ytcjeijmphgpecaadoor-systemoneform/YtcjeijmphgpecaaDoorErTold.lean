/- The book's Told at a chain of faults, however many layers it has. -/
import Derived.Test.YtcjeijmphgpecaaDoorErCode
import Derived.Deep.QuietTactic
import Derived.BigQuiet
import Derived.ProofKit
namespace Go.Proofs.YtcjeijmphgpecaaDoor
open Go.RowKit
theorem castY (v : Value) (w : World) : (Instr.typeAssert (.iface 57 v) 31 57 true).run Tryd.prog w = .ok (.tuple #[v, .bool true]) w := by kernel_rfl
theorem castN (v : Value) (w : World) : (Instr.typeAssert (.iface 138 v) 31 57 true).run Tryd.prog w = .ok (.tuple #[.pointer none, .bool false]) w := by kernel_rfl
/-- The layers' names, a blank behind each. -/
def joinS (x : ByteArray) : List ByteArray → ByteArray
  | [] => x
  | s :: r => joinS (x ++ s ++ ⟨#[32]⟩) r
theorem joinS_size (ls : List ByteArray) (h : ∀ s ∈ ls, s.size ≤ 100) : ∀ x, (joinS x ls).size ≤ x.size + 101 * ls.length ∧ x.size ≤ (joinS x ls).size := by
  induction ls with
  | nil => intro x; simp [joinS]
  | cons s r ih =>
    intro x
    have h1 := h s List.mem_cons_self
    have h2 := ih (fun y hy => h y (List.mem_cons_of_mem _ hy)) (x ++ s ++ ⟨#[32]⟩)
    have h3 : (x ++ s ++ ⟨#[32]⟩).size = x.size + s.size + 1 := by rw [ByteArray.size_append, ByteArray.size_append]; rfl
    simp only [joinS, List.length_cons]
    omega
theorem Chain.drew {w : World} {l c : Int} {a : Addr} {ls : List ByteArray} {v : Value} (h : Chain w l c a ls v) (n : Nat) : Chain (w.drewN n) l c a ls v := h.below (below_drewN (Below.refl _ _) n)
set_option maxRecDepth 100000 in
set_option maxHeartbeats 8000000 in
theorem told_chain {m : Nat} (k : Nat) (h1 : 1 ≤ k) (h19 : k ≤ 19) (hm : k ≤ m) (v : Value) (ls : List ByteArray) (l c : Int) (e : Nat → Addr) (w : World) (hE : Er m w e) (hC : Chain w l c (e k) ls v) (hl : ls.length ≤ 19) (hs : ∀ s ∈ ls, s.size ≤ 100) :
    Calls Tryd.prog 10 #[v, .agg #[.int .i64 k, .int .i64 l, .int .i64 c, .string (joinS ⟨#[]⟩ ls)]] w fun r w' => r = .returned (.bool true) ∧ Below w.heap.size w w' := by
  have y := castY
  have n := castN
  have z0 : ((k : Int) == 0) = false := by simp; omega
  have z3 : ((k : Int) != (k : Int)) = false := by simp
  have z4 : ((k : Int) == (k : Int)) = true := by simp
  have z5 : (l != l) = false := by simp
  have z6 : (c != c) = false := by simp
  obtain ⟨J, hJ⟩ : ∃ J, J = joinS ⟨#[]⟩ ls := ⟨_, rfl⟩
  have hcode : ∀ W (x : Value) (r : List ByteArray), Below w.heap.size w W → Chain W l c (e k) r x → Calls Tryd.prog 34 #[x] W fun r w' => r = .returned (.int .i64 k) ∧ w' = W := fun W x r hb h => code_chain k h1 h19 hm x r l c e W (hE.below hb) h
  have HE : Hid _ := And.intro hC (And.intro hs (And.intro hJ hl))
  have HC : Hid _ := hcode
  rw [← hJ]
  obtain ⟨T0, x0, rfl⟩ := hC.iface
  clear hC hE hs hcode hJ h1 h19 hm
  go_enter Tryd.func10, Tryd.ntmps10
  go_wp2_with fail
  obtain ⟨w1, hw1⟩ : ∃ w1, w1 = w.alloc (.cells #[.int .i64 k, .int .i64 l, .int .i64 c, .string J] 28) := ⟨_, rfl⟩
  rw [← hw1]
  have hb1 : Below w.heap.size w w1 := by rw [hw1]; exact (Below.refl _ _).alloc (Nat.le_refl _) _
  have hN : w1.heap[w.heap.size]? = some (.cells #[.int .i64 k, .int .i64 l, .int .i64 c, .string J] 28 (0, 0)) := by rw [hw1]; exact (MapKept.heap_alloc w _).1
  have H1 : Hid _ := And.intro hb1 (And.intro hN (HE.out.1.below hb1))
  clear hb1 hN hw1
  obtain ⟨e0, e1, e2, e3⟩ := fault_cells H1.out.2.1
  go_quiet ((go_at_call 34; exact Calls.quiet_of_same (HC.out _ _ _ (below_drewN H1.out.1 _) (H1.out.2.2.drew _))))
  obtain ⟨w2, hw2⟩ : ∃ w2, w2 = w1.drewN nq := ⟨_, rfl⟩
  rw [← hw2]
  have H2 : Hid _ := And.intro (below_drewN H1.out.1 nq) (And.intro (H1.out.2.2.drew nq) (show (w1.drewN nq).heap[w.heap.size]? = some (.cells #[.int .i64 k, .int .i64 l, .int .i64 c, .string J] 28 (0, 0)) from H1.out.2.1))
  rw [← hw2] at H2
  clear hw2 e0 e1 e2 e3 H1
  go_wp2_with fail
  go_loopg [0, 5, 6] (ls.length + 1) (fun q ev lv nv wr => ∃ (done r : List ByteArray) (x : ByteArray), q = r.length + 1 ∧ ls = done ++ r ∧ nv = .int .i64 done.length ∧ lv = .string x ∧ joinS x r = J ∧ Below w.heap.size w wr ∧ Chain wr l c (e k) r ev ∧ wr.heap[w.heap.size]? = some (.cells #[.int .i64 k, .int .i64 l, .int .i64 c, .string J] 28 (0, 0)))
  case atStart => exact ⟨[], ls, _, rfl, rfl, rfl, rfl, HE.out.2.2.1.symm, H2.out.1, H2.out.2.1, H2.out.2.2⟩
  case round =>
    obtain ⟨done, r, x, rfl, hls, rfl, rfl, hj, hbr, hCr, hNr⟩ := hrel
    clear H2
    have hlen : done.length + r.length = ls.length := by rw [hls, List.length_append]
    have hdl : (done.length : Int) < 20 := by have := HE.out.2.2.2; omega
    obtain ⟨e0, e1, e2, e3⟩ := fault_cells hNr
    cases r with
    | nil =>
      have ev : u0 = .iface 138 (.pointer (some (e k))) := hCr
      subst ev
      have hx : x = J := hj
      subst hx
      have HR : Hid _ := And.intro hCr hbr
      clear hCr hj hls hNr hbr hlen
      go_wp2_with fail
      go_quiet ((go_at_call 34; exact Calls.quiet_of_same (HC.out _ _ [] (below_drewN HR.out.2 _) rfl)))
      go_wp2
      go_ret
      exact ⟨rfl, below_drewN HR.out.2 _⟩
    | cons s r =>
      obtain ⟨pb, u, rfl, hB, hCu⟩ := hCr
      obtain ⟨f0, f1, f2, f3⟩ := fault_cells hB
      have hz := joinS_size r (fun y hy => HE.out.2.1 y (by rw [hls]; exact List.mem_append_right _ (List.mem_cons_of_mem _ hy))) (x ++ s ++ ⟨#[32]⟩)
      have hz0 := joinS_size ls HE.out.2.1 ⟨#[]⟩
      have hz1 : (x ++ s ++ ⟨#[32]⟩).size ≤ 2000 := by
        have h2 : (joinS (x ++ s ++ ⟨#[32]⟩) r).size ≤ 0 + 101 * ls.length := by
          have h3 : joinS (x ++ s ++ ⟨#[32]⟩) r = J := hj
          rw [h3, HE.out.2.2.1]; exact hz0.1
        have := HE.out.2.2.2
        omega
      have hz3 : (x ++ s ++ ⟨#[32]⟩).size = x.size + s.size + 1 := by rw [ByteArray.size_append, ByteArray.size_append]; rfl
      have cat1 := fun W => run_string_add_sum (P := Tryd.prog) (w := W) x s (by omega)
      have cat2 := fun W => run_string_add_sum (P := Tryd.prog) (w := W) (x ++ s) ⟨#[32]⟩ (by rw [ByteArray.size_append]; show x.size + s.size + 1 ≤ _; omega)
      have HR : Hid _ := And.intro hCu (And.intro hls (And.intro hj (And.intro hbr hNr)))
      clear hCu hls hj hB hz hz0 hz1 hz3 hbr hNr hlen
      go_wp2_with fail
      go_quiet (fail)
      obtain ⟨w3, hw3⟩ : ∃ w3, w3 = wr.drewN nq := ⟨_, rfl⟩
      have g0 : w3.cell? ⟨pb, 0, none⟩ = some (.string s) := by rw [hw3]; exact f0
      have g3 : w3.cell? ⟨pb, 3, none⟩ = some u := by rw [hw3]; exact f3
      have H3 : Hid _ := And.intro (HR.out.1.drew nq) (And.intro (below_drewN HR.out.2.2.2.1 nq) (show (wr.drewN nq).heap[w.heap.size]? = some (.cells #[.int .i64 k, .int .i64 l, .int .i64 c, .string J] 28 (0, 0)) from HR.out.2.2.2.2))
      rw [← hw3] at H3 ⊢
      clear hw3 f0 f1 f2 f3 e0 e1 e2 e3
      go_wp2
      go_roundg (r.length + 1)
      case measure => simp
      case rel => exact ⟨done ++ [s], r, _, rfl, by rw [HR.out.2.1, List.append_assoc]; rfl, by rw [List.length_append]; go_num, rfl, HR.out.2.2.1, H3.out.2.1, H3.out.1, H3.out.2.2⟩
theorem told_none (l c : Int) (x : ByteArray) (w : World) :
    Calls Tryd.prog 10 #[.nilIface, .agg #[.int .i64 0, .int .i64 l, .int .i64 c, .string x]] w fun e w' => e = .returned (.bool true) ∧ Below w.heap.size w w' := by
  go_enter Tryd.func10, Tryd.ntmps10
  go_wp2
  go_ret
  exact ⟨rfl, (Below.refl _ _).alloc (Nat.le_refl _) _⟩
end Go.Proofs.YtcjeijmphgpecaaDoor
