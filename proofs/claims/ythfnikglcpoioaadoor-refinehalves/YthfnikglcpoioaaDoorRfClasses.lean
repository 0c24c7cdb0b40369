/- refine: Classes. -/
import Derived.Test.YthfnikglcpoioaaDoorRfMembers
import Derived.Test.YthfnikglcpoioaaDoorSyCls
namespace Go.Proofs.YthfnikglcpoioaaDoor
open Go.RowKit Go.Maps
attribute [local go_sem ↓] Go.wp_at_zero Go.wp_at_succ
/-- The elements' blocks. -/
def Pst.own (s : Pst) : List Int := (List.range s.n).map fun e : Nat => (s.O e : Int)
theorem own_len (s : Pst) : s.own.length = s.n := by simp [Pst.own]
theorem own_has {g : Nat} {c : Nat → Int} {s : Pst} {w0 w : World} (hP : Pt w0 w g c) (hL : Lay c s) (hn : s.n ≤ 1000) (k : Nat) : HasI w (.slice (some ⟨g, 2002, none⟩) s.own.length k) s.own := by
  refine ⟨some ⟨g, 2002, none⟩, k, rfl, fun i z hz => ⟨_, rfl, ?_⟩⟩
  have hi : i < s.n := by rw [← own_len]; exact (List.getElem?_eq_some_iff.1 hz).1
  have h1 : s.own[i]? = some (s.O i : Int) := by simp [Pst.own, hi]
  obtain rfl := Option.some.inj (hz.symm.trans h1)
  have h2 := hP.cell (i := 2002 + i) (by omega)
  rw [hL.o i hi] at h2
  have h4 : (⟨g, 2002, none⟩ : Addr).add i = ⟨g, 2002 + i, none⟩ := by
    unfold Addr.add
    by_cases hj : i = 0
    · subst hj; rfl
    · simp [hj]
  rw [h4]
  exact h2
theorem own_i64 {s : Pst} (hO : s.Ok) : I64s s.own := fun z hz => by
  simp only [Pst.own, List.mem_map, List.mem_range] at hz
  obtain ⟨e, he, rfl⟩ := hz
  have h1 := (hO.o e he).1
  have h2 := hO.few
  have h3 := hO.n1
  simp only [Lit.wf, IntKind.min, IntKind.max, IntKind.signed, IntKind.bits]
  simp
  omega
set_option maxRecDepth 100000 in
set_option maxHeartbeats 4000000 in
theorem classes_any (g : Nat) (c : Nat → Int) (s : Pst) (w0 w : World) (hP : Pt w0 w g c) (hL : Lay c s) (hO : s.Ok) (h0 : 0 < s.n) :
    Calls Tryd.prog 9 #[.pointer (some ⟨g, 0, none⟩)] w fun r w' => ∃ u, r = .returned u ∧ OwnI w' w.heap.size u (natI (Sy.canon s.own)) ∧ Below w.heap.size w w' := by
  have hn := hO.n1
  have c0 := hP.cell (i := 0) (by omega)
  rw [hL.n] at c0
  have hCn : ∀ W, Below w.heap.size w W → Calls Tryd.prog 21 #[.slice (some ⟨g, 2002, none⟩) s.n s.n] W fun r w' => ∃ u, r = .returned u ∧ OwnI w' W.heap.size u (natI (Sy.canon s.own)) ∧ Below W.heap.size W w' := fun W hW => by
    have h := pCanon (.slice (some ⟨g, 2002, none⟩) s.own.length s.n) s.own W (own_has (hP.below hW) hL hn s.n) (by rw [own_len]; omega) (own_i64 hO)
    rw [own_len] at h
    exact h
  have H : Hid _ := And.intro hCn trivial
  generalize natI (Sy.canon s.own) = cs at H ⊢
  have p1 : (0 : Int) ≤ (s.n : Int) := by omega
  have p2 : (s.n : Int) ≤ 1000 := by omega
  have p3 : ¬ s.n = 0 := by omega
  generalize s.n = n at *
  clear hCn hP hL hO
  go_enter Tryd.func9, Tryd.ntmps9
  go_upto_region 3 with fail
  go_region_held3 (fun w' => (w'.cell? ⟨g, 0, none⟩ = some (.int .i64 n) ∧ w'.cell? ⟨g, 0, none⟩ = some (.int .i64 n)) ∧ Hid (Below w.heap.size w w')) (first | exact rgu2 hb5 (by assumption) | exact ⟨⟨c0, c0⟩, ((Below.refl _ _).drew : Below w.heap.size w w.drew)⟩ | go_keep)
    ((first
      | (go_at_call 21; refine Calls.mono (H.out.1 _ (rgb3 (by assumption))) ?_; rintro r w5 ⟨u, rfl, hO5, hb5⟩)
      | fail))
  have hbw : Below w.heap.size w w5 := rgb3 (by assumption)
  have HB : Hid (OwnI w5 w.heap.size u cs ∧ Below w.heap.size w w5) := ⟨hO5, hbw⟩
  go_wp2_with fail
  go_ret
  exact ⟨_, rfl, HB.out.1, HB.out.2⟩
end Go.Proofs.YthfnikglcpoioaaDoor
