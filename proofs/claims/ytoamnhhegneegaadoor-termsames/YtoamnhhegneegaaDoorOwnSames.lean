/- The statement TermSames holds as its tied card says: for all arguments the call returns true and the arguments read as they did. Conditions: api's errors are laid as the program's text lays them. -/
import Derived.Test.YtoamnhhegneegaaDoorLawSames
import Derived.Test.YtoamnhhegneegaaDoorTmArg2
import Derived.Test.YtoamnhhegneegaaDoorTie
import Derived.Test.YtoamnhhegneegaaDoorCards
import Derived.OpenShut
import Derived.Stop.Joined
import Derived.SevenTiedAt
namespace Go.Proofs.YtoamnhhegneegaaDoor
open Go.ChangeShapes Go.WideShapes Go.ChangeAt Go.WideMaps Go.WideElems Go.RowKit
open Go.ChangeMaps (setBlock shut_map_nil open_string shut_string keptBut_setBlock frozen?_setBlock heap_setBlock_same)
theorem sm_met (os : Os) (args : Array Value) : laidMetH Tryd.prog Rows.termSamesRow.laid ((World.doorLaid Tryd.prog 370 os).forCall (fun _ _ => 0) ⟨#[], args, []⟩).memory :=
  laidMetH_of_parts3 (fuel := 8) (laidMet_of_run' 8 (by kernel_rfl) (by kernel_rfl)) (by kernel_rfl) (by kernel_rfl)
set_option maxRecDepth 100000 in
theorem sm_lifted (os : Os) (started : os.Started) (H : Type) (enc : TypeId × Value → H) :
    ReturnsInHanded {} Tryd.checked os 4 .any (fun w args => (Rows.termSamesSpec.pre enc Tryd.prog Tryd.f4 [] false w args ∧ laidMetH Tryd.prog Rows.termSamesRow.laid w) ∧ sizedMet enc Tryd.prog Tryd.f4 (OpenSpec.ofChange Rows.termSamesSpec) false w args)
      (Rows.termSamesSpec.post enc Tryd.prog Tryd.f4 false true false false) := by
  refine returnsInHanded_of_change_and (C := Tryd.checked) (X := fun w _ => laidMetH Tryd.prog Rows.termSamesRow.laid w) (fun _ _ _ hh h => h.of_heap hh) Tryd.own started (by kernel_rfl) Tryd.func4
    (ChangeSpec.witness_shaped (enc := enc) (C := Tryd.checked) (os := os) (X := fun w _ => laidMetH Tryd.prog Rows.termSamesRow.laid w) false (World.doorLaid Tryd.prog 370 os) #[.slice none 0 0, .slice none 0 0, .int .i64 0, .int .i64 0] 8 rfl (World.shaped_of_RefB (by kernel_rfl) (by kernel_rfl)) (by kernel_rfl) (by kernel_rfl) (by kernel_rfl) (sm_met os _)) ?_
  intro W base args ds gs before hval0 hW _ hreach0 hL _
  have hval : ∀ (j : Nat) t v, Tryd.f4.params[j]? = some t → args[j]? = some v → Value.okWide Tryd.prog W .any base t v := hval0
  have hW' := hW
  obtain ⟨p, q, hA0, hV, rfl, hfz, hnd⟩ := hW
  have hA : DataW.TrodAll enc Tryd.prog W 0 (fun _ => true) true Tryd.f4.params.toList args.toList ds p := hA0
  have hlt : ∀ x ∈ p, x.block < W.heap.size := fun x hx => hW'.lt x (List.mem_append_left _ hx)
  have hreach : (DataW.weightsEach Tryd.prog (Tryd.f4.params.toList ++ []) (ds ++ gs)).all (· ≤ reachBytes) = true := hreach0
  rw [Tryd.params4] at hreach
  rw [Tryd.params4] at hA hval
  obtain ⟨v0, v1, v2, v3, d0, d1, d2, d3, p0, p1, p2, p3, rfl, rfl, rfl, h0, h1, h2, h3⟩ := trodAll_four hA
  obtain ⟨rfl, rfl⟩ := trodVars_none hV
  have k0 : ∀ W' : World, (∀ x ∈ p0, W.sameAt W' x) → DataW.Trod enc Tryd.prog W' 0 (fun b => decide (b < W.heap.size)) true 22 v0 d0 p0 := fun W' hs => WideElems.Trod_stays Tryd.laidOut (by kernel_rfl) (of_decide_eq_true (by kernel_rfl)) h0 hs (fun x hx => by simpa using hlt x (List.mem_append_left _ (List.mem_append_left _ (List.mem_append_left _ hx))))
  have k1 : ∀ W' : World, (∀ x ∈ p1, W.sameAt W' x) → DataW.Trod enc Tryd.prog W' 0 (fun b => decide (b < W.heap.size)) true 22 v1 d1 p1 := fun W' hs => WideElems.Trod_stays Tryd.laidOut (by kernel_rfl) (of_decide_eq_true (by kernel_rfl)) h1 hs (fun x hx => by simpa using hlt x (List.mem_append_left _ (List.mem_append_left _ (List.mem_append_right _ hx))))
  have k2 : ∀ W' : World, (∀ x ∈ p2, W.sameAt W' x) → DataW.Trod enc Tryd.prog W' 0 (fun b => decide (b < W.heap.size)) true 3 v2 d2 p2 := fun W' hs => WideElems.Trod_stays Tryd.laidOut (by kernel_rfl) (of_decide_eq_true (by kernel_rfl)) h2 hs (fun x hx => by simpa using hlt x (List.mem_append_left _ (List.mem_append_right _ hx)))
  have k3 : ∀ W' : World, (∀ x ∈ p3, W.sameAt W' x) → DataW.Trod enc Tryd.prog W' 0 (fun b => decide (b < W.heap.size)) true 3 v3 d3 p3 := fun W' hs => WideElems.Trod_stays Tryd.laidOut (by kernel_rfl) (of_decide_eq_true (by kernel_rfl)) h3 hs (fun x hx => by simpa using hlt x (List.mem_append_right _ hx))
  obtain ⟨x0, hs0, hl0, hr0⟩ := has_terms2 (hval 0 22 v0 rfl rfl) h0 (fun n hn => by simpa using List.all_eq_true.1 hreach n (DataW.weights_mem_each (j := 0) rfl rfl n hn))
  obtain ⟨x1, hs1, hl1, hr1⟩ := has_terms2 (hval 1 22 v1 rfl rfl) h1 (fun n hn => by simpa using List.all_eq_true.1 hreach n (DataW.weights_mem_each (j := 1) rfl rfl n hn))
  obtain ⟨x2, rfl, rfl, rfl, hs2⟩ := open_int Tryd.underlying3 (hval 2 3 v2 rfl rfl) h2
  obtain ⟨x3, rfl, rfl, rfl, hs3⟩ := open_int Tryd.underlying3 (hval 3 3 v3 rfl rfl) h3
  rw [MakeChecks.laidMetH_plain _ _ _ (by kernel_rfl)] at hL
  obtain ⟨aA, aI, aL, sE⟩ := errT_of hL
  clear hA0 hval0
  refine (lawSames_any _ _ x0 x1 x2 x3 aA aI aL W hl0 hl1 hs0 hs1 hr0 hr1 sE).mono fun e W' ⟨he, hb⟩ => ?_
  subst he
  refine ⟨_, rfl, _, _, _, [], (p0 ++ (p1 ++ ([] ++ []))), [], hW', ?_, ?_, ?_, hb.frame _, fun h => by cases h⟩
  · exact trodAll_mk1 (shut_bool Tryd.underlying4 true)
  · exact trodAll_mk4 (k0 W' fun x hx => hb.same (hlt x (List.mem_append_left _ (List.mem_append_left _ (List.mem_append_left _ hx))))) (k1 W' fun x hx => hb.same (hlt x (List.mem_append_left _ (List.mem_append_left _ (List.mem_append_right _ hx))))) (k2 W' fun x hx => hb.same (hlt x (List.mem_append_left _ (List.mem_append_right _ hx)))) (k3 W' fun x hx => hb.same (hlt x (List.mem_append_right _ hx)))
  · rfl
theorem termSames_holds : Rows.TermSamesSaid :=
  OpenClaim.holds_of_wide 4 Tryd.f4 rfl rfl rfl rfl rfl rfl rfl ⟨rfl, rfl, rfl, rfl, rfl⟩ rfl rfl rfl rfl rfl (by kernel_rfl) Tryd.func4 (by kernel_rfl)
    (of_decide_eq_true (by kernel_rfl)) (by unfold Func.isWrapper; rw [if_neg (of_decide_eq_false (by kernel_rfl))]; exact ⟨rfl, rfl⟩)
    (fun os started H enc _ => sm_lifted os started H enc)
theorem termSames_card : Rows.TermSamesCardSaid :=
  Claim7.holds_tied_plain_at .later [] _ true (true, "5266831616142c9922749e6c435fe6574f5c95ecb1e133507e7f142f6a2895bc") true
    termSames_holds (fun _ h => by cases h) (by kernel_rfl) (fun _ h => by cases h) termSames_row_tie rfl ⟨rfl, rfl⟩ (by kernel_rfl) rfl
    (fun f fn hf hfn => by
      obtain rfl : f = 4 := Option.some.inj ((show Tryd.prog.funcNamed "semblance/semblancelaw3.TermSames" = some 4 by kernel_rfl).symm.trans hf) |>.symm
      obtain rfl : fn = Tryd.f4 := (Option.some.inj (Tryd.func4.symm.trans hfn)).symm
      exact ⟨by kernel_rfl, fun j t ht => by
        rw [Tryd.params4] at ht
        rcases j with _ | j
        · obtain rfl : t = 22 := by simpa using ht.symm
          exact (show Tryd.prog.wantsStandIn 22 = false by kernel_rfl)
        rcases j with _ | j
        · obtain rfl : t = 22 := by simpa using ht.symm
          exact (show Tryd.prog.wantsStandIn 22 = false by kernel_rfl)
        rcases j with _ | j
        · obtain rfl : t = 3 := by simpa using ht.symm
          exact (show Tryd.prog.wantsStandIn 3 = false by kernel_rfl)
        rcases j with _ | j
        · obtain rfl : t = 3 := by simpa using ht.symm
          exact (show Tryd.prog.wantsStandIn 3 = false by kernel_rfl)
        simp at ht⟩)
    (by kernel_rfl)
#print axioms termSames_card
end Go.Proofs.YtoamnhhegneegaaDoor
