/- The statement DistinguishGrows holds as its tied card says: for all arguments the call returns true and the arguments read as they did. Conditions: api's errors are laid as the program's text lays them. -/
import Derived.Test.YtgehimdkdeldaabGreatDoorPart0
import Derived.Test.YtgehimdkdeldaabGreatDoorPart17
import Derived.Test.YtgehimdkdeldaabGreatDoorPart14
import Derived.Test.YtgehimdkdeldaabGreatDoorTie
import Derived.Test.YtgehimdkdeldaabGreatDoorCards
import Derived.OpenShut
import Derived.Stop.Joined
import Derived.SevenTiedAt
namespace Go.Proofs.YtgehimdkdeldaabGreatDoor
open Go.ChangeShapes Go.WideShapes Go.ChangeAt Go.WideMaps Go.WideElems Go.RowKit
open Go.ChangeMaps (setBlock shut_map_nil open_string shut_string keptBut_setBlock frozen?_setBlock heap_setBlock_same)
/-- What the row's listed variables give: strconv's table, the errors, errors.As' handle. -/
theorem envC_of {W : World} (h : laidMetH Tryz.prog Rows.distinguishGrowsRow.laid W) : ∃ a aL aN, Di.EnvC W a aL aN := by
  have h1 : laidMet Tryz.prog (Rows.distinguishGrowsRow.laid.filter fun x => x.2.handleName?.isNone) W := h.1
  have h2 := er_pow_of h1
  obtain ⟨a, aL, aN, g1, g2, g3, g4⟩ := Di.six_of h2.2
  have h3 : handlesMet Tryz.prog [("errors.errorType", Rows.laid_errors_errorType)] W := h.2
  exact ⟨a, aL, aN, g1, ⟨g2, Di.handle_of h3⟩, g3, g4, h2.1⟩
theorem dg_met (os : Os) (args : Array Value) : laidMetH Tryz.prog Rows.distinguishGrowsRow.laid ((World.doorLaid Tryz.prog 145 os).forCall (fun _ _ => 0) ⟨#[], args, []⟩).memory :=
  laidMetH_of_parts3 (fuel := 8) (laidMet_of_run' 8 (by kernel_rfl) (by kernel_rfl)) (by kernel_rfl) (by kernel_rfl)
set_option maxRecDepth 100000 in
theorem dg_lifted (os : Os) (started : os.Started) (H : Type) (enc : TypeId × Value → H) :
    ReturnsInHanded {} Tryz.checked os 3 .any (fun w args => (Rows.distinguishGrowsSpec.pre enc Tryz.prog Tryz.f3 [] false w args ∧ laidMetH Tryz.prog Rows.distinguishGrowsRow.laid w) ∧ sizedMet enc Tryz.prog Tryz.f3 (OpenSpec.ofChange Rows.distinguishGrowsSpec) false w args)
      (Rows.distinguishGrowsSpec.post enc Tryz.prog Tryz.f3 false true false false) := by
  refine returnsInHanded_of_change_and (C := Tryz.checked) (X := fun w _ => laidMetH Tryz.prog Rows.distinguishGrowsRow.laid w) (fun _ _ _ hh h => h.of_heap hh) Tryz.own started (by kernel_rfl) Tryz.func3
    (ChangeSpec.witness_shaped (enc := enc) (C := Tryz.checked) (os := os) (X := fun w _ => laidMetH Tryz.prog Rows.distinguishGrowsRow.laid w) false (World.doorLaid Tryz.prog 145 os) #[.int .i64 0, .int .i64 0] 8 rfl (World.shaped_of_RefB (by kernel_rfl) (by kernel_rfl)) (by kernel_rfl) (by kernel_rfl) (by kernel_rfl) (dg_met os _)) ?_
  intro W base args ds gs before hval0 hW _ _ hL _
  have hval : ∀ (j : Nat) t v, Tryz.f3.params[j]? = some t → args[j]? = some v → Value.okWide Tryz.prog W .any base t v := hval0
  have hW' := hW
  obtain ⟨p, q, hA0, hV, rfl, hfz, hnd⟩ := hW
  have hA : DataW.TrodAll enc Tryz.prog W 0 (fun _ => true) true Tryz.f3.params.toList args.toList ds p := hA0
  have hlt : ∀ x ∈ p, x.block < W.heap.size := fun x hx => hW'.lt x (List.mem_append_left _ hx)
  rw [Tryz.params3] at hA hval
  obtain ⟨v0, v1, d0, d1, p0, p1, rfl, rfl, rfl, h0, h1⟩ := trodAll_two hA
  obtain ⟨rfl, rfl⟩ := trodVars_none hV
  have k0 : ∀ W' : World, (∀ x ∈ p0, W.sameAt W' x) → DataW.Trod enc Tryz.prog W' 0 (fun b => decide (b < W.heap.size)) true 3 v0 d0 p0 := fun W' hs => WideElems.Trod_stays Tryz.laidOut (by kernel_rfl) (of_decide_eq_true (by kernel_rfl)) h0 hs (fun x hx => by simpa using hlt x (List.mem_append_left _ hx))
  have k1 : ∀ W' : World, (∀ x ∈ p1, W.sameAt W' x) → DataW.Trod enc Tryz.prog W' 0 (fun b => decide (b < W.heap.size)) true 3 v1 d1 p1 := fun W' hs => WideElems.Trod_stays Tryz.laidOut (by kernel_rfl) (of_decide_eq_true (by kernel_rfl)) h1 hs (fun x hx => by simpa using hlt x (List.mem_append_right _ hx))
  obtain ⟨x0, rfl, rfl, rfl, hs0⟩ := open_int Tryz.underlying3 (hval 0 3 v0 rfl rfl) h0
  obtain ⟨x1, rfl, rfl, rfl, hs1⟩ := open_int Tryz.underlying3 (hval 1 3 v1 rfl rfl) h1
  obtain ⟨a, aL, aN, hE⟩ := envC_of hL
  clear hA0 hval0
  refine (Di.lawGrows_any sortAll x0 x1 a aL aN W hE (Di.wf_le hs0)).mono fun e W' ⟨he, hb⟩ => ?_
  subst he
  refine ⟨_, rfl, _, _, _, [], ([] ++ []), [], hW', ?_, ?_, ?_, hb.frame _, fun h => by cases h⟩
  · exact trodAll_mk1 (shut_bool Tryz.underlying4 true)
  · exact trodAll_mk2 (k0 W' fun x hx => hb.same (hlt x (List.mem_append_left _ hx))) (k1 W' fun x hx => hb.same (hlt x (List.mem_append_right _ hx)))
  · rfl
theorem distinguishGrows_holds : Rows.DistinguishGrowsSaid :=
  OpenClaim.holds_of_wide 3 Tryz.f3 rfl rfl rfl rfl rfl rfl rfl ⟨rfl, rfl, rfl, rfl, rfl⟩ rfl rfl rfl rfl rfl dg_named Tryz.func3 dg_joined
    dg_inst dg_wrap
    (fun os started H enc _ => dg_lifted os started H enc)
theorem distinguishGrows_card : Rows.DistinguishGrowsCardSaid :=
  Claim7.holds_tied_plain_at .later [] _ true (true, "5009a2fbeab3df2ed98d0c6e2bd84b705e6449e913e81055dc0f74888cec3454") true
    distinguishGrows_holds (fun _ h => by cases h) (by kernel_rfl) (fun _ h => by cases h) distinguishGrows_row_tie rfl ⟨rfl, rfl⟩ (by kernel_rfl) rfl
    (fun f fn hf hfn => by
      obtain rfl : f = 3 := Option.some.inj ((show Tryz.prog.funcNamed "semblance/semblancelaw16.DistinguishGrows" = some 3 by kernel_rfl).symm.trans hf) |>.symm
      obtain rfl : fn = Tryz.f3 := (Option.some.inj (Tryz.func3.symm.trans hfn)).symm
      exact ⟨by kernel_rfl, fun j t ht => by
        rw [Tryz.params3] at ht
        rcases j with _ | j
        · obtain rfl : t = 3 := by simpa using ht.symm
          exact (show Tryz.prog.wantsStandIn 3 = false by kernel_rfl)
        rcases j with _ | j
        · obtain rfl : t = 3 := by simpa using ht.symm
          exact (show Tryz.prog.wantsStandIn 3 = false by kernel_rfl)
        simp at ht⟩)
    (by kernel_rfl)
#print axioms distinguishGrows_card
end Go.Proofs.YtgehimdkdeldaabGreatDoor
