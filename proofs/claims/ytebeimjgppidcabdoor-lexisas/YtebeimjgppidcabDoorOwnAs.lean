/- The statement LexisAs holds as its tied card says: for every text the call returns true and the argument reads as it did. Conditions: api's errors are laid as the program's text lays them. -/
import Derived.Test.YtebeimjgppidcabDoorLawAsB
import Derived.Test.YtebeimjgppidcabDoorLaid
import Derived.Test.YtebeimjgppidcabDoorTie
import Derived.Test.YtebeimjgppidcabDoorCards
import Derived.OpenShut
import Derived.Stop.Joined
import Derived.SevenTiedAt
namespace Go.Proofs.YtebeimjgppidcabDoor
open Go.ChangeShapes Go.WideShapes Go.ChangeAt Go.WideMaps Go.WideElems Go.RowKit
open Go.ChangeMaps (setBlock shut_map_nil open_string shut_string keptBut_setBlock frozen?_setBlock heap_setBlock_same)
theorem Tryd.et : Tryd.prog.globalNamed "errors.errorType" = some 10 := by kernel_rfl
theorem Tryd.rt : (Tryd.prog.cutTypes.find? (·.1 == "internal/reflectlite.rtype")).map (·.2) = some 75 := by kernel_rfl
theorem Tryd.oneRow : ((List.range Tryd.prog.types.size).filter fun t => Tryd.prog.rowNamed t [101, 114, 114, 111, 114]) = [24] := by kernel_rfl
set_option maxRecDepth 100000 in
/-- What the row's listed variables give: the two errors, and the handle that errors.As asks. -/
theorem as_of {W : World} (h : laidMetH Tryd.prog Rows.lexisAsRow.laid W) : ∃ aL aW, Errs2 W aL aW := by
  have h' : laidMet Tryd.prog [("semblance/api.ErrLong", Rows.laid_semblance_api_ErrLong), ("semblance/api.ErrWord", Rows.laid_semblance_api_ErrWord)] W ∧ handlesMet Tryd.prog [("errors.errorType", Rows.laid_errors_errorType)] W := h
  obtain ⟨name, u, ty, e1, e2, e3, e4, e5⟩ := h'.2 _ (List.mem_singleton.2 rfl)
  have en : name = [101, 114, 114, 111, 114] := (Option.some.inj e1).symm
  subst en
  obtain rfl := Option.some.inj (Tryd.rt.symm.trans e2)
  have hm : ty ∈ (List.range Tryd.prog.types.size).filter fun t => Tryd.prog.rowNamed t [101, 114, 114, 111, 114] := List.mem_filter.2 ⟨List.mem_range.2 e3, e4⟩
  rw [Tryd.oneRow] at hm
  obtain rfl := List.mem_singleton.1 hm
  have hh : typeHandle Tryd.prog 24 = .pointer (some ⟨21, 24, none⟩) := by kernel_rfl
  rw [hh] at e5
  have hc : W.cell? ⟨10, 0, none⟩ = some (.iface 75 (.agg #[.pointer (some ⟨21, 24, none⟩)])) := by simpa using World.var?_cell Tryd.et e5 0
  obtain ⟨ps, h0, hnd, hrows⟩ := h'.1
  obtain ⟨aL, q1, sL, h2, rfl⟩ := laid_step Tryd.gL Tryd.tL h0 hrows
  obtain ⟨aW, q3, sW, h4, rfl⟩ := laid_step Tryd.gW Tryd.tW h2 (fun b o hb => hrows b o (by simp only [List.mem_cons]; exact .inr (.inr hb)))
  refine ⟨aL, aW, sL, sW, ?_, hc⟩
  rintro rfl
  simp at hnd
theorem as_met (os : Os) (args : Array Value) : laidMetH Tryd.prog Rows.lexisAsRow.laid ((World.doorLaid Tryd.prog 377 os).forCall (fun _ _ => 0) ⟨#[], args, []⟩).memory :=
  laidMetH_of_parts3 (fuel := 8) (laidMet_of_run' 8 (by kernel_rfl) (by kernel_rfl)) (by kernel_rfl) (by kernel_rfl)
set_option maxRecDepth 100000 in
theorem as_lifted (os : Os) (started : os.Started) (H : Type) (enc : TypeId × Value → H) :
    ReturnsInHanded {} Tryd.checked os 5 .any (fun w args => (Rows.lexisAsSpec.pre enc Tryd.prog Tryd.f5 [] false w args ∧ laidMetH Tryd.prog Rows.lexisAsRow.laid w) ∧ sizedMet enc Tryd.prog Tryd.f5 (OpenSpec.ofChange Rows.lexisAsSpec) false w args)
      (Rows.lexisAsSpec.post enc Tryd.prog Tryd.f5 false true false false) := by
  refine returnsInHanded_of_change_and (C := Tryd.checked) (X := fun w _ => laidMetH Tryd.prog Rows.lexisAsRow.laid w) (fun _ _ _ hh h => h.of_heap hh) Tryd.own started (by kernel_rfl) Tryd.func5
    (ChangeSpec.witness_shaped (enc := enc) (C := Tryd.checked) (os := os) (X := fun w _ => laidMetH Tryd.prog Rows.lexisAsRow.laid w) false (World.doorLaid Tryd.prog 377 os) #[.string ⟨#[]⟩] 8 rfl (World.shaped_of_RefB (by kernel_rfl) (by kernel_rfl)) (by kernel_rfl) (by kernel_rfl) (by kernel_rfl) (as_met os _)) ?_
  intro W base args ds gs before hval0 hW _ _ hL _
  have hval : ∀ (j : Nat) t v, Tryd.f5.params[j]? = some t → args[j]? = some v → Value.okWide Tryd.prog W .any base t v := hval0
  have hW' := hW
  obtain ⟨p, q, hA0, hV, rfl, hfz, hnd⟩ := hW
  have hA : DataW.TrodAll enc Tryd.prog W 0 (fun _ => true) true Tryd.f5.params.toList args.toList ds p := hA0
  rw [Tryd.params5] at hA hval
  obtain ⟨v0, d0, rfl, rfl, h0⟩ := trodAll_one hA
  obtain ⟨rfl, rfl⟩ := trodVars_none hV
  obtain ⟨s, rfl, rfl, rfl, hs⟩ := open_string Tryd.underlying9 (hval 0 9 v0 rfl rfl) h0
  obtain ⟨aL, aW, hE⟩ := as_of hL
  clear hA0 hval0
  refine (lawAs_any s aL aW W hs hE).mono fun e W' ⟨he, hb⟩ => ?_
  subst he
  refine ⟨_, rfl, _, _, _, [], [], [], hW', ?_, ?_, ?_, hb.frame _, fun h => by cases h⟩
  · exact trodAll_mk1 (shut_bool Tryd.underlying4 true)
  · exact trodAll_mk1 (shut_string Tryd.underlying9 hs)
  · rfl
theorem lexisAs_holds : Rows.LexisAsSaid :=
  OpenClaim.holds_of_wide 5 Tryd.f5 rfl rfl rfl rfl rfl rfl rfl ⟨rfl, rfl, rfl, rfl, rfl⟩ rfl rfl rfl rfl rfl (by kernel_rfl) Tryd.func5 (by kernel_rfl)
    (of_decide_eq_true (by kernel_rfl)) (by unfold Func.isWrapper; rw [if_neg (of_decide_eq_false (by kernel_rfl))]; exact ⟨rfl, rfl⟩)
    (fun os started H enc _ => as_lifted os started H enc)
theorem lexisAs_card : Rows.LexisAsCardSaid :=
  Claim7.holds_tied_plain_at .later [] _ true (true, "27aee68713aa11162dc367016e5791ef078f40766cd1c888d4141e7f48cedc61") true
    lexisAs_holds (fun _ h => by cases h) (by kernel_rfl) (fun _ h => by cases h) lexisAs_row_tie rfl ⟨rfl, rfl⟩ (by kernel_rfl) rfl
    (fun f fn hf hfn => by
      obtain rfl : f = 5 := Option.some.inj ((show Tryd.prog.funcNamed "semblance/semblancelaw1.LexisAs" = some 5 by kernel_rfl).symm.trans hf) |>.symm
      obtain rfl : fn = Tryd.f5 := (Option.some.inj (Tryd.func5.symm.trans hfn)).symm
      exact ⟨by kernel_rfl, fun j t ht => by
        rw [Tryd.params5] at ht
        have h3 : t = 9 := by
          rcases j with _ | j
          · simpa using ht.symm
          · simp at ht
        subst h3
        exact (show Tryd.prog.wantsStandIn 9 = false by kernel_rfl)⟩)
    (by kernel_rfl)
#print axioms lexisAs_card
end Go.Proofs.YtebeimjgppidcabDoor
