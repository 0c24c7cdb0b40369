/- The statement LexisBlanks holds as its tied card says: for every text the call returns true and the argument reads as it did. Conditions: api's errors are laid as the program's text lays them. -/
import Derived.Test.YtebeimjgppidcaaDoorLawBlanks
import Derived.Test.YtebeimjgppidcaaDoorLaid
import Derived.Test.YtebeimjgppidcaaDoorTie
import Derived.Test.YtebeimjgppidcaaDoorCards
import Derived.OpenShut
import Derived.Stop.Joined
import Derived.SevenTiedAt
namespace Go.Proofs.YtebeimjgppidcaaDoor
open Go.ChangeShapes Go.WideShapes Go.ChangeAt Go.WideMaps Go.WideElems Go.RowKit
open Go.ChangeMaps (setBlock shut_map_nil open_string shut_string keptBut_setBlock frozen?_setBlock heap_setBlock_same)
theorem two_of {W : World} {x1 x3 : List UInt8} (h : laidMet Tryd.prog [("semblance/api.ErrLong", .iface "*errors.errorString" (.ptr (.agg [.lit (.string x1)]))), ("semblance/api.ErrWord", .iface "*errors.errorString" (.ptr (.agg [.lit (.string x3)])))] W) : ∃ aL aW, Two W aL aW := by
  obtain ⟨ps, h0, hnd, hrows⟩ := h
  obtain ⟨aL, q1, sL, h2, rfl⟩ := laid_step Tryd.gL Tryd.tL h0 hrows
  obtain ⟨aW, q3, sW, h4, rfl⟩ := laid_step Tryd.gW Tryd.tW h2 (fun b o hb => hrows b o (by simp only [List.mem_cons]; exact .inr (.inr hb)))
  exact ⟨aL, aW, sL, sW⟩
theorem bl_met (os : Os) (args : Array Value) : laidMetH Tryd.prog Rows.lexisBlanksRow.laid ((World.doorLaid Tryd.prog 370 os).forCall (fun _ _ => 0) ⟨#[], args, []⟩).memory :=
  laidMetH_of_parts3 (fuel := 8) (laidMet_of_run' 8 (by kernel_rfl) (by kernel_rfl)) (by kernel_rfl) (by kernel_rfl)
set_option maxRecDepth 100000 in
theorem bl_lifted (os : Os) (started : os.Started) (H : Type) (enc : TypeId × Value → H) :
    ReturnsInHanded {} Tryd.checked os 6 .any (fun w args => (Rows.lexisBlanksSpec.pre enc Tryd.prog Tryd.f6 [] false w args ∧ laidMetH Tryd.prog Rows.lexisBlanksRow.laid w) ∧ sizedMet enc Tryd.prog Tryd.f6 (OpenSpec.ofChange Rows.lexisBlanksSpec) false w args)
      (Rows.lexisBlanksSpec.post enc Tryd.prog Tryd.f6 false true false false) := by
  refine returnsInHanded_of_change_and (C := Tryd.checked) (X := fun w _ => laidMetH Tryd.prog Rows.lexisBlanksRow.laid w) (fun _ _ _ hh h => h.of_heap hh) Tryd.own started (by kernel_rfl) Tryd.func6
    (ChangeSpec.witness_shaped (enc := enc) (C := Tryd.checked) (os := os) (X := fun w _ => laidMetH Tryd.prog Rows.lexisBlanksRow.laid w) false (World.doorLaid Tryd.prog 370 os) #[.string ⟨#[]⟩] 8 rfl (World.shaped_of_RefB (by kernel_rfl) (by kernel_rfl)) (by kernel_rfl) (by kernel_rfl) (by kernel_rfl) (bl_met os _)) ?_
  intro W base args ds gs before hval0 hW _ _ hL _
  have hval : ∀ (j : Nat) t v, Tryd.f6.params[j]? = some t → args[j]? = some v → Value.okWide Tryd.prog W .any base t v := hval0
  have hW' := hW
  obtain ⟨p, q, hA0, hV, rfl, hfz, hnd⟩ := hW
  have hA : DataW.TrodAll enc Tryd.prog W 0 (fun _ => true) true Tryd.f6.params.toList args.toList ds p := hA0
  rw [Tryd.params6] at hA hval
  obtain ⟨v0, d0, rfl, rfl, h0⟩ := trodAll_one hA
  obtain ⟨rfl, rfl⟩ := trodVars_none hV
  obtain ⟨s, rfl, rfl, rfl, hs⟩ := open_string Tryd.underlying9 (hval 0 9 v0 rfl rfl) h0
  rw [MakeChecks.laidMetH_plain _ _ _ (by kernel_rfl)] at hL
  obtain ⟨aL, aW, hE⟩ := two_of hL
  clear hA0 hval0
  refine (lawBlanks_any s aL aW W hs hE).mono fun e W' ⟨he, hb⟩ => ?_
  subst he
  refine ⟨_, rfl, _, _, _, [], [], [], hW', ?_, ?_, ?_, hb.frame _, fun h => by cases h⟩
  · exact trodAll_mk1 (shut_bool Tryd.underlying4 true)
  · exact trodAll_mk1 (shut_string Tryd.underlying9 hs)
  · rfl
theorem lexisBlanks_holds : Rows.LexisBlanksSaid :=
  OpenClaim.holds_of_wide 6 Tryd.f6 rfl rfl rfl rfl rfl rfl rfl ⟨rfl, rfl, rfl, rfl, rfl⟩ rfl rfl rfl rfl rfl (by kernel_rfl) Tryd.func6 (by kernel_rfl)
    (of_decide_eq_true (by kernel_rfl)) (by unfold Func.isWrapper; rw [if_neg (of_decide_eq_false (by kernel_rfl))]; exact ⟨rfl, rfl⟩)
    (fun os started H enc _ => bl_lifted os started H enc)
theorem lexisBlanks_card : Rows.LexisBlanksCardSaid :=
  Claim7.holds_tied_plain_at .later [] _ true (true, "c10bd40f2a2c18ec273f8632da3a398fe0c8a83971c42c8f1cbf75dc6cc14d38") true
    lexisBlanks_holds (fun _ h => by cases h) (by kernel_rfl) (fun _ h => by cases h) lexisBlanks_row_tie rfl ⟨rfl, rfl⟩ (by kernel_rfl) rfl
    (fun f fn hf hfn => by
      obtain rfl : f = 6 := Option.some.inj ((show Tryd.prog.funcNamed "semblance/semblancelaw1.LexisBlanks" = some 6 by kernel_rfl).symm.trans hf) |>.symm
      obtain rfl : fn = Tryd.f6 := (Option.some.inj (Tryd.func6.symm.trans hfn)).symm
      exact ⟨by kernel_rfl, fun j t ht => by
        rw [Tryd.params6] at ht
        have h3 : t = 9 := by
          rcases j with _ | j
          · simpa using ht.symm
          · simp at ht
        subst h3
        exact (show Tryd.prog.wantsStandIn 9 = false by kernel_rfl)⟩)
    (by kernel_rfl)
#print axioms lexisBlanks_card
end Go.Proofs.YtebeimjgppidcaaDoor
