/- The statement DistinguishBounded holds as its tied card says: for all arguments the call returns true and the arguments read as they did. Conditions: api's errors are laid as the program's text lays them. -/
import Derived.Test.YtgehimdkdeldaaaGreatDoorPart0
import Derived.Test.YtgehimdkdeldaaaGreatDoorPart17
import Derived.Test.YtgehimdkdeldaaaGreatDoorPart14
import Derived.Test.YtgehimdkdeldaaaGreatDoorTie
import Derived.Test.YtgehimdkdeldaaaGreatDoorCards
import Derived.OpenShut
import Derived.Stop.Joined
import Derived.SevenTiedAt
namespace Go.Proofs.YtgehimdkdeldaaaGreatDoor
open Go.ChangeShapes Go.WideShapes Go.ChangeAt Go.WideMaps Go.WideElems Go.RowKit
open Go.ChangeMaps (setBlock shut_map_nil open_string shut_string keptBut_setBlock frozen?_setBlock heap_setBlock_same)
/-- What the row's listed variables give: strconv's table, the errors, errors.As' handle. -/
theorem envC_of {W : World} (h : laidMetH Tryz.prog Rows.distinguishBoundedRow.laid W) : ∃ a aL aN, Di.EnvC W a aL aN := by
  have h1 : laidMet Tryz.prog (Rows.distinguishBoundedRow.laid.filter fun x => x.2.handleName?.isNone) W := h.1
  have h2 := er_pow_of h1
  obtain ⟨a, aL, aN, g1, g2, g3, g4⟩ := Di.six_of h2.2
  have h3 : handlesMet Tryz.prog [("errors.errorType", Rows.laid_errors_errorType)] W := h.2
  exact ⟨a, aL, aN, g1, ⟨g2, Di.handle_of h3⟩, g3, g4, h2.1⟩
theorem dd_met (os : Os) (args : Array Value) : laidMetH Tryz.prog Rows.distinguishBoundedRow.laid ((World.doorLaid Tryz.prog 392 os).forCall (fun _ _ => 0) ⟨#[], args, []⟩).memory :=
  laidMetH_of_parts3 (fuel := 8) (laidMet_of_run' 8 (by kernel_rfl) (by kernel_rfl)) (by kernel_rfl) (by kernel_rfl)
set_option maxRecDepth 100000 in
theorem dd_lifted (os : Os) (started : os.Started) (H : Type) (enc : TypeId × Value → H) :
    ReturnsInHanded {} Tryz.checked os 8 .any (fun w args => (Rows.distinguishBoundedSpec.pre enc Tryz.prog Tryz.f8 [] false w args ∧ laidMetH Tryz.prog Rows.distinguishBoundedRow.laid w) ∧ sizedMet enc Tryz.prog Tryz.f8 (OpenSpec.ofChange Rows.distinguishBoundedSpec) false w args)
      (Rows.distinguishBoundedSpec.post enc Tryz.prog Tryz.f8 false true false false) := by
  refine returnsInHanded_of_change_and (C := Tryz.checked) (X := fun w _ => laidMetH Tryz.prog Rows.distinguishBoundedRow.laid w) (fun _ _ _ hh h => h.of_heap hh) Tryz.own started (by kernel_rfl) Tryz.func8
    (ChangeSpec.witness_shaped (enc := enc) (C := Tryz.checked) (os := os) (X := fun w _ => laidMetH Tryz.prog Rows.distinguishBoundedRow.laid w) false (World.doorLaid Tryz.prog 392 os) #[.agg #[.int .i64 0, .int .i64 0, .int .i64 0, .slice none 0 0], .int .i64 0, .int .i64 0] 8 rfl (World.shaped_of_RefB (by kernel_rfl) (by kernel_rfl)) (by kernel_rfl) (by kernel_rfl) (by kernel_rfl) (dd_met os _)) ?_
  intro W base args ds gs before hval0 hW _ _ hL _
  have hval : ∀ (j : Nat) t v, Tryz.f8.params[j]? = some t → args[j]? = some v → Value.okWide Tryz.prog W .any base t v := hval0
  have hW' := hW
  obtain ⟨p, q, hA0, hV, rfl, hfz, hnd⟩ := hW
  have hA : DataW.TrodAll enc Tryz.prog W 0 (fun _ => true) true Tryz.f8.params.toList args.toList ds p := hA0
  have hlt : ∀ x ∈ p, x.block < W.heap.size := fun x hx => hW'.lt x (List.mem_append_left _ hx)
  rw [Tryz.params8] at hA hval
  obtain ⟨v0, v1, v2, d0, d1, d2, p0, p1, p2, rfl, rfl, rfl, h0, h1, h2⟩ := trodAll_three hA
  obtain ⟨rfl, rfl⟩ := trodVars_none hV
  have k0 : ∀ W' : World, (∀ x ∈ p0, W.sameAt W' x) → DataW.Trod enc Tryz.prog W' 0 (fun b => decide (b < W.heap.size)) true 27 v0 d0 p0 := fun W' hs => WideElems.Trod_stays Tryz.laidOut (by kernel_rfl) (of_decide_eq_true (by kernel_rfl)) h0 hs (fun x hx => by simpa using hlt x (List.mem_append_left _ (List.mem_append_left _ hx)))
  have k1 : ∀ W' : World, (∀ x ∈ p1, W.sameAt W' x) → DataW.Trod enc Tryz.prog W' 0 (fun b => decide (b < W.heap.size)) true 3 v1 d1 p1 := fun W' hs => WideElems.Trod_stays Tryz.laidOut (by kernel_rfl) (of_decide_eq_true (by kernel_rfl)) h1 hs (fun x hx => by simpa using hlt x (List.mem_append_left _ (List.mem_append_right _ hx)))
  have k2 : ∀ W' : World, (∀ x ∈ p2, W.sameAt W' x) → DataW.Trod enc Tryz.prog W' 0 (fun b => decide (b < W.heap.size)) true 3 v2 d2 p2 := fun W' hs => WideElems.Trod_stays Tryz.laidOut (by kernel_rfl) (of_decide_eq_true (by kernel_rfl)) h2 hs (fun x hx => by simpa using hlt x (List.mem_append_right _ hx))
  obtain ⟨n0, k0', s0, u0, x0, rfl, hs0, hl0⟩ := has_sys (hval 0 27 v0 rfl rfl) h0
  obtain ⟨x1, rfl, rfl, rfl, hs1⟩ := open_int Tryz.underlying3 (hval 1 3 v1 rfl rfl) h1
  obtain ⟨x2, rfl, rfl, rfl, hs2⟩ := open_int Tryz.underlying3 (hval 2 3 v2 rfl rfl) h2
  obtain ⟨a, aL, aN, hE⟩ := envC_of hL
  clear hA0 hval0
  refine (Di.lawBounded_any sortAll n0 k0' s0 x1 x2 u0 x0 a aL aN W hE hs0).mono fun e W' ⟨he, hb⟩ => ?_
  subst he
  refine ⟨_, rfl, _, _, _, [], (p0 ++ ([] ++ [])), [], hW', ?_, ?_, ?_, hb.frame _, fun h => by cases h⟩
  · exact trodAll_mk1 (shut_bool Tryz.underlying4 true)
  · exact trodAll_mk3 (k0 W' fun x hx => hb.same (hlt x (List.mem_append_left _ (List.mem_append_left _ hx)))) (k1 W' fun x hx => hb.same (hlt x (List.mem_append_left _ (List.mem_append_right _ hx)))) (k2 W' fun x hx => hb.same (hlt x (List.mem_append_right _ hx)))
  · rfl
theorem distinguishBounded_holds : Rows.DistinguishBoundedSaid :=
  OpenClaim.holds_of_wide 8 Tryz.f8 rfl rfl rfl rfl rfl rfl rfl ⟨rfl, rfl, rfl, rfl, rfl⟩ rfl rfl rfl rfl rfl dd_named Tryz.func8 dd_joined
    dd_inst dd_wrap
    (fun os started H enc _ => dd_lifted os started H enc)
theorem distinguishBounded_card : Rows.DistinguishBoundedCardSaid :=
  Claim7.holds_tied_plain_at .later [] _ true (true, "2a74143b980c04ba1ea11d80c68ecf1654586bf8b05ecf9c96d9a632a38b48f2") true
    distinguishBounded_holds (fun _ h => by cases h) (by kernel_rfl) (fun _ h => by cases h) distinguishBounded_row_tie rfl ⟨rfl, rfl⟩ (by kernel_rfl) rfl
    (fun f fn hf hfn => by
      obtain rfl : f = 8 := Option.some.inj ((show Tryz.prog.funcNamed "semblance/semblancelaw16.DistinguishBounded" = some 8 by kernel_rfl).symm.trans hf) |>.symm
      obtain rfl : fn = Tryz.f8 := (Option.some.inj (Tryz.func8.symm.trans hfn)).symm
      exact ⟨by kernel_rfl, fun j t ht => by
        rw [Tryz.params8] at ht
        rcases j with _ | j
        · obtain rfl : t = 27 := by simpa using ht.symm
          exact (show Tryz.prog.wantsStandIn 27 = false by kernel_rfl)
        rcases j with _ | j
        · obtain rfl : t = 3 := by simpa using ht.symm
          exact (show Tryz.prog.wantsStandIn 3 = false by kernel_rfl)
        rcases j with _ | j
        · obtain rfl : t = 3 := by simpa using ht.symm
          exact (show Tryz.prog.wantsStandIn 3 = false by kernel_rfl)
        simp at ht⟩)
    (by kernel_rfl)
#print axioms distinguishBounded_card
end Go.Proofs.YtgehimdkdeldaaaGreatDoor
