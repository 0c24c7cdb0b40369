/- Texts of this claim, joined: RfAs0, RfOf, ErTold, BookInts1, BookI0, BookI1, BookI2, BookI3. -/
import Derived.Test.YtpcndfffljmajaaGreatDoorPart3
import Derived.Test.YtpcndfffljmajaaGreatDoorErCode
import Derived.Test.YtpcndfffljmajaaGreatDoorPart7
import Derived.Test.YtpcndfffljmajaaGreatDoorPart5
import Derived.Deep.QuietTactic
import Derived.BigQuiet
import Derived.ProofKit
import Derived.Test.YtpcndfffljmajaaGreatDoorPart4
import Derived.Test.YtpcndfffljmajaaGreatDoorPart0
import Derived.Deep.DeepCutAuto
import Derived.Deep.RegionHeld3
/- What the statement RefineAs leans on. -/
namespace Go.Proofs.YtpcndfffljmajaaGreatDoor
open Go.RowKit Go.Maps
attribute [local go_sem ↓] Go.wp_at_zero Go.wp_at_succ
set_option maxHeartbeats 1000000 in
theorem new_bad8 (n : Int) (a1 a3 : Addr) (w : World) (hE : EnvR w a1 a3) (h : n < 0 ∨ 1000 < n) :
    Calls Tryz.prog 7 #[.int .i64 n] w fun r w' => ∃ x, r = .returned (.tuple #[.pointer none, x]) ∧ Chain w' 0 0 a1 [refB] x ∧ Below w.heap.size w w' := by
  have hF := fault_any a1 w hE.et
  have hc := hE.arg.1
  have HF : Hid _ := And.intro hF trivial
  clear hF hE
  by_cases h1 : n < 0
  · have g1 : decide (n < 0) = true := decide_eq_true h1
    clear h
    go_enter Tryz.func7, Tryz.ntmps7
    go_wp2_with (go_at_call 19; refine Calls.mono HF.out.1 ?_; rintro r w2 ⟨x, rfl, hC, hb⟩; have HB : Hid _ := And.intro hC hb; clear hC hb)
    go_ret2
    exact ⟨_, rfl, HB.out.1, HB.out.2⟩
  · have g1 : decide (n < 0) = false := decide_eq_false h1
    have g2 : 1000 < n := by omega
    have g3 : decide (1000 < n) = true := decide_eq_true g2
    clear h
    go_enter Tryz.func7, Tryz.ntmps7
    go_wp2_with (go_at_call 19; refine Calls.mono HF.out.1 ?_; rintro r w2 ⟨x, rfl, hC, hb⟩; have HB : Hid _ := And.intro hC hb; clear hC hb)
    go_ret2
    exact ⟨_, rfl, HB.out.1, HB.out.2⟩
theorem as_nil (v : Value) (w : World) : Calls Tryz.prog 87 #[.nilIface, v] w fun ev w' => ev = .returned (.bool false) ∧ w' = w := by
  go_enter Tryz.func87, Tryz.ntmps87
  go_wp2_with fail
  go_ret
  exact ⟨rfl, rfl⟩
theorem ref_bytes : refB.toList = [114, 101, 102, 105, 110, 101] := by rw [ByteArray.toList_eq]; rfl
theorem rgu4 {w2 wa wb : World} {a0 a1 a2 a3 : Addr} {x0 x1 x2 x3 : Value} (hb : Below wa.heap.size wa wb) (h : (wa.cell? a0 = some x0 ∧ wa.cell? a1 = some x1 ∧ wa.cell? a2 = some x2 ∧ wa.cell? a3 = some x3) ∧ Hid (Below w2.heap.size w2 wa)) : (wb.cell? a0 = some x0 ∧ wb.cell? a1 = some x1 ∧ wb.cell? a2 = some x2 ∧ wb.cell? a3 = some x3) ∧ Hid (Below w2.heap.size w2 wb) :=
  ⟨⟨cellu h.1.1 hb, cellu h.1.2.1 hb, cellu h.1.2.2.1 hb, cellu h.1.2.2.2 hb⟩, (h.2.out.trans (hb.mono h.2.out.size) : Below w2.heap.size w2 wb)⟩
/-- errors.As: the variable at block B holds the fault; nothing else that was there has turned. -/
theorem as_fact8 (e : Addr) (B : Nat) (w : World) (hg : w.cell? ⟨10, 0, none⟩ = some (.iface 183 (.agg #[.pointer (some ⟨20, 43, none⟩)]))) (hB : w.heap[B]? = some (.cells #[.pointer none] 78 (0, 0))) :
    Calls Tryz.prog 87 #[.iface 78 (.pointer (some e)), .iface 121 (.pointer (some ⟨B, 0, none⟩))] w fun ev w' => ev = .returned (.bool true) ∧ w'.cell? ⟨B, 0, none⟩ = some (.pointer (some e)) ∧ Below B w w' := by
  have hlt := lt_of_block hB
  refine (as_hit e ⟨B, 0, none⟩ (.pointer none) w hg (cell_of_one hB) (free_of_one hB)).mono ?_
  rintro ev w' ⟨rfl, rfl⟩
  refine ⟨rfl, ?_, ?_⟩
  · refine cell_of_one (t := 78) (one_setCell (v := .pointer none) ?_)
    rw [Below.heap_alloc _ _ _ (by simp; omega), Below.heap_alloc _ _ _ (by simp; omega), Below.heap_alloc _ _ _ (by simp; omega), Below.heap_alloc _ _ _ hlt]
    exact hB
  · exact (((((Below.refl _ _).alloc (Nat.le_of_lt hlt) _).alloc (by simp; omega) _).alloc (by simp; omega) _).alloc (by simp; omega) _).setCell (Nat.le_refl _) _
end Go.Proofs.YtpcndfffljmajaaGreatDoor
/- refine: Of. -/
namespace Go.Proofs.YtpcndfffljmajaaGreatDoor
open Go.RowKit Go.Maps
attribute [local go_sem ↓] Go.wp_at_zero Go.wp_at_succ
/-- The partition of classes. -/
def Pst.of (zs : List Int) (E : Nat → Nat) : Pst := Pst.laid zs.length (tp (cO zs) 0 zs.length) (cO zs) E
theorem of_lay {zs : List Int} {c' : Nat → Int} (hn : zs.length ≤ 1000) {T : Nat} (hT : T = tp (cO zs) 0 zs.length) (k0 : c' 0 = zs.length) (k1 : c' 1 = T) (k2 : ∀ e, e < zs.length → c' (2002 + e) = cO zs e) (k3 : ∀ e, e < zs.length → c' (1002 + e) = ((tot (fun b => cu (cO zs) b zs.length) (cO zs e) + cu (cO zs) (cO zs e) e : Nat) : Int)) (k4 : ∀ e, e < zs.length → c' (2 + (tot (fun b => cu (cO zs) b zs.length) (cO zs e) + cu (cO zs) (cO zs e) e)) = e) (k5 : ∀ b, b < T → c' (3002 + b * 3) = ((tot (fun b => cu (cO zs) b zs.length) b : Nat) : Int) ∧ c' (3002 + b * 3 + 1) = ((tot (fun b => cu (cO zs) b zs.length) b : Nat) : Int) ∧ c' (3002 + b * 3 + 2) = ((tot (fun b => cu (cO zs) b zs.length) b + cu (cO zs) b zs.length : Nat) : Int)) : ∃ E, Lay c' (Pst.of zs E) ∧ (Pst.of zs E).Ok ∧ ∀ y, y < zs.length → (Pst.of zs E).isM y = false := by
  have hle : ∀ i, i < zs.length → cO zs i ≤ tp (cO zs) 0 i := fun i hi => cO_le zs hi
  have hE : ∀ e, e < zs.length → (c' (2 + (tot (fun b => cu (cO zs) b zs.length) (cO zs e) + cu (cO zs) (cO zs e) e))).toNat = e := fun e he => by rw [k4 e he]; simp
  have hok := laid_ok (E := fun k => (c' (2 + k)).toNat) hn (fun e he => tp_lt (cO zs) 0 he) (tp_onto zs.length hle) hE
  refine ⟨fun k => (c' (2 + k)).toNat, ⟨k0, by rw [k1, hT]; rfl, fun k hk => ?_, k3, k2, fun b hb => (k5 b (by rw [hT]; exact hb)).1, fun b hb => (k5 b (by rw [hT]; exact hb)).2.1, fun b hb => (k5 b (by rw [hT]; exact hb)).2.2⟩, hok.1, hok.2⟩
  have h1 := hok.1.ep k hk
  have h2 := k4 _ h1.1
  have h3 : tot (fun b => cu (cO zs) b zs.length) (cO zs ((c' (2 + k)).toNat)) + cu (cO zs) (cO zs ((c' (2 + k)).toNat)) ((c' (2 + k)).toNat) = k := h1.2
  have h4 : ((Pst.laid zs.length (tp (cO zs) 0 zs.length) (cO zs) fun k => (c' (2 + k)).toNat).E k) = (c' (2 + k)).toNat := rfl
  rw [h4, h3] at h2
  exact h2
set_option maxRecDepth 100000 in
set_option maxHeartbeats 4000000 in
theorem of_ok (v : Value) (zs : List Int) (w : World) (hv : HasI w v zs) (hw : I64s zs) (hn : zs.length ≤ 1000) :
    Calls Tryz.prog 9 #[v] w fun r w' => ∃ g c E, r = .returned (.tuple #[.pointer (some ⟨g, 0, none⟩), .nilIface]) ∧ Pt w w' g c ∧ Lay c (Pst.of zs E) ∧ (Pst.of zs E).Ok ∧ ∀ y, y < zs.length → (Pst.of zs E).isM y = false := by
  have hNe := new_part zs.length hn w
  have hCa : ∀ W, Below w.heap.size w W → Calls Tryz.prog 20 #[v] W fun r w' => ∃ u, r = .returned u ∧ OwnI w' W.heap.size u (natI (Sy.canon zs)) ∧ Below W.heap.size W w' := fun W hW => pCanon v zs W (hv.below hW) (by omega) hw
  obtain ⟨ao, cap, rfl, _⟩ := hv
  have hcl : (natI (Sy.canon zs)).length = zs.length := by simp [natI, canon_len8]
  have H : Hid _ := And.intro hNe (And.intro hCa hcl)
  obtain ⟨N, hN⟩ : ∃ N, N = zs.length := ⟨_, rfl⟩
  have HN : Hid (N = zs.length ∧ zs.length ≤ 1000) := ⟨hN, hn⟩
  rw [← hN] at H ⊢
  rw [← hN] at hn
  clear hNe hCa hcl hw hN
  go_enter Tryz.func9, Tryz.ntmps9
  go_wp2_with fail
  refine Calls.mono H.out.1 ?_
  rintro r w1 ⟨g, c, rfl, hP, hL⟩
  have hb1 := hP.bl
  have hCa := H.out.2.1 w1.drew (hb1.trans (Below.mono (Below.refl _ _).drew hb1.size))
  have HP : Hid _ := And.intro hP hL
  have HCa : Hid _ := And.intro hCa trivial
  clear hP hL hb1 hCa
  have hui := Tryz.underlying22
  have hin1 : (Tryz.prog.info? 3).map (·.size) = some 1 := by kernel_rfl
  obtain ⟨cls, hcls⟩ : ∃ cls, cls = natI (Sy.canon zs) := ⟨_, rfl⟩
  rw [← hcls] at HCa H
  have HK : Hid (cls = natI (Sy.canon zs)) := hcls
  clear hcls
  have hgs : (1000 : Nat) ≤ 1000 := Nat.le_refl _
  -- what copy has made: in the world behind it the partition's blocks are the classes
  have hcopy : ∀ (w5 : World) (u : Value), OwnI w5 w1.drew.heap.size u cls → Below w1.drew.heap.size w1.drew w5 → ∃ ao' cp w6, u = .slice ao' N cp ∧ (∀ ty, (Builtin.copy_ #[22, 22] ty #[.slice (some ⟨g, 2002, none⟩) 1000 1000, u]).run Tryz.prog w5 = .ok (goInt N) w6) ∧ Pt w w6 g (updL c 2002 cls) := by
    intro w5 u hu hb
    have hP5 := (HP.out.1.below (Below.refl _ _).drew).below hb
    obtain ⟨ao', cp, hue⟩ := row_shape hu
    rw [H.out.2.2] at hue
    by_cases h0 : N = 0
    · have hnil : cls = [] := List.eq_nil_of_length_eq_zero (by rw [H.out.2.2]; exact h0)
      refine ⟨ao', cp, w5, hue, fun ty => ?_, by rw [hnil]; exact hP5⟩
      rw [hue, h0]
      exact run_copy_none (P := Tryz.prog) w5 _ _ ty 3 _ _ 1000 1000 0 cp hui hin1 (by decide)
    · obtain ⟨gu, cp', hue', hru, hgu⟩ := row_of hu (by rw [H.out.2.2]; omega)
      rw [H.out.2.2] at hue'
      refine ⟨_, cp', w5.setCells g 2002 (iC cls), hue', fun ty => ?_, hP5.setCells cls 2002⟩
      have hlen : (iC cls).length = N := by simp [iC, H.out.2.2]
      have h := run_copy_cells (P := Tryz.prog) w5 22 22 ty 3 g 2002 1000 1000 ⟨gu, 0, none⟩ N cp' (iC cls) hui hin1 (by rw [hlen]; exact (Nat.min_eq_left hn).symm) (fun j x hx => by
          unfold iC at hx
          rw [List.getElem?_map] at hx
          obtain ⟨z, hz, rfl⟩ := Option.map_eq_some_iff.1 hx
          have h4 : (⟨gu, 0, none⟩ : Addr).add j = ⟨gu, j, none⟩ := by
            unfold Addr.add
            by_cases hj : j = 0
            · subst hj; rfl
            · simp [hj]
          rw [h4]
          exact hru j z hz) (fun j hj => by rw [hP5.cell (by rw [hlen] at hj; omega)]; rfl) (fun j _ => hP5.free _) (iC_one cls)
      rw [hlen] at h
      rw [hue']
      exact h
  have HCp : Hid _ := And.intro hcopy trivial
  clear hcopy hgs
  go_upto_region 4 with fail
  go_region_held3 (fun w' => True ∧ True) (first | exact ⟨trivial, trivial⟩)
    ((first
      | (go_at_call 20; refine Calls.mono HCa.out.1 ?_; rintro r w5 ⟨u, rfl, hu5, hb5⟩; obtain ⟨ao', cp, w6, rfl, hcp, hP6⟩ := HCp.out.1 w5 u hu5 hb5; have H6 : Hid (Pt w w6 g (updL c 2002 cls)) := hP6; clear hu5 hb5 hP6)
      | fail))
  have hLy : Calls Tryz.prog 21 #[.pointer (some ⟨g, 0, none⟩)] w6 fun r w' => r = .returned (.tuple #[]) ∧ ∃ c' E, Pt w w' g c' ∧ Lay c' (Pst.of zs E) ∧ (Pst.of zs E).Ok ∧ ∀ y, y < zs.length → (Pst.of zs E).isM y = false := by
    have hle : ∀ i, i < zs.length → cO zs i ≤ tp (cO zs) 0 i := fun i hi => cO_le zs hi
    have hlt : ∀ e, e < N → cO zs e < 1000 := fun e he => by
      have h1 := hle e (by rw [← HN.out.1]; exact he)
      have h2 := tp_le e fun i hi => hle i (by rw [← HN.out.1]; omega)
      omega
    have htp : tp (cO zs) (Pst.new N).nb N = tp (cO zs) 0 N := by
      by_cases h0 : N = 0
      · have h1 : (Pst.new N).nb = 0 := if_pos h0
        rw [h1]
      · have h1 : (Pst.new N).nb = 1 := if_neg h0
        rw [h1, tp_one (by omega)]
    have htn : tp (cO zs) 0 N ≤ N := tp_le N fun i hi => hle i (by rw [← HN.out.1]; exact hi)
    have hcl : cls.length = N := H.out.2.2
    refine (lay_any g (updL c 2002 cls) N (Pst.new N).nb (cO zs) w w6 H6.out ?_ ?_ (fun e he => ?_) hn hlt (by rw [htp]; omega)).mono ?_
    · rw [updL_out _ _ _ _ (by omega)]; exact HP.out.2.n
    · rw [updL_out _ _ _ _ (by omega)]; exact HP.out.2.nb
    · refine updL_in cls c 2002 e _ ?_
      rw [HK.out]
      unfold natI
      rw [List.getElem?_map, cO_at zs (by rw [← HN.out.1]; exact he)]
      rfl
    · rintro r w' ⟨rfl, c', hP', _, k0, k1, k2, k3, k4, k5⟩
      rw [htp] at k1 k5
      rw [HN.out.1] at k0 k1 k2 k3 k4 k5
      obtain ⟨E, h1, h2, h3⟩ := of_lay HN.out.2 rfl k0 k1 k2 k3 k4 k5
      exact ⟨rfl, c', E, hP', h1, h2, h3⟩
  have HLy : Hid _ := And.intro hLy trivial
  clear hLy
  go_wp2_with (go_at_call 21; refine Calls.mono HLy.out.1 ?_; rintro r w7 ⟨rfl, c7, E, h1, h2, h3, h4⟩; have H7 : Hid _ := And.intro h1 (And.intro h2 (And.intro h3 h4)); clear h1 h2 h3 h4)
  go_ret2
  exact ⟨g, c7, E, rfl, H7.out.1, H7.out.2.1, H7.out.2.2.1, fun y hy => H7.out.2.2.2 y (by rw [← HN.out.1]; exact hy)⟩
/-- A fault of refine is told as it is. -/
theorem fault_own (b : Nat) (a : Addr) (w : World) (hg : w.cell? ⟨10, 0, none⟩ = some (.iface 183 (.agg #[.pointer (some ⟨20, 43, none⟩)]))) (hB : w.heap[b]? = some (.cells #[.string refB, .int .i64 0, .int .i64 0, .iface 219 (.pointer (some a))] 81 (0, 0))) :
    Calls Tryz.prog 19 #[.iface 78 (.pointer (some ⟨b, 0, none⟩))] w fun r w' => r = .returned (.iface 78 (.pointer (some ⟨b, 0, none⟩))) ∧ Below w.heap.size w w' := by
  have hb1 : Below w.heap.size w (w.alloc (.cells #[.pointer none] 78)) := (Below.refl _ _).alloc (Nat.le_refl _) _
  have hA := as_fact8 ⟨b, 0, none⟩ w.heap.size (w.alloc (.cells #[.pointer none] 78)) ((hb1.cell (World.block_lt_of_cell? w _ hg)).trans hg) (heap_alloc_new _ _)
  have HA : Hid _ := And.intro hA (And.intro hb1 hB)
  have hlx : refB.toList = [114, 101, 102, 105, 110, 101] := ref_bytes
  clear hA hg hb1 hB
  go_enter Tryz.func19, Tryz.ntmps19
  go_wp2_with (go_at_call 87; refine Calls.mono HA.out.1 ?_; rintro r w2 ⟨rfl, hc2, hb2⟩; have hbw := HA.out.2.1.trans hb2; have hF2 := (hbw.block b (t_lt HA.out.2.2)).trans HA.out.2.2; have cf0 := (fault_cells hF2).1; have HB : Hid (Below w.heap.size w w2) := hbw; clear hbw hF2 hb2)
  go_ret
  exact ⟨rfl, HB.out⟩
set_option maxHeartbeats 1000000 in
theorem of_bad (v : Value) (zs : List Int) (a1 a3 : Addr) (w : World) (hE : EnvR w a1 a3) (hv : HasI w v zs) (hn : 1000 < zs.length) :
    Calls Tryz.prog 9 #[v] w fun r w' => ∃ x, r = .returned (.tuple #[.pointer none, x]) ∧ Chain w' 0 0 a1 [refB] x ∧ Below w.heap.size w w' := by
  have hNe := new_bad8 (zs.length : Int) a1 a3 w hE (.inr (by omega))
  obtain ⟨ao, cap, rfl, _⟩ := hv
  have H : Hid _ := And.intro hNe hE
  generalize zs.length = N at H ⊢
  clear hNe hE hn
  go_enter Tryz.func9, Tryz.ntmps9
  go_wp2_with (first
    | (go_at_call 7; refine Calls.mono H.out.1 ?_; rintro r w1 ⟨y, rfl, hC, hb1⟩; obtain ⟨fb, u, rfl, hF, rfl⟩ := hC; have hfo := fault_own fb a1 w1 (H.out.2.below hb1).et hF; have H1 : Hid _ := And.intro hfo (And.intro hF hb1); clear hfo hF hb1)
    | (go_at_call 19; refine Calls.mono H1.out.1 ?_; rintro r w2 ⟨rfl, hb2⟩; have H2 : Hid _ := And.intro ((hb2.block _ (t_lt H1.out.2.1)).trans H1.out.2.1) (H1.out.2.2.trans (hb2.mono H1.out.2.2.size)); clear hb2))
  go_ret2
  exact ⟨_, rfl, ⟨_, _, rfl, H2.out.1, rfl⟩, H2.out.2⟩
end Go.Proofs.YtpcndfffljmajaaGreatDoor
/- The book's Told at a chain of faults, however many layers it has. -/
namespace Go.Proofs.YtpcndfffljmajaaGreatDoor
open Go.RowKit
theorem castY (v : Value) (w : World) : (Instr.typeAssert (.iface 78 v) 43 78 true).run Tryz.prog w = .ok (.tuple #[v, .bool true]) w := by kernel_rfl
theorem castN (v : Value) (w : World) : (Instr.typeAssert (.iface 219 v) 43 78 true).run Tryz.prog w = .ok (.tuple #[.pointer none, .bool false]) w := by kernel_rfl
/-- The layers' names, a blank behind each. -/
def joinS (x : ByteArray) : List ByteArray → ByteArray
  | [] => x
  | s :: r => joinS (x ++ s ++ ⟨#[32]⟩) r
theorem joinS_size (ls : List ByteArray) (h : ∀ s ∈ ls, s.size ≤ 100) : ∀ x, (joinS x ls).size ≤ x.size + 101 * ls.length ∧ x.size ≤ (joinS x ls).size := by
  induction ls with
  | nil => intro x; simp [joinS]
  | cons s r ih =>
    intro x
    have h1 := h s List.mem_cons_self
    have h2 := ih (fun y hy => h y (List.mem_cons_of_mem _ hy)) (x ++ s ++ ⟨#[32]⟩)
    have h3 : (x ++ s ++ ⟨#[32]⟩).size = x.size + s.size + 1 := by rw [ByteArray.size_append, ByteArray.size_append]; rfl
    simp only [joinS, List.length_cons]
    omega
theorem Chain.drew {w : World} {l c : Int} {a : Addr} {ls : List ByteArray} {v : Value} (h : Chain w l c a ls v) (n : Nat) : Chain (w.drewN n) l c a ls v := h.below (below_drewN (Below.refl _ _) n)
set_option maxRecDepth 100000 in
set_option maxHeartbeats 8000000 in
theorem told_chain {m : Nat} (k : Nat) (h1 : 1 ≤ k) (h19 : k ≤ 19) (hm : k ≤ m) (v : Value) (ls : List ByteArray) (l c : Int) (e : Nat → Addr) (w : World) (hE : Er m w e) (hC : Chain w l c (e k) ls v) (hl : ls.length ≤ 19) (hs : ∀ s ∈ ls, s.size ≤ 100) :
    Calls Tryz.prog 12 #[v, .agg #[.int .i64 k, .int .i64 l, .int .i64 c, .string (joinS ⟨#[]⟩ ls)]] w fun r w' => r = .returned (.bool true) ∧ Below w.heap.size w w' := by
  have y := castY
  have n := castN
  have z0 : ((k : Int) == 0) = false := by simp; omega
  have z3 : ((k : Int) != (k : Int)) = false := by simp
  have z4 : ((k : Int) == (k : Int)) = true := by simp
  have z5 : (l != l) = false := by simp
  have z6 : (c != c) = false := by simp
  obtain ⟨J, hJ⟩ : ∃ J, J = joinS ⟨#[]⟩ ls := ⟨_, rfl⟩
  have hcode : ∀ W (x : Value) (r : List ByteArray), Below w.heap.size w W → Chain W l c (e k) r x → Calls Tryz.prog 24 #[x] W fun r w' => r = .returned (.int .i64 k) ∧ w' = W := fun W x r hb h => code_chain k h1 h19 hm x r l c e W (hE.below hb) h
  have HE : Hid _ := And.intro hC (And.intro hs (And.intro hJ hl))
  have HC : Hid _ := hcode
  rw [← hJ]
  obtain ⟨T0, x0, rfl⟩ := hC.iface
  clear hC hE hs hcode hJ h1 h19 hm
  go_enter Tryz.func12, Tryz.ntmps12
  go_wp2_with fail
  obtain ⟨w1, hw1⟩ : ∃ w1, w1 = w.alloc (.cells #[.int .i64 k, .int .i64 l, .int .i64 c, .string J] 54) := ⟨_, rfl⟩
  rw [← hw1]
  have hb1 : Below w.heap.size w w1 := by rw [hw1]; exact (Below.refl _ _).alloc (Nat.le_refl _) _
  have hN : w1.heap[w.heap.size]? = some (.cells #[.int .i64 k, .int .i64 l, .int .i64 c, .string J] 54 (0, 0)) := by rw [hw1]; exact (MapKept.heap_alloc w _).1
  have H1 : Hid _ := And.intro hb1 (And.intro hN (HE.out.1.below hb1))
  clear hb1 hN hw1
  obtain ⟨e0, e1, e2, e3⟩ := fault_cells H1.out.2.1
  go_quiet ((go_at_call 24; exact Calls.quiet_of_same (HC.out _ _ _ (below_drewN H1.out.1 _) (H1.out.2.2.drew _))))
  obtain ⟨w2, hw2⟩ : ∃ w2, w2 = w1.drewN nq := ⟨_, rfl⟩
  rw [← hw2]
  have H2 : Hid _ := And.intro (below_drewN H1.out.1 nq) (And.intro (H1.out.2.2.drew nq) (show (w1.drewN nq).heap[w.heap.size]? = some (.cells #[.int .i64 k, .int .i64 l, .int .i64 c, .string J] 54 (0, 0)) from H1.out.2.1))
  rw [← hw2] at H2
  clear hw2 e0 e1 e2 e3 H1
  go_wp2_with fail
  go_loopg [0, 5, 6] (ls.length + 1) (fun q ev lv nv wr => ∃ (done r : List ByteArray) (x : ByteArray), q = r.length + 1 ∧ ls = done ++ r ∧ nv = .int .i64 done.length ∧ lv = .string x ∧ joinS x r = J ∧ Below w.heap.size w wr ∧ Chain wr l c (e k) r ev ∧ wr.heap[w.heap.size]? = some (.cells #[.int .i64 k, .int .i64 l, .int .i64 c, .string J] 54 (0, 0)))
  case atStart => exact ⟨[], ls, _, rfl, rfl, rfl, rfl, HE.out.2.2.1.symm, H2.out.1, H2.out.2.1, H2.out.2.2⟩
  case round =>
    obtain ⟨done, r, x, rfl, hls, rfl, rfl, hj, hbr, hCr, hNr⟩ := hrel
    clear H2
    have hlen : done.length + r.length = ls.length := by rw [hls, List.length_append]
    have hdl : (done.length : Int) < 20 := by have := HE.out.2.2.2; omega
    obtain ⟨e0, e1, e2, e3⟩ := fault_cells hNr
    cases r with
    | nil =>
      have ev : u0 = .iface 219 (.pointer (some (e k))) := hCr
      subst ev
      have hx : x = J := hj
      subst hx
      have HR : Hid _ := And.intro hCr hbr
      clear hCr hj hls hNr hbr hlen
      go_wp2_with fail
      go_quiet ((go_at_call 24; exact Calls.quiet_of_same (HC.out _ _ [] (below_drewN HR.out.2 _) rfl)))
      go_wp2
      go_ret
      exact ⟨rfl, below_drewN HR.out.2 _⟩
    | cons s r =>
      obtain ⟨pb, u, rfl, hB, hCu⟩ := hCr
      obtain ⟨f0, f1, f2, f3⟩ := fault_cells hB
      have hz := joinS_size r (fun y hy => HE.out.2.1 y (by rw [hls]; exact List.mem_append_right _ (List.mem_cons_of_mem _ hy))) (x ++ s ++ ⟨#[32]⟩)
      have hz0 := joinS_size ls HE.out.2.1 ⟨#[]⟩
      have hz1 : (x ++ s ++ ⟨#[32]⟩).size ≤ 2000 := by
        have h2 : (joinS (x ++ s ++ ⟨#[32]⟩) r).size ≤ 0 + 101 * ls.length := by
          have h3 : joinS (x ++ s ++ ⟨#[32]⟩) r = J := hj
          rw [h3, HE.out.2.2.1]; exact hz0.1
        have := HE.out.2.2.2
        omega
      have hz3 : (x ++ s ++ ⟨#[32]⟩).size = x.size + s.size + 1 := by rw [ByteArray.size_append, ByteArray.size_append]; rfl
      have cat1 := fun W => run_string_add_sum (P := Tryz.prog) (w := W) x s (by omega)
      have cat2 := fun W => run_string_add_sum (P := Tryz.prog) (w := W) (x ++ s) ⟨#[32]⟩ (by rw [ByteArray.size_append]; show x.size + s.size + 1 ≤ _; omega)
      have HR : Hid _ := And.intro hCu (And.intro hls (And.intro hj (And.intro hbr hNr)))
      clear hCu hls hj hB hz hz0 hz1 hz3 hbr hNr hlen
      go_wp2_with fail
      go_quiet (fail)
      obtain ⟨w3, hw3⟩ : ∃ w3, w3 = wr.drewN nq := ⟨_, rfl⟩
      have g0 : w3.cell? ⟨pb, 0, none⟩ = some (.string s) := by rw [hw3]; exact f0
      have g3 : w3.cell? ⟨pb, 3, none⟩ = some u := by rw [hw3]; exact f3
      have H3 : Hid _ := And.intro (HR.out.1.drew nq) (And.intro (below_drewN HR.out.2.2.2.1 nq) (show (wr.drewN nq).heap[w.heap.size]? = some (.cells #[.int .i64 k, .int .i64 l, .int .i64 c, .string J] 54 (0, 0)) from HR.out.2.2.2.2))
      rw [← hw3] at H3 ⊢
      clear hw3 f0 f1 f2 f3 e0 e1 e2 e3
      go_wp2
      go_roundg (r.length + 1)
      case measure => simp
      case rel => exact ⟨done ++ [s], r, _, rfl, by rw [HR.out.2.1, List.append_assoc]; rfl, by rw [List.length_append]; go_num, rfl, HR.out.2.2.1, H3.out.2.1, H3.out.1, H3.out.2.2⟩
theorem told_none (l c : Int) (x : ByteArray) (w : World) :
    Calls Tryz.prog 12 #[.nilIface, .agg #[.int .i64 0, .int .i64 l, .int .i64 c, .string x]] w fun e w' => e = .returned (.bool true) ∧ Below w.heap.size w w' := by
  go_enter Tryz.func12, Tryz.ntmps12
  go_wp2
  go_ret
  exact ⟨rfl, (Below.refl _ _).alloc (Nat.le_refl _) _⟩
end Go.Proofs.YtpcndfffljmajaaGreatDoor
/- The book's marks for lists of numbers. -/
namespace Go.Proofs.YtpcndfffljmajaaGreatDoor
open Go.RowKit Go.Maps
attribute [local go_sem ↓] Go.wp_at_zero Go.wp_at_succ
/-- The mark of the list i at the place k. -/
def mk1 (i k : Nat) : Int := -1000000 * (i : Int) - (k : Int) - 7
def marks (i f n : Nat) : List Int := (List.range n).map fun k => mk1 i (f + k)
theorem marks_len (i f n : Nat) : (marks i f n).length = n := by simp [marks]
theorem marks_succ (i f n : Nat) : marks i f (n + 1) = marks i f n ++ [mk1 i (f + n)] := by
  unfold marks
  rw [List.range_succ, List.map_append]
  rfl
theorem marks_add (i f n m : Nat) : marks i f n ++ marks i (f + n) m = marks i f (n + m) := by
  induction m with
  | zero => simp [marks]
  | succ m ih => rw [marks_succ, ← List.append_assoc, ih, Nat.add_assoc, ← marks_succ]; rfl
theorem marks_at {i f n j : Nat} (h : j < n) : (marks i f n)[j]? = some (mk1 i (f + j)) := by
  unfold marks
  rw [List.getElem?_map, List.getElem?_range h]
  rfl
set_option maxRecDepth 100000 in
set_option maxHeartbeats 4000000 in
theorem mark_any (i f n : Nat) (w : World) (hi : i ≤ 1000) (hf : f + n ≤ 1000000000) :
    Calls Tryz.prog 103 #[.int .i64 i, .int .i64 f, .int .i64 n] w fun r w' => ∃ v, r = .returned v ∧ OwnI w' w.heap.size v (marks i f n) ∧ Below w.heap.size w w' := by
  obtain ⟨i0, hi0, hz0, hz1, hz2⟩ := info_parts Tryz.infoI3
  have e1 : IntKind.i64.wrap ((f : Int) + (n : Int)) = (f : Int) + (n : Int) := by rw [IntKind.wrap_i64]; omega
  go_enter Tryz.func103, Tryz.ntmps103
  go_wp2_with fail
  go_loopg [7, 8] n (fun q lv kv wr => ∃ (k : Nat), q = n - k ∧ k ≤ n ∧ kv = .int .i64 ((f : Int) + (k : Int)) ∧ OwnI wr w.heap.size lv (marks i f k) ∧ Below w.heap.size w wr)
  case atStart => exact ⟨0, rfl, Nat.zero_le _, by simp, World.ownsRow_nil _ _ _ _, Below.refl _ _⟩
  case round =>
    obtain ⟨k, rfl, hk, rfl, hO, hb⟩ := hrel
    by_cases hlt : k < n
    · have q1 : (f : Int) + (k : Int) < (f : Int) + (n : Int) := by omega
      obtain ⟨al, cl, rfl⟩ := row_shape hO
      have hO' : wr.ownsRow w.heap.size 3 1 (.slice al k cl) k (iC (marks i f k)) := by have h1 := hO; unfold OwnI at h1; rw [marks_len] at h1; exact h1
      have hlk : (marks i f k).length = k := marks_len i f k
      rw [hlk]
      have hml : k + 1 ≤ maxLen := by unfold maxLen; omega
      have hby : (k + 1) * 8 ≤ 140737488355328 := by omega
      have w1 : IntKind.i64.wrap (-1000000 * (i : Int)) = -1000000 * (i : Int) := by rw [IntKind.wrap_i64]; omega
      have w2 : IntKind.i64.wrap (-1000000 * (i : Int) - ((f : Int) + (k : Int))) = -1000000 * (i : Int) - ((f : Int) + (k : Int)) := by rw [IntKind.wrap_i64]; omega
      have w3 : IntKind.i64.wrap (-1000000 * (i : Int) - ((f : Int) + (k : Int)) - 7) = -1000000 * (i : Int) - ((f : Int) + (k : Int)) - 7 := by rw [IntKind.wrap_i64]; omega
      have hle : w.heap.size ≤ (wr.alloc (.cells #[.int .i64 (-1000000 * (i : Int) - ((f : Int) + (k : Int)) - 7)] 3)).heap.size := by have := hb.size; simp; omega
      have HO : Hid _ := And.intro hO' hb
      clear hO hO' hlk
      go_wp2_with (at_builtin; refine wpList_append_own_at _ rfl _ _ 22 rfl w.heap.size 3 i0 (.int .i64 0) 1 8 Tryz.underlying22 hi0 hz0 hz1 hz2 rfl (by decide) (.slice al k cl) k (iC (marks i f k)) rfl (HO.out.1.alloc _) ⟨wr.heap.size, 0, none⟩ 1 1 [.int .i64 (-1000000 * (i : Int) - ((f : Int) + (k : Int)) - 7)] rfl rfl (World.news_of_block (cs := #[.int .i64 (-1000000 * (i : Int) - ((f : Int) + (k : Int)) - 7)]) (t := 3) (fr := (0, 0)) (heap_alloc_new wr _)) (one_one _) hml hby hle ?_; intro v2 w2 hown2 hgrow2 hnil2 hat2; have H2 : Hid _ := And.intro hown2 hgrow2; clear hown2 hgrow2 hnil2 hat2)
      have HM : Hid (mk1 i (f + k) = -1000000 * (i : Int) - ((f : Int) + (k : Int)) - 7) := (by unfold mk1; omega : mk1 i (f + k) = -1000000 * (i : Int) - ((f : Int) + (k : Int)) - 7)
      go_roundg (n - (k + 1))
      case measure => omega
      case rel => exact ⟨k + 1, rfl, by omega, by first | go_num | (congr 1; omega), by unfold OwnI; rw [marks_len, marks_succ, iC_snoc, HM.out]; exact H2.out.1, lines_belowI HO.out.1 HO.out.2 H2.out.2⟩
    · obtain rfl : k = n := by omega
      have q1 : ¬ (f : Int) + (k : Int) < (f : Int) + (k : Int) := by omega
      have HO : Hid _ := And.intro hO hb
      clear hO hb
      go_wp2_with fail
      go_ret
      exact ⟨_, rfl, HO.out.1, HO.out.2⟩
end Go.Proofs.YtpcndfffljmajaaGreatDoor
/- The book with lists of numbers alone: what it holds in memory. -/
namespace Go.Proofs.YtpcndfffljmajaaGreatDoor
open Go.RowKit Go.Maps
/-- The lists lie apart from each other, from the book and from its row. -/
structure Apt (bk : Nat) (vi : Value) (ls : List Value) : Prop where
  b : ∀ l ∈ ls, l.ownBlock ≠ some bk
  r : ∀ l ∈ ls, ∀ k, l.ownBlock = some k → vi.ownBlock ≠ some k
  rb : vi.ownBlock ≠ some bk
  p : ∀ (i j : Nat) (l m : Value), ls[i]? = some l → ls[j]? = some m → i ≠ j → ∀ k, l.ownBlock = some k → m.ownBlock ≠ some k
/-- The book: its lists of numbers; (The other kinds stand by themselves.) -/
structure Bp (w : World) (bk : Nat) (vi : Value) (ls : List Value) (zss : List (List Int)) : Prop where
  c0 : w.cell? ⟨bk, 0, none⟩ = some vi
  ri : w.ownsRow 0 22 1 vi zss.length ls
  li : ∀ (k : Nat) (l : Value) (zs : List Int), ls[k]? = some l → zss[k]? = some zs → OwnI w 0 l zs
  ap : Apt bk vi ls
  len : zss.length ≤ 400
  sz : ∀ zs ∈ zss, zs.length ≤ 1000000
theorem Bp.ll {w : World} {bk : Nat} {vi : Value} {ls : List Value} {zss : List (List Int)} (h : Bp w bk vi ls zss) : ls.length = zss.length := by
  have := h.ri.1
  rw [Nat.mul_one] at this
  exact this
theorem Bp.below {w w' : World} {bk : Nat} {vi : Value} {ls : List Value} {zss : List (List Int)} (h : Bp w bk vi ls zss) (hb : Below w.heap.size w w') : Bp w' bk vi ls zss :=
  ⟨cell_up h.c0 hb, trow_at h.ri fun i hi => hb.block i (h.ri.lt i hi).2, fun k l zs h1 h2 => trow_at (h.li k l zs h1 h2) fun i hi => hb.block i ((h.li k l zs h1 h2).lt i hi).2, h.ap, h.len, h.sz⟩
/-- A list of the book. -/
theorem Bp.at {w : World} {bk : Nat} {vi : Value} {ls : List Value} {zss : List (List Int)} (h : Bp w bk vi ls zss) {i : Nat} {zs : List Int} (hi : zss[i]? = some zs) : ∃ gi ci l, vi = .slice (some ⟨gi, 0, none⟩) zss.length ci ∧ ls[i]? = some l ∧ w.cell? ⟨gi, i, none⟩ = some l ∧ OwnI w 0 l zs := by
  have hlt := (List.getElem?_eq_some_iff.1 hi).1
  obtain ⟨gi, ci, hv, _, _⟩ := h.ri.form (by omega)
  obtain ⟨l, hl⟩ : ∃ l, ls[i]? = some l := ⟨ls[i]'(by rw [h.ll]; exact hlt), List.getElem?_eq_getElem _⟩
  refine ⟨gi, ci, l, hv, hl, ?_, h.li i l zs hl hi⟩
  have hr := h.ri
  rw [hv] at hr
  rw [hr.cellAt i (by omega), hl]
/-- One cell of one list is turned. -/
theorem Bp.set {w : World} {bk : Nat} {vi : Value} {ls : List Value} {zss : List (List Int)} (h : Bp w bk vi ls zss) {i : Nat} {zs : List Int} {g n c : Nat} (hi : zss[i]? = some zs) (hl : ls[i]? = some (.slice (some ⟨g, 0, none⟩) n c)) (k : Nat) (x : Int) : Bp (w.setCell ⟨g, k, none⟩ (.int .i64 x)) bk vi ls (zss.set i (zs.set k x)) := by
  have hlm := List.mem_of_getElem? hl
  have hbk : bk ≠ g := fun e => h.ap.b _ hlm (by rw [e]; rfl)
  have hcell : ∀ o, (w.setCell ⟨g, k, none⟩ (.int .i64 x)).cell? ⟨bk, o, none⟩ = w.cell? ⟨bk, o, none⟩ := fun o => World.cell?_of_block (set_other _ _ _ _ _ hbk)
  have hO := h.li i _ zs hl hi
  refine ⟨by rw [hcell]; exact h.c0, ?_, fun q l ys h1 h2 => ?_, h.ap, by rw [List.length_set]; exact h.len, fun ys hy => ?_⟩
  · rw [List.length_set]
    exact trow_at h.ri fun j hj => set_other _ _ _ _ _ fun e => h.ap.r _ hlm g rfl (by rw [← e]; exact hj)
  · by_cases hq : q = i
    · subst hq
      rw [hl] at h1
      have e1 := Option.some.inj h1
      rw [List.getElem?_set_self (List.getElem?_eq_some_iff.1 hi).1] at h2
      have e2 := Option.some.inj h2
      subst e1; subst e2
      rcases hO.2 with ⟨e, _⟩ | ⟨g', cap', cur, e, hg, hb, hc, hm, hs, htk⟩
      · cases e
      injection e with e1 e2 e3
      have e4 := Option.some.inj e1
      injection e4 with e5
      subst e5; subst e3
      refine ⟨by simp [iC], .inr ⟨g, c, cur.setIfInBounds k (.int .i64 x), by rw [List.length_set, e2], hg, heap_setCell_same w g k cur _ _ hb, by rw [List.length_set]; exact hc, hm, by simpa using hs, ?_⟩⟩
      rw [Array.toList_setIfInBounds, List.length_set, List.take_set, htk]
      unfold iC
      rw [List.map_set]
    · rw [List.getElem?_set_ne (fun e => hq e.symm)] at h2
      refine trow_at (h.li q l ys h1 h2) fun j hj => set_other _ _ _ _ _ fun e => ?_
      exact h.ap.p i q _ l hl h1 (fun e' => hq e'.symm) g rfl (by rw [← e]; exact hj)
  · rcases List.mem_or_eq_of_mem_set hy with hm | rfl
    · exact h.sz ys hm
    · rw [List.length_set]; exact h.sz zs (List.mem_of_getElem? hi)
/-- The lists as they were, beside. -/
structure Bs (w : World) (bk : Nat) (vi vw : Value) (ls ws : List Value) (zss : List (List Int)) : Prop where
  p : Bp w bk vi ls zss
  c1 : w.cell? ⟨bk, 1, none⟩ = some vw
  rw : w.ownsRow 0 22 1 vw zss.length ws
  lw : ∀ (k : Nat) (l : Value) (zs : List Int), ws[k]? = some l → zss[k]? = some zs → OwnI w 0 l zs
  bt : ∃ cs, w.heap[bk]? = some (.cells cs 40 (0, 0)) ∧ cs.size = 22
  ne : ∀ k, vi.ownBlock = some k → vw.ownBlock ≠ some k
theorem Bs.below {w w' : World} {bk : Nat} {vi vw : Value} {ls ws : List Value} {zss : List (List Int)} (h : Bs w bk vi vw ls ws zss) (hb : Below w.heap.size w w') : Bs w' bk vi vw ls ws zss :=
  ⟨h.p.below hb, cell_up h.c1 hb, trow_at h.rw fun i hi => hb.block i (h.rw.lt i hi).2, fun k l zs h1 h2 => trow_at (h.lw k l zs h1 h2) fun i hi => hb.block i ((h.lw k l zs h1 h2).lt i hi).2, h.bt.imp fun _ hx => ⟨(hb.block bk (t_lt hx.1)).trans hx.1, hx.2⟩, h.ne⟩
theorem Bs.at {w : World} {bk : Nat} {vi vw : Value} {ls ws : List Value} {zss : List (List Int)} (h : Bs w bk vi vw ls ws zss) {i : Nat} {zs : List Int} (hi : zss[i]? = some zs) : ∃ gw cw l, vw = .slice (some ⟨gw, 0, none⟩) zss.length cw ∧ w.cell? ⟨gw, i, none⟩ = some l ∧ OwnI w 0 l zs := by
  have hlt := (List.getElem?_eq_some_iff.1 hi).1
  obtain ⟨gw, cw, hv, _, _⟩ := h.rw.form (by omega)
  have hwl : ws.length = zss.length := by have := h.rw.1; rw [Nat.mul_one] at this; exact this
  obtain ⟨l, hl⟩ : ∃ l, ws[i]? = some l := ⟨ws[i]'(by rw [hwl]; exact hlt), List.getElem?_eq_getElem _⟩
  refine ⟨gw, cw, l, hv, ?_, h.lw i l zs hl hi⟩
  have hr := h.rw
  rw [hv] at hr
  rw [hr.cellAt i (by omega), hl]
end Go.Proofs.YtpcndfffljmajaaGreatDoor
/- Contracts of the book's stillInts and putInts. -/
namespace Go.Proofs.YtpcndfffljmajaaGreatDoor
open Go.RowKit Go.Maps
attribute [local go_sem ↓] Go.wp_at_zero Go.wp_at_succ
set_option maxRecDepth 100000 in
set_option maxHeartbeats 4000000 in
theorem still_any (bk : Nat) (vi vw : Value) (ls ws : List Value) (zss : List (List Int)) (w : World) (h : Bs w bk vi vw ls ws zss) :
    Calls Tryz.prog 38 #[.pointer (some ⟨bk, 0, none⟩)] w fun r w' => r = .returned (.bool true) ∧ Below w.heap.size w w' := by
  obtain ⟨ai, ci, rfl⟩ := row_shape h.p.ri
  obtain ⟨n, hn⟩ : ∃ n, n = zss.length := ⟨_, rfl⟩
  have HB : Hid _ := And.intro h (And.intro hn h.p.len)
  have c0 := h.p.c0
  rw [← hn] at c0
  have hnl : n ≤ 400 := by rw [hn]; exact h.p.len
  clear h hn
  go_enter Tryz.func38, Tryz.ntmps38
  go_wp2_with fail
  go_loopg [3] n (fun q iv wr => ∃ (i : Nat), q = n - i ∧ i ≤ n ∧ iv = .int .i64 i ∧ Below w.heap.size w wr)
  case atStart => exact ⟨0, rfl, Nat.zero_le _, rfl, Below.refl _ _⟩
  case round =>
    obtain ⟨i, rfl, hi, rfl, hb⟩ := hrel
    have c0' := cell_up c0 hb
    by_cases hlt : i < n
    · obtain ⟨zs, hz⟩ : ∃ zs, zss[i]? = some zs := ⟨zss[i]'(by have := HB.out.2.1; omega), List.getElem?_eq_getElem _⟩
      have h1 := HB.out.1.below hb
      obtain ⟨gi, ci', l, hv, _, cl, hO⟩ := h1.p.at hz
      obtain ⟨gw, cw, l2, hv2, cl2, hO2⟩ := h1.at hz
      have c1 := h1.c1
      rw [hv2] at c1
      injection hv with e1 e2 e3
      subst e1
      rw [← HB.out.2.1] at c1
      have hzl := h1.p.sz zs (List.mem_of_getElem? hz)
      obtain ⟨a1, k1, rfl⟩ := row_shape hO
      obtain ⟨a2, k2, rfl⟩ := row_shape hO2
      have q0 : (0 : Int) ≤ (i : Int) := by omega
      have q1 : (i : Int) < (n : Int) := by omega
      have hSm := fun W (hw : Below wr.heap.size wr W) => sameInts_b (.slice a1 zs.length k1) (.slice a2 zs.length k2) zs zs W (by omega) (by omega) (hO.has.below hw) (hO2.has.below hw)
      rw [beq_self_eq_true] at hSm
      have HS : Hid _ := hSm
      have HBl : Hid _ := hb
      clear hSm hO hO2 h1 hz hb hzl e2 e3 hv2
      go_upto_region 4 with fail
      go_cut [28] (fun s28 wx => s28 = .bool false ∧ Below w.heap.size w wx)
      case first =>
        go_region_held3 (fun w' => w'.cell? ⟨bk, 0, none⟩ = some (.slice (some ⟨gi, 0, none⟩) n ci) ∧ w'.cell? ⟨gi, i, none⟩ = some (.slice a1 zs.length k1) ∧ w'.cell? ⟨bk, 1, none⟩ = some (.slice (some ⟨gw, 0, none⟩) n cw) ∧ w'.cell? ⟨gw, i, none⟩ = some (.slice a2 zs.length k2)) (go_keep)
          ((first
            | (go_at_call 33; refine (HS.out _ (by repeat (first | exact Below.refl _ _ | assumption | refine Below.drew ?_ | refine Below.setCell ?_ (by simp) _ | refine Below.alloc ?_ (by simp) _))).mono ?_; rintro r8 w8 ⟨rfl, hb8'⟩; have hb8 := below_of_drew3 hb8'; have c0' := cell_up c0' hb8; have cl := cell_up cl hb8; have c1 := cell_up c1 hb8; have cl2 := cell_up cl2 hb8; have H8 : Hid _ := HBl.out.trans (hb8.mono HBl.out.size); clear hb8 hb8' HS)
            | fail))
        all_goals (refine Met.intro ?_; apply_assumption; refine Met.intro ?_; apply_assumption; (repeat apply Exists.intro); refine ⟨?rel, rfl⟩; case rel => exact ⟨rfl, by first | exact H8.out | exact below_drewN H8.out _⟩)
      case rest =>
        obtain ⟨rfl, hb9⟩ := hcut
        have H9 : Hid _ := hb9
        clear hb9 HS c0' cl c1 cl2
        go_wp2_with fail
        go_roundg (n - (i + 1))
        case measure => omega
        case rel => exact ⟨i + 1, rfl, by omega, by go_num, H9.out⟩
    · obtain rfl : i = n := by omega
      have q1 : ¬ (i : Int) < (i : Int) := by omega
      have HBl : Hid _ := hb
      clear hb
      go_wp2_with fail
      go_ret
      exact ⟨rfl, HBl.out⟩
end Go.Proofs.YtpcndfffljmajaaGreatDoor
/- Contract of the book's putInts. -/
namespace Go.Proofs.YtpcndfffljmajaaGreatDoor
open Go.RowKit Go.Maps
attribute [local go_sem ↓] Go.wp_at_zero Go.wp_at_succ
/-- A list of which the first k places are marked. -/
def mid (i : Nat) (zs : List Int) (k : Nat) : List Int := marks i 0 k ++ zs.drop k
theorem mid_len (i : Nat) (zs : List Int) {k : Nat} (hk : k ≤ zs.length) : (mid i zs k).length = zs.length := by
  unfold mid
  rw [List.length_append, marks_len, List.length_drop]
  omega
theorem mid_zero (i : Nat) (zs : List Int) : mid i zs 0 = zs := by simp [mid, marks]
theorem mid_full (i : Nat) (zs : List Int) : mid i zs zs.length = marks i 0 zs.length := by simp [mid]
theorem mid_succ (i : Nat) (zs : List Int) {k : Nat} (hk : k < zs.length) : (mid i zs k).set k (mk1 i k) = mid i zs (k + 1) := by
  unfold mid
  rw [List.set_append_right _ _ (by rw [marks_len]; exact Nat.le_refl _), marks_len, Nat.sub_self, marks_succ, List.append_assoc, Nat.zero_add]
  congr 1
  rw [List.drop_eq_getElem_cons hk]
  rfl
/-- All lists ahead of i are marked. -/
structure Mkd (zss yss : List (List Int)) (i : Nat) : Prop where
  len : yss.length = zss.length
  at' : ∀ (k : Nat) (zs : List Int), zss[k]? = some zs → yss[k]? = some (if k < i then marks k 0 zs.length else zs)
theorem Mkd.start (zss : List (List Int)) : Mkd zss zss 0 := ⟨rfl, fun k zs h => by rw [if_neg (by omega)]; exact h⟩
theorem Mkd.next {zss yss : List (List Int)} {i : Nat} {zs : List Int} (h : Mkd zss yss i) (hi : zss[i]? = some zs) : Mkd zss (yss.set i (marks i 0 zs.length)) (i + 1) := by
  refine ⟨by rw [List.length_set]; exact h.len, fun k ys hk => ?_⟩
  have hlt := (List.getElem?_eq_some_iff.1 hi).1
  by_cases e : k = i
  · subst e
    rw [List.getElem?_set_self (by rw [h.len]; exact hlt), if_pos (by omega)]
    rw [hi] at hk
    cases hk
    rfl
  · rw [List.getElem?_set_ne (fun e' => e e'.symm), h.at' k ys hk]
    by_cases h2 : k < i
    · rw [if_pos h2, if_pos (by omega)]
    · rw [if_neg h2, if_neg (by omega)]
/-- The lists' marks. -/
def allM (zss : List (List Int)) : List (List Int) := zss.mapIdx fun k zs => marks k 0 zs.length
theorem Mkd.fin {zss yss : List (List Int)} (h : Mkd zss yss zss.length) : yss = allM zss := by
  apply List.ext_getElem?
  intro k
  unfold allM
  rw [List.getElem?_mapIdx]
  cases e : zss[k]? with
  | none =>
    rw [List.getElem?_eq_none_iff] at e
    rw [List.getElem?_eq_none_iff.2 (by rw [h.len]; exact e)]
    rfl
  | some zs =>
    have hlt := (List.getElem?_eq_some_iff.1 e).1
    rw [h.at' k zs e, if_pos hlt]
    rfl
set_option maxRecDepth 100000 in
set_option maxHeartbeats 8000000 in
theorem putI_any (bk : Nat) (vi : Value) (ls : List Value) (zss : List (List Int)) (w : World) (h : Bp w bk vi ls zss) :
    Calls Tryz.prog 49 #[.pointer (some ⟨bk, 0, none⟩)] w fun r w' => r = .returned (.tuple #[]) ∧ Bp w' bk vi ls (allM zss) ∧ Kept (LsF ls) w w' := by
  obtain ⟨ai, ci, rfl⟩ := row_shape h.ri
  obtain ⟨n, hn⟩ : ∃ n, n = zss.length := ⟨_, rfl⟩
  have hnl : n ≤ 400 := by rw [hn]; exact h.len
  have HB : Hid _ := And.intro h hn
  have HZ : Hid (n = zss.length) := hn
  rw [← hn]
  clear h hn
  go_enter Tryz.func49, Tryz.ntmps49
  go_wp2_with fail
  go_loopg [2] n (fun q iv wr => ∃ (i : Nat) (yss : List (List Int)), q = n - i ∧ i ≤ n ∧ iv = .int .i64 i ∧ Mkd zss yss i ∧ Bp wr bk (.slice ai n ci) ls yss ∧ Kept (LsF ls) w wr)
  case atStart => exact ⟨0, zss, rfl, Nat.zero_le _, rfl, Mkd.start _, by have h1 := HB.out.1; rw [← HZ.out] at h1; exact h1, Kept.refl _ _⟩
  case round =>
    obtain ⟨i, yss, rfl, hi, rfl, hM, hP, hK⟩ := hrel
    clear HB
    obtain ⟨wq, rfl⟩ : ∃ wq, wq = wr := ⟨_, rfl⟩
    have c0 := hP.c0
    by_cases hlt : i < n
    · obtain ⟨zs, hz⟩ : ∃ zs, zss[i]? = some zs := ⟨zss[i]'(by have := HZ.out; omega), List.getElem?_eq_getElem _⟩
      have hy : yss[i]? = some zs := by rw [hM.at' i zs hz, if_neg (by omega)]
      obtain ⟨gi, ci', l, hv, hl, cl, hO⟩ := hP.at hy
      injection hv with e1 e2 e3
      subst e1
      have hzl := hP.sz zs (List.mem_of_getElem? hy)
      obtain ⟨a1, k1, rfl⟩ := row_shape hO
      have q0 : (0 : Int) ≤ (i : Int) := by omega
      have q1 : (i : Int) < (n : Int) := by omega
      have HMk : Hid _ := mark_any i 0 zs.length wq (by omega) (by omega)
      have HI : Hid _ := And.intro hM (And.intro hP (And.intro hK (And.intro hz (And.intro hy hl))))
      clear hM hP hK hz hy hl hO e2 e3
      go_wp2_with fail
      refine Calls.mono HMk.out ?_
      rintro r w2 ⟨vm, rfl, hOm, hb2⟩
      obtain ⟨am, km, rfl⟩ := row_shape hOm
      have hml : (marks i 0 zs.length).length = zs.length := marks_len _ _ _
      rw [hml]
      have hOm' : w2.ownsRow wq.heap.size 3 1 (.slice am zs.length km) zs.length (iC (marks i 0 zs.length)) := by have h1 := hOm; unfold OwnI at h1; rw [hml] at h1; exact h1
      have H2 : Hid _ := And.intro hOm' (And.intro hb2 (HI.out.2.1.below hb2))
      obtain ⟨N, hN⟩ : ∃ N, N = zs.length := ⟨_, rfl⟩
      have HNz : Hid (N = zs.length) := hN
      rw [← hN] at hzl ⊢
      clear hOm hOm' hb2 hml hN HMk c0 cl
      go_wp2_with fail
      go_loopg [4] N (fun q kv wr => ∃ (k : Nat), q = N - k ∧ k ≤ N ∧ kv = .int .i64 k ∧ Bp wr bk (.slice (some ⟨gi, 0, none⟩) n ci) ls (yss.set i (mid i zs k)) ∧ Kept (fun b => (Value.slice a1 zs.length k1).ownBlock = some b) w2 wr)
      case atStart => exact ⟨0, rfl, Nat.zero_le _, rfl, by rw [mid_zero, set_same HI.out.2.2.2.2.1]; exact H2.out.2.2, Kept.refl _ _⟩
      case round =>
        obtain ⟨k, rfl, hk, rfl, hPk, hKk⟩ := hrel
        have hyl : i < yss.length := by have h1 := HI.out.1.len; have h2 := HZ.out; omega
        have hyk : (yss.set i (mid i zs k))[i]? = some (mid i zs k) := List.getElem?_set_self hyl
        have c0 := hPk.c0
        by_cases hkl : k < N
        · obtain ⟨gi', ci'', l', hv', hl', cl', hO'⟩ := hPk.at hyk
          injection hv' with e1 en1 en2
          clear en1 en2
          have e1 := Option.some.inj e1
          injection e1 with e1
          subst e1
          rw [HI.out.2.2.2.2.2] at hl'
          have e2 := Option.some.inj hl'
          subst e2
          have hmidl : (mid i zs k).length = zs.length := mid_len i zs (by have := HNz.out; omega)
          obtain ⟨g, cg, hf, _, hgl⟩ := World.ownsRow.form hO' (by rw [hmidl]; have := HNz.out; omega)
          injection hf with e3 en3 e4
          clear en3
          subst e3; subst e4
          obtain ⟨gm, cm, hfm, hgm, _⟩ := World.ownsRow.form H2.out.1 (by have := HNz.out; omega)
          injection hfm with e5 en5 e6
          clear en5
          subst e5; subst e6
          have hgq : g < wq.heap.size := ((HI.out.2.1.li i _ zs HI.out.2.2.2.2.2 HI.out.2.2.2.2.1).lt g rfl).2
          have cM : wr.cell? ⟨gm, k, none⟩ = some (.int .i64 (mk1 i k)) := by
            have h1 : w2.cell? ⟨gm, k, none⟩ = some (.int .i64 (mk1 i k)) := by
              rw [World.ownsRow.cellAt H2.out.1 k (by have := HNz.out; omega)]
              unfold iC
              rw [List.getElem?_map, marks_at (by have := HNz.out; omega), Nat.zero_add]
              rfl
            rw [World.cell?_of_block (a := ⟨gm, k, none⟩) (hKk.block gm (World.block_lt_of_cell? w2 _ h1) (fun e => by have h9 := Option.some.inj e; simp at h9; omega))]
            exact h1
          obtain ⟨z0, hz0⟩ : ∃ z0, (mid i zs k)[k]? = some z0 := ⟨(mid i zs k)[k]'(by rw [hmidl]; have := HNz.out; omega), List.getElem?_eq_getElem _⟩
          have cG := OwnI.cell hO' hz0
          obtain ⟨cc, hcc⟩ := row_cells hO' (i := g) rfl
          have cF := blk_free hcc k
          have q2 : (0 : Int) ≤ (k : Int) := by omega
          have q3 : (k : Int) < (N : Int) := by omega
          have hset := hPk.set hyk HI.out.2.2.2.2.2 k (mk1 i k)
          rw [List.set_set, mid_succ i zs (by have := HNz.out; omega)] at hset
          have HJ : Hid _ := And.intro hset (hKk.trans ((Kept.setCell wr g k (.int .i64 (mk1 i k))).mono fun b _ hb => by subst hb; rfl))
          clear hset hPk hKk hyk hO' hl' hz0 hcc hmidl hgl
          rw [← HNz.out] at cl'
          go_upto_region 7 with fail
          go_region
          all_goals
            go_wp2_with fail
            go_roundg (N - (k + 1))
            case measure => omega
            case rel => exact ⟨k + 1, rfl, by omega, by go_num, by first | exact HJ.out.1 | exact HJ.out.1.below ((Below.refl _ _).drew), by first | exact HJ.out.2 | exact HJ.out.2.trans (.of_below ((Below.refl _ _).drew))⟩
        · obtain rfl : k = N := by omega
          have q3 : ¬ (k : Int) < (k : Int) := by omega
          have hfull : mid i zs k = marks i 0 zs.length := by rw [HNz.out]; exact mid_full i zs
          rw [hfull] at hPk
          have hKw : Kept (LsF ls) w wr := (HI.out.2.2.1.trans (.of_below H2.out.2.1)).trans (hKk.mono fun b _ hb => ⟨_, List.mem_of_getElem? HI.out.2.2.2.2.2, hb⟩)
          have HJ : Hid _ := And.intro hPk (And.intro hKw (HI.out.1.next HI.out.2.2.2.1))
          clear hPk hKk hyk hfull hKw
          go_wp2_with fail
          go_roundg (n - (i + 1))
          case measure => omega
          case rel => exact ⟨i + 1, _, rfl, by omega, by go_num, HJ.out.2.2, HJ.out.1, HJ.out.2.1⟩
    · obtain rfl : i = n := by omega
      have q1 : ¬ (i : Int) < (i : Int) := by omega
      have hMf : Mkd zss yss zss.length := by rw [← HZ.out]; exact hM
      have hP' := hP
      rw [hMf.fin] at hP'
      have HJ : Hid _ := And.intro hP' hK
      clear hP' hP hK hM hMf
      go_wp2_with fail
      go_end0
      exact ⟨rfl, HJ.out.1, HJ.out.2⟩
end Go.Proofs.YtpcndfffljmajaaGreatDoor
/- Contract of the book's markedInts. -/
namespace Go.Proofs.YtpcndfffljmajaaGreatDoor
open Go.RowKit Go.Maps
attribute [local go_sem ↓] Go.wp_at_zero Go.wp_at_succ
/-- A row of lists, each with its marks. -/
structure Mr (w : World) (v : Value) (ns : List Nat) : Prop where
  ex : ∃ ao cap, v = .slice ao ns.length cap ∧ ∀ (k n : Nat), ns[k]? = some n → ∃ a l, ao = some a ∧ w.cell? (a.add k) = some l ∧ HasI w l (marks k 0 n)
theorem Mr.below {w w' : World} {v : Value} {ns : List Nat} (h : Mr w v ns) (hb : Below w.heap.size w w') : Mr w' v ns := by
  obtain ⟨ao, cap, hv, h1⟩ := h.ex
  refine ⟨ao, cap, hv, fun k n hk => ?_⟩
  obtain ⟨a, l, ha, hc, hl⟩ := h1 k n hk
  exact ⟨a, l, ha, (hb.cell (World.block_lt_of_cell? w _ hc)).trans hc, hl.below hb⟩
set_option maxRecDepth 100000 in
set_option maxHeartbeats 4000000 in
theorem markedI_any (v : Value) (ns : List Nat) (w : World) (h : Mr w v ns) (hl : ns.length ≤ 400) (hs : ∀ n ∈ ns, n ≤ 2000000) :
    Calls Tryz.prog 71 #[v] w fun r w' => r = .returned (.bool true) ∧ Below w.heap.size w w' := by
  obtain ⟨ao, cap, rfl, _⟩ := h.ex
  obtain ⟨n, hn⟩ : ∃ n, n = ns.length := ⟨_, rfl⟩
  have HM : Hid _ := And.intro h (And.intro hs hn)
  rw [← hn] at hl ⊢
  clear h hs hn
  go_enter Tryz.func71, Tryz.ntmps71
  go_wp2_with fail
  go_loopg [3] n (fun q iv wr => ∃ (i : Nat), q = n - i ∧ i ≤ n ∧ iv = .int .i64 i ∧ Below w.heap.size w wr)
  case atStart => exact ⟨0, rfl, Nat.zero_le _, rfl, Below.refl _ _⟩
  case round =>
    obtain ⟨i, rfl, hi, rfl, hb⟩ := hrel
    by_cases hlt : i < n
    · obtain ⟨N, hN⟩ : ∃ N, ns[i]? = some N := ⟨ns[i]'(by have := HM.out.2.2; omega), List.getElem?_eq_getElem _⟩
      obtain ⟨ao', cap', hv, h1⟩ := (HM.out.1.below hb).ex
      injection hv with e1 e2 e3
      subst e1
      obtain ⟨a, l, rfl, cl, hL⟩ := h1 i N hN
      have hN2 := HM.out.2.1 N (List.mem_of_getElem? hN)
      obtain ⟨al, kl, hlv, _⟩ := _root_.id hL
      rw [marks_len] at hlv
      subst hlv
      have q0 : (0 : Int) ≤ (i : Int) := by omega
      have q1 : (i : Int) < (n : Int) := by omega
      have hMk := fun W => mark_any i 0 N W (by omega) (by omega)
      have HK : Hid _ := And.intro hMk (And.intro hL hb)
      clear hMk hL hb h1 hN e2 e3
      go_upto_region 4 with fail
      go_cut [22] (fun s22 wx => s22 = .bool false ∧ Below w.heap.size w wx)
      case first =>
        go_region_held3 (fun w' => w'.cell? (a.add i) = some (.slice al N kl)) (go_keep)
          ((first
            | (go_at_call 103; refine (HK.out.1 _).mono ?_; rintro r8 w8 ⟨v8, rfl, hO8, hb8'⟩; have hb8 := below_of_drew3 hb8'; have cl := (hb8.cell (World.block_lt_of_cell? _ _ cl)).trans cl; have hL8 := HK.out.2.1.below hb8; have hS8 := sameInts_b (.slice al N kl) v8 (marks i 0 N) (marks i 0 N) w8 (by rw [marks_len]; omega) (by rw [marks_len]; omega) hL8 hO8.has; rw [beq_self_eq_true] at hS8; have H8 : Hid _ := And.intro hS8 (HK.out.2.2.trans (hb8.mono HK.out.2.2.size)); clear hb8 hb8' hO8 hL8 hS8)
            | (go_at_call 33; refine (Calls.mono H8.out.1 ?_); rintro r9 w9 ⟨rfl, hb9⟩; have cl := (hb9.cell (World.block_lt_of_cell? _ _ cl)).trans cl; have H9 : Hid _ := H8.out.2.trans (hb9.mono H8.out.2.size); clear hb9)
            | fail))
        all_goals (refine Met.intro ?_; apply_assumption; refine Met.intro ?_; apply_assumption; (repeat apply Exists.intro); refine ⟨?rel, rfl⟩; case rel => exact ⟨rfl, by first | exact H9.out | exact below_drewN H9.out _⟩)
      case rest =>
        obtain ⟨rfl, hb9⟩ := hcut
        have H9 : Hid _ := hb9
        clear hb9 cl
        go_wp2_with fail
        go_roundg (n - (i + 1))
        case measure => omega
        case rel => exact ⟨i + 1, rfl, by omega, by go_num, H9.out⟩
    · obtain rfl : i = n := by omega
      have q1 : ¬ (i : Int) < (i : Int) := by omega
      have HBl : Hid _ := hb
      clear hb
      go_wp2_with fail
      go_ret
      exact ⟨rfl, HBl.out⟩
end Go.Proofs.YtpcndfffljmajaaGreatDoor
