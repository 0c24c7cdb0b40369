/- Texts of this claim, joined: RoLoop, RoIter, RoAll, RoDNext0, RoDNext, SyOne0. -/
import Derived.RangeFuncNested
import Derived.RangeFuncBound
import Derived.RangeFuncCalls
import Derived.RangeFuncLeaves
import Derived.RangeFuncBox
import Derived.RangeFuncWrites
import Derived.Test.YtpmanmoljlhogaaGreatDoorPart11
import Derived.Shelf.Abstract
import Derived.Shelf.RegionOpen
import Derived.WalkKit
import Derived.OwnWalkIn
import Derived.TacticsInMore
import Derived.LoopNIn
import Derived.LoopIn
import Derived.Maps.AppendAt
import Derived.Test.YtpmanmoljlhogaaGreatDoorPart3
import Derived.Test.YtpmanmoljlhogaaGreatDoorPart8
/- A loop over a function that tells its body what the memory holds of what it hands over. Nothing of the program is in it. -/
namespace Go.Proofs.YtpmanmoljlhogaaGreatDoor
open Go.RowKit
/-- The function that is ranged over: with each thing that it hands over stands what the memory holds of it (Good). -/
def Tells {α : Type} (F : Fence) (n : Nat) (P : Program) (g : Nat) (lb : Array Value) (encs : α → Array Value) (Kp : World → World → Prop) (Good : List α → α → World → Prop) (S Sp : List α → Prop) (w : World) : Prop :=
  ∀ (l : Nat) (J Jx : List α → World → Prop) (W : World), Below w.heap.size w W → AbidesFrom W.heap.size J → AbidesFrom W.heap.size Jx →
    (∀ pre x W1, J pre W1 → Good pre x W1 → YieldAt F (n - 1) P l (encs x) W1 fun e W' =>
      (e = .returned (.bool true) ∧ J (pre ++ [x]) W' ∧ Kp W1 W') ∨ (e = .returned (.bool false) ∧ Jx (pre ++ [x]) W')) →
    J [] W →
    CallsIn F n P g (#[.func (.yield l) #[] #[]] ++ lb) W fun e W' => (∃ v, e = .returned v) ∧ ((∃ xs, S xs ∧ J xs W') ∨ (∃ pre, Sp pre ∧ Jx pre W'))
section
variable {F : Fence} {n : Nat} {P : Program}
/-- The record of a loop. -/
def rec5 (fn : FuncId) (a : Act) (ps : Array Tmp) (assign body : Code) (d : Nat) (st : LoopState) (pe : Option Code) : Loop := { state := st, pending := pe, fn, tmps := a.tmps, params := ps, assign, body, defers := d }
theorem loop_tells {α : Type} {g : Operand} {ps : Array Tmp} {assign body : Code} {Q : Exit → Act → World → Prop} {a : Act} {w : World}
    (hro : F.round = none) (h1 : 1 ≤ n) {gf : Nat} {lb : Array Value} (hg : a.eval g = .func (.func gf) #[] lb) (hFg : F.fn gf) (eg : ∀ args w, (callFunc gf args).run P w = .ok (.enter gf args) w)
    {encs : α → Array Value} {Kp : World → World → Prop} {Good : List α → α → World → Prop} {S Sp : List α → Prop} {w0 : World} (hseq : Tells F (n - 1) P gf lb encs Kp Good S Sp w0)
    (hKt : ∀ {A B C : World}, Kp A B → Kp B C → Kp A C) (hKb : ∀ (W : World) (l : Nat) (o o' : Obj), w.heap.size ≤ l → W.heap[l]? = some o → o.isCells = false → o.isWalk = false → Kp W (W.putObj l o'))
    (hGb : ∀ pre x (W : World) (l : Nat) (o o' : Obj), w.heap.size ≤ l → W.heap[l]? = some o → o.isCells = false → Good pre x W → Good pre x (W.putObj l o'))
    (hb0 : Below w0.heap.size w0 w) (hps : ∀ x, (encs x).size = ps.size)
    (I : List α → World → Prop) (Ix : Code → List α → World → Prop) (hI : OwnFrom w.heap.size I) (hIx : ∀ c, OwnFrom w.heap.size (Ix c)) (h0 : I [] w) (a₁ : α → Act)
    (hassign : ∀ (l : Nat) (x : α) (W : World) (K : Act → World → Prop), K (a₁ x) W →
      assign.wpIn (F.inRound l) (n - 1 - 1) P (Exit.then K (fun _ _ _ => False)) { tmps := (ps.zip (encs x)).foldl (fun t (p, v) => t.setIfInBounds p v) a.tmps, defers := [] } W)
    (hbody : ∀ (l : Nat) (pre : List α) (x : α) (W : World), I pre W → Good pre x W → body.wpIn (F.inRound l) (n - 1 - 1) P (ownPostG w.heap.size Kp I Ix (pre ++ [x]) W) (a₁ x) W)
    (hdone : ∀ (D : Nat) (xs : List α) (W : World), w.heap.size ≤ D → S xs → I xs W → W.heap[D]? = some (.deferred (some [])) → Q .normal { a with defers := { target := .collected D, args := #[] } :: a.defers } W)
    (hstop : ∀ (D : Nat) (c : Code) (pre : List α) (W : World), w.heap.size ≤ D → Sp pre → Ix c pre W → W.heap[D]? = some (.deferred (some [])) → c.wpIn F n P Q { a with defers := { target := .collected D, args := #[] } :: a.defers } W) :
    (Code.rangeFunc g ps assign body).wpIn F n P Q a w := by
  refine wpIn_rangeFunc fun fn hfn => ?_
  rw [hro]
  have eL : w.heap.size < w.heap.size + 1 := Nat.lt_succ_self _
  let R5 := rec5 fn a ps assign body w.heap.size
  obtain ⟨W1, hW1⟩ : ∃ W1, W1 = (w.alloc (.deferred (some []))).alloc (.loop (R5 .ready none)) := ⟨_, rfl⟩
  have hz : W1.heap.size = w.heap.size + 2 := by rw [hW1]; simp
  have hL1 : W1.heap[w.heap.size + 1]? = some (.loop (R5 .ready none)) := by
    have h := World.alloc_heap_new (w.alloc (.deferred (some []))) (.loop (R5 .ready none))
    rw [World.size_alloc] at h
    rw [hW1]
    exact h
  have hK1 : W1.heap[w.heap.size]? = some (.deferred (some [])) := by
    rw [hW1]
    exact (Below.heap_alloc _ _ _ (by simp)).trans (World.alloc_heap_new w _)
  have hI1 : I [] W1 := by rw [hW1]; exact hI.alloc _ (hI.alloc _ h0)
  have hb1 : Below w0.heap.size w0 W1 := by
    rw [hW1]
    exact hb0.trans ((((Below.refl _ w).alloc (Nat.le_refl _) _).alloc (by simp) _).mono hb0.size)
  refine ⟨w.heap.size + 1, [{ target := .collected w.heap.size, args := #[] }], W1, { target := .fn (.func gf) lb, args := #[.func (.yield (w.heap.size + 1)) #[] #[]] }, W1, gf, #[.func (.yield (w.heap.size + 1)) #[] #[]] ++ lb, W1, by rw [hW1]; exact run_enterLoop_outer _ _ _ _ _, by simp only [resolve, hg]; simp [go_sem], fun f' hf' => by simp [Target.leads] at hf'; subst hf'; exact hFg, by simp [invoke, go_sem, eg], fun _ => h1, ?_⟩
  have turn : ∀ {A : World} {row : Option Nat}, (∀ r, row = some r → W1.heap.size ≤ r ∧ ∃ o : Obj, A.heap[r]? = some o ∧ o.isWalk = true) → ∀ r, row = some r → w.heap.size ≤ r ∧ ∃ o : Obj, A.heap[r]? = some o ∧ o.isCells = false := fun hr r e => by
    obtain ⟨hB, o, ho, hw⟩ := hr r e
    exact ⟨by omega, o, ho, Obj.not_cells_of_walk hw⟩
  have hcall := hseq (w.heap.size + 1)
    (fun pre W => I pre W ∧ W.heap[w.heap.size + 1]? = some (.loop (R5 .ready none)) ∧ W.heap[w.heap.size]? = some (.deferred (some [])))
    (fun pre W => ∃ c, Ix c pre W ∧ W.heap[w.heap.size + 1]? = some (.loop (R5 .done (some c))) ∧ W.heap[w.heap.size]? = some (.deferred (some [])))
    W1 hb1
    (fun s A B row hs hg' hr => ⟨hI s A B row hs.1 hg' (turn hr), (grownBy_keeps hg' (fun r e => (hr r e).2) hs.2.1 rfl).trans hs.2.1, (grownBy_keeps hg' (fun r e => (hr r e).2) hs.2.2 rfl).trans hs.2.2⟩)
    (fun s A B row hs hg' hr => by
      obtain ⟨c, hc, hl, hk⟩ := hs
      exact ⟨c, hIx c s A B row hc hg' (turn hr), (grownBy_keeps hg' (fun r e => (hr r e).2) hl rfl).trans hl, (grownBy_keeps hg' (fun r e => (hr r e).2) hk rfl).trans hk⟩)
    ?_ ⟨hI1, hL1, hK1⟩
  · refine hcall.mono ?_
    rintro e W2 ⟨⟨v, rfl⟩, (⟨xs, hS, hi, hl, hk⟩ | ⟨pre, hSp, c, hi, hl, hk⟩)⟩
    · exact ⟨none, _, run_endLoop (P := P) hl (by simp [R5, rec5]), hdone _ xs _ (Nat.le_refl _) hS (hI.putObj _ hi (by omega) hl rfl) ((World.putObj_heap_other (by omega)).trans hk)⟩
    · exact ⟨some c, _, run_endLoop (P := P) hl (by simp [R5, rec5]), hstop _ c pre _ (Nat.le_refl _) hSp ((hIx c).putObj _ hi (by omega) hl rfl) ((World.putObj_heap_other (by omega)).trans hk)⟩
  · rintro pre x W ⟨hi, hl, hk⟩ hG
    have hlt : w.heap.size + 1 < W.heap.size := (Array.getElem?_eq_some_iff.1 hl).1
    refine ⟨fn, _, assign, body, run_yield (P := P) (args := encs x) hl (hps x), roundIn_of_wpIn hfn (hassign _ x W _ ⟨_, run_beginRound hl rfl, ?_⟩)⟩
    obtain ⟨V, hV⟩ : ∃ V, V = W.putObj (w.heap.size + 1) (.loop (R5 .busy none)) := ⟨_, rfl⟩
    show Code.wpIn _ _ _ _ _ _ (W.putObj (w.heap.size + 1) (.loop (R5 .busy none)))
    rw [← hV]
    have hl2 : V.heap[w.heap.size + 1]? = some (.loop (R5 .busy none)) := by rw [hV]; exact World.putObj_heap_same hlt
    have hk2 : V.heap[w.heap.size]? = some (.deferred (some [])) := by rw [hV]; exact (World.putObj_heap_other (by omega)).trans hk
    have hw2 : Kp W V := by rw [hV]; exact hKb _ _ _ _ (by omega) hl rfl rfl
    have hi2 : I pre V := by rw [hV]; exact hI.putObj _ hi (by omega) hl rfl
    have hG2 : Good pre x V := by rw [hV]; exact hGb _ _ _ _ _ _ (by omega) hl rfl hG
    have ends : ∀ (jump : Option Code) (W3 : World), KeepsFrom w.heap.size V W3 →
        (Instr.endRound (w.heap.size + 1) jump).run P W3 = .ok (.bool jump.isNone) (W3.putObj (w.heap.size + 1) (.loop (R5 (if jump.isNone then .ready else .done) jump))) ∧ W3.heap[w.heap.size + 1]? = some (.loop (R5 .busy none)) ∧
        (W3.putObj (w.heap.size + 1) (.loop (R5 (if jump.isNone then .ready else .done) jump))).heap[w.heap.size + 1]? = some (.loop (R5 (if jump.isNone then .ready else .done) jump)) ∧
        (W3.putObj (w.heap.size + 1) (.loop (R5 (if jump.isNone then .ready else .done) jump))).heap[w.heap.size]? = some (.deferred (some [])) := fun jump W3 hk3 => by
      have hl3 := hk3.same _ _ (by omega) hl2 rfl
      exact ⟨run_endRound (P := P) jump hl3, hl3, World.putObj_heap_same (Array.getElem?_eq_some_iff.1 hl3).1, (World.putObj_heap_other (by omega)).trans (hk3.same _ _ (Nat.le_refl _) hk2 rfl)⟩
    refine wpIn_mono (hbody _ pre x V hi2 hG2) ?_
    have left : ∀ (c : Code) (W3 : World), KeepsFrom w.heap.size V W3 → Ix c (pre ++ [x]) W3 → ∃ v W4, (Instr.endRound (w.heap.size + 1) (some c)).run P W3 = .ok v W4 ∧ ((Ending.returned v = .returned (.bool true) ∧ (I (pre ++ [x]) W4 ∧ W4.heap[w.heap.size + 1]? = some (.loop (R5 .ready none)) ∧ W4.heap[w.heap.size]? = some (.deferred (some []))) ∧ Kp W W4) ∨ (Ending.returned v = .returned (.bool false) ∧ ∃ c, Ix c (pre ++ [x]) W4 ∧ W4.heap[w.heap.size + 1]? = some (.loop (R5 .done (some c))) ∧ W4.heap[w.heap.size]? = some (.deferred (some [])))) := fun c W3 hk3 hx3 => by
      obtain ⟨hr, hl3, hl4, hk4⟩ := ends (some c) W3 hk3
      exact ⟨_, _, hr, .inr ⟨rfl, c, (hIx _).putObj _ hx3 (by omega) hl3 rfl, hl4, hk4⟩⟩
    rintro e a3 W3 hp
    cases e with
    | normal =>
      obtain ⟨hk3, hkp3, hi3⟩ := hp
      obtain ⟨hr, hl3, hl4, hk4⟩ := ends none W3 hk3
      exact ⟨_, _, hr, .inl ⟨rfl, ⟨hI.putObj _ hi3 (by omega) hl3 rfl, hl4, hk4⟩, hKt (hKt hw2 hkp3) (hKb _ _ _ _ (by omega) hl3 rfl rfl)⟩⟩
    | ret => exact left .ret W3 hp.1 hp.2
    | exit id => exact left (.exit id) W3 hp.1 hp.2
    | goto t => exact left (.goto t) W3 hp.1 hp.2
    | panic ch => exact hp.elim
    | outgrown => exact hp.elim
end
end Go.Proofs.YtpmanmoljlhogaaGreatDoor
/- The function that roundsOf answers tells the rounds, one behind the other. -/
namespace Go.Proofs.YtpmanmoljlhogaaGreatDoor
open Go.RowKit Go.Maps Go.Shelf
attribute [local go_sem] Oper.semAt_some
/-- What a round of a loop over the rounds leaves as it was: all below n0, and lists of numbers from n1 on. -/
structure KpR (n0 n1 : Nat) (W W' : World) : Prop where
  bl : Below n0 W W'
  ints : ∀ (b : Nat) (cs : Array Value), n1 ≤ b → W.heap[b]? = some (.cells cs 3 (0, 0)) → W'.heap[b]? = some (.cells cs 3 (0, 0))
theorem KpR.trans {n0 n1 : Nat} {A B C : World} (h : KpR n0 n1 A B) (k : KpR n0 n1 B C) : KpR n0 n1 A C := ⟨h.bl.trans k.bl, fun b cs hb hc => k.ints b cs hb (h.ints b cs hb hc)⟩
/-- What is handed over: the round, and the block of its classes. -/
abbrev Rd : Type := Nat × Nat
def rdV (m : Nat) (x : Rd) : Array Value := #[.int .i64 x.1, .slice (some ⟨x.2, 0, none⟩) m m]
structure GoodR (n1 m : Nat) (out : Nat → List Ro.St) (pre : List Rd) (x : Rd) (W : World) : Prop where
  num : x.1 = pre.length
  small : x.1 < max m 1
  up : ∀ y ∈ pre, y.2 < x.2
  gu : n1 ≤ x.2
  blk : ∃ cs : Array Value, W.heap[x.2]? = some (.cells cs 3 (0, 0)) ∧ cs.toList = natC (Ro.rnd m out x.1)
/-- What the function reads stands as long as all below n0 does. -/
def Reads (n0 b1 b2 gs m : Nat) (out : Nat → List Ro.St) (w : World) : Prop := ∀ W, Below n0 w W → W.cell? ⟨b1, 0, none⟩ = some (.int .i64 m) ∧ W.cell? ⟨b2, 0, none⟩ = some (.slice (some ⟨gs, 0, none⟩) m m) ∧ Stp W gs m out ∧ Pow W
theorem Reads.of {w w' : World} {b1 b2 gs m : Nat} {es : List Sy.Ed} (h : OfAt w w' b1 b2 gs m es) (hP : Pow w') : Reads w'.heap.size b1 b2 gs m (outOf m es) w' := fun _ hb =>
  ⟨cell_up h.c1 hb, cell_up h.c2 hb, h.st.below hb, hP.below hb⟩
theorem Reads.on {n0 b1 b2 gs m : Nat} {out : Nat → List Ro.St} {w w' : World} (h : Reads n0 b1 b2 gs m out w) (hb : Below n0 w w') : Reads n0 b1 b2 gs m out w' := fun W hW => h W (hb.trans hW)
theorem grown_of_below {w w' : World} (h : Below w.heap.size w w') : w.grownBy w' none := ⟨h.os, h.tape, h.output, h.size, fun k hk _ => h.block k hk⟩
theorem hasI_blk {W : World} {g m : Nat} {c : List Nat} {cs : Array Value} (hm : c.length = m) (hb : W.heap[g]? = some (.cells cs 3 (0, 0))) (hc : cs.toList = natC c) : HasI W (.slice (some ⟨g, 0, none⟩) m m) (natI c) :=
  ⟨_, m, by rw [show (natI c).length = m by simp [natI, hm]], fun i z hz => ⟨_, rfl, by
    rw [addz]
    refine cell0_of hb ?_
    rw [← Array.getElem?_toList, hc, ← iC_nat]
    unfold iC
    rw [List.getElem?_map, hz]; rfl⟩⟩
theorem natI_inj {a b : List Nat} (h : natI a = natI b) : a = b := by
  unfold natI at h
  exact List.map_inj_right (fun x y e => by omega) |>.1 h
/-- Between two rounds. -/
structure ItAt (w wr : World) (n0 m : Nat) (out : Nat → List Ro.St) (J : List Rd → World → Prop) (pre : List Rd) (k g : Nat) : Prop where
  len : pre.length = k
  j : J pre wr
  bl : Below n0 w wr
  up : ∀ y ∈ pre, y.2 < g
  gu : w.heap.size ≤ g
  blk : ∃ cs : Array Value, wr.heap[g]? = some (.cells cs 3 (0, 0)) ∧ cs.toList = natC (Ro.rnd m out k)
  ch : ∀ j, j < k → Ro.rnd m out (j + 1) ≠ Ro.rnd m out j
set_option maxRecDepth 100000 in
set_option maxHeartbeats 4000000 in
theorem rounds_tell (n : Nat) (n0 b1 b2 gs m : Nat) (out : Nat → List Ro.St) (w : World) (hn0 : n0 ≤ w.heap.size) (hm : m ≤ 1000) (hF : Fit m out) (hR : Reads n0 b1 b2 gs m out w) :
    Tells Fence.wide n Tryz.prog 97 #[.pointer (some ⟨b1, 0, none⟩), .pointer (some ⟨b2, 0, none⟩)] (rdV m) (KpR n0 w.heap.size) (GoodR w.heap.size m out) (fun xs => ∃ R, Ro.Last m out R ∧ xs.length = R + 1) (fun pre => ∃ R, Ro.Last m out R ∧ pre.length ≤ R + 1) w := by
  intro l J Jx W hW hJ hJx hY h0
  have hrd := hR W (hW.mono hn0)
  have c1 := hrd.1
  have hmk := makeI m (by omega) W
  have HH : Hid _ := And.intro hW (And.intro hJ (And.intro hJx (And.intro hY (And.intro h0 (And.intro hF (And.intro hR hrd))))))
  clear hW hJ hJx hY h0 hF hR hrd
  refine callsIn_of_wp Tryz.func97 rfl trivial ?_ rfl
  simp only [Tryz.ntmps97, List.size_toArray, List.length_cons, List.length_nil, Nat.reduceAdd, Nat.reduceSub, Array.replicate_succ, Array.replicate_zero, List.push_toArray, List.append_toArray, List.nil_append, List.cons_append]
  gi_wp2
  clear hmk c1
  gi_loopw [4, 5] (fun cv iv wr => ∃ (k g : Nat) (pre : List Rd), cv = .slice (some ⟨g, 0, none⟩) m m ∧ iv = .int .i64 k ∧ ItAt w wr n0 m out J pre k g) (fun _ iv _ => 1001 - (intOf iv).toNat)
  case atStart =>
    refine ⟨0, W.heap.size, [], rfl, rfl, rfl, ?_, ?_, fun y hy => by simp at hy, HH.out.1.size, ?_, fun j hj => by omega⟩
    · exact HH.out.2.1 _ _ _ none HH.out.2.2.2.2.1 (World.grownBy_alloc W _ none) (fun r e => by cases e)
    · exact (HH.out.1.mono hn0).trans (((Below.refl _ W).alloc (Nat.le_refl _) _).mono (Nat.le_trans hn0 HH.out.1.size))
    · obtain ⟨_, ⟨cs, hc, hx⟩, _⟩ := arr_new 3 (.int .i64 0) rfl m W
      exact ⟨cs, hc, by rw [hx]; simp [natC, Ro.rnd]⟩
  case round =>
    obtain ⟨k, g, pre, rfl, rfl, hI⟩ := hrel
    have hk := Ro.changes_lt hI.ch
    obtain ⟨fn, tmps, assign, body, hy, hRd⟩ := HH.out.2.2.2.1 pre (k, g) wr hI.j ⟨hI.len.symm, hk, hI.up, hI.gu, hI.blk⟩
    dsimp only [rdV] at hy
    have HI : Hid (ItAt w wr n0 m out J pre k g) := hI
    have hk1 : k ≤ 1000 := by omega
    clear hI
    gi_wp2
    refine ⟨fun h => (by cases h), hRd.mono ?_⟩
    rintro e W3 (⟨rfl, hJ3, hk3⟩ | ⟨rfl, hJx3⟩)
    · have hb3 := HI.out.bl.trans hk3.bl
      obtain ⟨cs, hcs, hcl⟩ := HI.out.blk
      have hcs3 := hk3.ints g cs HI.out.gu hcs
      obtain ⟨r1, r2, r3, r4⟩ := HH.out.2.2.2.2.2.2.1 W3 hb3
      have hcI := hasI_blk (Ro.rnd_len m out k) hcs3 hcl
      have hP := parted_any gs m out (Ro.rnd m out k) _ W3 hm (Ro.rnd_len m out k) (fun u hu => Ro.rnd_lt hu) HH.out.2.2.2.2.2.1 r3 hcI r4
      have H3 : Hid _ := And.intro hJ3 (And.intro hb3 (And.intro hcI (And.intro hP hcs3)))
      have c2 := r2
      clear hJ3 hk3 hb3 hcs hcs3 r1 r2 r3 r4 hcI hP hRd hy
      gi_wp2
      refine ⟨trivial, fun h => (by cases h), (callsIn_wide.2 H3.out.2.2.2.1).mono ?_⟩
      rintro e W4 ⟨g2, rfl, hA4⟩
      have hb34 := hA4.bl
      have hcI4 : HasI W4 (.slice (some ⟨g2, 0, none⟩) m m) (natI (Ro.rnd m out (k + 1))) := by
        obtain ⟨cs4, hc4, hx4⟩ := hA4.ids
        exact hasI_blk (Ro.rnd_len m out (k + 1)) hc4 hx4
      have hl4 : ∀ j, (natI (Ro.rnd m out j)).length = m := fun j => by simp [natI, Ro.rnd_len]
      have hE := slEqual_any _ _ _ _ W4 (by rw [hl4]; omega) (by rw [hl4]; omega) hcI4 (H3.out.2.2.1.below hb34)
      have H4 : Hid _ := And.intro hA4 hE
      clear hA4 hE hb34 hcI4 hl4
      by_cases he : Ro.rnd m out (k + 1) = Ro.rnd m out k
      · have e1 : (natI (Ro.rnd m out (k + 1)) == natI (Ro.rnd m out k)) = true := by rw [he]; simp
        rw [e1] at H4
        have HE : Hid _ := he
        clear he e1
        gi_wp2
        refine ⟨trivial, fun h => (by cases h), (callsIn_wide.2 H4.out.2).mono ?_⟩
        rintro e W5 ⟨rfl, hb5⟩
        have H5 : Hid (Below W3.heap.size W3 W5) := bel6 hb5 H4.out.1.bl
        clear hb5
        gi_wp2
        refine bodyPost_ret (results_none rfl _ _ _) rfl ?_
        exact ⟨⟨_, rfl⟩, .inl ⟨pre ++ [(k, g)], ⟨k, ⟨HE.out, HI.out.ch⟩, by simp [HI.out.len]⟩, HH.out.2.1 _ _ _ none H3.out.1 (grown_of_below H5.out) (fun r e => by cases e)⟩⟩
      · have e1 : (natI (Ro.rnd m out (k + 1)) == natI (Ro.rnd m out k)) = false := by simpa using fun e => he (natI_inj e)
        rw [e1] at H4
        have HE : Hid _ := he
        clear he e1
        gi_wp2
        refine ⟨trivial, fun h => (by cases h), (callsIn_wide.2 H4.out.2).mono ?_⟩
        rintro e W5 ⟨rfl, hb5⟩
        have H5 : Hid (Below W3.heap.size W3 W5 ∧ Below W4.heap.size W4 W5) := ⟨bel6 hb5 H4.out.1.bl, hb5⟩
        clear hb5
        gi_wp2
        go_roundw
        case rel =>
          refine ⟨k + 1, g2, pre ++ [(k, g)], rfl, by go_num, by simp [HI.out.len], HH.out.2.1 _ _ _ none H3.out.1 (grown_of_below H5.out.1) (fun r e => by cases e), H3.out.2.1.trans (H5.out.1.mono (Nat.le_trans hn0 H3.out.2.1.size)), fun y hy => ?_, ?_, ?_, fun j hj => ?_⟩
          · have hg3 := t_lt H3.out.2.2.2.2
            have hg4 := H4.out.1.gu
            rcases List.mem_append.1 hy with hy | hy
            · have := HI.out.up y hy; omega
            · rw [List.mem_singleton.1 hy]; show g < g2; omega
          · exact Nat.le_trans H3.out.2.1.size H4.out.1.gu
          · obtain ⟨cs4, hc4, hx4⟩ := H4.out.1.ids
            exact ⟨cs4, res_up6 H5.out.2 hc4, hx4⟩
          · rcases Nat.lt_or_ge j k with h1 | h1
            · exact HI.out.ch j h1
            · obtain rfl : j = k := by omega
              exact HE.out
        case measure => simp [intOf]; omega
    · have HJ : Hid _ := hJx3
      clear hJx3 hRd hy
      gi_wp2
      go_end0
      obtain ⟨R, hR⟩ := Ro.exists_last m out
      exact ⟨⟨_, rfl⟩, .inr ⟨_, ⟨R, hR, by have := hR.ge HI.out.ch; simp [HI.out.len]; omega⟩, HJ.out⟩⟩
end Go.Proofs.YtpmanmoljlhogaaGreatDoor
/- Contract of the program's All: the classes of all rounds. -/
namespace Go.Proofs.YtpmanmoljlhogaaGreatDoor
open Go.RowKit Go.Maps Go.Shelf
attribute [local go_sem] Oper.semAt_some
/-- The rounds' classes in memory, one behind the other. -/
structure RwAt (W : World) (B m : Nat) (out : Nat → List Ro.St) (pre : List Rd) : Prop where
  row : ∀ (j : Nat) (x : Rd), pre[j]? = some x → x.1 = j ∧ B ≤ x.2 ∧ ∃ cs : Array Value, W.heap[x.2]? = some (.cells cs 3 (0, 0)) ∧ cs.toList = natC (Ro.rnd m out j)
  up : pre.Pairwise fun y x => y.2 < x.2
theorem RwAt.nil (W : World) (B m : Nat) (out : Nat → List Ro.St) : RwAt W B m out [] := ⟨fun j x h => by simp at h, .nil⟩
theorem RwAt.keep {W W' : World} {B m : Nat} {out : Nat → List Ro.St} {pre : List Rd} (h : RwAt W B m out pre) (hk : ∀ (b : Nat) (cs : Array Value), B ≤ b → W.heap[b]? = some (.cells cs 3 (0, 0)) → W'.heap[b]? = some (.cells cs 3 (0, 0))) : RwAt W' B m out pre :=
  ⟨fun j x hx => by obtain ⟨h1, h2, cs, h3, h4⟩ := h.row j x hx; exact ⟨h1, h2, cs, hk _ _ h2 h3, h4⟩, h.up⟩
theorem RwAt.snoc {W : World} {B m : Nat} {out : Nat → List Ro.St} {pre : List Rd} {x : Rd} (h : RwAt W B m out pre) (hG : GoodR B m out pre x W) : RwAt W B m out (pre ++ [x]) := by
  refine ⟨fun j y hy => ?_, ?_⟩
  · rcases Nat.lt_or_ge j pre.length with hj | hj
    · rw [List.getElem?_append_left hj] at hy
      exact h.row j y hy
    · rw [List.getElem?_append_right hj] at hy
      have hj0 : j - pre.length = 0 := by have := (List.getElem?_eq_some_iff.1 hy).1; simp at this; omega
      rw [hj0] at hy
      simp at hy
      subst hy
      have e : j = pre.length := by omega
      obtain ⟨cs, h3, h4⟩ := hG.blk
      exact ⟨by rw [hG.num, e], hG.gu, cs, h3, by rw [e, ← hG.num]; exact h4⟩
  · exact List.pairwise_append.2 ⟨h.up, List.pairwise_singleton _ _, fun y hy z hz => by rw [List.mem_singleton.1 hz]; exact hG.up y hy⟩
theorem rw_own (B m : Nat) (out : Nat → List Ro.St) : Own (fun pre W => RwAt W B m out pre) := fun s W W' row hs hg hr => hs.keep fun b cs _ hc => by
  have h1 : some b ≠ row := fun e => by
    obtain ⟨o, ho, hoc⟩ := hr b e.symm
    rw [hc] at ho
    cases ho
    cases hoc
  exact (hg.block b (t_lt hc) h1).trans hc
theorem good_put {n1 m : Nat} {out : Nat → List Ro.St} (pre : List Rd) (x : Rd) (W : World) (l : Nat) (o o' : Obj) (hl : W.heap[l]? = some o) (ho : o.isCells = false) (h : GoodR n1 m out pre x W) : GoodR n1 m out pre x (W.putObj l o') := by
  obtain ⟨cs, h3, h4⟩ := h.blk
  have hne : x.2 ≠ l := fun e => by rw [← e, h3] at hl; cases hl; cases ho
  exact ⟨h.num, h.small, h.up, h.gu, cs, (World.putObj_heap_other hne).trans h3, h4⟩
theorem kpr_put {n0 n1 : Nat} {w : World} (hn0 : n0 ≤ w.heap.size) (W : World) (l : Nat) (o o' : Obj) (hw : w.heap.size ≤ l) (hl : W.heap[l]? = some o) (ho : o.isCells = false) (hk : o.isWalk = false) : KpR n0 n1 W (W.putObj l o') :=
  ⟨belowK_b hn0 W l o o' hw hl ho hk, fun b cs _ hc => by
    have hne : b ≠ l := fun e => by rw [← e, hc] at hl; cases hl; cases ho
    exact (World.putObj_heap_other hne).trans hc⟩
theorem RwAt.base {W : World} {B B' m : Nat} {out : Nat → List Ro.St} {pre : List Rd} (h : RwAt W B m out pre) (hb : B' ≤ B) : RwAt W B' m out pre := ⟨fun j x hx => by obtain ⟨h1, h2, h3⟩ := h.row j x hx; exact ⟨h1, by omega, h3⟩, h.up⟩
theorem app_ints {W w1 : World} {n B : Nat} {t e : TypeId} {v v' : Value} {k : Nat} {xs : List Value} {tmp : Obj} (hv : Boxed W B t v) (ht : t ≠ 3) (hrow : W.ownsRow n e 1 v k xs) (he : e ≠ 3) (hgrow : (W.alloc tmp).grownBy w1 v.ownBlock) (b : Nat) (cs : Array Value) (hc : W.heap[b]? = some (.cells cs 3 (0, 0))) : (w1.setCell ⟨B, 0, none⟩ v').heap[b]? = some (.cells cs 3 (0, 0)) := by
  have hne : b ≠ B := fun e9 => by
    have h1 : W.heap[B]? = some (.cells #[v] t (0, 0)) := hv
    rw [← e9, hc] at h1
    injection h1 with h1
    injection h1 with _ h2
    exact ht h2.symm
  rw [setCell_other _ hne]
  exact ((grown_alloc hgrow).block b (t_lt hc) fun hb => own_bk hrow hc he hb).trans hc
/-- A list of lists that was answered. -/
def hdr (m : Nat) (x : Rd) : Value := .slice (some ⟨x.2, 0, none⟩) m m
def OwnRs (W : World) (B m : Nat) (v : Value) (xs : List Rd) : Prop := W.ownsRow B 57 1 v xs.length (xs.map (hdr m))
theorem Tryz.infoRI : (Tryz.prog.info? 57).map (fun i => (i.zero, i.size, i.bytes)) = some (some (.slice none 0 0), 1, 24) := by kernel_rfl
theorem steps_fit {m : Nat} {k s : Int} {es : List Sy.Ed} (hq : Sy.right m k s es = true) : Fit m (outOf m es) := fun i hi => by
  have hp := right_parts hq
  have h1 := rowOf_len m (Sy.nf es) i
  have h2 := Sy.nf_len es
  refine ⟨by unfold outOf; omega, fun z hz => ?_⟩
  unfold outOf Sy.rowOf at hz
  rw [if_pos ⟨by omega, by omega⟩] at hz
  unfold Sy.steps at hz
  obtain ⟨e, he, rfl⟩ := List.mem_map.1 hz
  have h3 := hp.2.2.2.2.2 e ((Sy.nf_mem es e).1 (List.mem_filter.1 he).1)
  show (0 ≤ e.2.1 ∧ e.2.1 ≤ 300) ∧ 0 ≤ e.2.2 ∧ e.2.2 < (m : Int)
  omega
set_option maxRecDepth 100000 in
set_option maxHeartbeats 4000000 in
theorem all_ok (hS : SortOk 1000000) (m : Nat) (k s : Int) (v : Value) (es : List Sy.Ed) (a : Addr) (w : World) (hA : Sent w 14 a) (hP : Pow w) (hv : BEdges.Has w v es) (hm : es.length ≤ 100000) (hq : Sy.right m k s es = true) :
    Calls Tryz.prog 12 #[sysV m k s v] w fun r w' => ∃ u xs R, r = .returned (.tuple #[u, .nilIface]) ∧ Ro.Last m (outOf m es) R ∧ xs.length = R + 1 ∧ OwnRs w' w.heap.size m u xs ∧ RwAt w' w.heap.size m (outOf m es) xs ∧ Below w.heap.size w w' := by
  obtain ⟨i0, hi0, hz0, hz1, hz2⟩ := info_parts Tryz.infoRI
  have hv0 := hv
  obtain ⟨ao, cap, rfl, _⟩ := hv0
  obtain ⟨L, hL⟩ : ∃ L, L = es.length := ⟨_, rfl⟩
  obtain ⟨w1, hw1⟩ : ∃ w1, w1 = w.alloc (.cells #[.int .i64 m, .int .i64 k, .int .i64 s, .slice ao L cap] 24) := ⟨_, rfl⟩
  have hb1 : Below w.heap.size w w1 := by rw [hw1]; exact (Below.refl _ _).alloc (Nat.le_refl _) _
  have hg1 : w1.heap[w.heap.size]? = some (.cells #[.int .i64 m, .int .i64 k, .int .i64 s, .slice ao L cap] 24 (0, 0)) := by rw [hw1]; exact heap_alloc_new w _
  have hN := roundsOf_ok hS m k s _ es a w1 (hA.below hb1) (hv.below hb1) hm hq
  rw [← hL] at hN ⊢
  unfold sysV at hN ⊢
  have hm1 : m ≤ 1000 := by have := (right_parts hq).1; omega
  have hF := steps_fit hq
  obtain ⟨out, hout⟩ : ∃ out, out = outOf m es := ⟨_, rfl⟩
  have H1 : Hid _ := And.intro hw1 (And.intro hb1 (And.intro hN (And.intro hP (And.intro hF hout))))
  obtain ⟨x0, x1, x2, x3⟩ := four_cells hg1
  clear hA hv hm hq hw1 hb1 hg1 hN hL hP hF hout
  refine (callsIn_wide (n := 3)).1 ?_
  refine callsIn_of_wp_marks Tryz.func12 rfl trivial ?_ rfl
  simp only [Tryz.ntmps12, List.size_toArray, List.length_cons, List.length_nil, Nat.reduceAdd, Nat.reduceSub, Array.replicate_succ, Array.replicate_zero, List.push_toArray, List.append_toArray, List.nil_append, List.cons_append]
  gi_upto_region 1 with fail
  rw [← H1.out.1]
  gi_wp2
  refine ⟨trivial, (callsIn_wide.2 H1.out.2.2.1).mono ?_⟩
  rintro r w2 ⟨b1, b2, gs, rfl, hO2⟩
  unfold roundsV
  have hP2 := H1.out.2.2.2.1.below (bel6 hO2.bl H1.out.2.1)
  have hRd := Reads.of hO2 hP2
  have hb02 := bel6 hO2.bl H1.out.2.1
  have H2 : Hid _ := And.intro hRd hb02
  clear hO2 hP2 hRd hb02 x0 x1 x2 x3
  gi_wp2
  obtain ⟨w3, hw3⟩ : ∃ w3, w3 = w2.alloc (.cells #[.slice none 0 0] 28) := ⟨_, rfl⟩
  have hz3 : w3.heap.size = w2.heap.size + 1 := by rw [hw3]; simp
  have hb3 : Below w2.heap.size w2 w3 := by rw [hw3]; exact (Below.refl _ _).alloc (Nat.le_refl _) _
  have hbx : Boxed w3 w2.heap.size 28 (.slice none 0 0) := by rw [hw3]; exact Boxed.new w2 28 (.slice none 0 0)
  rw [← hw3]
  have hF := H1.out.2.2.2.2.1
  have hR := H2.out.1
  rw [← H1.out.2.2.2.2.2] at hF hR
  refine loop_tells rfl (by omega) (gf := 97) (lb := #[.pointer (some ⟨b1, 0, none⟩), .pointer (some ⟨b2, 0, none⟩)]) rfl trivial (enters_of Tryz.func97 (by kernel_rfl) rfl)
    (rounds_tell 2 w2.heap.size b1 b2 gs m out w3 (by omega) hm1 hF (hR.on hb3)) (fun h k => h.trans k) (kpr_put (by omega)) (fun pre x W l o o' _ hl ho h => good_put pre x W l o o' hl ho h) (Below.refl _ _) (fun _ => rfl)
    (fun pre W => (∃ v, Boxed W w2.heap.size 28 v ∧ W.ownsRow w2.heap.size 57 1 v pre.length (pre.map (hdr m)) ∧ True) ∧ RwAt W w3.heap.size m out pre ∧ Below w2.heap.size w2 W)
    (fun _ _ _ => False)
    (OwnFrom.and (Own.from (holdsRow_own w2.heap.size w2.heap.size 28 57 1 (fun pre : List Rd => pre.length) (fun pre => pre.map (hdr m)) (fun _ _ => True)) _) (OwnFrom.and (Own.from (rw_own _ _ _) _) (ownFrom_below (Nat.le_refl _) (by omega))))
    (fun _ _ _ _ _ hs _ _ => hs)
    ⟨⟨_, hbx, World.ownsRow_nil _ _ _ _, trivial⟩, RwAt.nil _ _ _ _, hb3⟩
    (fun x => { tmps := #[(.agg #[.int .i64 m, .int .i64 k, .int .i64 s, .slice ao L cap]), .pointer (some ⟨w.heap.size, 0, none⟩), .slice none 0 0, .nilIface, (.func (.func 97) #[] #[.pointer (some ⟨b1, 0, none⟩), .pointer (some ⟨b2, 0, none⟩)]), .nilIface, .pointer (some ⟨w2.heap.size, 0, none⟩), undef, (.slice (some ⟨x.2, 0, none⟩) m m), .tuple #[(.func (.func 97) #[] #[.pointer (some ⟨b1, 0, none⟩), .pointer (some ⟨b2, 0, none⟩)]), .nilIface], (.agg #[.int .i64 m, .int .i64 k, .int .i64 s, .slice ao L cap]), .tuple #[(.func (.func 97) #[] #[.pointer (some ⟨b1, 0, none⟩), .pointer (some ⟨b2, 0, none⟩)]), .nilIface], (.func (.func 97) #[] #[.pointer (some ⟨b1, 0, none⟩), .pointer (some ⟨b2, 0, none⟩)]), .nilIface, .nilIface, .bool false, undef, undef, (.func (.func 97) #[] #[.pointer (some ⟨b1, 0, none⟩), .pointer (some ⟨b2, 0, none⟩)]), .int .i64 x.1, (.slice (some ⟨x.2, 0, none⟩) m m), undef, undef, undef, undef, undef], defers := [] }) ?assign ?body ?done ?stop
  case assign =>
    intro l x W K hK
    unfold rdV
    gi_wp2
    exact hK
  case body =>
    rintro l pre x W ⟨⟨v, hv, hrow, _⟩, hRw, hB⟩ hG
    have hc := hv.cell
    have hpl : pre.length ≤ 1000 := by have := hG.num; have := hG.small; omega
    have hml : pre.length + 1 ≤ maxLen := by unfold maxLen; omega
    have hby : (pre.length + 1) * 24 ≤ 140737488355328 := by omega
    have hle : w2.heap.size ≤ (W.alloc (.cells #[.slice (some ⟨x.2, 0, none⟩) m m] 57)).heap.size := by have := hB.size; simp; omega
    have HG : Hid _ := And.intro hRw hG
    clear hRw hG
    gi_wp2_with (gi_at_builtin; refine wpListIn_append_own _ rfl _ _ 28 rfl w2.heap.size 57 i0 (.slice none 0 0) 1 24 Tryz.underlying28 hi0 hz0 hz1 hz2 rfl (by decide) _ _ _ rfl (hrow.alloc _) ⟨W.heap.size, 0, none⟩ 1 1 [.slice (some ⟨x.2, 0, none⟩) m m] rfl rfl (cell_one_new _ _ _) (by simp [Value.oneCell']) hml hby hle ?_; intro v' w4 hown' hgrow _; obtain ⟨g', cap', rfl⟩ := ownsRow_succ hown'; obtain ⟨hv1, hv2, hr2, hk2, hb2⟩ := hv.appended (by decide) hrow hB.size (Nat.le_refl _) hown' hgrow; have hc1 := hv1.cell; have hf1 := hv1.frozen; have hii := app_ints (v' := .slice (some ⟨g', 0, none⟩) (pre.length + 1) cap') hv (by decide) hrow (by decide) hgrow)
    exact ⟨hk2.from _, ⟨hb2, fun b cs _ hc => hii b cs hc⟩, ⟨_, hv2, by simpa [hdr] using hr2, trivial⟩, (HG.out.1.snoc HG.out.2).keep fun b cs _ hc => hii b cs hc, hB.trans hb2⟩
  case done =>
    rintro D xs W hD ⟨R, hRl, hxl⟩ ⟨⟨v, hv, hrow, _⟩, hRw, hB⟩ hK
    have hc := hv.cell
    gi_wp2
    refine ⟨by simp, .inl ⟨_, _, rfl, run_takeDeferred hK, ?_⟩⟩
    refine ⟨_, results_tmp2 rfl _ _ _, v, xs, R, rfl, by rw [← H1.out.2.2.2.2.2]; exact hRl, hxl, ?_, ?_, ?_⟩
    · exact row_base (ownsRow_putObj hrow _ hK rfl) H2.out.2.size
    · rw [← H1.out.2.2.2.2.2]
      refine ((hRw.keep fun b cs _ hc => ?_).base (Nat.le_trans H2.out.2.size (by omega)))
      have hne : b ≠ D := fun e => by rw [← e, hc] at hK; cases hK
      exact (World.putObj_heap_other hne).trans hc
    · exact bel6 (hB.trans (belowK_b (w := w2) (Nat.le_refl _) W D _ _ (by omega) hK rfl rfl)) H2.out.2
  case stop =>
    rintro D c pre W _ _ h _
    exact h.elim
end Go.Proofs.YtpmanmoljlhogaaGreatDoor
/- What the document's Next has in memory. -/
namespace Go.Proofs.YtpmanmoljlhogaaGreatDoor
open Go.RowKit Go.Maps
/-- The keys of all states; the ends of a state's steps. -/
def Ro.keys (n : Nat) (out : Nat → List Ro.St) (c : List Nat) : List (Int × List Int) := (List.range n).map (Ro.key out c)
def Ro.sgn (out : Nat → List Ro.St) (c : List Nat) (j : Nat) : List Int := Ro.sd (Ro.ends 1001 c (out j))
theorem Ro.keys_len (n : Nat) (out : Nat → List Ro.St) (c : List Nat) : (Ro.keys n out c).length = n := by simp [Ro.keys]
theorem Ro.keys_at {n i : Nat} (out : Nat → List Ro.St) (c : List Nat) (h : i < n) : (Ro.keys n out c)[i]? = some (Ro.key out c i) := Ro.key_at out c h
theorem Ro.keys_nx (n : Nat) (out : Nat → List Ro.St) (c : List Nat) : Ro.num (Ro.keys n out c) = Ro.nx n out c := rfl
theorem sgn_len (out : Nat → List Ro.St) (c : List Nat) (j : Nat) : (Ro.sgn out c j).length ≤ (out j).length := by
  have h1 := Ro.sd_len (Ro.ends 1001 c (out j))
  have h2 : (Ro.ends 1001 c (out j)).length = (out j).length := by simp [Ro.ends]
  unfold Ro.sgn
  omega
theorem makeRI (n : Nat) (hn : n ≤ 1000000) (w : World) : (Instr.makeSlice 28 (.int .i64 (n : Int)) (.int .i64 (n : Int))).run Tryz.prog w = .ok (.slice (some ⟨w.heap.size, 0, none⟩) n n) (w.alloc (.cells (madeV (.slice none 0 0) n) 57)) := make_of _ _ _ 24 Tryz.underlying28 Tryz.infoRI n hn (by decide) w
/-- The classes so far (of i states), the signatures (of r states), and the states that stand for classes. -/
structure NxAt (w wr : World) (n i r : Nat) (out : Nat → List Ro.St) (c : List Nat) (fv : Value) (Fn : List Nat) : Prop where
  cls : Arr 3 w wr w.heap.size (natC (Ro.num ((Ro.keys n out c).take i)) ++ List.replicate (n - i) (.int .i64 0))
  sg : ∃ vs, Arr 57 w wr (w.heap.size + 1) vs ∧ vs.length = n ∧ ∀ j, j < r → ∃ u, vs[j]? = some u ∧ OwnI wr (w.heap.size + 2) u (Ro.sgn out c j) ∧ ∀ b, u.ownBlock = some b → fv.ownBlock ≠ some b
  fst : OwnI wr (w.heap.size + 2) fv (natI Fn)
theorem NxAt.big {w wr : World} {n i r : Nat} {out : Nat → List Ro.St} {c : List Nat} {fv : Value} {Fn : List Nat} (h : NxAt w wr n i r out c fv Fn) : w.heap.size + 2 ≤ wr.heap.size := by
  obtain ⟨vs, h1, _⟩ := h.sg
  have := h1.lt
  omega
theorem NxAt.below {w wr w' : World} {n i r : Nat} {out : Nat → List Ro.St} {c : List Nat} {fv : Value} {Fn : List Nat} (h : NxAt w wr n i r out c fv Fn) (hb : Below wr.heap.size wr w') : NxAt w w' n i r out c fv Fn := by
  obtain ⟨vs, h1, h2, h3⟩ := h.sg
  refine ⟨h.cls.below hb, ⟨vs, h1.below hb, h2, fun j hj => ?_⟩, trow_at h.fst fun b e => hb.block b (h.fst.lt b e).2⟩
  obtain ⟨u, h4, h5, h6⟩ := h3 j hj
  exact ⟨u, h4, trow_at h5 fun b e => hb.block b (h5.lt b e).2, h6⟩
theorem NxAt.new (w : World) (n : Nat) (out : Nat → List Ro.St) (c : List Nat) : NxAt w ((w.alloc (.cells (madeV (.int .i64 0) n) 3)).alloc (.cells (madeV (.slice none 0 0) n) 57)) n 0 0 out c (.slice none 0 0) [] := by
  have hb : Below w.heap.size w (w.alloc (.cells (madeV (.int .i64 0) n) 3)) := (Below.refl _ _).alloc (Nat.le_refl _) _
  have h1 := arr_new 3 (.int .i64 0) rfl n w
  have h2 := arr_new 57 (.slice none 0 0) rfl n (w.alloc (.cells (madeV (.int .i64 0) n) 3))
  have h3 := h1.below ((Below.refl _ _).alloc (Nat.le_refl _) (.cells (madeV (.slice none 0 0) n) 57))
  have h4 := h2.back hb
  rw [show (w.alloc (.cells (madeV (.int .i64 0) n) 3)).heap.size = w.heap.size + 1 by simp] at h4
  exact ⟨by simpa [Ro.num, natC] using h3, ⟨List.replicate n (.slice none 0 0), h4, List.length_replicate, fun j hj => by omega⟩, World.ownsRow_nil _ _ _ _⟩
/-- A state's signature is put down. -/
theorem NxAt.sig {w wr w2 : World} {n i : Nat} {out : Nat → List Ro.St} {c : List Nat} {fv u : Value} {Fn : List Nat} (h : NxAt w wr n i i out c fv Fn) (hi : i < n) (hb : Below wr.heap.size wr w2) (hu : OwnI w2 wr.heap.size u (Ro.sgn out c i)) : NxAt w (w2.setCell ⟨w.heap.size + 1, i, none⟩ u) n i (i + 1) out c fv Fn := by
  have hbig := h.big
  have h0 := h.below hb
  obtain ⟨vs, h1, h2, h3⟩ := h.sg
  have far : ∀ {v : Value} {zs : List Int}, OwnI w2 (w.heap.size + 2) v zs → OwnI (w2.setCell ⟨w.heap.size + 1, i, none⟩ u) (w.heap.size + 2) v zs := fun {v zs} hv =>
    trow_at hv fun b e => set_other _ _ _ _ _ (by have := (hv.lt b e).1; omega)
  refine ⟨h0.cls.kept (Kept.setCell _ _ _ _) (fun b e => ⟨by omega, by omega⟩), ⟨vs.set i u, (h1.below hb).set i u, by simp [h2], fun j hj => ?_⟩, far h0.fst⟩
  rcases Nat.lt_or_ge j i with hji | hji
  · obtain ⟨v, h4, h5, h6⟩ := h3 j hji
    exact ⟨v, by rw [List.getElem?_set_ne (by omega)]; exact h4, far (trow_at h5 fun b e => hb.block b (h5.lt b e).2), h6⟩
  · obtain rfl : j = i := by omega
    exact ⟨u, by rw [List.getElem?_set_self (by omega)], far (row_base hu hbig), fun b e e2 => by have := (hu.lt b e).1; have := (h.fst.lt b e2).2; omega⟩
/-- A state stands for a class. -/
theorem NxAt.app {w wr w5 : World} {n i r M : Nat} {out : Nat → List Ro.St} {c : List Nat} {fv v5 : Value} {Fn : List Nat} {tmp : Obj} (h : NxAt w wr n i r out c fv Fn) (hM : M = Fn.length) (hO : w5.ownsRow (w.heap.size + 2) 3 1 v5 (M + 1) (iC (natI Fn) ++ [.int .i64 i])) (hg : (wr.alloc tmp).grownBy w5 fv.ownBlock) (hat : v5.ownBlock = fv.ownBlock ∨ v5.ownBlock = some (wr.alloc tmp).heap.size) : NxAt w w5 n i r out c v5 (Fn ++ [i]) := by
  have hk := grown_alloc hg
  obtain ⟨vs, h1, h2, h3⟩ := h.sg
  have hF : ∀ b, fv.ownBlock = some b → w.heap.size + 2 ≤ b := fun b e => (h.fst.lt b e).1
  refine ⟨h.cls.kept hk (fun b e => ⟨by have := hF b e; omega, by have := hF b e; omega⟩), ⟨vs, h1.kept hk (fun b e => ⟨by have := hF b e; omega, by have := hF b e; omega⟩), h2, fun j hj => ?_⟩, ?_⟩
  · obtain ⟨u, h4, h5, h6⟩ := h3 j hj
    refine ⟨u, h4, trow_at h5 fun b e => hk.block b (h5.lt b e).2 (h6 b e), fun b e e2 => ?_⟩
    rcases hat with h7 | h7
    · exact h6 b e (h7 ▸ e2)
    · rw [h7] at e2
      have := (h5.lt b e).2
      simp at e2
      omega
  · have e1 : natI (Fn ++ [i]) = natI Fn ++ [(i : Int)] := by simp [natI]
    unfold OwnI
    rw [e1, iC_snoc, List.length_append, show (natI Fn).length = M by simp [natI, hM]]
    exact hO
/-- A state's class is put down. -/
theorem NxAt.put {w wr : World} {n i r k : Nat} {out : Nat → List Ro.St} {c : List Nat} {fv : Value} {Fn : List Nat} (h : NxAt w wr n i r out c fv Fn) (hi : i < n) (hk : k = Ro.place (Ro.key out c i) (Ro.dd ((Ro.keys n out c).take i))) : NxAt w (wr.setCell ⟨w.heap.size, i, none⟩ (.int .i64 k)) n (i + 1) r out c fv Fn := by
  obtain ⟨vs, h1, h2, h3⟩ := h.sg
  have far : ∀ {v : Value} {zs : List Int}, OwnI wr (w.heap.size + 2) v zs → OwnI (wr.setCell ⟨w.heap.size, i, none⟩ (.int .i64 k)) (w.heap.size + 2) v zs := fun {v zs} hv =>
    trow_at hv fun b e => set_other _ _ _ _ _ (by have := (hv.lt b e).1; omega)
  refine ⟨?_, ⟨vs, h1.kept (Kept.setCell _ _ _ _) (fun b e => ⟨by omega, by omega⟩), h2, fun j hj => ?_⟩, far h.fst⟩
  · have hC : (Ro.num ((Ro.keys n out c).take i)).length = i := by rw [Ro.num_len, List.length_take, Ro.keys_len]; omega
    have hAs := h.cls.set i (.int .i64 (k : Int))
    rw [natC_step _ n i k hC hi] at hAs
    rw [take_succ_of (Ro.keys_at out c hi), Ro.num_snoc, ← hk]
    exact hAs
  · obtain ⟨u, h4, h5, h6⟩ := h3 j hj
    exact ⟨u, h4, far h5, h6⟩
/-- The states that stand for classes, in their order. -/
structure FsAt (n i : Nat) (out : Nat → List Ro.St) (c : List Nat) (Fn : List Nat) : Prop where
  fe : Ro.dd ((Ro.keys n out c).take i) = Fn.map (Ro.key out c)
  fl : ∀ f ∈ Fn, f < i
theorem FsAt.len {n i : Nat} {out : Nat → List Ro.St} {c : List Nat} {Fn : List Nat} (h : FsAt n i out c Fn) : Fn.length ≤ i := by
  have h1 := Ro.dd_le ((Ro.keys n out c).take i)
  rw [h.fe, List.length_map, List.length_take] at h1
  omega
theorem FsAt.old {n i k f : Nat} {out : Nat → List Ro.St} {c : List Nat} {Fn : List Nat} (h : FsAt n i out c Fn) (hi : i < n) (hk : Fn[k]? = some f) (he : Ro.key out c f = Ro.key out c i) : FsAt n (i + 1) out c Fn := by
  refine ⟨?_, fun g hg => by have := h.fl g hg; omega⟩
  rw [take_succ_of (Ro.keys_at out c hi), Ro.dd_snoc]
  unfold Ro.more
  rw [if_pos (by rw [h.fe, ← he]; exact List.mem_map.2 ⟨f, List.mem_of_getElem? hk, rfl⟩), h.fe]
theorem FsAt.new {n i : Nat} {out : Nat → List Ro.St} {c : List Nat} {Fn : List Nat} (h : FsAt n i out c Fn) (hi : i < n) (hno : ∀ f ∈ Fn, Ro.key out c f ≠ Ro.key out c i) : FsAt n (i + 1) out c (Fn ++ [i]) ∧ Fn.length = Ro.place (Ro.key out c i) (Ro.dd ((Ro.keys n out c).take i)) := by
  have hn : Ro.key out c i ∉ Ro.dd ((Ro.keys n out c).take i) := fun hm => by
    rw [h.fe] at hm
    obtain ⟨f, hf, e⟩ := List.mem_map.1 hm
    exact hno f hf e
  refine ⟨⟨?_, fun g hg => ?_⟩, by rw [Ro.place_no hn, h.fe, List.length_map]⟩
  · rw [take_succ_of (Ro.keys_at out c hi), Ro.dd_snoc]
    unfold Ro.more
    rw [if_neg hn, h.fe, List.map_append]
    rfl
  · rcases List.mem_append.1 hg with hg | hg
    · have := h.fl g hg; omega
    · rw [List.mem_singleton.1 hg]; omega
theorem place_first {K : Type} [DecidableEq K] {x : K} : ∀ {l : List K} {k : Nat}, l[k]? = some x → (∀ y ∈ l.take k, y ≠ x) → Ro.place x l = k
  | [], k, h, _ => by simp at h
  | a :: r, 0, h, _ => by simp at h; simp [Ro.place, h]
  | a :: r, k + 1, h, hn => by
    have ha : a ≠ x := hn a (by simp)
    rw [List.getElem?_cons_succ] at h
    simp only [Ro.place, if_neg ha]
    rw [place_first h fun y hy => hn y (by simp [hy])]
theorem FsAt.at {n i k f : Nat} {out : Nat → List Ro.St} {c : List Nat} {Fn : List Nat} (h : FsAt n i out c Fn) (hk : Fn[k]? = some f) (he : Ro.key out c f = Ro.key out c i) (hno : ∀ g ∈ Fn.take k, Ro.key out c g ≠ Ro.key out c i) : k = Ro.place (Ro.key out c i) (Ro.dd ((Ro.keys n out c).take i)) := by
  rw [h.fe]
  refine (place_first (by rw [List.getElem?_map, hk, ← he]; rfl) fun y hy => ?_).symm
  rw [← List.map_take] at hy
  obtain ⟨g, hg, rfl⟩ := List.mem_map.1 hy
  exact hno g hg
end Go.Proofs.YtpmanmoljlhogaaGreatDoor
/- Contract of the document's Next: the classes of the round behind one. -/
namespace Go.Proofs.YtpmanmoljlhogaaGreatDoor
open Go.RowKit Go.Maps
attribute [local go_sem ↓] Go.wp_at_zero Go.wp_at_succ
theorem key_eq {out : Nat → List Ro.St} {c : List Nat} {i j x y : Nat} (hx : c[i]? = some x) (hy : c[j]? = some y) : Ro.key out c i = Ro.key out c j ↔ x = y ∧ Ro.sgn out c i = Ro.sgn out c j := by
  unfold Ro.key Ro.sgn
  rw [Prod.mk.injEq, hx, hy]
  simp only [Option.getD_some]
  constructor
  · rintro ⟨h1, h2⟩; exact ⟨by omega, h2⟩
  · rintro ⟨h1, h2⟩; exact ⟨by omega, h2⟩
set_option maxRecDepth 100000 in
set_option maxHeartbeats 8000000 in
theorem docNext_any (gs n : Nat) (out : Nat → List Ro.St) (c : List Nat) (vc : Value) (w : World) (hn : n ≤ 1000) (hc : c.length = n) (hcl : ∀ u ∈ c, u < n) (hF : Fit n out) (hS : Stp w gs n out) (hv : HasI w vc (natI c)) :
    Calls Tryz.prog 32 #[.slice (some ⟨gs, 0, none⟩) n n, vc] w fun r w' => ∃ g, r = .returned (.slice (some ⟨g, 0, none⟩) n n) ∧ Arr 3 w w' g (natC (Ro.nx n out c)) := by
  obtain ⟨i0, hi0, hz0, hz1, hz2⟩ := info_parts Tryz.infoI4
  have hv0 := hv
  obtain ⟨ac, cc, rfl, hcs⟩ := hv
  have hcn : (natI c).length = n := by simp [natI, hc]
  rw [hcn] at hv0 ⊢
  have HH : Hid _ := And.intro hcs (And.intro hv0 (And.intro hc (And.intro hcl (And.intro hF hS))))
  clear hcs hc hcl hF hS hv0 hcn
  have hmk := makeI n (by omega) w
  have hmk2 := makeRI n (by omega) (w.alloc (.cells (madeV (.int .i64 0) n) 3))
  go_enter Tryz.func32, Tryz.ntmps32
  go_wp2_with fail
  clear hmk hmk2
  have hN0 := NxAt.new w n out c
  obtain ⟨w0, hw0⟩ : ∃ w0, w0 = (w.alloc (.cells (madeV (.int .i64 0) n) 3)).alloc (.cells (madeV (.slice none 0 0) n) 57) := ⟨_, rfl⟩
  rw [← hw0] at hN0 ⊢
  have HN0 : Hid _ := hN0
  clear hw0 hN0
  go_loopg [5, 8] n (fun q fv iv wr => ∃ (i : Nat) (Fn : List Nat), q = n - i ∧ i ≤ n ∧ iv = .int .i64 i ∧ NxAt w wr n i i out c fv Fn ∧ FsAt n i out c Fn)
  case atStart => exact ⟨0, [], rfl, Nat.zero_le _, rfl, HN0.out, by simp [Ro.dd], fun f hf => by simp at hf⟩
  case round =>
    obtain ⟨i, Fn, rfl, hi, rfl, hX, hFs⟩ := hrel
    obtain ⟨w1, rfl⟩ : ∃ w1, w1 = wr := ⟨_, rfl⟩
    by_cases hlt : i < n
    · obtain ⟨x, hx⟩ : ∃ x, c[i]? = some x := ⟨c[i]'(by have := HH.out.2.2.1; omega), List.getElem?_eq_getElem _⟩
      obtain ⟨a, rfl, c0⟩ := HH.out.1 i (x : Int) (by simp [natI, hx])
      obtain ⟨ar, cr, cs, hrow⟩ := (HH.out.2.2.2.2.2.below hX.cls.bl).row i hlt
      have hfit := HH.out.2.2.2.2.1 i hlt
      have hSg := docSig_any n c (out i) _ _ w1 hn HH.out.2.2.1 HH.out.2.2.2.1 hfit.2 hfit.1 hrow (HH.out.2.1.below hX.cls.bl)
      obtain ⟨Lr, hLr⟩ : ∃ Lr, Lr = (out i).length := ⟨_, rfl⟩
      rw [← hLr] at hSg cs
      have q0 : (0 : Int) ≤ (i : Int) := by omega
      have q1 : (i : Int) < (n : Int) := by omega
      obtain ⟨vs, hA, hvl, _⟩ := hX.sg
      obtain ⟨y0, hy0⟩ : ∃ y, vs[i]? = some y := ⟨vs[i]'(by omega), List.getElem?_eq_getElem _⟩
      have hft := hX.fst
      obtain ⟨au, cu, hu⟩ := row_shape hft
      obtain ⟨M, hM⟩ : ∃ M, M = Fn.length := ⟨_, rfl⟩
      rw [show (natI Fn).length = M by simp [natI, hM]] at hu
      obtain rfl := hu
      have hMi : M ≤ i := by have := hFs.len; omega
      have HS : Hid _ := And.intro hSg (And.intro hX (And.intro hFs (And.intro hx (And.intro hM (And.intro c0 (And.intro hA hy0))))))
      clear hSg hX hFs hx hM hrow hfit hLr c0 hA hy0 hvl hft
      go_wp2_with (go_at_call 92; refine Calls.mono HS.out.1 ?_; rintro r w2 ⟨u2, rfl, hO2, hb2⟩; obtain ⟨b2, c2, rfl⟩ := row_shape hO2; have cg := (HS.out.2.2.2.2.2.2.1.below hb2).cell HS.out.2.2.2.2.2.2.2; have cf := (HS.out.2.2.2.2.2.2.1.below hb2).free i; have HB2 : Hid _ := And.intro hO2 hb2; clear hO2 hb2)
      have hX2 := HS.out.2.1.sig hlt HB2.out.2 HB2.out.1
      obtain ⟨w3, hw3⟩ : ∃ w3, w3 = w2.setCell ⟨w.heap.size + 1, i, none⟩ (.slice b2 (Ro.sd (Ro.ends 1001 c (out i))).length c2) := ⟨_, rfl⟩
      rw [← hw3] at hX2 ⊢
      have HX : Hid _ := hX2
      clear hw3 hX2 cg cf cs
      go_loopg [9] M (fun q kv wr => ∃ (k d : Nat), q = M - k ∧ k ≤ M ∧ kv = .int .i64 k ∧ wr = w3.drewN d ∧ ∀ f ∈ Fn.take k, Ro.key out c f ≠ Ro.key out c i)
      case atStart => exact ⟨0, 0, rfl, Nat.zero_le _, rfl, rfl, fun f hf => by simp at hf⟩
      case round =>
        obtain ⟨k, d, rfl, hk, rfl, rfl, hno⟩ := hrel
        have HNo : Hid (∀ f ∈ Fn.take k, Ro.key out c f ≠ Ro.key out c i) := hno
        clear hno
        have hXd := HX.out
        by_cases hkM : k < M
        · obtain ⟨f, hf⟩ : ∃ f, Fn[k]? = some f := ⟨Fn[k]'(by have := HS.out.2.2.2.2.1; omega), List.getElem?_eq_getElem _⟩
          have hfi := HS.out.2.2.1.fl f (List.mem_of_getElem? hf)
          obtain ⟨xf, hxf⟩ : ∃ x, c[f]? = some x := ⟨c[f]'(by have := HH.out.2.2.1; omega), List.getElem?_eq_getElem _⟩
          obtain ⟨a9, ha9, cf0⟩ := HH.out.1 f (xf : Int) (by simp [natI, hxf])
          obtain rfl := Option.some.inj ha9
          have cx : w3.cell? (a.add i) = some (.int .i64 x) := (hXd.cls.bl.cell (World.block_lt_of_cell? w _ HS.out.2.2.2.2.2.1)).trans HS.out.2.2.2.2.2.1
          have cxf : w3.cell? (a.add f) = some (.int .i64 xf) := (hXd.cls.bl.cell (World.block_lt_of_cell? w _ cf0)).trans cf0
          obtain ⟨ao2, cap2, hv2, hc2⟩ := hXd.fst.has
          injection hv2 with e1 e2 e3
          subst e1
          obtain ⟨b, rfl, ck⟩ := hc2 k (f : Int) (by simp [natI, hf])
          have p0 : (0 : Int) ≤ (k : Int) := by omega
          have p1 : (k : Int) < (M : Int) := by omega
          have p2 : decide ((k : Int) < (M : Int)) = true := decide_eq_true p1
          have p3 : (0 : Int) ≤ (f : Int) := by omega
          have p4 : (f : Int) < (n : Int) := by omega
          have hkey := key_eq (out := out) hxf HS.out.2.2.2.1
          have HY : Hid _ := And.intro hf hkey
          clear hf hkey hc2 e2 e3 ha9 cf0 hxf
          by_cases hxe : xf = x
          · have g1 : ((xf : Int) != (x : Int)) = false := by simp [hxe]
            obtain ⟨vs3, hA3, hvl3, hrows⟩ := hXd.sg
            obtain ⟨uf, hvf, hOf, _⟩ := hrows f (by omega)
            obtain ⟨ui, hvi, hOi, _⟩ := hrows i (by omega)
            have cuf := hA3.cell hvf
            have cui := hA3.cell hvi
            have hSm : ∀ e9, Calls Tryz.prog 93 #[uf, ui] (w3.drewN (d + e9)) fun e w' => e = .returned (.bool (Ro.sgn out c f == Ro.sgn out c i)) ∧ ∃ m, w' = w3.drewN (d + m) := fun e9 =>
              (refSame_any uf ui _ _ _ (by have h1 := sgn_len out c f; have h2 := (HH.out.2.2.2.2.1 f (by omega)).1; omega) (by have h1 := sgn_len out c i; have h2 := (HH.out.2.2.2.2.1 i (by omega)).1; omega) (hOf.has.below (below_drewN (Below.refl _ _) _)) (hOi.has.below (below_drewN (Below.refl _ _) _))).mono fun _ _ ⟨he, m, hm⟩ => ⟨he, e9 + m, by rw [hm, World.drewN_drewN, Nat.add_assoc]⟩
            obtain ⟨auf, cuf0, rfl⟩ := row_shape hOf
            obtain ⟨aui, cui0, rfl⟩ := row_shape hOi
            have HA : Hid _ := And.intro hSm hxe
            clear hSm hxe hA3 hvl3 hrows hvf hvi hOf hOi
            by_cases hse : Ro.sgn out c f = Ro.sgn out c i
            · have g2 : (Ro.sgn out c f == Ro.sgn out c i) = true := by simp [hse]
              rw [g2] at HA
              have HE : Hid _ := hse
              clear hse g2 hXd
              have g3 : ((k : Int) == (M : Int)) = false := by simp; omega
              go_wp2_with fail
              go_quiet ((go_at_call 93; exact HA.out.1 _))
              rename Nat => nq
              rw [World.drewN_drewN]
              have hXz := HX.out.below (below_drewN (Below.refl _ _) (d + nq))
              have cz := hXz.cls.cell (i := i) (x := .int .i64 0) (by rw [List.getElem?_append_right (by rw [natC_len, Ro.num_len, List.length_take]; omega), natC_len, Ro.num_len, List.length_take, Ro.keys_len, List.getElem?_replicate, if_pos (by omega)])
              have cfz := hXz.cls.free i
              have HZ : Hid _ := hXz
              clear hXz
              go_wp2_with fail
              go_roundg (n - (i + 1))
              case measure => omega
              case rel =>
                have hke : Ro.key out c f = Ro.key out c i := HY.out.2.2 ⟨HA.out.2, HE.out⟩
                exact ⟨i + 1, Fn, rfl, by omega, by go_num, HZ.out.put hlt (HS.out.2.2.1.at HY.out.1 hke HNo.out), HS.out.2.2.1.old hlt HY.out.1 hke⟩
            · have g2 : (Ro.sgn out c f == Ro.sgn out c i) = false := by simp [hse]
              rw [g2] at HA
              have HE : Hid _ := hse
              clear hse g2 hXd
              go_wp2_with fail
              go_quiet ((go_at_call 93; exact HA.out.1 _))
              rename Nat => nq
              rw [World.drewN_drewN]
              go_wp2_with fail
              go_roundg (M - (k + 1))
              case measure => omega
              case rel =>
                exact ⟨k + 1, _, rfl, by omega, by go_num, rfl, fun g hg => by
                  rw [take_succ_of HY.out.1] at hg
                  rcases List.mem_append.1 hg with hg | hg
                  · exact HNo.out g hg
                  · rw [List.mem_singleton.1 hg]; exact fun e => HE.out (HY.out.2.1 e).2⟩
          · have g1 : ((xf : Int) != (x : Int)) = true := by simp; omega
            have HE : Hid _ := hxe
            clear hxe hXd
            go_wp2_with fail
            go_quiet (fail)
            rename Nat => nq
            rw [World.drewN_drewN]
            go_wp2_with fail
            go_roundg (M - (k + 1))
            case measure => omega
            case rel =>
              exact ⟨k + 1, _, rfl, by omega, by go_num, rfl, fun g hg => by
                rw [take_succ_of HY.out.1] at hg
                rcases List.mem_append.1 hg with hg | hg
                · exact HNo.out g hg
                · rw [List.mem_singleton.1 hg]; exact fun e => HE.out (HY.out.2.1 e).1⟩
        · obtain rfl : k = M := by omega
          have p1 : ¬ (k : Int) < (k : Int) := by omega
          have p2 : decide ((k : Int) < (k : Int)) = false := decide_eq_false p1
          have p3 : ((k : Int) == (k : Int)) = true := by simp
          clear hXd
          go_wp2_with fail
          go_quiet (fail)
          rename Nat => nq
          rw [World.drewN_drewN]
          have hXz := HX.out.below (below_drewN (Below.refl _ _) (d + nq))
          obtain ⟨wz, hwz⟩ : ∃ wz, wz = w3.drewN (d + nq) := ⟨_, rfl⟩
          rw [← hwz] at hXz ⊢
          have hOz : wz.ownsRow (w.heap.size + 2) 3 1 (.slice au k cu) k (iC (natI Fn)) := by have h1 := hXz.fst; unfold OwnI at h1; rw [show (natI Fn).length = k by simp [natI, HS.out.2.2.2.2.1]] at h1; exact h1
          have hml : k + 1 ≤ maxLen := by unfold maxLen; omega
          have hby : (k + 1) * 8 ≤ 140737488355328 := by omega
          have hle : w.heap.size + 2 ≤ (wz.alloc (.cells #[.int .i64 i] 3)).heap.size := by have := hXz.big; simp; omega
          have HZ : Hid _ := And.intro hOz hXz
          clear hwz hOz hXz
          have hcx : ((natC (Ro.num ((Ro.keys n out c).take i)) ++ List.replicate (n - i) (Value.int .i64 0)))[i]? = some (.int .i64 0) := by
            rw [List.getElem?_append_right (by rw [natC_len, Ro.num_len, List.length_take]; omega), natC_len, Ro.num_len, List.length_take, Ro.keys_len, List.getElem?_replicate, if_pos (by omega)]
          have HCX : Hid _ := hcx
          clear hcx
          go_wp2_with (at_builtin; refine wpList_append_own_at _ rfl _ _ 57 rfl (w.heap.size + 2) 3 i0 (.int .i64 0) 1 8 Tryz.underlying57 hi0 hz0 hz1 hz2 rfl (by decide) (.slice au k cu) k (iC (natI Fn)) rfl (HZ.out.1.alloc _) ⟨wz.heap.size, 0, none⟩ 1 1 [.int .i64 i] rfl rfl (World.news_of_block (cs := #[.int .i64 i]) (t := 3) (fr := (0, 0)) (heap_alloc_new wz _)) (by simp [Value.oneCell']) hml hby hle ?_; intro v5 w5 hO5 hg5 hnil5 hat5; have hX5 := HZ.out.2.app HS.out.2.2.2.2.1 hO5 hg5 hat5; have cx := hX5.cls.cell HCX.out; have cf := hX5.cls.free i; have H5 : Hid _ := hX5; clear hO5 hg5 hnil5 hat5 hX5)
          go_roundg (n - (i + 1))
          case measure => omega
          case rel =>
            have hno := HNo.out
            rw [List.take_of_length_le (by have := HS.out.2.2.2.2.1; omega)] at hno
            obtain ⟨hF1, hp1⟩ := HS.out.2.2.1.new hlt hno
            exact ⟨i + 1, Fn ++ [i], rfl, by omega, by go_num, H5.out.put hlt (by rw [HS.out.2.2.2.2.1]; exact hp1), hF1⟩
    · obtain rfl : i = n := by omega
      have q1 : ¬ (i : Int) < (i : Int) := by omega
      have HA : Hid _ := hX.cls
      clear hX hFs
      go_wp2_with fail
      go_ret
      have h1 := HA.out
      rw [Nat.sub_self, List.replicate_zero, List.append_nil, List.take_of_length_le (by rw [Ro.keys_len]; exact Nat.le_refl _), Ro.keys_nx] at h1
      exact ⟨_, rfl, h1⟩
end Go.Proofs.YtpmanmoljlhogaaGreatDoor
/- The one form of classes: who is together, the form of the form, when two have one. Plain facts. -/
namespace Go.Proofs.YtpmanmoljlhogaaGreatDoor.Sy
theorem place_lt {c : Int} {l : List Int} : place c l < l.length ↔ c ∈ l := by
  induction l with
  | nil => simp [place]
  | cons a r ih =>
    unfold place
    by_cases h : a = c
    · simp [h]
    · rw [if_neg h, List.length_cons, Nat.add_lt_add_iff_right, ih, List.mem_cons]
      exact ⟨fun h1 => .inr h1, fun h1 => h1.elim (fun e => absurd e.symm h) id⟩
theorem place_not {c : Int} {l : List Int} (h : c ∉ l) : place c l = l.length := by
  have h1 := place_le c l
  have h2 : ¬ place c l < l.length := fun h2 => h (place_lt.1 h2)
  omega
theorem place_at {c : Int} {l : List Int} (h : c ∈ l) : l[place c l]? = some c := by
  induction l with
  | nil => simp at h
  | cons a r ih =>
    unfold place
    by_cases h1 : a = c
    · simp [h1]
    · rw [if_neg h1, List.getElem?_cons_succ]
      exact ih ((List.mem_cons.1 h).elim (fun e => absurd e.symm h1) id)
theorem place_inj {a b : Int} {l : List Int} (ha : a ∈ l) (hb : b ∈ l) (h : place a l = place b l) : a = b := by
  have h1 := place_at ha
  rw [h, place_at hb] at h1
  exact (Option.some.inj h1).symm
theorem place_left {c : Int} {a : List Int} (b : List Int) (h : c ∈ a) : place c (a ++ b) = place c a := by
  induction a with
  | nil => simp at h
  | cons x r ih =>
    simp only [List.cons_append, place]
    by_cases h1 : x = c
    · simp [h1]
    · rw [if_neg h1, if_neg h1, ih ((List.mem_cons.1 h).elim (fun e => absurd e.symm h1) id)]
/-- Those seen, with one more. -/
def more (c : Int) (seen : List Int) : List Int := if place c seen < seen.length then seen else seen ++ [c]
theorem more_mem (c : Int) (seen : List Int) : c ∈ more c seen := by
  unfold more
  split
  · next h => exact place_lt.1 h
  · exact List.mem_append_right _ (List.mem_singleton.2 rfl)
theorem more_pre (c : Int) (seen : List Int) : ∃ t, more c seen = seen ++ t := by
  unfold more
  split
  · exact ⟨[], by simp⟩
  · exact ⟨[c], rfl⟩
theorem more_place (c : Int) (seen : List Int) : place c (more c seen) = place c seen := by
  unfold more
  split
  · rfl
  · next h =>
    have h1 : c ∉ seen := fun h1 => h (place_lt.2 h1)
    rw [place_app c seen [c] (fun x hx e => h1 (by rw [← e]; exact hx)), place_not h1]
    simp [place]
theorem seenG_pre (l : List Int) : ∀ seen, ∃ t, seenG seen l = seen ++ t := by
  induction l with
  | nil => intro seen; exact ⟨[], by simp [seenG]⟩
  | cons c r ih =>
    intro seen
    obtain ⟨t, ht⟩ := ih (more c seen)
    obtain ⟨u, hu⟩ := more_pre c seen
    refine ⟨u ++ t, ?_⟩
    show seenG (more c seen) r = _
    rw [ht, hu, List.append_assoc]
theorem seenG_mem (l : List Int) : ∀ seen, ∀ z ∈ l, z ∈ seenG seen l := by
  induction l with
  | nil => intro seen z h; simp at h
  | cons c r ih =>
    intro seen z hz
    show z ∈ seenG (more c seen) r
    rcases List.mem_cons.1 hz with rfl | hz
    · obtain ⟨t, ht⟩ := seenG_pre r (more z seen)
      rw [ht]; exact List.mem_append_left _ (more_mem z seen)
    · exact ih _ z hz
theorem canonG_map (l : List Int) : ∀ seen, canonG seen l = l.map fun z => place z (seenG seen l) := by
  induction l with
  | nil => intro seen; rfl
  | cons c r ih =>
    intro seen
    show place c seen :: canonG (more c seen) r = place c (seenG (more c seen) r) :: r.map fun z => place z (seenG (more c seen) r)
    rw [ih]
    congr 1
    obtain ⟨t, ht⟩ := seenG_pre r (more c seen)
    rw [ht, place_left t (more_mem c seen), more_place]
theorem canon_map (l : List Int) : canon l = l.map fun z => place z (seenG [] l) := canonG_map l []
theorem place_map (f : Int → Int) (c : Int) (l : List Int) (h : ∀ x ∈ l, f x = f c → x = c) : place (f c) (l.map f) = place c l := by
  induction l with
  | nil => rfl
  | cons a r ih =>
    simp only [List.map_cons, place]
    by_cases h1 : a = c
    · simp [h1]
    · rw [if_neg h1, if_neg (fun e => h1 (h a List.mem_cons_self e)), ih fun x hx => h x (List.mem_cons_of_mem _ hx)]
/-- Numbers that are renamed one to one have the same one form. -/
theorem canonG_inj (f : Int → Int) (l : List Int) : ∀ seen, (∀ x ∈ seen ++ l, ∀ y ∈ seen ++ l, f x = f y → x = y) → canonG (seen.map f) (l.map f) = canonG seen l := by
  induction l with
  | nil => intro seen _; rfl
  | cons c r ih =>
    intro seen h
    have hp : place (f c) (seen.map f) = place c seen := place_map f c seen fun x hx e => h x (List.mem_append_left _ hx) c (List.mem_append_right _ List.mem_cons_self) e
    have hm : more (f c) (seen.map f) = (more c seen).map f := by
      unfold more
      rw [hp, List.length_map]
      split
      · rfl
      · simp
    show place (f c) (seen.map f) :: canonG (more (f c) (seen.map f)) (r.map f) = place c seen :: canonG (more c seen) r
    rw [hp, hm, ih (more c seen)]
    have hsub : ∀ x ∈ more c seen ++ r, x ∈ seen ++ c :: r := fun x hx => by
      rcases List.mem_append.1 hx with hx | hx
      · unfold more at hx
        split at hx
        · exact List.mem_append_left _ hx
        · rcases List.mem_append.1 hx with hx | hx
          · exact List.mem_append_left _ hx
          · rw [List.mem_singleton.1 hx]; exact List.mem_append_right _ List.mem_cons_self
      · exact List.mem_append_right _ (List.mem_cons_of_mem _ hx)
    exact fun x hx y hy e => h x (hsub x hx) y (hsub y hy) e
theorem canon_inj (f : Int → Int) (l : List Int) (h : ∀ x ∈ l, ∀ y ∈ l, f x = f y → x = y) : canon (l.map f) = canon l := canonG_inj f l [] (by simpa using h)
theorem natI_map (l : List Int) : natI (canon l) = l.map fun z => ((place z (seenG [] l) : Nat) : Int) := by
  rw [canon_map]; simp [natI]
/-- It is its own one form. -/
theorem canon_idem (l : List Int) : canon (natI (canon l)) = canon l := by
  rw [natI_map]
  refine canon_inj _ l fun x hx y hy e => place_inj (seenG_mem l [] x hx) (seenG_mem l [] y hy) (by omega)
/-- It keeps who is together. -/
theorem canon_eq {l : List Int} {i k : Nat} {x y : Int} (hi : l[i]? = some x) (hk : l[k]? = some y) {u v : Int} (hu : (natI (canon l))[i]? = some u) (hv : (natI (canon l))[k]? = some v) : u = v ↔ x = y := by
  rw [natI_map, List.getElem?_map, hi] at hu
  rw [natI_map, List.getElem?_map, hk] at hv
  simp only [Option.map_some, Option.some.injEq] at hu hv
  subst hu; subst hv
  constructor
  · intro e
    exact place_inj (seenG_mem l [] x (List.mem_of_getElem? hi)) (seenG_mem l [] y (List.mem_of_getElem? hk)) (by omega)
  · rintro rfl; rfl
/-- Two lists have one just if they say the same together. -/
theorem canon_iff {a b : List Int} (hl : a.length = b.length) : canon a = canon b ↔ ∀ (i k : Nat) (x y u v : Int), a[i]? = some x → a[k]? = some y → b[i]? = some u → b[k]? = some v → (x = y ↔ u = v) := by
  constructor
  · intro h i k x y u v hx hy hu hv
    have hil := (List.getElem?_eq_some_iff.1 hx).1
    have hkl := (List.getElem?_eq_some_iff.1 hy).1
    have hn : (natI (canon a)).length = a.length := by rw [natI_map, List.length_map]
    obtain ⟨p, hp⟩ : ∃ p, (natI (canon a))[i]? = some p := ⟨_, List.getElem?_eq_getElem (by rw [hn]; exact hil)⟩
    obtain ⟨q, hq⟩ : ∃ q, (natI (canon a))[k]? = some q := ⟨_, List.getElem?_eq_getElem (by rw [hn]; exact hkl)⟩
    exact (canon_eq hx hy hp hq).symm.trans (canon_eq hu hv (by rw [← h]; exact hp) (by rw [← h]; exact hq))
  · intro h
    have hb : b = a.map fun z => (b[place z a]?).getD 0 := by
      apply List.ext_getElem?
      intro i
      by_cases hi : i < a.length
      · have hx : a[i]? = some a[i] := List.getElem?_eq_getElem hi
        have hu : b[i]? = some (b[i]'(by omega)) := List.getElem?_eq_getElem _
        have hm : a[i] ∈ a := List.getElem_mem hi
        have hp := place_at hm
        have hpl : place a[i] a < a.length := place_lt.2 hm
        have hv : b[place a[i] a]? = some (b[place a[i] a]'(by omega)) := List.getElem?_eq_getElem _
        rw [List.getElem?_map, hx, hu]
        simp only [Option.map_some]
        rw [hv]
        have h2 := (h i (place a[i] a) _ _ _ _ hx hp hu hv).1 rfl
        rw [h2]; rfl
      · rw [List.getElem?_eq_none (by omega), List.getElem?_eq_none (by rw [List.length_map]; omega)]
    rw [hb]
    refine (canon_inj _ a fun x hx y hy e => ?_).symm
    have hxl : place x a < b.length := by rw [← hl]; exact place_lt.2 hx
    have hyl : place y a < b.length := by rw [← hl]; exact place_lt.2 hy
    have hu : b[place x a]? = some b[place x a] := List.getElem?_eq_getElem hxl
    have hv : b[place y a]? = some b[place y a] := List.getElem?_eq_getElem hyl
    rw [hu, hv] at e
    exact (h _ _ _ _ _ _ (place_at hx) (place_at hy) hu hv).2 e
theorem formG_canon (l : List Int) : ∀ seen, formG seen.length (natI (canonG seen l)) = true := by
  induction l with
  | nil => intro seen; rfl
  | cons c r ih =>
    intro seen
    have h1 := ih (more c seen)
    show (decide ((0 : Int) ≤ ((place c seen : Nat) : Int) ∧ ((place c seen : Nat) : Int) ≤ (seen.length : Int)) && formG (if ((place c seen : Nat) : Int) = (seen.length : Int) then seen.length + 1 else seen.length) (natI (canonG (more c seen) r))) = true
    have h2 := place_le c seen
    rw [decide_eq_true (by omega), Bool.true_and]
    have h3 : (more c seen).length = if ((place c seen : Nat) : Int) = (seen.length : Int) then seen.length + 1 else seen.length := by
      unfold more
      by_cases e : place c seen < seen.length
      · rw [if_pos e, if_neg (by omega)]
      · rw [if_neg e, if_pos (by omega)]; simp
    rw [← h3]
    exact h1
/-- It is in the one form. -/
theorem classes_canon (l : List Int) (n : Int) (hn : n = (l.length : Int)) : classes n (natI (canon l)) = true := by
  have h1 : (natI (canon l)).length = l.length := by rw [natI_map, List.length_map]
  unfold classes
  rw [h1, hn, decide_eq_true rfl, Bool.true_and]
  exact formG_canon l []
end Go.Proofs.YtpmanmoljlhogaaGreatDoor.Sy
