/- Texts of this claim, joined: TsCyc0, Shelf, SyRep. -/
import Derived.Test.YtplofbabfkkimaaDoorPart3
import Derived.Shelf.Small.Bits
import Derived.Shelf.Small.Wraps
import Derived.Shelf.Strconv.Itoa0
import Derived.Shelf.Bits.Mul64
import Derived.Ground.Names2Prog
import Derived.Shelf.Slices.SearchI
import Derived.Shelf.Slices.Empties
import Derived.Test.YtplofbabfkkimaaDoorProg
import Derived.Laws.IdiomCopy
import Derived.Deep.LoopGhost
import Derived.WalkSmall
import Derived.Deep.DrawnRows
/- tauscc: the walk as cyclesOf makes it; its lists of silent steps, one by one; what its end tells. -/
namespace Go.Proofs.YtplofbabfkkimaaDoor.Ts
open Go.RowKit Go.Maps
/-- Blocks made since w, each with its kind: 0 rows that are nil, 1 numbers -1, 2 noughts, 3 one -1. -/
def Cyk (w W : World) (n g : Nat) : Nat → Prop
  | 0 => Arr 26 w W g (List.replicate n (.slice none 0 0))
  | 1 => Arr 3 w W g (List.replicate n (.int .i64 (-1)))
  | 2 => Arr 3 w W g (List.replicate n (.int .i64 0))
  | _ => W.cell? ⟨g, 0, none⟩ = some (.int .i64 (-1))
structure Cy (w W : World) (n : Nat) (L : List (Nat × Nat)) : Prop where
  bl : Below w.heap.size w W
  lt : ∀ p ∈ L, p.1 < W.heap.size
  at_ : ∀ p ∈ L, Cyk w W n p.1 p.2
  nd : (L.map Prod.fst).Nodup
theorem Cyk.below {w W W' : World} {n g k : Nat} (h : Cyk w W n g k) (hb : Below W.heap.size W W') : Cyk w W' n g k := by
  match k with
  | 0 => exact Arr.below h hb
  | 1 => exact Arr.below h hb
  | 2 => exact Arr.below h hb
  | _ + 3 => exact cell_up h hb
theorem Cy.start (w : World) (n : Nat) : Cy w w.drew n [] := ⟨(Below.refl _ _).drew, fun _ h => (by cases h), fun _ h => (by cases h), .nil⟩
theorem Cy.add {w W W' : World} {n g k : Nat} {L : List (Nat × Nat)} (h : Cy w W n L) (hb : Below W.heap.size W W') (hg : W.heap.size ≤ g) (hlt : g < W'.heap.size) (hk : Cyk w W' n g k) : Cy w W' n ((g, k) :: L) := by
  refine ⟨h.bl.trans (hb.mono h.bl.size), fun p hp => ?_, fun p hp => ?_, ?_⟩
  · rcases List.mem_cons.1 hp with rfl | hp
    · exact hlt
    · exact Nat.lt_of_lt_of_le (h.lt p hp) hb.size
  · rcases List.mem_cons.1 hp with rfl | hp
    · exact hk
    · exact (h.at_ p hp).below hb
  · rw [List.map_cons]
    refine List.nodup_cons.2 ⟨fun hm => ?_, h.nd⟩
    obtain ⟨p, hp, e⟩ := List.mem_map.1 hm
    have := h.lt p hp
    simp only at e
    omega
theorem Cy.made0 {w W : World} {n : Nat} {L : List (Nat × Nat)} (h : Cy w W n L) : Cy w (W.alloc (.cells (madeV (.slice none 0 0) n) 26)) n ((W.heap.size, 0) :: L) := by
  have h1 := arr_new 26 (.slice none 0 0) rfl n W
  exact h.add h1.bl (Nat.le_refl _) h1.lt (h1.back h.bl)
theorem Cy.made2 {w W : World} {n : Nat} {L : List (Nat × Nat)} (h : Cy w W n L) : Cy w (W.alloc (.cells (madeV (.int .i64 0) n) 3)) n ((W.heap.size, 2) :: L) := by
  have h1 := arr_new 3 (.int .i64 0) rfl n W
  exact h.add h1.bl (Nat.le_refl _) h1.lt (h1.back h.bl)
theorem Cy.made3 {w W : World} {n : Nat} {L : List (Nat × Nat)} (h : Cy w W n L) : Cy w (W.alloc (.cells #[.int .i64 (-1)] 3)) n ((W.heap.size, 3) :: L) := by
  have h1 : (W.alloc (.cells #[.int .i64 (-1)] 3)).heap[W.heap.size]? = some (.cells #[.int .i64 (-1)] 3 (0, 0)) := heap_alloc_new W _
  exact h.add ((Below.refl _ _).alloc (Nat.le_refl _) _) (Nat.le_refl _) (t_lt h1) (cell0_of h1 rfl)
theorem Cy.made1 {w W W' : World} {n g : Nat} {L : List (Nat × Nat)} (h : Cy w W n L) (hA : Arr 3 W W' g (List.replicate n (.int .i64 (-1)))) : Cy w W' n ((g, 1) :: L) := h.add hA.bl hA.gu hA.lt (hA.back h.bl)
/-- The walk that is just made. -/
def Wk.fst (gs gn gl gc n : Nat) : Wk := ⟨.slice (some ⟨gs, 0, none⟩) n n, .slice none 0 0, .slice none 0 0, 0, .slice (some ⟨gn, 0, none⟩) n n, .slice (some ⟨gl, 0, none⟩) n n, .slice (some ⟨gc, 0, none⟩) n n, [], [], List.replicate n (-1), List.replicate n 0, List.replicate n (-1)⟩
theorem que_arr {w W : World} {g n : Nat} {z : Int} (h : Arr 3 w W g (List.replicate n (.int .i64 z))) (hn : n ≤ 1000000) : Que W w.heap.size (.slice (some ⟨g, 0, none⟩) n n) (List.replicate n z) := by
  have h1 := h.own (by rw [List.length_replicate]; unfold maxLen; omega)
  rw [List.length_replicate] at h1
  refine Que.of_own ?_
  unfold OwnI
  rw [List.length_replicate, show iC (List.replicate n z) = List.replicate n (.int .i64 z) by simp [iC]]
  exact h1
/-- Of the first m states the lists of silent steps stand. -/
structure CyL (w wr : World) (r gs gn gl gc n m : Nat) (out : Nat → List Nat) : Prop where
  mm : WkM wr w.heap.size r (Wk.fst gs gn gl gc n)
  bl : Below w.heap.size w wr
  far : gs ≠ r ∧ ¬ (Wk.fst gs gn gl gc n).foot gs
  gu : w.heap.size ≤ gs
  row : ∃ cs, wr.heap[gs]? = some (.cells cs 26 (0, 0)) ∧ cs.size = n
  at_ : ∀ q, q < m → ∃ vq, wr.cell? ⟨gs, q, none⟩ = some vq ∧ HasI wr vq (cast (out q)) ∧ (out q ≠ [] → ∀ b, vq.ownBlock = some b → b ≠ r ∧ b ≠ gs ∧ ¬ (Wk.fst gs gn gl gc n).foot b)
theorem Cy.box {w W : World} {n gs gn gl gc : Nat} {L : List (Nat × Nat)} (h : Cy w W n L) (hn : n ≤ 1000000) (out : Nat → List Nat) (h0 : (gs, 0) ∈ L) (h1 : (gn, 1) ∈ L) (h2 : (gl, 2) ∈ L) (h3 : (gc, 1) ∈ L) (ne : gs ≠ gn ∧ gs ≠ gl ∧ gs ≠ gc ∧ gn ≠ gl ∧ gn ≠ gc ∧ gl ≠ gc) :
    CyL w (W.alloc (.cells #[.slice (some ⟨gs, 0, none⟩) n n, .slice none 0 0, .slice none 0 0, .int .i64 0, .slice (some ⟨gn, 0, none⟩) n n, .slice (some ⟨gl, 0, none⟩) n n, .slice (some ⟨gc, 0, none⟩) n n] 91)) W.heap.size gs gn gl gc n 0 out := by
  obtain ⟨W', hW'⟩ : ∃ W', W' = W.alloc (.cells #[.slice (some ⟨gs, 0, none⟩) n n, .slice none 0 0, .slice none 0 0, .int .i64 0, .slice (some ⟨gn, 0, none⟩) n n, .slice (some ⟨gl, 0, none⟩) n n, .slice (some ⟨gc, 0, none⟩) n n] 91) := ⟨_, rfl⟩
  have hb : Below W.heap.size W W' := by rw [hW']; exact (Below.refl _ _).alloc (Nat.le_refl _) _
  have hbx : W'.heap[W.heap.size]? = some (.cells #[.slice (some ⟨gs, 0, none⟩) n n, .slice none 0 0, .slice none 0 0, .int .i64 0, .slice (some ⟨gn, 0, none⟩) n n, .slice (some ⟨gl, 0, none⟩) n n, .slice (some ⟨gc, 0, none⟩) n n] 91 (0, 0)) := by rw [hW']; exact heap_alloc_new W _
  rw [← hW']
  clear hW'
  have a0 : Arr 26 w W' gs _ := (h.at_ _ h0).below hb
  have a1 : Arr 3 w W' gn _ := (h.at_ _ h1).below hb
  have a2 : Arr 3 w W' gl _ := (h.at_ _ h2).below hb
  have a3 : Arr 3 w W' gc _ := (h.at_ _ h3).below hb
  have l0 := h.lt _ h0
  simp only at l0
  have q1 := que_arr a1 hn
  have q2 := que_arr a2 hn
  have q3 := que_arr a3 hn
  have hf : ∀ b, (Wk.fst gs gn gl gc n).foot b → b = gn ∨ b = gl ∨ b = gc := fun b hb => by
    rcases hb with hb | ⟨z, hz, hb⟩
    · cases hb
    · simp only [Wk.L, Wk.fst, List.mem_cons, List.not_mem_nil, or_false] at hz
      rcases hz with rfl | rfl | rfl | rfl
      · cases hb
      · exact .inl (Option.some.inj hb).symm
      · exact .inr (.inl (Option.some.inj hb).symm)
      · exact .inr (.inr (Option.some.inj hb).symm)
  obtain ⟨e1, e2, e3, e4, e5, e6⟩ := ne
  refine ⟨⟨hbx, ⟨rfl, .inl ⟨rfl, rfl⟩⟩, ⟨fun i z hz => ?_, fun i j z y b hz hy hij hzb hyb => ?_⟩, h.bl.size⟩, h.bl.trans (hb.mono h.bl.size), ⟨by omega, fun hc => ?_⟩, a0.gu, ?_, fun q hq => absurd hq (Nat.not_lt_zero q)⟩
  · match i with
    | 0 => cases hz; exact Que.nil _ _
    | 1 => cases hz; exact q1
    | 2 => cases hz; exact q2
    | 3 => cases hz; exact q3
    | _ + 4 => cases hz
  · match i, j with
    | 0, _ => cases hz; cases hzb
    | _, 0 => cases hy; cases hyb
    | 1, 1 => exact hij rfl
    | 2, 2 => exact hij rfl
    | 3, 3 => exact hij rfl
    | 1, 2 => cases hz; cases hy; cases hzb; exact e4 (Option.some.inj hyb).symm
    | 1, 3 => cases hz; cases hy; cases hzb; exact e5 (Option.some.inj hyb).symm
    | 2, 1 => cases hz; cases hy; cases hzb; exact e4 (Option.some.inj hyb)
    | 2, 3 => cases hz; cases hy; cases hzb; exact e6 (Option.some.inj hyb).symm
    | 3, 1 => cases hz; cases hy; cases hzb; exact e5 (Option.some.inj hyb)
    | 3, 2 => cases hz; cases hy; cases hzb; exact e6 (Option.some.inj hyb)
    | _ + 4, _ => cases hz
    | _, _ + 4 => cases hy
  · rcases hf _ hc with h9 | h9 | h9
    · exact e1 h9
    · exact e2 h9
    · exact e3 h9
  · obtain ⟨cs, h8, h9⟩ := a0.ids
    exact ⟨cs, h8, by rw [← Array.length_toList, h9, List.length_replicate]⟩
/-- One more list of silent steps. -/
theorem CyL.next {w wr w1 : World} {r gs gn gl gc n m : Nat} {out : Nat → List Nat} {u : Value} (h : CyL w wr r gs gn gl gc n m out) (hm : m < n) (hb : Below wr.heap.size wr w1) (hu : OwnI w1 wr.heap.size u (cast (out m))) : CyL w (w1.setCell ⟨gs, m, none⟩ u) r gs gn gl gc n (m + 1) out := by
  obtain ⟨cs, hcs, hsz⟩ := h.row
  have hc1 : w1.heap[gs]? = some (.cells cs 26 (0, 0)) := (hb.block _ (t_lt hcs)).trans hcs
  have hk := Kept.setCell w1 gs m u
  have hM := h.mm.below hb
  have hnf : ∀ b, wr.heap.size ≤ b → ¬ (Wk.fst gs gn gl gc n).foot b := fun b hb2 hf => by have := (h.mm.foot_lt hf).2; omega
  refine ⟨hM.kept hk (fun e => h.far.1 e.symm) (fun b hf e => h.far.2 (by rw [← e]; exact hf)), (h.bl.trans (hb.mono h.bl.size)).setCell h.gu _, h.far, h.gu, ⟨_, heap_setCell_same w1 gs m cs _ _ hc1, by simp [hsz]⟩, fun q hq => ?_⟩
  by_cases e : q = m
  · subst e
    refine ⟨u, cell0_of (heap_setCell_same w1 gs q cs _ _ hc1) (by simp [hsz, hm]), hu.has.kept hk fun _ b hb2 e => ?_, fun _ b hb2 => ?_⟩
    · have := (hu.lt b hb2).1; have := t_lt hcs; omega
    · have h1 := (hu.lt b hb2).1
      have h2 := t_lt hcs
      have h3 := t_lt h.mm.box
      exact ⟨by omega, by omega, hnf b h1⟩
  · obtain ⟨vq, h1, h2, h3⟩ := h.at_ q (by omega)
    refine ⟨vq, ?_, (h2.below hb).kept hk fun hne b hb2 e => (h3 (fun e2 => hne (by rw [e2]; rfl)) b hb2).2.1 e, h3⟩
    have h4 : w1.cell? ⟨gs, q, none⟩ = some vq := cell_up h1 hb
    refine cell0_of (heap_setCell_same w1 gs m cs _ _ hc1) ?_
    rw [Array.getElem?_setIfInBounds_ne (fun e2 => e e2.symm)]
    have h5 : w1.cell? ⟨gs, q, none⟩ = cs[q]? := by simp [World.cell?, hc1]
    rw [← h5]; exact h4
/-- The walk, ahead of the state m: those ahead of it have their numbers. -/
structure CyM (w wr : World) (r gs n m : Nat) (out : Nat → List Nat) (x : Wk) : Prop where
  mm : WkM wr w.heap.size r x
  bl : Below w.heap.size w wr
  sl : Sil wr r x n out gs 0 n
  wi : ∃ os pd, Wi n out x [] os pd
  ps : x.ps = []
  ct : x.cnt + (x.ns.count (-1) : Nat) = n
  nd : ∀ q, q < m → x.nd q
theorem CyL.done {w wr : World} {r gs gn gl gc n : Nat} {out : Nat → List Nat} (h : CyL w wr r gs gn gl gc n n out) : CyM w wr r gs n 0 out (Wk.fst gs gn gl gc n) := by
  obtain ⟨cs, hcs, hsz⟩ := h.row
  have hst : (Wk.fst gs gn gl gc n).st [] = ⟨[], 0, fun _ => -1, fun _ => 0, fun _ => -1⟩ := by
    unfold Wk.st Wk.fst
    simp only
    congr 1
    all_goals
      funext u
      rw [List.getElem?_replicate]
      split <;> rfl
  refine ⟨h.mm, h.bl, ⟨rfl, t_lt hcs, h.far, fun q hq => ?_⟩, ⟨[], fun _ => False, ⟨by rw [hst]; exact Inv.start n out, by rw [hst]; exact OpL.start, rfl, List.length_replicate, List.length_replicate, List.length_replicate⟩⟩, rfl, ?_, fun q hq => absurd hq (Nat.not_lt_zero q)⟩
  · obtain ⟨vq, h1, h2, h3⟩ := h.at_ q hq
    exact ⟨vq, by rw [Nat.zero_add]; exact h1, h2, fun hne b hb => ⟨(h3 hne b hb).1, (h3 hne b hb).2.2⟩⟩
  · show (0 : Int) + ((List.replicate n (-1 : Int)).count (-1) : Nat) = n
    rw [List.count_replicate_self, Int.zero_add]
theorem CyM.next {w wr w' : World} {r gs n m : Nat} {out : Nat → List Nat} {x x' : Wk} (h : CyM w wr r gs n m out x) (g : FrAt wr w' w.heap.size r n out x x') (hm : x'.nd m) : CyM w w' r gs n (m + 1) out x' := by
  refine ⟨g.m, h.bl.trans (g.gw.kp.below h.bl.size fun b hb => ?_), h.sl.grew g.gw g.vs, g.wi, g.ps, g.ct, fun q hq => ?_⟩
  · rcases hb with rfl | hb
    · exact h.mm.up
    · exact (h.mm.foot_lt hb).1
  · by_cases e : q = m
    · rw [e]; exact hm
    · exact g.nd q (h.nd q (by omega))
theorem CyM.skip {w wr : World} {r gs n m : Nat} {out : Nat → List Nat} {x : Wk} (h : CyM w wr r gs n m out x) (hm : x.nd m) : CyM w wr r gs n (m + 1) out x := ⟨h.mm, h.bl, h.sl, h.wi, h.ps, h.ct, fun q hq => by
  by_cases e : q = m
  · rw [e]; exact hm
  · exact h.nd q (by omega)⟩
/-- Lists of classes: of one class just if each reaches the other. -/
structure Cyc (n : Nat) (out : Nat → List Nat) (zs : List Int) : Prop where
  len : zs.length = n
  rng : ∀ z ∈ zs, 0 ≤ z ∧ z < n
  iff : ∀ u v, u < n → v < n → (zs[u]? = zs[v]? ↔ Rt out u v ∧ Rt out v u)
theorem CyM.end {w wr : World} {r gs n : Nat} {out : Nat → List Nat} {x : Wk} (h : CyM w wr r gs n n out x) : Cyc n out x.cs := by
  obtain ⟨os, pd, hW⟩ := h.wi
  have hcl : ∀ v, v < n → (x.st []).cls v ≠ -1 := fun v hv => hW.inv.whole rfl (by
    obtain ⟨z, hz, hz1⟩ := h.nd v hv
    rcases hW.inv.neg v with h1 | h1
    · exfalso
      have h2 : x.ns[v]?.getD (-1) = -1 := h1
      rw [hz] at h2
      exact hz1 h2
    · exact h1)
  have hat : ∀ v, v < n → x.cs[v]? = some ((x.st []).cls v) := fun v hv => by
    have h1 : v < x.cs.length := by rw [hW.cs]; exact hv
    show x.cs[v]? = some (x.cs[v]?.getD (-1))
    rw [List.getElem?_eq_getElem h1]
    rfl
  refine ⟨hW.cs, fun z hz => ?_, fun u v hu hv => ?_⟩
  · obtain ⟨v, hv⟩ := List.mem_iff_getElem?.1 hz
    have hvn : v < n := by rw [← hW.cs]; exact (List.getElem?_eq_some_iff.1 hv).1
    obtain ⟨u, h1, h2, _⟩ := hW.inv.root v (hcl v hvn)
    have h3 := hW.inv.rng u (hW.inv.clsn u h2)
    have h4 := hat v hvn
    rw [hv, h1] at h4
    have h5 := Option.some.inj h4
    omega
  · rw [hat u hu, hat v hv, ← hW.inv.cyc u v (hcl u hu) (hcl v hv)]
    exact ⟨fun e => Option.some.inj e, fun e => by rw [e]⟩
end Go.Proofs.YtplofbabfkkimaaDoor.Ts
/- Contracts of three functions of Go's library at this program, laid by the shelf's own tools in plain words. -/
namespace Go.Proofs
open Go.Shelf
def Tryd.lays128_ren : Go.Shelf.Ren := ⟨fun | 128 => 79 | n => n, fun | 51 => 122 | 3 => 3 | 4 => 4 | 46 => 97 | 5 => 5 | 9 => 9 | n => n, fun | n => n⟩
theorem Tryd.lays128 : Go.Proofs.Lays.n128 Tryd.prog Tryd.lays128_ren := {
  mixed := by kernel_rfl
  f128 := Tryd.func79.trans (congrArg some (by kernel_rfl))
  t3 := Tryd.underlying3
  a3 := Tryd.isAgg3
  z3 := Tryd.sizeOf3
  v3 := Tryd.zeroValue3
  t4 := Tryd.underlying4
  a4 := Tryd.isAgg4
  z4 := Tryd.sizeOf4
  v4 := Tryd.zeroValue4
  t5 := Tryd.underlying5
  a5 := Tryd.isAgg5
  z5 := Tryd.sizeOf5
  v5 := Tryd.zeroValue5
  t9 := Tryd.underlying9
  a9 := Tryd.isAgg9
  z9 := Tryd.sizeOf9
  v9 := Tryd.zeroValue9
  t46 := Tryd.underlying97
  a46 := Tryd.isAgg97
  z46 := Tryd.sizeOf97
  v46 := Tryd.zeroValue97
  t51 := Tryd.underlying122
  a51 := Tryd.isAgg122
  z51 := Tryd.sizeOf122
  v51 := Tryd.zeroValue122 }
theorem Tryd.bits_Len32 (x : Int) (w : World) (h0 : 0 ≤ x) (h1 : x ≤ 4294967295) :
    Calls Tryd.prog 79 #[.int .u32 x] w fun e w' => e = .returned (.int .i64 (Lib.bitLen x.toNat)) ∧ w' = w := Any.bits_Len32 Tryd.lays128 x w h0 h1
def Tryd.lays125_ren : Go.Shelf.Ren := ⟨fun | 125 => 61 | 128 => 79 | 129 => 80 | n => n, fun | 46 => 97 | 3 => 3 | 51 => 122 | 53 => 125 | 4 => 4 | 5 => 5 | 9 => 9 | n => n, fun | n => n⟩
theorem Tryd.lays125 : Go.Proofs.Lays.n125 Tryd.prog Tryd.lays125_ren := {
  mixed := by kernel_rfl
  f125 := Tryd.func61.trans (congrArg some (by kernel_rfl))
  f128 := Tryd.func79.trans (congrArg some (by kernel_rfl))
  f129 := Tryd.func80.trans (congrArg some (by kernel_rfl))
  t3 := Tryd.underlying3
  a3 := Tryd.isAgg3
  z3 := Tryd.sizeOf3
  v3 := Tryd.zeroValue3
  t4 := Tryd.underlying4
  a4 := Tryd.isAgg4
  z4 := Tryd.sizeOf4
  v4 := Tryd.zeroValue4
  t5 := Tryd.underlying5
  a5 := Tryd.isAgg5
  z5 := Tryd.sizeOf5
  v5 := Tryd.zeroValue5
  t9 := Tryd.underlying9
  a9 := Tryd.isAgg9
  z9 := Tryd.sizeOf9
  v9 := Tryd.zeroValue9
  t46 := Tryd.underlying97
  a46 := Tryd.isAgg97
  z46 := Tryd.sizeOf97
  v46 := Tryd.zeroValue97
  t51 := Tryd.underlying122
  a51 := Tryd.isAgg122
  z51 := Tryd.sizeOf122
  v51 := Tryd.zeroValue122
  t53 := Tryd.underlying125
  a53 := Tryd.isAgg125
  z53 := Tryd.sizeOf125
  v53 := Tryd.zeroValue125 }
theorem Tryd.bits_Len (x : Int) (w : World) (h0 : 0 ≤ x) (h1 : x ≤ 18446744073709551615) :
    Calls Tryd.prog 61 #[.int .u64 x] w fun e w' => e = .returned (.int .i64 (Lib.bitLen x.toNat)) ∧ w' = w := Any.bits_Len Tryd.lays125 x w h0 h1
def Tryd.lays215_ren : Go.Shelf.Ren := ⟨fun | 215 => 55 | n => n, fun | 3 => 3 | 4 => 4 | n => n, fun | n => n⟩
theorem Tryd.lays215 : Go.Proofs.Lays.n215 Tryd.prog Tryd.lays215_ren := {
  mixed := by kernel_rfl
  f215 := Tryd.func55.trans (congrArg some (by kernel_rfl))
  t3 := Tryd.underlying3
  a3 := Tryd.isAgg3
  z3 := Tryd.sizeOf3
  v3 := Tryd.zeroValue3
  t4 := Tryd.underlying4
  a4 := Tryd.isAgg4
  z4 := Tryd.sizeOf4
  v4 := Tryd.zeroValue4 }
open Go.RowKit in
theorem Tryd.cmp_isNaN_int (x : Int) (w : World) :
    Calls Tryd.prog 55 #[.int .i64 x] w fun e w' => e = .returned (.bool false) ∧ w' = w := Any.cmp_isNaN_int Tryd.lays215 x w
def Tryd.lays122_ren : Go.Shelf.Ren := ⟨fun | 122 => 54 | 215 => 55 | n => n, fun | 3 => 3 | 4 => 4 | n => n, fun | n => n⟩
theorem Tryd.lays122 : Go.Proofs.Lays.n122 Tryd.prog Tryd.lays122_ren := {
  mixed := by kernel_rfl
  f122 := Tryd.func54.trans (congrArg some (by kernel_rfl))
  f215 := Tryd.func55.trans (congrArg some (by kernel_rfl))
  t3 := Tryd.underlying3
  a3 := Tryd.isAgg3
  z3 := Tryd.sizeOf3
  v3 := Tryd.zeroValue3
  t4 := Tryd.underlying4
  a4 := Tryd.isAgg4
  z4 := Tryd.sizeOf4
  v4 := Tryd.zeroValue4 }
open Go.RowKit in
theorem Tryd.cmp_Compare_int (x y : Int) (w : World) :
    Calls Tryd.prog 54 #[.int .i64 x, .int .i64 y] w fun e w' => e = .returned (.int .i64 (Lib.compareInt x y)) ∧ w' = w := Any.cmp_Compare_int Tryd.lays122 x y w
def Tryd.lays129_ren : Go.Shelf.Ren := ⟨fun | 129 => 80 | n => n, fun | 53 => 125 | 3 => 3 | 4 => 4 | 46 => 97 | 5 => 5 | 9 => 9 | n => n, fun | n => n⟩
theorem Tryd.lays129 : Go.Proofs.Lays.n129 Tryd.prog Tryd.lays129_ren := {
  mixed := by kernel_rfl
  f129 := Tryd.func80.trans (congrArg some (by kernel_rfl))
  t3 := Tryd.underlying3
  a3 := Tryd.isAgg3
  z3 := Tryd.sizeOf3
  v3 := Tryd.zeroValue3
  t4 := Tryd.underlying4
  a4 := Tryd.isAgg4
  z4 := Tryd.sizeOf4
  v4 := Tryd.zeroValue4
  t5 := Tryd.underlying5
  a5 := Tryd.isAgg5
  z5 := Tryd.sizeOf5
  v5 := Tryd.zeroValue5
  t9 := Tryd.underlying9
  a9 := Tryd.isAgg9
  z9 := Tryd.sizeOf9
  v9 := Tryd.zeroValue9
  t46 := Tryd.underlying97
  a46 := Tryd.isAgg97
  z46 := Tryd.sizeOf97
  v46 := Tryd.zeroValue97
  t53 := Tryd.underlying125
  a53 := Tryd.isAgg125
  z53 := Tryd.sizeOf125
  v53 := Tryd.zeroValue125 }
theorem Tryd.bits_Len64 (x : Int) (w : World) (h0 : 0 ≤ x) (h1 : x ≤ 18446744073709551615) :
    Calls Tryd.prog 80 #[.int .u64 x] w fun e w' => e = .returned (.int .i64 (Lib.bitLen x.toNat)) ∧ w' = w := Any.bits_Len64 Tryd.lays129 x w h0 h1
def Tryd.lays264_ren : Go.Shelf.Ren := ⟨fun | 264 => 64 | n => n, fun | 53 => 125 | 46 => 97 | n => n, fun | n => n⟩
theorem Tryd.lays264 : Go.Proofs.Lays.n264 Tryd.prog Tryd.lays264_ren := {
  mixed := by kernel_rfl
  f264 := Tryd.func64.trans (congrArg some (by kernel_rfl))
  t46 := Tryd.underlying97
  a46 := Tryd.isAgg97
  z46 := Tryd.sizeOf97
  v46 := Tryd.zeroValue97
  t53 := Tryd.underlying125
  a53 := Tryd.isAgg125
  z53 := Tryd.sizeOf125
  v53 := Tryd.zeroValue125 }
open Go.RowKit Go.Lib in
theorem Tryd.bits_Mul64 (x y : Nat) (hx : x < 18446744073709551616) (hy : y < 18446744073709551616) (w : World) :
    Calls Tryd.prog 64 #[.int .u64 x, .int .u64 y] w fun e w' => e = .returned (.tuple #[.int .u64 ((x * y / 18446744073709551616 : Nat) : Int), .int .u64 ((x * y % 18446744073709551616 : Nat) : Int)]) ∧ w' = w := Any.bits_Mul64 Tryd.lays264 x y hx hy w
def Tryd.lays212_ren : Go.Shelf.Ren := ⟨fun | 212 => 50 | 263 => 63 | 264 => 64 | n => n, fun | 46 => 97 | 51 => 122 | 146 => 123 | 53 => 125 | 148 => 126 | n => n, fun | n => n⟩
theorem Tryd.lays212 : Go.Proofs.Lays.n212 Tryd.prog Tryd.lays212_ren := {
  mixed := by kernel_rfl
  f212 := Tryd.func50.trans (congrArg some (by kernel_rfl))
  f263 := Tryd.func63.trans (congrArg some (by kernel_rfl))
  f264 := Tryd.func64.trans (congrArg some (by kernel_rfl))
  t46 := Tryd.underlying97
  a46 := Tryd.isAgg97
  z46 := Tryd.sizeOf97
  v46 := Tryd.zeroValue97
  t51 := Tryd.underlying122
  a51 := Tryd.isAgg122
  z51 := Tryd.sizeOf122
  v51 := Tryd.zeroValue122
  t53 := Tryd.underlying125
  a53 := Tryd.isAgg125
  z53 := Tryd.sizeOf125
  v53 := Tryd.zeroValue125
  t146 := Tryd.underlying123
  a146 := Tryd.isAgg123
  z146 := Tryd.sizeOf123
  v146 := Tryd.zeroValue123
  t148 := Tryd.underlying126
  a148 := Tryd.isAgg126
  z148 := Tryd.sizeOf126
  v148 := Tryd.zeroValue126 }
open Go.RowKit Go.Lib in
theorem Tryd.bits_Mul (x y : Nat) (hx : x < 18446744073709551616) (hy : y < 18446744073709551616) (w : World) :
    Calls Tryd.prog 50 #[.int .u64 x, .int .u64 y] w fun e w' => e = .returned (.tuple #[.int .u64 ((x * y / 18446744073709551616 : Nat) : Int), .int .u64 ((x * y % 18446744073709551616 : Nat) : Int)]) ∧ w' = w := Any.bits_Mul Tryd.lays212 x y hx hy w
def Tryd.laysNm237_ren : Go.Shelf.Ren := ⟨fun | 37 => 55 | n => n, fun | 3 => 3 | 4 => 4 | n => n, fun | n => n⟩
theorem Tryd.laysNm237 : Go.Proofs.Lays2.n37 Tryd.prog Tryd.laysNm237_ren := {
  mixed := by kernel_rfl
  f37 := Tryd.func55.trans (congrArg some (by kernel_rfl))
  t3 := Tryd.underlying3
  a3 := Tryd.isAgg3
  z3 := Tryd.sizeOf3
  v3 := Tryd.zeroValue3
  t4 := Tryd.underlying4
  a4 := Tryd.isAgg4
  z4 := Tryd.sizeOf4
  v4 := Tryd.zeroValue4 }
open Go.RowKit Go.Lib in
theorem Tryd.cmp_isNaN_int2 (x : Int) (w : World) :
    Calls Tryd.prog 55 #[.int .i64 x] w fun e w' => e = .returned (.bool false) ∧ w' = w := Any.cmp_isNaN_int2 Tryd.laysNm237 x w
def Tryd.laysNm232_ren : Go.Shelf.Ren := ⟨fun | 32 => 42 | n => n, fun | 3 => 3 | 4 => 4 | n => n, fun | n => n⟩
theorem Tryd.laysNm232 : Go.Proofs.Lays2.n32 Tryd.prog Tryd.laysNm232_ren := {
  mixed := by kernel_rfl
  f32 := Tryd.func42.trans (congrArg some (by kernel_rfl))
  t3 := Tryd.underlying3
  a3 := Tryd.isAgg3
  z3 := Tryd.sizeOf3
  v3 := Tryd.zeroValue3
  t4 := Tryd.underlying4
  a4 := Tryd.isAgg4
  z4 := Tryd.sizeOf4
  v4 := Tryd.zeroValue4 }
open Go.RowKit Go.Lib in
theorem Tryd.slices_isNaN_int2 (x : Int) (w : World) :
    Calls Tryd.prog 42 #[.int .i64 x] w fun e w' => e = .returned (.bool false) ∧ w' = w := Any.slices_isNaN_int2 Tryd.laysNm232 x w
def Tryd.laysNm231_ren : Go.Shelf.Ren := ⟨fun | 31 => 41 | 37 => 55 | n => n, fun | 3 => 3 | 4 => 4 | n => n, fun | n => n⟩
theorem Tryd.laysNm231 : Go.Proofs.Lays2.n31 Tryd.prog Tryd.laysNm231_ren := {
  mixed := by kernel_rfl
  f31 := Tryd.func41.trans (congrArg some (by kernel_rfl))
  f37 := Tryd.func55.trans (congrArg some (by kernel_rfl))
  t3 := Tryd.underlying3
  a3 := Tryd.isAgg3
  z3 := Tryd.sizeOf3
  v3 := Tryd.zeroValue3
  t4 := Tryd.underlying4
  a4 := Tryd.isAgg4
  z4 := Tryd.sizeOf4
  v4 := Tryd.zeroValue4 }
open Go.RowKit Go.Lib in
theorem Tryd.cmp_Less_int2 (x y : Int) (w : World) :
    Calls Tryd.prog 41 #[.int .i64 x, .int .i64 y] w fun e w' => e = .returned (.bool (decide (x < y))) ∧ w' = w := Any.cmp_Less_int2 Tryd.laysNm231 x y w
def Tryd.laysNm225_ren : Go.Shelf.Ren := ⟨fun | 25 => 28 | 31 => 41 | 32 => 42 | 37 => 55 | n => n, fun | 22 => 26 | 3 => 3 | 4 => 4 | 40 => 97 | 0 => 0 | n => n, fun | n => n⟩
theorem Tryd.laysNm225 : Go.Proofs.Lays2.n25 Tryd.prog Tryd.laysNm225_ren := {
  mixed := by kernel_rfl
  f25 := Tryd.func28.trans (congrArg some (by kernel_rfl))
  f31 := Tryd.func41.trans (congrArg some (by kernel_rfl))
  f32 := Tryd.func42.trans (congrArg some (by kernel_rfl))
  f37 := Tryd.func55.trans (congrArg some (by kernel_rfl))
  t0 := Tryd.underlying0
  a0 := Tryd.isAgg0
  z0 := Tryd.sizeOf0
  v0 := Tryd.zeroValue0
  t3 := Tryd.underlying3
  a3 := Tryd.isAgg3
  z3 := Tryd.sizeOf3
  v3 := Tryd.zeroValue3
  t4 := Tryd.underlying4
  a4 := Tryd.isAgg4
  z4 := Tryd.sizeOf4
  v4 := Tryd.zeroValue4
  t22 := Tryd.underlying26
  a22 := Tryd.isAgg26
  z22 := Tryd.sizeOf26
  v22 := Tryd.zeroValue26
  t40 := Tryd.underlying97
  a40 := Tryd.isAgg97
  z40 := Tryd.sizeOf97
  v40 := Tryd.zeroValue97 }
open Go.RowKit Go.Lib in
theorem Tryd.slices_BinarySearch_int (b off n c : Nat) (zs : List Int) (x : Int) (w : World) (hz : n ≤ zs.length) (hbig : n < 4611686018427387904) (hc : ∀ j, j < zs.length → w.cell? ⟨b, off + j, none⟩ = some (.int .i64 (zs.getD j 0))) (hs : (zs.take n).Pairwise (· ≤ ·)) :
    Calls Tryd.prog 28 #[.slice (some ⟨b, off, none⟩) n c, .int .i64 x] w fun e w' => e = .returned (.tuple #[.int .i64 ((zs.take n).countP (· < x) : Nat), .bool ((zs.take n).contains x)]) ∧ ∃ q, w' = w.drewN q := Any.slices_BinarySearch_int Tryd.laysNm225 b off n c zs x w hz hbig hc hs
open Go.RowKit Go.Lib in
theorem Tryd.slices_BinarySearch_int_empty (a : Option Addr) (c : Nat) (x : Int) (w : World) :
    Calls Tryd.prog 28 #[.slice a 0 c, .int .i64 x] w fun e w' => e = .returned (.tuple #[.int .i64 0, .bool false]) ∧ w' = w := Any.slices_BinarySearch_int_empty Tryd.laysNm225 a c x w
end Go.Proofs
/- Contract of slices.Repeat of one number. -/
namespace Go.Proofs.YtplofbabfkkimaaDoor
open Go.RowKit Go.Maps
attribute [local go_sem ↓] Go.wp_at_zero Go.wp_at_succ
/-- So many copies, and noughts behind them. -/
def repV (n c : Nat) : List Value := List.replicate c (.int .i64 (-1)) ++ List.replicate (n - c) (.int .i64 0)
theorem repV_len {n c : Nat} (h : c ≤ n) : (repV n c).length = n := by simp [repV]; omega
theorem repV_at {n c j : Nat} (h : j < c) : (repV n c)[j]? = some (.int .i64 (-1)) := by
  unfold repV
  rw [List.getElem?_append_left (by simpa using h), List.getElem?_replicate, if_pos h]
theorem arr_setCells {ty : TypeId} {w : World} {g : Nat} : ∀ (zs vs : List Value) (o : Nat) (wr : World), Arr ty w wr g vs → Arr ty w (wr.setCells g o zs) g ((List.range zs.length).foldl (fun l j => l.set (o + j) ((zs[j]?).getD (.int .i64 0))) vs) := by
  intro zs
  induction zs with
  | nil => intro vs o wr h; exact h
  | cons z r ih =>
    intro vs o wr h
    have h1 := ih (vs.set o z) (o + 1) (wr.setCell ⟨g, o, none⟩ z) (h.set o z)
    show Arr ty w ((wr.setCell ⟨g, o, none⟩ z).setCells g (o + 1) r) g _
    rw [List.length_cons, List.range_succ_eq_map, List.foldl_cons, List.foldl_map]
    have e : (fun (l : List Value) (j : Nat) => l.set (o + (j + 1)) (((z :: r)[j + 1]?).getD (.int .i64 0))) = fun l j => l.set (o + 1 + j) ((r[j]?).getD (.int .i64 0)) := by
      funext l j
      rw [show o + (j + 1) = o + 1 + j by omega]
      rfl
    rw [show (fun (l : List Value) (j : Nat) => l.set (o + j.succ) (((z :: r)[j.succ]?).getD (.int .i64 0))) = _ from e]
    simpa using h1
theorem repV_fill (n c : Nat) : ∀ d, c + d ≤ n → (List.range d).foldl (fun l j => l.set (c + j) (((List.replicate d (Value.int .i64 (-1)))[j]?).getD (.int .i64 0))) (repV n c) = repV n (c + d) := by
  intro d hd
  suffices h : ∀ q, q ≤ d → (List.range q).foldl (fun l j => l.set (c + j) (((List.replicate d (Value.int .i64 (-1)))[j]?).getD (.int .i64 0))) (repV n c) = repV n (c + q) from h d (Nat.le_refl _)
  intro q
  induction q with
  | zero => intro _; rfl
  | succ q ih =>
    intro hq
    rw [List.range_succ, List.foldl_append, ih (by omega), List.foldl_cons, List.foldl_nil, List.getElem?_replicate, if_pos (by omega)]
    apply List.ext_getElem?
    intro j
    rw [List.getElem?_set]
    unfold repV
    simp only [Option.getD_some]
    by_cases hj : c + q = j
    · subst hj
      rw [if_pos rfl, if_pos (by simp; omega), List.getElem?_append_left (by simp), List.getElem?_replicate, if_pos (by omega)]
    · rw [if_neg hj]
      by_cases h1 : j < c + q
      · rw [List.getElem?_append_left (by simpa using h1), List.getElem?_append_left (by simp; omega), List.getElem?_replicate, List.getElem?_replicate, if_pos h1, if_pos (by omega)]
      · rw [List.getElem?_append_right (by simp; omega), List.getElem?_append_right (by simp; omega), List.getElem?_replicate, List.getElem?_replicate]
        simp only [List.length_replicate]
        by_cases h2 : j < n
        · rw [if_pos (by omega), if_pos (by omega)]
        · rw [if_neg (by omega), if_neg (by omega)]
theorem Arr.rep {w wr : World} {g n c : Nat} (h : Arr 3 w wr g (repV n c)) (d : Nat) (hd : c + d ≤ n) : Arr 3 w (wr.setCells g c (List.replicate d (.int .i64 (-1)))) g (repV n (c + d)) := by
  have h1 := arr_setCells (List.replicate d (.int .i64 (-1))) _ c wr h
  rw [List.length_replicate, repV_fill n c d hd] at h1
  exact h1
theorem Tryd.inI : (Tryd.prog.info? 3).map (·.size) = some 1 := by kernel_rfl
set_option maxRecDepth 100000 in
set_option maxHeartbeats 4000000 in
theorem repeat_any (g0 n : Nat) (w : World) (hn : n ≤ 1000000) (h0 : w.cell? ⟨g0, 0, none⟩ = some (.int .i64 (-1))) :
    Calls Tryd.prog 35 #[.slice (some ⟨g0, 0, none⟩) 1 1, .int .i64 n] w fun r w' => ∃ g, r = .returned (.slice (some ⟨g, 0, none⟩) n n) ∧ Arr 3 w w' g (List.replicate n (.int .i64 (-1))) := by
  have hMul : ∀ W, Calls Tryd.prog 50 #[.int .u64 1, .int .u64 n] W fun e w' => e = .returned (.tuple #[.int .u64 0, .int .u64 n]) ∧ w' = W := fun W => by
    have h := Tryd.bits_Mul 1 n (by omega) (by omega) W
    have e1 : 1 * n / 18446744073709551616 = 0 := by omega
    have e2 : 1 * n % 18446744073709551616 = n := by omega
    rw [e1, e2] at h
    exact h
  have hmk := makeI n hn w
  obtain ⟨w1, hw1⟩ : ∃ w1, w1 = w.alloc (.cells (madeV (.int .i64 0) n) 3) := ⟨_, rfl⟩
  have hA1 := arr_new 3 (.int .i64 0) rfl n w
  rw [← hw1] at hmk hA1
  have hA1 : Arr 3 w w1 w.heap.size (repV n 0) := by unfold repV; simpa using hA1
  have h1 := cell_up h0 hA1.bl
  obtain ⟨w2, hc2, hA2⟩ : ∃ w2, (∀ ty, (Builtin.copy_ #[26, 26] ty #[.slice (some ⟨w.heap.size, 0, none⟩) n n, .slice (some ⟨g0, 0, none⟩) 1 1]).run Tryd.prog w1 = .ok (.int .i64 ((min n 1 : Nat) : Int)) w2) ∧ Arr 3 w w2 w.heap.size (repV n (min n 1)) := by
    by_cases hz : n = 0
    · subst hz
      exact ⟨w1, fun ty => run_copy_none (P := Tryd.prog) w1 _ _ ty 3 _ _ 0 0 1 1 Tryd.underlying26 Tryd.inI (by decide), hA1⟩
    · have e1 : min n 1 = 1 := by omega
      rw [e1]
      refine ⟨w1.setCells w.heap.size 0 (List.replicate 1 (.int .i64 (-1))), fun ty => ?_, by have := hA1.rep 1 (by omega); simpa using this⟩
      have h := run_copy_cells (P := Tryd.prog) w1 26 26 ty 3 w.heap.size 0 n n ⟨g0, 0, none⟩ 1 1 (List.replicate 1 (.int .i64 (-1))) Tryd.underlying26 Tryd.inI (by show 1 = Nat.min 1 n; exact (Nat.min_eq_left (by omega)).symm) (fun j x hx => by
        have hj : j = 0 := by have := (List.getElem?_eq_some_iff.1 hx).1; simpa using this
        subst hj
        have hx2 : x = .int .i64 (-1) := by simpa using hx.symm
        rw [hx2]; exact h1) (fun j hj => by
        have hj0 : j = 0 := by simpa using hj
        subst hj0
        obtain ⟨x, hx⟩ : ∃ x, (repV n 0)[0]? = some x := ⟨_, List.getElem?_eq_getElem (by rw [repV_len (Nat.zero_le _)]; omega)⟩
        rw [hA1.cell hx]; rfl) (fun j _ => hA1.free _) (fun v hv => by rw [List.eq_of_mem_replicate hv]; rfl)
      exact h
  have u1 : IntKind.u64.wrap (n : Int) = (n : Int) := by rw [IntKind.wrap_u64]; omega
  have u2 : IntKind.i64.wrap (n : Int) = (n : Int) := by rw [IntKind.wrap_i64]; omega
  have q1 : ¬ (n : Int) < 0 := by omega
  have q2 : ¬ (9223372036854775807 : Int) < (n : Int) := by omega
  have HM : Hid _ := And.intro hMul (And.intro hA2 hw1)
  clear hMul hA1 hA2 hw1 h0 h1
  go_enter Tryd.func35, Tryd.ntmps35
  go_wp2_with (go_at_call 50; refine Calls.mono (HM.out.1 _) ?_; rintro r w9 ⟨rfl, hw9⟩; obtain rfl := hw9.symm; clear hw9)
  go_loopg [8] (n - min n 1) (fun q cv wr => ∃ c : Nat, q = n - c ∧ c ≤ n ∧ (n = 0 ∨ 0 < c) ∧ cv = .int .i64 c ∧ Arr 3 w wr w.heap.size (repV n c))
  case atStart => exact ⟨min n 1, rfl, Nat.min_le_left _ _, by omega, rfl, HM.out.2.1⟩
  case round =>
    obtain ⟨c, rfl, hcn, hpos, rfl, hA⟩ := hrel
    clear hmk hc2
    by_cases hlt : c < n
    · obtain ⟨d, hd⟩ : ∃ d, d = min c (n - c) := ⟨_, rfl⟩
      have hd1 : d ≤ n - c := by omega
      have hd2 : 0 < d := by omega
      have hd3 : d ≤ c := by omega
      have hAd : Arr 3 w wr.drew w.heap.size (repV n c) := hA.below (Below.refl _ _).drew
      have hcp : ∀ ty, (Builtin.copy_ #[26, 26] ty #[.slice (some ⟨w.heap.size, c, none⟩) (n - c) (n - c), .slice (some ⟨w.heap.size, 0, none⟩) c n]).run Tryd.prog wr.drew = .ok (.int .i64 ((d : Nat) : Int)) (wr.drew.setCells w.heap.size c (List.replicate d (.int .i64 (-1)))) := fun ty => by
        have h := run_copy_cells (P := Tryd.prog) wr.drew 26 26 ty 3 w.heap.size c (n - c) (n - c) ⟨w.heap.size, 0, none⟩ c n (List.replicate d (.int .i64 (-1))) Tryd.underlying26 Tryd.inI (by rw [List.length_replicate, hd]) (fun j x hx => by
          have hj : j < d := by have := (List.getElem?_eq_some_iff.1 hx).1; simpa using this
          have hx2 : x = .int .i64 (-1) := by rw [List.getElem?_replicate, if_pos hj] at hx; exact (Option.some.inj hx).symm
          rw [hx2, addz]
          exact hAd.cell (repV_at (by omega))) (fun j hj => by
          rw [List.length_replicate] at hj
          obtain ⟨x, hx⟩ : ∃ x, (repV n c)[c + j]? = some x := ⟨_, List.getElem?_eq_getElem (by rw [repV_len hcn]; omega)⟩
          rw [hAd.cell hx]; rfl) (fun j _ => hAd.free _) (fun v hv => by rw [List.eq_of_mem_replicate hv]; rfl)
        rw [List.length_replicate] at h
        exact h
      have hA3 := hAd.rep d (by omega)
      have p0 : (0 : Int) ≤ (c : Int) := by omega
      have p1 : (c : Int) < (n : Int) := by omega
      have p2 : (c : Int) ≤ (n : Int) := by omega
      have p3 : ¬ n = c := by omega
      have H3 : Hid _ := hA3
      clear hA hAd hA3 hd
      go_wp2_with fail
      go_region
      all_goals go_wp2_with fail
      all_goals
        go_roundg (n - (c + d))
        case measure => omega
        case rel => exact ⟨c + d, rfl, by omega, by omega, by go_num, by first | exact H3.out | exact H3.out.below (Below.refl _ _).drew⟩
    · obtain rfl : c = n := by omega
      have p1 : ¬ (c : Int) < (c : Int) := by omega
      have H3 : Hid _ := hA
      clear hA
      go_wp2_with fail
      go_ret
      refine ⟨_, rfl, ?_⟩
      have h9 := H3.out
      unfold repV at h9
      simpa using h9
end Go.Proofs.YtplofbabfkkimaaDoor
