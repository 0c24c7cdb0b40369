/- Texts of this claim, joined: RoIter, RoAll, RoBad, RoRound. -/
import Derived.Test.YtnpooilcpapkaabGreatDoorPart9
import Derived.Shelf.Abstract
import Derived.Shelf.RegionOpen
import Derived.WalkKit
import Derived.OwnWalkIn
import Derived.TacticsInMore
import Derived.LoopNIn
import Derived.LoopIn
import Derived.Maps.AppendAt
import Derived.Sort.QuietThIn
import Derived.Sort.BigQuietIn
/- The function that roundsOf answers tells the rounds, one behind the other. -/
namespace Go.Proofs.YtnpooilcpapkaabGreatDoor
open Go.RowKit Go.Maps Go.Shelf
attribute [local go_sem] Oper.semAt_some
/-- What a round of a loop over the rounds leaves as it was: all below n0, and lists of numbers from n1 on. -/
structure KpR (n0 n1 : Nat) (W W' : World) : Prop where
  bl : Below n0 W W'
  ints : ∀ (b : Nat) (cs : Array Value), n1 ≤ b → W.heap[b]? = some (.cells cs 3 (0, 0)) → W'.heap[b]? = some (.cells cs 3 (0, 0))
theorem KpR.trans {n0 n1 : Nat} {A B C : World} (h : KpR n0 n1 A B) (k : KpR n0 n1 B C) : KpR n0 n1 A C := ⟨h.bl.trans k.bl, fun b cs hb hc => k.ints b cs hb (h.ints b cs hb hc)⟩
/-- What is handed over: the round, and the block of its classes. -/
abbrev Rd : Type := Nat × Nat
def rdV (m : Nat) (x : Rd) : Array Value := #[.int .i64 x.1, .slice (some ⟨x.2, 0, none⟩) m m]
structure GoodR (n1 m : Nat) (out : Nat → List Ro.St) (pre : List Rd) (x : Rd) (W : World) : Prop where
  num : x.1 = pre.length
  small : x.1 < max m 1
  up : ∀ y ∈ pre, y.2 < x.2
  gu : n1 ≤ x.2
  blk : ∃ cs : Array Value, W.heap[x.2]? = some (.cells cs 3 (0, 0)) ∧ cs.toList = natC (Ro.rnd m out x.1)
/-- What the function reads stands as long as all below n0 does. -/
def Reads (n0 b1 b2 gs m : Nat) (out : Nat → List Ro.St) (w : World) : Prop := ∀ W, Below n0 w W → W.cell? ⟨b1, 0, none⟩ = some (.int .i64 m) ∧ W.cell? ⟨b2, 0, none⟩ = some (.slice (some ⟨gs, 0, none⟩) m m) ∧ Stp W gs m out ∧ Pow W
theorem Reads.of {w w' : World} {b1 b2 gs m : Nat} {es : List Sy.Ed} (h : OfAt w w' b1 b2 gs m es) (hP : Pow w') : Reads w'.heap.size b1 b2 gs m (outOf m es) w' := fun _ hb =>
  ⟨cell_up h.c1 hb, cell_up h.c2 hb, h.st.below hb, hP.below hb⟩
theorem Reads.on {n0 b1 b2 gs m : Nat} {out : Nat → List Ro.St} {w w' : World} (h : Reads n0 b1 b2 gs m out w) (hb : Below n0 w w') : Reads n0 b1 b2 gs m out w' := fun W hW => h W (hb.trans hW)
theorem grown_of_below {w w' : World} (h : Below w.heap.size w w') : w.grownBy w' none := ⟨h.os, h.tape, h.output, h.size, fun k hk _ => h.block k hk⟩
theorem hasI_blk {W : World} {g m : Nat} {c : List Nat} {cs : Array Value} (hm : c.length = m) (hb : W.heap[g]? = some (.cells cs 3 (0, 0))) (hc : cs.toList = natC c) : HasI W (.slice (some ⟨g, 0, none⟩) m m) (natI c) :=
  ⟨_, m, by rw [show (natI c).length = m by simp [natI, hm]], fun i z hz => ⟨_, rfl, by
    rw [addz]
    refine cell0_of hb ?_
    rw [← Array.getElem?_toList, hc, ← iC_nat]
    unfold iC
    rw [List.getElem?_map, hz]; rfl⟩⟩
theorem natI_inj {a b : List Nat} (h : natI a = natI b) : a = b := by
  unfold natI at h
  exact List.map_inj_right (fun x y e => by omega) |>.1 h
/-- Between two rounds. -/
structure ItAt (w wr : World) (n0 m : Nat) (out : Nat → List Ro.St) (J : List Rd → World → Prop) (pre : List Rd) (k g : Nat) : Prop where
  len : pre.length = k
  j : J pre wr
  bl : Below n0 w wr
  up : ∀ y ∈ pre, y.2 < g
  gu : w.heap.size ≤ g
  blk : ∃ cs : Array Value, wr.heap[g]? = some (.cells cs 3 (0, 0)) ∧ cs.toList = natC (Ro.rnd m out k)
  ch : ∀ j, j < k → Ro.rnd m out (j + 1) ≠ Ro.rnd m out j
set_option maxRecDepth 100000 in
set_option maxHeartbeats 4000000 in
theorem rounds_tell (n : Nat) (n0 b1 b2 gs m : Nat) (out : Nat → List Ro.St) (w : World) (hn0 : n0 ≤ w.heap.size) (hm : m ≤ 1000) (hF : Fit m out) (hR : Reads n0 b1 b2 gs m out w) :
    Tells Fence.wide n Tryz.prog 24 #[.pointer (some ⟨b1, 0, none⟩), .pointer (some ⟨b2, 0, none⟩)] (rdV m) (KpR n0 w.heap.size) (GoodR w.heap.size m out) (fun xs => ∃ R, Ro.Last m out R ∧ xs.length = R + 1) (fun pre => ∃ R, Ro.Last m out R ∧ pre.length ≤ R + 1) w := by
  intro l J Jx W hW hJ hJx hY h0
  have hrd := hR W (hW.mono hn0)
  have c1 := hrd.1
  have hmk := makeI m (by omega) W
  have HH : Hid _ := And.intro hW (And.intro hJ (And.intro hJx (And.intro hY (And.intro h0 (And.intro hF (And.intro hR hrd))))))
  clear hW hJ hJx hY h0 hF hR hrd
  refine callsIn_of_wp Tryz.func24 rfl trivial ?_ rfl
  simp only [Tryz.ntmps24, List.size_toArray, List.length_cons, List.length_nil, Nat.reduceAdd, Nat.reduceSub, Array.replicate_succ, Array.replicate_zero, List.push_toArray, List.append_toArray, List.nil_append, List.cons_append]
  gi_wp2
  clear hmk c1
  gi_loopw [4, 5] (fun cv iv wr => ∃ (k g : Nat) (pre : List Rd), cv = .slice (some ⟨g, 0, none⟩) m m ∧ iv = .int .i64 k ∧ ItAt w wr n0 m out J pre k g) (fun _ iv _ => 1001 - (intOf iv).toNat)
  case atStart =>
    refine ⟨0, W.heap.size, [], rfl, rfl, rfl, ?_, ?_, fun y hy => by simp at hy, HH.out.1.size, ?_, fun j hj => by omega⟩
    · exact HH.out.2.1 _ _ _ none HH.out.2.2.2.2.1 (World.grownBy_alloc W _ none) (fun r e => by cases e)
    · exact (HH.out.1.mono hn0).trans (((Below.refl _ W).alloc (Nat.le_refl _) _).mono (Nat.le_trans hn0 HH.out.1.size))
    · obtain ⟨_, ⟨cs, hc, hx⟩, _⟩ := arr_new 3 (.int .i64 0) rfl m W
      exact ⟨cs, hc, by rw [hx]; simp [natC, Ro.rnd]⟩
  case round =>
    obtain ⟨k, g, pre, rfl, rfl, hI⟩ := hrel
    have hk := Ro.changes_lt hI.ch
    obtain ⟨fn, tmps, assign, body, hy, hRd⟩ := HH.out.2.2.2.1 pre (k, g) wr hI.j ⟨hI.len.symm, hk, hI.up, hI.gu, hI.blk⟩
    dsimp only [rdV] at hy
    have HI : Hid (ItAt w wr n0 m out J pre k g) := hI
    have hk1 : k ≤ 1000 := by omega
    clear hI
    gi_wp2
    refine ⟨fun h => (by cases h), hRd.mono ?_⟩
    rintro e W3 (⟨rfl, hJ3, hk3⟩ | ⟨rfl, hJx3⟩)
    · have hb3 := HI.out.bl.trans hk3.bl
      obtain ⟨cs, hcs, hcl⟩ := HI.out.blk
      have hcs3 := hk3.ints g cs HI.out.gu hcs
      obtain ⟨r1, r2, r3, r4⟩ := HH.out.2.2.2.2.2.2.1 W3 hb3
      have hcI := hasI_blk (Ro.rnd_len m out k) hcs3 hcl
      have hP := parted_any gs m out (Ro.rnd m out k) _ W3 hm (Ro.rnd_len m out k) (fun u hu => Ro.rnd_lt hu) HH.out.2.2.2.2.2.1 r3 hcI r4
      have H3 : Hid _ := And.intro hJ3 (And.intro hb3 (And.intro hcI (And.intro hP hcs3)))
      have c2 := r2
      clear hJ3 hk3 hb3 hcs hcs3 r1 r2 r3 r4 hcI hP hRd hy
      gi_wp2
      refine ⟨trivial, fun h => (by cases h), (callsIn_wide.2 H3.out.2.2.2.1).mono ?_⟩
      rintro e W4 ⟨g2, rfl, hA4⟩
      have hb34 := hA4.bl
      have hcI4 : HasI W4 (.slice (some ⟨g2, 0, none⟩) m m) (natI (Ro.rnd m out (k + 1))) := by
        obtain ⟨cs4, hc4, hx4⟩ := hA4.ids
        exact hasI_blk (Ro.rnd_len m out (k + 1)) hc4 hx4
      have hl4 : ∀ j, (natI (Ro.rnd m out j)).length = m := fun j => by simp [natI, Ro.rnd_len]
      have hE := slEqual_any _ _ _ _ W4 (by rw [hl4]; omega) (by rw [hl4]; omega) hcI4 (H3.out.2.2.1.below hb34)
      have H4 : Hid _ := And.intro hA4 hE
      clear hA4 hE hb34 hcI4 hl4
      by_cases he : Ro.rnd m out (k + 1) = Ro.rnd m out k
      · have e1 : (natI (Ro.rnd m out (k + 1)) == natI (Ro.rnd m out k)) = true := by rw [he]; simp
        rw [e1] at H4
        have HE : Hid _ := he
        clear he e1
        gi_wp2
        refine ⟨trivial, fun h => (by cases h), (callsIn_wide.2 H4.out.2).mono ?_⟩
        rintro e W5 ⟨rfl, hb5⟩
        have H5 : Hid (Below W3.heap.size W3 W5) := bel6 hb5 H4.out.1.bl
        clear hb5
        gi_wp2
        refine bodyPost_ret (results_none rfl _ _ _) rfl ?_
        exact ⟨⟨_, rfl⟩, .inl ⟨pre ++ [(k, g)], ⟨k, ⟨HE.out, HI.out.ch⟩, by simp [HI.out.len]⟩, HH.out.2.1 _ _ _ none H3.out.1 (grown_of_below H5.out) (fun r e => by cases e)⟩⟩
      · have e1 : (natI (Ro.rnd m out (k + 1)) == natI (Ro.rnd m out k)) = false := by simpa using fun e => he (natI_inj e)
        rw [e1] at H4
        have HE : Hid _ := he
        clear he e1
        gi_wp2
        refine ⟨trivial, fun h => (by cases h), (callsIn_wide.2 H4.out.2).mono ?_⟩
        rintro e W5 ⟨rfl, hb5⟩
        have H5 : Hid (Below W3.heap.size W3 W5 ∧ Below W4.heap.size W4 W5) := ⟨bel6 hb5 H4.out.1.bl, hb5⟩
        clear hb5
        gi_wp2
        go_roundw
        case rel =>
          refine ⟨k + 1, g2, pre ++ [(k, g)], rfl, by go_num, by simp [HI.out.len], HH.out.2.1 _ _ _ none H3.out.1 (grown_of_below H5.out.1) (fun r e => by cases e), H3.out.2.1.trans (H5.out.1.mono (Nat.le_trans hn0 H3.out.2.1.size)), fun y hy => ?_, ?_, ?_, fun j hj => ?_⟩
          · have hg3 := t_lt H3.out.2.2.2.2
            have hg4 := H4.out.1.gu
            rcases List.mem_append.1 hy with hy | hy
            · have := HI.out.up y hy; omega
            · rw [List.mem_singleton.1 hy]; show g < g2; omega
          · exact Nat.le_trans H3.out.2.1.size H4.out.1.gu
          · obtain ⟨cs4, hc4, hx4⟩ := H4.out.1.ids
            exact ⟨cs4, res_up6 H5.out.2 hc4, hx4⟩
          · rcases Nat.lt_or_ge j k with h1 | h1
            · exact HI.out.ch j h1
            · obtain rfl : j = k := by omega
              exact HE.out
        case measure => simp [intOf]; omega
    · have HJ : Hid _ := hJx3
      clear hJx3 hRd hy
      gi_wp2
      go_end0
      obtain ⟨R, hR⟩ := Ro.exists_last m out
      exact ⟨⟨_, rfl⟩, .inr ⟨_, ⟨R, hR, by have := hR.ge HI.out.ch; simp [HI.out.len]; omega⟩, HJ.out⟩⟩
end Go.Proofs.YtnpooilcpapkaabGreatDoor
/- Contract of the program's All: the classes of all rounds. -/
namespace Go.Proofs.YtnpooilcpapkaabGreatDoor
open Go.RowKit Go.Maps Go.Shelf
attribute [local go_sem] Oper.semAt_some
/-- The rounds' classes in memory, one behind the other. -/
structure RwAt (W : World) (B m : Nat) (out : Nat → List Ro.St) (pre : List Rd) : Prop where
  row : ∀ (j : Nat) (x : Rd), pre[j]? = some x → x.1 = j ∧ B ≤ x.2 ∧ ∃ cs : Array Value, W.heap[x.2]? = some (.cells cs 3 (0, 0)) ∧ cs.toList = natC (Ro.rnd m out j)
  up : pre.Pairwise fun y x => y.2 < x.2
theorem RwAt.nil (W : World) (B m : Nat) (out : Nat → List Ro.St) : RwAt W B m out [] := ⟨fun j x h => by simp at h, .nil⟩
theorem RwAt.keep {W W' : World} {B m : Nat} {out : Nat → List Ro.St} {pre : List Rd} (h : RwAt W B m out pre) (hk : ∀ (b : Nat) (cs : Array Value), B ≤ b → W.heap[b]? = some (.cells cs 3 (0, 0)) → W'.heap[b]? = some (.cells cs 3 (0, 0))) : RwAt W' B m out pre :=
  ⟨fun j x hx => by obtain ⟨h1, h2, cs, h3, h4⟩ := h.row j x hx; exact ⟨h1, h2, cs, hk _ _ h2 h3, h4⟩, h.up⟩
theorem RwAt.snoc {W : World} {B m : Nat} {out : Nat → List Ro.St} {pre : List Rd} {x : Rd} (h : RwAt W B m out pre) (hG : GoodR B m out pre x W) : RwAt W B m out (pre ++ [x]) := by
  refine ⟨fun j y hy => ?_, ?_⟩
  · rcases Nat.lt_or_ge j pre.length with hj | hj
    · rw [List.getElem?_append_left hj] at hy
      exact h.row j y hy
    · rw [List.getElem?_append_right hj] at hy
      have hj0 : j - pre.length = 0 := by have := (List.getElem?_eq_some_iff.1 hy).1; simp at this; omega
      rw [hj0] at hy
      simp at hy
      subst hy
      have e : j = pre.length := by omega
      obtain ⟨cs, h3, h4⟩ := hG.blk
      exact ⟨by rw [hG.num, e], hG.gu, cs, h3, by rw [e, ← hG.num]; exact h4⟩
  · exact List.pairwise_append.2 ⟨h.up, List.pairwise_singleton _ _, fun y hy z hz => by rw [List.mem_singleton.1 hz]; exact hG.up y hy⟩
theorem rw_own (B m : Nat) (out : Nat → List Ro.St) : Own (fun pre W => RwAt W B m out pre) := fun s W W' row hs hg hr => hs.keep fun b cs _ hc => by
  have h1 : some b ≠ row := fun e => by
    obtain ⟨o, ho, hoc⟩ := hr b e.symm
    rw [hc] at ho
    cases ho
    cases hoc
  exact (hg.block b (t_lt hc) h1).trans hc
theorem good_put {n1 m : Nat} {out : Nat → List Ro.St} (pre : List Rd) (x : Rd) (W : World) (l : Nat) (o o' : Obj) (hl : W.heap[l]? = some o) (ho : o.isCells = false) (h : GoodR n1 m out pre x W) : GoodR n1 m out pre x (W.putObj l o') := by
  obtain ⟨cs, h3, h4⟩ := h.blk
  have hne : x.2 ≠ l := fun e => by rw [← e, h3] at hl; cases hl; cases ho
  exact ⟨h.num, h.small, h.up, h.gu, cs, (World.putObj_heap_other hne).trans h3, h4⟩
theorem kpr_put {n0 n1 : Nat} {w : World} (hn0 : n0 ≤ w.heap.size) (W : World) (l : Nat) (o o' : Obj) (hw : w.heap.size ≤ l) (hl : W.heap[l]? = some o) (ho : o.isCells = false) (hk : o.isWalk = false) : KpR n0 n1 W (W.putObj l o') :=
  ⟨belowK_b hn0 W l o o' hw hl ho hk, fun b cs _ hc => by
    have hne : b ≠ l := fun e => by rw [← e, hc] at hl; cases hl; cases ho
    exact (World.putObj_heap_other hne).trans hc⟩
theorem RwAt.base {W : World} {B B' m : Nat} {out : Nat → List Ro.St} {pre : List Rd} (h : RwAt W B m out pre) (hb : B' ≤ B) : RwAt W B' m out pre := ⟨fun j x hx => by obtain ⟨h1, h2, h3⟩ := h.row j x hx; exact ⟨h1, by omega, h3⟩, h.up⟩
theorem app_ints {W w1 : World} {n B : Nat} {t e : TypeId} {v v' : Value} {k : Nat} {xs : List Value} {tmp : Obj} (hv : Boxed W B t v) (ht : t ≠ 3) (hrow : W.ownsRow n e 1 v k xs) (he : e ≠ 3) (hgrow : (W.alloc tmp).grownBy w1 v.ownBlock) (b : Nat) (cs : Array Value) (hc : W.heap[b]? = some (.cells cs 3 (0, 0))) : (w1.setCell ⟨B, 0, none⟩ v').heap[b]? = some (.cells cs 3 (0, 0)) := by
  have hne : b ≠ B := fun e9 => by
    have h1 : W.heap[B]? = some (.cells #[v] t (0, 0)) := hv
    rw [← e9, hc] at h1
    injection h1 with h1
    injection h1 with _ h2
    exact ht h2.symm
  rw [setCell_other _ hne]
  exact ((grown_alloc hgrow).block b (t_lt hc) fun hb => own_bk hrow hc he hb).trans hc
/-- A list of lists that was answered. -/
def hdr (m : Nat) (x : Rd) : Value := .slice (some ⟨x.2, 0, none⟩) m m
def OwnRs (W : World) (B m : Nat) (v : Value) (xs : List Rd) : Prop := W.ownsRow B 51 1 v xs.length (xs.map (hdr m))
theorem Tryz.infoRI : (Tryz.prog.info? 51).map (fun i => (i.zero, i.size, i.bytes)) = some (some (.slice none 0 0), 1, 24) := by kernel_rfl
theorem steps_fit {m : Nat} {k s : Int} {es : List Sy.Ed} (hq : Sy.right m k s es = true) : Fit m (outOf m es) := fun i hi => by
  have hp := right_parts hq
  have h1 := rowOf_len m (Sy.nf es) i
  have h2 := Sy.nf_len es
  refine ⟨by unfold outOf; omega, fun z hz => ?_⟩
  unfold outOf Sy.rowOf at hz
  rw [if_pos ⟨by omega, by omega⟩] at hz
  unfold Sy.steps at hz
  obtain ⟨e, he, rfl⟩ := List.mem_map.1 hz
  have h3 := hp.2.2.2.2.2 e ((Sy.nf_mem es e).1 (List.mem_filter.1 he).1)
  show (0 ≤ e.2.1 ∧ e.2.1 ≤ 300) ∧ 0 ≤ e.2.2 ∧ e.2.2 < (m : Int)
  omega
set_option maxRecDepth 100000 in
set_option maxHeartbeats 4000000 in
theorem all_ok (hS : SortOk 1000000) (m : Nat) (k s : Int) (v : Value) (es : List Sy.Ed) (a : Addr) (w : World) (hA : Sent w 0 a) (hP : Pow w) (hv : BEdges.Has w v es) (hm : es.length ≤ 100000) (hq : Sy.right m k s es = true) :
    Calls Tryz.prog 9 #[sysV m k s v] w fun r w' => ∃ u xs R, r = .returned (.tuple #[u, .nilIface]) ∧ Ro.Last m (outOf m es) R ∧ xs.length = R + 1 ∧ OwnRs w' w.heap.size m u xs ∧ RwAt w' w.heap.size m (outOf m es) xs ∧ Below w.heap.size w w' := by
  obtain ⟨i0, hi0, hz0, hz1, hz2⟩ := info_parts Tryz.infoRI
  have hv0 := hv
  obtain ⟨ao, cap, rfl, _⟩ := hv0
  obtain ⟨L, hL⟩ : ∃ L, L = es.length := ⟨_, rfl⟩
  obtain ⟨w1, hw1⟩ : ∃ w1, w1 = w.alloc (.cells #[.int .i64 m, .int .i64 k, .int .i64 s, .slice ao L cap] 24) := ⟨_, rfl⟩
  have hb1 : Below w.heap.size w w1 := by rw [hw1]; exact (Below.refl _ _).alloc (Nat.le_refl _) _
  have hg1 : w1.heap[w.heap.size]? = some (.cells #[.int .i64 m, .int .i64 k, .int .i64 s, .slice ao L cap] 24 (0, 0)) := by rw [hw1]; exact heap_alloc_new w _
  have hN := roundsOf_ok hS m k s _ es a w1 (hA.below hb1) (hv.below hb1) hm hq
  rw [← hL] at hN ⊢
  unfold sysV at hN ⊢
  have hm1 : m ≤ 1000 := by have := (right_parts hq).1; omega
  have hF := steps_fit hq
  obtain ⟨out, hout⟩ : ∃ out, out = outOf m es := ⟨_, rfl⟩
  have H1 : Hid _ := And.intro hw1 (And.intro hb1 (And.intro hN (And.intro hP (And.intro hF hout))))
  obtain ⟨x0, x1, x2, x3⟩ := four_cells hg1
  clear hA hv hm hq hw1 hb1 hg1 hN hL hP hF hout
  refine (callsIn_wide (n := 3)).1 ?_
  refine callsIn_of_wp_marks Tryz.func9 rfl trivial ?_ rfl
  simp only [Tryz.ntmps9, List.size_toArray, List.length_cons, List.length_nil, Nat.reduceAdd, Nat.reduceSub, Array.replicate_succ, Array.replicate_zero, List.push_toArray, List.append_toArray, List.nil_append, List.cons_append]
  gi_upto_region 1 with fail
  rw [← H1.out.1]
  gi_wp2
  refine ⟨trivial, (callsIn_wide.2 H1.out.2.2.1).mono ?_⟩
  rintro r w2 ⟨b1, b2, gs, rfl, hO2⟩
  unfold roundsV
  have hP2 := H1.out.2.2.2.1.below (bel6 hO2.bl H1.out.2.1)
  have hRd := Reads.of hO2 hP2
  have hb02 := bel6 hO2.bl H1.out.2.1
  have H2 : Hid _ := And.intro hRd hb02
  clear hO2 hP2 hRd hb02 x0 x1 x2 x3
  gi_wp2
  obtain ⟨w3, hw3⟩ : ∃ w3, w3 = w2.alloc (.cells #[.slice none 0 0] 36) := ⟨_, rfl⟩
  have hz3 : w3.heap.size = w2.heap.size + 1 := by rw [hw3]; simp
  have hb3 : Below w2.heap.size w2 w3 := by rw [hw3]; exact (Below.refl _ _).alloc (Nat.le_refl _) _
  have hbx : Boxed w3 w2.heap.size 36 (.slice none 0 0) := by rw [hw3]; exact Boxed.new w2 36 (.slice none 0 0)
  rw [← hw3]
  have hF := H1.out.2.2.2.2.1
  have hR := H2.out.1
  rw [← H1.out.2.2.2.2.2] at hF hR
  refine loop_tells rfl (by omega) (gf := 24) (lb := #[.pointer (some ⟨b1, 0, none⟩), .pointer (some ⟨b2, 0, none⟩)]) rfl trivial (enters_of Tryz.func24 (by kernel_rfl) rfl)
    (rounds_tell 2 w2.heap.size b1 b2 gs m out w3 (by omega) hm1 hF (hR.on hb3)) (fun h k => h.trans k) (kpr_put (by omega)) (fun pre x W l o o' _ hl ho h => good_put pre x W l o o' hl ho h) (Below.refl _ _) (fun _ => rfl)
    (fun pre W => (∃ v, Boxed W w2.heap.size 36 v ∧ W.ownsRow w2.heap.size 51 1 v pre.length (pre.map (hdr m)) ∧ True) ∧ RwAt W w3.heap.size m out pre ∧ Below w2.heap.size w2 W)
    (fun _ _ _ => False)
    (OwnFrom.and (Own.from (holdsRow_own w2.heap.size w2.heap.size 36 51 1 (fun pre : List Rd => pre.length) (fun pre => pre.map (hdr m)) (fun _ _ => True)) _) (OwnFrom.and (Own.from (rw_own _ _ _) _) (ownFrom_below (Nat.le_refl _) (by omega))))
    (fun _ _ _ _ _ hs _ _ => hs)
    ⟨⟨_, hbx, World.ownsRow_nil _ _ _ _, trivial⟩, RwAt.nil _ _ _ _, hb3⟩
    (fun x => { tmps := #[(.agg #[.int .i64 m, .int .i64 k, .int .i64 s, .slice ao L cap]), .pointer (some ⟨w.heap.size, 0, none⟩), .slice none 0 0, .nilIface, (.func (.func 24) #[] #[.pointer (some ⟨b1, 0, none⟩), .pointer (some ⟨b2, 0, none⟩)]), .nilIface, .pointer (some ⟨w2.heap.size, 0, none⟩), undef, (.slice (some ⟨x.2, 0, none⟩) m m), .tuple #[(.func (.func 24) #[] #[.pointer (some ⟨b1, 0, none⟩), .pointer (some ⟨b2, 0, none⟩)]), .nilIface], (.agg #[.int .i64 m, .int .i64 k, .int .i64 s, .slice ao L cap]), .tuple #[(.func (.func 24) #[] #[.pointer (some ⟨b1, 0, none⟩), .pointer (some ⟨b2, 0, none⟩)]), .nilIface], (.func (.func 24) #[] #[.pointer (some ⟨b1, 0, none⟩), .pointer (some ⟨b2, 0, none⟩)]), .nilIface, .nilIface, .bool false, undef, undef, (.func (.func 24) #[] #[.pointer (some ⟨b1, 0, none⟩), .pointer (some ⟨b2, 0, none⟩)]), .int .i64 x.1, (.slice (some ⟨x.2, 0, none⟩) m m), undef, undef, undef, undef, undef], defers := [] }) ?assign ?body ?done ?stop
  case assign =>
    intro l x W K hK
    unfold rdV
    gi_wp2
    exact hK
  case body =>
    rintro l pre x W ⟨⟨v, hv, hrow, _⟩, hRw, hB⟩ hG
    have hc := hv.cell
    have hpl : pre.length ≤ 1000 := by have := hG.num; have := hG.small; omega
    have hml : pre.length + 1 ≤ maxLen := by unfold maxLen; omega
    have hby : (pre.length + 1) * 24 ≤ 140737488355328 := by omega
    have hle : w2.heap.size ≤ (W.alloc (.cells #[.slice (some ⟨x.2, 0, none⟩) m m] 51)).heap.size := by have := hB.size; simp; omega
    have HG : Hid _ := And.intro hRw hG
    clear hRw hG
    gi_wp2_with (gi_at_builtin; refine wpListIn_append_own _ rfl _ _ 36 rfl w2.heap.size 51 i0 (.slice none 0 0) 1 24 Tryz.underlying36 hi0 hz0 hz1 hz2 rfl (by decide) _ _ _ rfl (hrow.alloc _) ⟨W.heap.size, 0, none⟩ 1 1 [.slice (some ⟨x.2, 0, none⟩) m m] rfl rfl (cell_one_new _ _ _) (by simp [Value.oneCell']) hml hby hle ?_; intro v' w4 hown' hgrow _; obtain ⟨g', cap', rfl⟩ := ownsRow_succ hown'; obtain ⟨hv1, hv2, hr2, hk2, hb2⟩ := hv.appended (by decide) hrow hB.size (Nat.le_refl _) hown' hgrow; have hc1 := hv1.cell; have hf1 := hv1.frozen; have hii := app_ints (v' := .slice (some ⟨g', 0, none⟩) (pre.length + 1) cap') hv (by decide) hrow (by decide) hgrow)
    exact ⟨hk2.from _, ⟨hb2, fun b cs _ hc => hii b cs hc⟩, ⟨_, hv2, by simpa [hdr] using hr2, trivial⟩, (HG.out.1.snoc HG.out.2).keep fun b cs _ hc => hii b cs hc, hB.trans hb2⟩
  case done =>
    rintro D xs W hD ⟨R, hRl, hxl⟩ ⟨⟨v, hv, hrow, _⟩, hRw, hB⟩ hK
    have hc := hv.cell
    gi_wp2
    refine ⟨by simp, .inl ⟨_, _, rfl, run_takeDeferred hK, ?_⟩⟩
    refine ⟨_, results_tmp2 rfl _ _ _, v, xs, R, rfl, by rw [← H1.out.2.2.2.2.2]; exact hRl, hxl, ?_, ?_, ?_⟩
    · exact row_base (ownsRow_putObj hrow _ hK rfl) H2.out.2.size
    · rw [← H1.out.2.2.2.2.2]
      refine ((hRw.keep fun b cs _ hc => ?_).base (Nat.le_trans H2.out.2.size (by omega)))
      have hne : b ≠ D := fun e => by rw [← e, hc] at hK; cases hK
      exact (World.putObj_heap_other hne).trans hc
    · exact bel6 (hB.trans (belowK_b (w := w2) (Nat.le_refl _) W D _ _ (by omega) hK rfl rfl)) H2.out.2
  case stop =>
    rintro D c pre W _ _ h _
    exact h.elim
end Go.Proofs.YtnpooilcpapkaabGreatDoor
/- Contracts of the program's All, Ranks and parting of what is no system. -/
namespace Go.Proofs.YtnpooilcpapkaabGreatDoor
open Go.RowKit Go.Maps
attribute [local go_sem ↓] Go.wp_at_zero Go.wp_at_succ
set_option maxRecDepth 100000 in
set_option maxHeartbeats 4000000 in
theorem all_bad (hS : SortOk 1000000) (n k s : Int) (v : Value) (es : List Sy.Ed) (a : Addr) (w : World) (hA : Sent w 0 a) (hv : BEdges.Has w v es) (hm : es.length ≤ 100000) (hq : Sy.right n k s es = false) :
    Calls Tryz.prog 9 #[sysV n k s v] w fun r w' => ∃ b, r = .returned (.tuple #[.slice none 0 0, .iface 52 (.pointer (some ⟨b, 0, none⟩))]) ∧ Chain w' 0 0 a [rndB, sysB] (.iface 52 (.pointer (some ⟨b, 0, none⟩))) ∧ Below w.heap.size w w' := by
  have hv0 := hv
  obtain ⟨ao, cap, rfl, _⟩ := hv0
  obtain ⟨L, hL⟩ : ∃ L, L = es.length := ⟨_, rfl⟩
  obtain ⟨w1, hw1⟩ : ∃ w1, w1 = w.alloc (.cells #[.int .i64 n, .int .i64 k, .int .i64 s, .slice ao L cap] 24) := ⟨_, rfl⟩
  have hb1 : Below w.heap.size w w1 := by rw [hw1]; exact (Below.refl _ _).alloc (Nat.le_refl _) _
  have hg1 : w1.heap[w.heap.size]? = some (.cells #[.int .i64 n, .int .i64 k, .int .i64 s, .slice ao L cap] 24 (0, 0)) := by rw [hw1]; exact heap_alloc_new w _
  have hN := roundsOf_bad hS n k s _ es a w1 (hA.below hb1) (hv.below hb1) hm hq
  rw [← hL] at hN ⊢
  unfold sysV at hN ⊢
  have H1 : Hid _ := And.intro hw1 (And.intro hb1 hN)
  obtain ⟨x0, x1, x2, x3⟩ := four_cells hg1
  clear hA hv hm hq hw1 hb1 hg1 hN hL
  go_enter Tryz.func9, Tryz.ntmps9
  go_upto_region 1 with fail
  rw [← H1.out.1]
  go_wp2_with fail
  refine Calls.mono H1.out.2.2 ?_
  rintro r w2 ⟨T, u, rfl, hC, hb2⟩
  have hFt := rfault_any T u w2 a _ hC
  have H2 : Hid _ := And.intro hFt (bel6 hb2 H1.out.2.1)
  clear hC hb2 hFt
  go_wp2_with fail
  refine Calls.mono H2.out.1 ?_
  rintro r w3 ⟨b, rfl, hC3, hb3⟩
  have H3 : Hid _ := And.intro hC3 (bel6 hb3 H2.out.2)
  clear hC3 hb3
  go_wp2_with fail
  go_ret2
  exact ⟨_, rfl, H3.out.1, H3.out.2⟩
end Go.Proofs.YtnpooilcpapkaabGreatDoor
/- A region that draws its order and only reads, in the body of a loop over a function. Nothing of the program is in it. -/
namespace Go.Proofs.YtnpooilcpapkaabGreatDoor
open Go.RowKit
variable {F : Fence} {n : Nat} {P : Program} {ops : Array Oper}
/-- Outside a round and in one an operation that is no defer statement runs alike. -/
theorem op_inRound {o : Oper} {l : Nat} {a : Act} {w : World} {K : Act → World → Prop} {Q : Exit → Act → World → Prop} (hro : F.round = none) (ho : ∀ c, o.op ≠ .defer c) (h : o.wpIn F n P a w K Q) : o.wpIn (F.inRound l) n P a w K Q := by
  unfold Oper.wpIn at h ⊢
  refine ⟨h.1, ?_⟩
  have h2 := h.2
  rw [hro, Oper.semAt_none] at h2
  rw [Fence.inRound_round, Oper.semAt_some l _ _ ho]
  generalize (execOp a.eval o).run P w = r at h2
  cases r with
  | ok x w' => cases x <;> exact h2
  | halt x w' => cases x <;> exact h2
theorem opIn_inRound {i l : Nat} {a : Act} {w : World} {K : Act → World → Prop} {Q : Exit → Act → World → Prop} (hro : F.round = none) (ho : ∀ o ∈ ops.toList, ∀ c, o.op ≠ .defer c) (h : wpOpIn F n P ops Q i K a w) : wpOpIn (F.inRound l) n P ops Q i K a w := by
  unfold wpOpIn at h ⊢
  cases hi : ops[i]? with
  | none => simpa [hi] using h
  | some o =>
    have hm : o ∈ ops.toList := by
      rw [← Array.getElem?_toList] at hi
      exact List.mem_of_getElem? hi
    simp only [hi] at h ⊢
    split
    · rename_i hw
      simp only [hw, if_true] at h
      exact op_inRound hro (ho o hm) h
    · rename_i hw
      simp only [hw] at h
      exact h
theorem any_inRound {md : Region.Mode} {l : Nat} {Q : Exit → Act → World → Prop} (hro : F.round = none) (ho : ∀ o ∈ ops.toList, ∀ c, o.op ≠ .defer c) : ∀ (fuel : Nat) (listed : Array Bool) (a : Act) (w : World), wpAnyIn F n P md ops Q fuel listed a w → wpAnyIn (F.inRound l) n P md ops Q fuel listed a w
  | 0, _, _, _, h => h
  | fuel + 1, _, _, _, h => ⟨h.1, fun i hi => opIn_inRound hro ho (wpOpIn_mono (fun a w => any_inRound hro ho fuel _ a w) (h.2 i hi))⟩
def noDefer (l : List Oper) : Bool := l.all fun o => match o.op with | .defer _ => false | _ => true
theorem noDefer_spec {l : List Oper} (h : noDefer l = true) : ∀ o ∈ l, ∀ c, o.op ≠ .defer c := fun o ho c e => by
  have h1 := List.all_eq_true.1 h o ho
  rw [e] at h1
  cases h1
theorem region_round {id l : Nat} {Q : Exit → Act → World → Prop} {a : Act} {w : World} {os : List Oper} (hro : F.round = none) (hm : P.follows .mixedOrders = true) (hB : Region.lexB .any os.toArray = true) (hd : noDefer os = true)
    (h : wpQuietIn F n P os.toArray (fun w' => ∃ n, w' = w.drewN n) (fun a' => ∀ w', (∃ n, w' = w.drewN n) → Q .normal a' w') os a) : (Code.region id os.toArray true).wpIn (F.inRound l) n P Q a w := by
  simp only [Region.lexB, Bool.and_eq_true] at hB
  refine wpIn_region_any hm (any_inRound hro (noDefer_spec (by simpa using hd)) _ _ _ _ (wpAnyIn_of_quiet (C := fun w' => ∃ n, w' = w.drewN n) (Q := fun a' => ∀ w', (∃ n, w' = w.drewN n) → Q .normal a' w') hro (fun _ w' hw' h => h w' hw') _ _ _ _ ⟨1, rfl⟩ ?_))
  have := wpAnyQIn_lex (F := F) (n := n) (C := fun w' => ∃ n, w' = w.drewN n) (md := .any) hB.1 os.toArray.toList 0 (Array.replicate os.toArray.size false) a (by simp) (by simpa using hB.2) (by simpa using h)
  simpa using this
end Go.Proofs.YtnpooilcpapkaabGreatDoor
