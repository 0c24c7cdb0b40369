/- Texts of this claim, joined: RoDRnd, RoDRank, SyOutI, BookInts1, BookI0, BSame, BookI1, BookI2, BookI3, BookI4, BookI5. -/
import Derived.Test.YtpmanmoljlhogaaGreatDoorPart10
import Derived.Test.YtpmanmoljlhogaaGreatDoorPart6
import Derived.Test.YtpmanmoljlhogaaGreatDoorPart9
import Derived.Test.YtpmanmoljlhogaaGreatDoorPart1
import Derived.Test.YtpmanmoljlhogaaGreatDoorPart0
import Derived.Deep.QuietTactic
import Derived.BigQuiet
import Derived.Deep.DeepCutAuto
import Derived.Deep.RegionHeld3
/- Contract of the document's Rounds: the classes of all rounds. -/
namespace Go.Proofs.YtpmanmoljlhogaaGreatDoor
open Go.RowKit Go.Maps
attribute [local go_sem ↓] Go.wp_at_zero Go.wp_at_succ
/-- The document's count of classes is the length of the list of those that come. -/
theorem Sy.place_Ro (c : Int) (l : List Int) : Sy.place c l = Ro.place c l := by
  induction l with
  | nil => rfl
  | cons a r ih => simp only [Sy.place, Ro.place, ih]
theorem seenG_foldl (l : List Int) : ∀ seen, Sy.seenG seen l = l.foldl (fun s c => Ro.more c s) seen := by
  induction l with
  | nil => intro seen; rfl
  | cons c r ih =>
    intro seen
    simp only [Sy.seenG, List.foldl_cons, ih, Sy.place_Ro]
    congr 1
    unfold Ro.more
    by_cases h : c ∈ seen
    · rw [if_pos h, if_pos (Ro.place_lt.2 h)]
    · rw [if_neg h, if_neg (fun h1 => h (Ro.place_lt.1 h1))]
theorem more_map {A B : Type} [DecidableEq A] [DecidableEq B] (f : A → B) (hf : ∀ x y, f x = f y → x = y) (c : A) (l : List A) : Ro.more (f c) (l.map f) = (Ro.more c l).map f := by
  unfold Ro.more
  by_cases h : c ∈ l
  · rw [if_pos h, if_pos (List.mem_map.2 ⟨c, h, rfl⟩)]
  · rw [if_neg h, if_neg (fun h1 => by obtain ⟨y, hy, e⟩ := List.mem_map.1 h1; exact h (hf _ _ e ▸ hy))]
    simp
theorem dd_map {A B : Type} [DecidableEq A] [DecidableEq B] (f : A → B) (hf : ∀ x y, f x = f y → x = y) (l : List A) : Ro.dd (l.map f) = (Ro.dd l).map f := by
  refine Ro.snoc_ind (P := fun l => Ro.dd (l.map f) = (Ro.dd l).map f) rfl (fun l x ih => ?_) l
  rw [List.map_append, List.map_cons, List.map_nil, Ro.dd_snoc, ih, more_map f hf, Ro.dd_snoc]
theorem together_nat (c : List Nat) : Sy.together (natI c) = (Ro.dd c).length := by
  rw [Sy.together_eq, seenG_foldl]
  show (Ro.dd (natI c)).length = _
  unfold natI
  rw [dd_map _ (fun x y e => by omega), List.length_map]
/-- The rounds so far. -/
structure DrAt (w2 wr : World) (m : Nat) (out : Nat → List Ro.St) (av : Value) (xs : List Rd) : Prop where
  bl : Below w2.heap.size w2 wr
  row : wr.ownsRow w2.heap.size 57 1 av xs.length (xs.map (hdr m))
  rows : RwAt wr w2.heap.size m out xs
theorem DrAt.below {w2 wr w' : World} {m : Nat} {out : Nat → List Ro.St} {av : Value} {xs : List Rd} (h : DrAt w2 wr m out av xs) (hb : Below wr.heap.size wr w') : DrAt w2 w' m out av xs :=
  ⟨bel6 hb h.bl, trow_at h.row fun b e => hb.block b (h.row.lt b e).2, h.rows.keep fun _ _ _ hc => res_up6 hb hc⟩
theorem DrAt.new (w2 : World) (m : Nat) (out : Nat → List Ro.St) : DrAt w2 ((w2.alloc (.cells (madeV (.int .i64 0) m) 3)).alloc (.cells #[.slice (some ⟨w2.heap.size, 0, none⟩) m m] 57)) m out (.slice (some ⟨w2.heap.size + 1, 0, none⟩) 1 1) [(0, w2.heap.size)] := by
  obtain ⟨w3, hw3⟩ : ∃ w3, w3 = w2.alloc (.cells (madeV (.int .i64 0) m) 3) := ⟨_, rfl⟩
  have h1 := arr_new 3 (.int .i64 0) rfl m w2
  rw [← hw3] at h1 ⊢
  have hz : w3.heap.size = w2.heap.size + 1 := by rw [hw3]; simp
  obtain ⟨w4, hw4⟩ : ∃ w4, w4 = w3.alloc (.cells #[.slice (some ⟨w2.heap.size, 0, none⟩) m m] 57) := ⟨_, rfl⟩
  have hb : Below w3.heap.size w3 w4 := by rw [hw4]; exact (Below.refl _ _).alloc (Nat.le_refl _) _
  have hg : w4.heap[w3.heap.size]? = some (.cells #[.slice (some ⟨w2.heap.size, 0, none⟩) m m] 57 (0, 0)) := by rw [hw4]; exact heap_alloc_new w3 _
  rw [← hw4]
  have h2 : Arr 57 w2 w4 (w2.heap.size + 1) [.slice (some ⟨w2.heap.size, 0, none⟩) m m] := ⟨bel6 hb h1.bl, ⟨_, by rw [← hz]; exact hg, rfl⟩, by omega⟩
  refine ⟨h2.bl, h2.own (by simp [maxLen]), ⟨fun j x hx => ?_, List.pairwise_singleton _ _⟩⟩
  have hj : j = 0 := by have := (List.getElem?_eq_some_iff.1 hx).1; simp at this; omega
  subst hj
  simp at hx
  subst hx
  obtain ⟨cs, hc, hx⟩ := (h1.below hb).ids
  exact ⟨rfl, Nat.le_refl _, cs, hc, by rw [hx]; simp [natC, Ro.rnd]⟩
theorem DrAt.app {w2 wr w5 : World} {m M g : Nat} {out : Nat → List Ro.St} {av v5 : Value} {xs : List Rd} {tmp : Obj} {cs : Array Value} (h : DrAt w2 wr m out av xs) (hM : M = xs.length) (hup : ∀ y ∈ xs, y.2 < g) (hg0 : w2.heap.size ≤ g) (hc : wr.heap[g]? = some (.cells cs 3 (0, 0))) (hcs : cs.toList = natC (Ro.rnd m out M))
    (hO : w5.ownsRow w2.heap.size 57 1 v5 (M + 1) (xs.map (hdr m) ++ [.slice (some ⟨g, 0, none⟩) m m])) (hg : (wr.alloc tmp).grownBy w5 av.ownBlock) : DrAt w2 w5 m out v5 (xs ++ [(M, g)]) := by
  have hk := grown_alloc hg
  have up : ∀ (b : Nat) (cs : Array Value), wr.heap[b]? = some (.cells cs 3 (0, 0)) → w5.heap[b]? = some (.cells cs 3 (0, 0)) := fun b cs hb => (hk.block b (t_lt hb) fun e => own_bk h.row hb (by decide) e).trans hb
  refine ⟨h.bl.trans (hk.below h.bl.size fun b e => (h.row.lt b e).1), ?_, ⟨fun j x hx => ?_, ?_⟩⟩
  · rw [List.map_append, List.length_append, ← hM]
    exact hO
  · rcases Nat.lt_or_ge j xs.length with hj | hj
    · rw [List.getElem?_append_left hj] at hx
      obtain ⟨e1, e2, cs', e3, e4⟩ := h.rows.row j x hx
      exact ⟨e1, e2, cs', up _ _ e3, e4⟩
    · rw [List.getElem?_append_right hj] at hx
      have hj0 : j - xs.length = 0 := by have := (List.getElem?_eq_some_iff.1 hx).1; simp at this; omega
      rw [hj0] at hx
      simp at hx
      subst hx
      obtain rfl : j = M := by omega
      exact ⟨rfl, hg0, cs, up _ _ hc, hcs⟩
  · exact List.pairwise_append.2 ⟨h.rows.up, List.pairwise_singleton _ _, fun y hy z hz => by rw [List.mem_singleton.1 hz]; exact hup y hy⟩
theorem outs_stp {w w' : World} {B gs m : Nat} {us : List Value} {es : List Sy.Ed} (hA : Arr 114 w w' gs us) (hU : Outs w' B us m (fun i => Sy.steps (Sy.nf es) i)) : Stp w' gs m (outOf m es) := ⟨fun i hi => by
  obtain ⟨u, h1, h2⟩ := hU.row i hi
  obtain ⟨a, c, rfl⟩ := row_shape h2
  have e : outOf m es i = Sy.steps (Sy.nf es) (i : Int) := by unfold outOf Sy.rowOf; rw [if_pos ⟨by omega, by omega⟩]
  rw [e]
  exact ⟨a, c, hA.cell h1, h2.has⟩⟩
set_option maxRecDepth 100000 in
set_option maxHeartbeats 8000000 in
theorem docRounds_any (m : Nat) (k s : Int) (v : Value) (es : List Sy.Ed) (w : World) (hv : HasE w v es) (hq : Sy.right m k s es = true) :
    Calls Tryz.prog 11 #[sysV m k s v] w fun r w' => ∃ u xs R, r = .returned u ∧ Ro.Last m (outOf m es) R ∧ xs.length = R + 1 ∧ OwnRs w' w.heap.size m u xs ∧ RwAt w' w.heap.size m (outOf m es) xs ∧ Below w.heap.size w w' := by
  obtain ⟨i0, hi0, hz0, hz1, hz2⟩ := info_parts Tryz.infoRI
  have hp := right_parts hq
  have hm : m ≤ 1000 := by omega
  have hF := steps_fit hq
  have hv0 := hv
  obtain ⟨ao, cap, rfl, _⟩ := hv0
  obtain ⟨L, hL⟩ : ∃ L, L = es.length := ⟨_, rfl⟩
  obtain ⟨w1, hw1⟩ : ∃ w1, w1 = w.alloc (.cells #[.int .i64 m, .int .i64 k, .int .i64 s, .slice ao L cap] 24) := ⟨_, rfl⟩
  have hb1 : Below w.heap.size w w1 := by rw [hw1]; exact (Below.refl _ _).alloc (Nat.le_refl _) _
  have hg1 : w1.heap[w.heap.size]? = some (.cells #[.int .i64 m, .int .i64 k, .int .i64 s, .slice ao L cap] 24 (0, 0)) := by rw [hw1]; exact heap_alloc_new w _
  have hO := refOut_any m k s _ es w1 (by omega) (hv.below hb1) (by omega) (fun e he => by have := hp.2.2.2.2.2 e he; omega)
  rw [← hL] at hO ⊢
  unfold sysV at hO ⊢
  obtain ⟨out, hout⟩ : ∃ out, out = outOf m es := ⟨_, rfl⟩
  have H1 : Hid _ := And.intro hw1 (And.intro hb1 (And.intro hO (And.intro hF (And.intro hout hg1))))
  obtain ⟨x0, x1, x2, x3⟩ := four_cells hg1
  clear hv hp hq hw1 hb1 hg1 hO hL hF hout
  go_enter Tryz.func11, Tryz.ntmps11
  go_upto_region 1 with fail
  rw [← H1.out.1]
  go_wp2_with fail
  refine Calls.mono H1.out.2.2.1 ?_
  rintro r w2 ⟨gs, us, rfl, hA2, hU2⟩
  have hSt : Stp w2 gs m out := by rw [H1.out.2.2.2.2.1]; exact outs_stp hA2 hU2
  have y0 : w2.cell? ⟨w.heap.size, 0, none⟩ = some (.int .i64 m) := cell_up x0 hA2.bl
  have hmk := makeI m (by omega) w2
  have H2 : Hid _ := And.intro hSt (bel6 hA2.bl H1.out.2.1)
  clear hA2 hU2 hSt x0 x1 x2 x3
  go_wp2_with fail
  clear hmk y0
  have hD := DrAt.new w2 m out
  obtain ⟨w3, hw3⟩ : ∃ w3, w3 = (w2.alloc (.cells (madeV (.int .i64 0) m) 3)).alloc (.cells #[.slice (some ⟨w2.heap.size, 0, none⟩) m m] 57) := ⟨_, rfl⟩
  rw [← hw3] at hD ⊢
  have HD : Hid _ := hD
  clear hD hw3
  go_loopg [4, 5] 1001 (fun q cv av wr => ∃ (j g : Nat) (pre : List Rd), q = 1001 - j ∧ cv = .slice (some ⟨g, 0, none⟩) m m ∧ pre.length = j ∧ DrAt w2 wr m out av (pre ++ [(j, g)]) ∧ ∀ i, i < j → Ro.rnd m out (i + 1) ≠ Ro.rnd m out i)
  case atStart => exact ⟨0, w2.heap.size, [], rfl, rfl, rfl, HD.out, fun i hi => by omega⟩
  case round =>
    obtain ⟨j, g, pre, rfl, rfl, hpl, hDr, hch⟩ := hrel
    have hjm := Ro.changes_lt hch
    have hj1 : j ≤ 1000 := by omega
    obtain ⟨_, hgu, cs, hcs, hcl⟩ := hDr.rows.row j (j, g) (by rw [List.getElem?_append_right (by omega), hpl, Nat.sub_self]; rfl)
    have hcI := hasI_blk (Ro.rnd_len m out j) hcs hcl
    have hFo := H1.out.2.2.2.1
    rw [← H1.out.2.2.2.2.1] at hFo
    have hN := docNext_any gs m out (Ro.rnd m out j) _ wr hm (Ro.rnd_len m out j) (fun u hu => Ro.rnd_lt hu) hFo (H2.out.1.below hDr.bl) hcI
    have hDl := hDr.row
    obtain ⟨aa, ca, ha⟩ := row_shape hDl
    rw [show (pre ++ [(j, g)]).length = j + 1 by simp [hpl]] at ha
    obtain rfl := ha
    have HR : Hid _ := And.intro hN (And.intro hDr (And.intro hch (And.intro hpl (And.intro hcI (And.intro hjm hcs)))))
    clear hN hDr hch hpl hcI hjm hcs hcl hgu hFo hDl
    go_wp2_with fail
    refine Calls.mono HR.out.1 ?_
    rintro r w4 ⟨g2, rfl, hA4⟩
    have hb4 := hA4.bl
    obtain ⟨cs4, hc4, hx4⟩ := hA4.ids
    have hI4 : HasI w4 (.slice (some ⟨g2, 0, none⟩) m m) (natI (Ro.rnd m out (j + 1))) := hasI_blk (Ro.rnd_len m out (j + 1)) hc4 hx4
    have hl4 : ∀ i, (natI (Ro.rnd m out i)).length ≤ 100000 := fun i => by simp [natI, Ro.rnd_len]; omega
    have hT1 := refTogether_any _ _ w4 hI4 (hl4 (j + 1))
    rw [together_nat] at hT1
    have hT2 := fun W (hb : Below w4.heap.size w4 W) => refTogether_any _ _ W ((HR.out.2.2.2.2.1.below hb4).below hb) (hl4 j)
    rw [together_nat] at hT2
    have H4 : Hid _ := And.intro hT1 (And.intro hT2 (And.intro hA4 (And.intro hc4 hx4)))
    clear hT1 hT2 hA4 hc4 hx4 hI4 hl4 hb4
    go_wp2_with fail
    refine Calls.mono H4.out.1 ?_
    rintro r w5 ⟨rfl, hb5⟩
    have H5 : Hid (Below w4.heap.size w4 w5) := hb5
    clear hb5
    go_wp2_with fail
    refine Calls.mono (H4.out.2.1 _ H5.out) ?_
    rintro r w6 ⟨rfl, hb6⟩
    have hb46 := bel6 hb6 H5.out
    have hD6 := (HR.out.2.1.below H4.out.2.2.1.bl).below hb46
    have H6 : Hid _ := And.intro hD6 hb46
    clear hb6 hb46 hD6
    obtain ⟨t1, ht1⟩ : ∃ t, t = (Ro.dd (Ro.rnd m out (j + 1))).length := ⟨_, rfl⟩
    obtain ⟨t0, ht0⟩ : ∃ t, t = (Ro.dd (Ro.rnd m out j)).length := ⟨_, rfl⟩
    rw [← ht1, ← ht0]
    have HT : Hid _ := And.intro ht1 ht0
    clear ht1 ht0
    by_cases he : t1 = t0
    · have e1 : ((t1 : Int) == (t0 : Int)) = true := by simp [he]
      have HE : Hid _ := he
      clear he
      go_wp2_with fail
      go_ret
      have hst : Ro.rnd m out (j + 1) = Ro.rnd m out j := Ro.rnd_stop (by have h1 := HT.out.1; have h2 := HT.out.2; have h3 := HE.out; omega)
      refine ⟨_, pre ++ [(j, g)], j, rfl, by rw [← H1.out.2.2.2.2.1]; exact ⟨hst, HR.out.2.2.1⟩, by simp [HR.out.2.2.2.1], row_base H6.out.1.row H2.out.2.size, ?_, bel6 H6.out.1.bl H2.out.2⟩
      rw [← H1.out.2.2.2.2.1]
      exact H6.out.1.rows.base H2.out.2.size
    · have e1 : ((t1 : Int) == (t0 : Int)) = false := by simp; omega
      have HE : Hid _ := he
      clear he
      have hml : j + 1 + 1 ≤ maxLen := by unfold maxLen; omega
      have hby : (j + 1 + 1) * 24 ≤ 140737488355328 := by omega
      have hle : w2.heap.size ≤ (w6.alloc (.cells #[.slice (some ⟨g2, 0, none⟩) m m] 57)).heap.size := by have := H6.out.1.bl.size; simp; omega
      have hO6 : w6.ownsRow w2.heap.size 57 1 (.slice aa (j + 1) ca) (j + 1) ((pre ++ [(j, g)]).map (hdr m)) := by
        have h1 := H6.out.1.row
        rw [show (pre ++ [(j, g)]).length = j + 1 by simp [HR.out.2.2.2.1]] at h1
        exact h1
      have HO6 : Hid _ := And.intro hO6 trivial
      clear hO6
      go_wp2_with (at_builtin; refine wpList_append_own_at _ rfl _ _ 28 rfl w2.heap.size 57 i0 (.slice none 0 0) 1 24 Tryz.underlying28 hi0 hz0 hz1 hz2 rfl (by decide) (.slice aa (j + 1) ca) (j + 1) ((pre ++ [(j, g)]).map (hdr m)) rfl (HO6.out.1.alloc _) ⟨w6.heap.size, 0, none⟩ 1 1 [.slice (some ⟨g2, 0, none⟩) m m] rfl rfl (World.news_of_block (cs := #[.slice (some ⟨g2, 0, none⟩) m m]) (t := 57) (fr := (0, 0)) (heap_alloc_new w6 _)) (by simp [Value.oneCell']) hml hby hle ?_; intro v7 w7 hO7 hg7 hnil7 hat7; have H7 : Hid _ := And.intro hO7 hg7; clear hO7 hg7 hnil7 hat7)
      go_roundg (1001 - (j + 1))
      case measure => omega
      case rel =>
        have hg2 : w2.heap.size ≤ g2 := Nat.le_trans HR.out.2.1.bl.size H4.out.2.2.1.gu
        have hgl := t_lt HR.out.2.2.2.2.2.2
        have hgg := H4.out.2.2.1.gu
        refine ⟨j + 1, g2, pre ++ [(j, g)], rfl, rfl, by simp [HR.out.2.2.2.1], H6.out.1.app (by simp [HR.out.2.2.2.1]) (fun y hy => ?_) hg2 (res_up6 H6.out.2 H4.out.2.2.2.1) H4.out.2.2.2.2 H7.out.1 H7.out.2, fun i hi => ?_⟩
        · rcases List.mem_append.1 hy with hy | hy
          · have h1 := (List.pairwise_append.1 HR.out.2.1.rows.up).2.2 y hy (j, g) List.mem_cons_self
            simp only at h1
            omega
          · rw [List.mem_singleton.1 hy]; show g < g2; omega
        · rcases Nat.lt_or_ge i j with h1 | h1
          · exact HR.out.2.2.1 i h1
          · obtain rfl : i = j := by omega
            exact fun e => HE.out (by rw [HT.out.1, HT.out.2, e])
end Go.Proofs.YtpmanmoljlhogaaGreatDoor
/- Contract of the document's Rank. -/
namespace Go.Proofs.YtpmanmoljlhogaaGreatDoor
open Go.RowKit Go.Maps
attribute [local go_sem ↓] Go.wp_at_zero Go.wp_at_succ
theorem OwnRs.cell {W : World} {B m g n cap : Nat} {xs : List Rd} (h : OwnRs W B m (.slice (some ⟨g, 0, none⟩) n cap) xs) {j : Nat} {x : Rd} (hj : xs[j]? = some x) : W.cell? ⟨g, j, none⟩ = some (hdr m x) := by
  have hn : n = xs.length := by
    rcases h.2 with ⟨h1, _⟩ | ⟨g', cap', cur, h1, _⟩
    · cases h1
    · injection h1
  subst hn
  have h1 : W.ownsRow B 57 1 (.slice (some ⟨g, 0, none⟩) xs.length cap) xs.length (xs.map (hdr m)) := h
  rw [h1.cellAt j (by have := (List.getElem?_eq_some_iff.1 hj).1; omega)]
  simp [hj]
set_option maxRecDepth 100000 in
set_option maxHeartbeats 4000000 in
theorem docRank_any (m p q R : Nat) (out : Nat → List Ro.St) (u : Value) (xs : List Rd) (B B' : Nat) (w : World) (hm : m ≤ 1000) (hR : Ro.Last m out R) (hx : xs.length = R + 1) (hO : OwnRs w B m u xs) (hW : RwAt w B' m out xs) (hp : p < m) (hq : q < m) :
    Calls Tryz.prog 19 #[u, .int .i64 p, .int .i64 q] w fun r w' => r = .returned (.int .i64 (Ro.rank m out R p q)) ∧ Below w.heap.size w w' := by
  obtain ⟨g, cap, rfl⟩ := ownsRow_succ (show w.ownsRow B 57 1 u (R + 1) (xs.map (hdr m)) by rw [← hx]; exact hO)
  have hRm := hR.lt
  have hR1 : R ≤ 1000 := by omega
  have HH : Hid _ := And.intro hO (And.intro hW hx)
  clear hO hW hx hR hRm
  go_enter Tryz.func19, Tryz.ntmps19
  go_wp2_with fail
  go_loopg [7] (R + 1) (fun c kv wr => ∃ (k d : Nat), c = R + 1 - k ∧ k ≤ R + 1 ∧ kv = .int .i64 k ∧ wr = w.drewN d ∧ ∀ i, i < k → (Ro.rnd m out i)[p]? = (Ro.rnd m out i)[q]?)
  case atStart => exact ⟨0, 0, rfl, Nat.zero_le _, rfl, rfl, fun i hi => by omega⟩
  case round =>
    obtain ⟨k, d, rfl, hk, rfl, rfl, hall⟩ := hrel
    have HA : Hid (∀ i, i < k → (Ro.rnd m out i)[p]? = (Ro.rnd m out i)[q]?) := hall
    clear hall
    by_cases hlt : k < R + 1
    · obtain ⟨⟨n0, b⟩, hxk⟩ : ∃ x, xs[k]? = some x := ⟨xs[k]'(by have := HH.out.2.2; omega), List.getElem?_eq_getElem _⟩
      have c1 := HH.out.1.cell hxk
      unfold hdr at c1
      obtain ⟨_, _, cs, hcs, hcl⟩ := HH.out.2.1.row k _ hxk
      simp only at hcs c1
      have hl := Ro.rnd_len m out k
      obtain ⟨cp, hcp⟩ : ∃ cp, (Ro.rnd m out k)[p]? = some cp := ⟨_, List.getElem?_eq_getElem (by omega)⟩
      obtain ⟨cq, hcq⟩ : ∃ cq, (Ro.rnd m out k)[q]? = some cq := ⟨_, List.getElem?_eq_getElem (by omega)⟩
      have c2 : w.cell? ⟨b, p, none⟩ = some (.int .i64 cp) := cell0_of hcs (by rw [← Array.getElem?_toList, hcl]; simp [natC, hcp])
      have c3 : w.cell? ⟨b, q, none⟩ = some (.int .i64 cq) := cell0_of hcs (by rw [← Array.getElem?_toList, hcl]; simp [natC, hcq])
      have q0 : (0 : Int) ≤ (k : Int) := by omega
      have q1 : (k : Int) < ((R + 1 : Nat) : Int) := by omega
      have q1' : (k : Int) < (R : Int) + 1 := by omega
      have q2 : (0 : Int) ≤ (p : Int) := by omega
      have q3 : (p : Int) < (m : Int) := by omega
      have q4 : (0 : Int) ≤ (q : Int) := by omega
      have q5 : (q : Int) < (m : Int) := by omega
      have HK : Hid _ := And.intro hcp hcq
      clear hcp hcq hcs hcl hl hxk
      by_cases hne : cp = cq
      · have n1 : ((cp : Int) != (cq : Int)) = false := by simp [hne]
        have HN : Hid _ := hne
        clear hne
        go_wp2_with fail
        go_quiet (fail)
        rename Nat => nq
        rw [World.drewN_drewN]
        go_wp2_with fail
        go_roundg (R + 1 - (k + 1))
        case measure => omega
        case rel => exact ⟨k + 1, _, rfl, by omega, by go_num, rfl, fun i hi => by
          rcases Nat.lt_or_ge i k with h1 | h1
          · exact HA.out i h1
          · obtain rfl : i = k := by omega
            rw [HK.out.1, HK.out.2, HN.out]⟩
      · have n1 : ((cp : Int) != (cq : Int)) = true := by simp; omega
        have HN : Hid _ := hne
        clear hne
        go_wp2_with fail
        go_quiet (fail)
        go_wp2_with fail
        go_ret
        refine ⟨?_, by first | exact below_drewN (below_drewN (Below.refl _ _) _) _ | exact below_drewN (Below.refl _ _) _⟩
        unfold Ro.rank
        rw [rankG_first (j := k) (R + 1) 0 (Nat.zero_le _) (by omega) (by rw [HK.out.1, HK.out.2]; exact fun e => HN.out (Option.some.inj e)) HA.out]
        rfl
    · obtain rfl : k = R + 1 := by omega
      have q1 : ¬ ((R + 1 : Nat) : Int) < ((R + 1 : Nat) : Int) := by omega
      go_wp2_with fail
      go_ret
      refine ⟨?_, below_drewN (Below.refl _ _) _⟩
      unfold Ro.rank
      rw [rankG_none (R + 1) 0 fun i _ hi => HA.out i (by omega)]
      rfl
end Go.Proofs.YtpmanmoljlhogaaGreatDoor
/- Rows of numbers, one for each of so many, that grow one by one. -/
namespace Go.Proofs.YtpmanmoljlhogaaGreatDoor
open Go.RowKit Go.Maps
/-- Rows of numbers, one for each state, all of them from B on, no two in one block. -/
structure OutsI (w : World) (B : Nat) (us : List Value) (n : Nat) (f : Nat → List Int) : Prop where
  len : us.length = n
  row : ∀ i, i < n → ∃ u, us[i]? = some u ∧ OwnI w B u (f i)
  ap : ∀ (i j : Nat) (u x : Value) (b : Nat), us[i]? = some u → us[j]? = some x → i ≠ j → u.ownBlock = some b → x.ownBlock ≠ some b
theorem OutsI.below {w w' : World} {B : Nat} {us : List Value} {n : Nat} {f : Nat → List Int} (h : OutsI w B us n f) (hb : Below w.heap.size w w') : OutsI w' B us n f :=
  ⟨h.len, fun i hi => by obtain ⟨u, h1, h2⟩ := h.row i hi; exact ⟨u, h1, trow_at h2 fun b hb' => hb.block b (h2.lt b hb').2⟩, h.ap⟩
theorem outsI_new (w : World) (B n : Nat) : OutsI w B (List.replicate n (.slice none 0 0)) n fun _ => [] :=
  ⟨by simp, fun i hi => ⟨.slice none 0 0, by rw [List.getElem?_replicate, if_pos hi], World.ownsRow_nil _ _ _ _⟩, fun i j u x b h1 _ _ h3 => by
    rw [List.getElem?_replicate] at h1
    split at h1
    · cases h1; cases h3
    · cases h1⟩
/-- One row has grown. -/
theorem OutsI.set {w w' : World} {B : Nat} {us : List Value} {n : Nat} {f : Nat → List Int} (h : OutsI w B us n f) {i : Nat} {u u' : Value} {F : Nat → Prop} (hi : i < n) (hu : us[i]? = some u) (hk : Kept F w w') (hF : ∀ b, F b → u.ownBlock = some b ∨ ∀ (j : Nat) (x : Value), us[j]? = some x → x.ownBlock ≠ some b) {zs : List Int} (hO : OwnI w' B u' zs) (hat : u'.ownBlock = u.ownBlock ∨ ∀ b, u'.ownBlock = some b → w.heap.size ≤ b) :
    OutsI w' B (us.set i u') n (fun j => if j = i then zs else f j) := by
  refine ⟨by rw [List.length_set]; exact h.len, fun j hj => ?_, fun a c x y b hx hy hac hb => ?_⟩
  · by_cases e : j = i
    · subst e
      exact ⟨u', List.getElem?_set_self (by rw [h.len]; exact hj), by rw [if_pos rfl]; exact hO⟩
    · obtain ⟨x, h1, h2⟩ := h.row j hj
      refine ⟨x, by rw [List.getElem?_set_ne (fun e' => e e'.symm)]; exact h1, ?_⟩
      rw [if_neg e]
      refine own_up h2 hk fun b hb hf => ?_
      rcases hF b hf with hf | hf
      · exact h.ap j i x u b h1 hu e hb hf
      · exact hf j x h1 hb
  · have hold : ∀ (j : Nat) (z : Value), us[j]? = some z → j ≠ i → ∀ b, z.ownBlock = some b → u'.ownBlock ≠ some b := fun j z hz hj b hzb e => by
      rcases hat with h1 | h1
      · rw [h1] at e; exact h.ap j i z u b hz hu hj hzb e
      · have h2 := h1 b e
        obtain ⟨z', h3, h4⟩ := h.row j (by have := (List.getElem?_eq_some_iff.1 hz).1; rw [h.len] at this; exact this)
        rw [hz] at h3; cases h3
        have := (h4.lt b hzb).2
        omega
    by_cases ea : a = i
    · subst ea
      rw [List.getElem?_set_self (by rw [h.len]; exact hi)] at hx
      cases hx
      rw [List.getElem?_set_ne hac] at hy
      exact fun e => hold c y hy (fun e' => hac e'.symm) b e hb
    · rw [List.getElem?_set_ne (fun e' => ea e'.symm)] at hx
      by_cases ec : c = i
      · subst ec
        rw [List.getElem?_set_self (by rw [h.len]; exact hi)] at hy
        cases hy
        exact hold a x hx ea b hb
      · rw [List.getElem?_set_ne (fun e' => ec e'.symm)] at hy
        exact h.ap a c x y b hx hy hac hb
theorem OutsI.congr {w : World} {B : Nat} {us : List Value} {n : Nat} {f g : Nat → List Int} (h : OutsI w B us n f) (hfg : ∀ i, i < n → f i = g i) : OutsI w B us n g :=
  ⟨h.len, fun i hi => by rw [← hfg i hi]; exact h.row i hi, h.ap⟩
theorem OutsI.kept {w w' : World} {B : Nat} {us : List Value} {n : Nat} {f : Nat → List Int} {F : Nat → Prop} (h : OutsI w B us n f) (hk : Kept F w w') (hF : ∀ (j : Nat) (x : Value), us[j]? = some x → ∀ b, x.ownBlock = some b → ¬ F b) : OutsI w' B us n f :=
  ⟨h.len, fun i hi => by obtain ⟨u, h1, h2⟩ := h.row i hi; exact ⟨u, h1, own_up h2 hk fun b hb => hF i u h1 b hb⟩, h.ap⟩
/-- One row more long, its slice laid into the list of rows. -/
theorem outsI_grow {w wr w4 : World} {g n i N g4 k4 cu : Nat} {au : Option Addr} {us : List Value} {f : Nat → List Int} (z : Int) (hOs : OutsI wr w.heap.size us n f) (hi : i < n) (hu : us[i]? = some (.slice au N cu)) (hN : N = (f i).length) (hown : w4.ownsRow w.heap.size 3 1 (.slice (some ⟨g4, 0, none⟩) (N + 1) k4) (N + 1) (iC (f i) ++ [.int .i64 z])) (hk : Kept (fun b => (Value.slice au N cu).ownBlock = some b) wr w4) (hat : (Value.slice au N cu).ownBlock = some g4 ∨ g4 = wr.heap.size + 1) (hA4 : Arr 57 w w4 g us) :
    Arr 57 w (w4.setCell ⟨g, i, none⟩ (.slice (some ⟨g4, 0, none⟩) (N + 1) k4)) g (us.set i (.slice (some ⟨g4, 0, none⟩) (N + 1) k4)) ∧ OutsI (w4.setCell ⟨g, i, none⟩ (.slice (some ⟨g4, 0, none⟩) (N + 1) k4)) w.heap.size (us.set i (.slice (some ⟨g4, 0, none⟩) (N + 1) k4)) n (fun j => if j = i then f i ++ [z] else f j) ∧ Kept (fun b => b = g ∨ (Value.slice au N cu).ownBlock = some b) wr (w4.setCell ⟨g, i, none⟩ (.slice (some ⟨g4, 0, none⟩) (N + 1) k4)) := by
  have hO : OwnI w4 w.heap.size (.slice (some ⟨g4, 0, none⟩) (N + 1) k4) (f i ++ [z]) := by
    unfold OwnI
    have e1 : (f i ++ [z]).length = N + 1 := by rw [List.length_append, hN]; rfl
    rw [e1, show iC (f i ++ [z]) = iC (f i) ++ [.int .i64 z] by simp [iC]]
    exact hown
  have h1 := hOs.set (F := fun b => (Value.slice au N cu).ownBlock = some b) hi hu hk (fun b hb => .inl hb) hO (by
    rcases hat with h | h
    · exact .inl h.symm
    · exact .inr fun b hb => by have e9 : g4 = b := Option.some.inj hb
                                omega)
  refine ⟨hA4.set i _, ?_, ?_⟩
  · refine h1.kept (Kept.setCell w4 g i _) fun j x hx b hb e => ?_
    obtain ⟨cs, hc, _⟩ := hA4.ids
    obtain ⟨x', h2, h3⟩ := h1.row j (by have := (List.getElem?_eq_some_iff.1 hx).1; rw [h1.len] at this; exact this)
    rw [hx] at h2; cases h2
    exact own_bk h3 hc (by decide) (by rw [← e]; exact hb)
  · exact (hk.mono fun b _ hb => .inr hb).trans ((Kept.setCell w4 g i _).mono fun b _ hb => .inl hb)
theorem OutsI.base {w : World} {B B' : Nat} {us : List Value} {n : Nat} {f : Nat → List Int} (h : OutsI w B us n f) (hb : B' ≤ B) : OutsI w B' us n f :=
  ⟨h.len, fun i hi => by obtain ⟨u, h1, h2⟩ := h.row i hi; exact ⟨u, h1, row_base h2 hb⟩, h.ap⟩
end Go.Proofs.YtpmanmoljlhogaaGreatDoor
/- The book's marks for lists of numbers. -/
namespace Go.Proofs.YtpmanmoljlhogaaGreatDoor
open Go.RowKit Go.Maps
attribute [local go_sem ↓] Go.wp_at_zero Go.wp_at_succ
/-- The mark of the list i at the place k. -/
def mk1 (i k : Nat) : Int := -1000000 * (i : Int) - (k : Int) - 7
def marks (i f n : Nat) : List Int := (List.range n).map fun k => mk1 i (f + k)
theorem marks_len (i f n : Nat) : (marks i f n).length = n := by simp [marks]
theorem marks_succ (i f n : Nat) : marks i f (n + 1) = marks i f n ++ [mk1 i (f + n)] := by
  unfold marks
  rw [List.range_succ, List.map_append]
  rfl
theorem marks_add (i f n m : Nat) : marks i f n ++ marks i (f + n) m = marks i f (n + m) := by
  induction m with
  | zero => simp [marks]
  | succ m ih => rw [marks_succ, ← List.append_assoc, ih, Nat.add_assoc, ← marks_succ]; rfl
theorem marks_at {i f n j : Nat} (h : j < n) : (marks i f n)[j]? = some (mk1 i (f + j)) := by
  unfold marks
  rw [List.getElem?_map, List.getElem?_range h]
  rfl
set_option maxRecDepth 100000 in
set_option maxHeartbeats 4000000 in
theorem mark_any (i f n : Nat) (w : World) (hi : i ≤ 1000) (hf : f + n ≤ 1000000000) :
    Calls Tryz.prog 108 #[.int .i64 i, .int .i64 f, .int .i64 n] w fun r w' => ∃ v, r = .returned v ∧ OwnI w' w.heap.size v (marks i f n) ∧ Below w.heap.size w w' := by
  obtain ⟨i0, hi0, hz0, hz1, hz2⟩ := info_parts Tryz.infoI3
  have e1 : IntKind.i64.wrap ((f : Int) + (n : Int)) = (f : Int) + (n : Int) := by rw [IntKind.wrap_i64]; omega
  go_enter Tryz.func108, Tryz.ntmps108
  go_wp2_with fail
  go_loopg [7, 8] n (fun q lv kv wr => ∃ (k : Nat), q = n - k ∧ k ≤ n ∧ kv = .int .i64 ((f : Int) + (k : Int)) ∧ OwnI wr w.heap.size lv (marks i f k) ∧ Below w.heap.size w wr)
  case atStart => exact ⟨0, rfl, Nat.zero_le _, by simp, World.ownsRow_nil _ _ _ _, Below.refl _ _⟩
  case round =>
    obtain ⟨k, rfl, hk, rfl, hO, hb⟩ := hrel
    by_cases hlt : k < n
    · have q1 : (f : Int) + (k : Int) < (f : Int) + (n : Int) := by omega
      obtain ⟨al, cl, rfl⟩ := row_shape hO
      have hO' : wr.ownsRow w.heap.size 3 1 (.slice al k cl) k (iC (marks i f k)) := by have h1 := hO; unfold OwnI at h1; rw [marks_len] at h1; exact h1
      have hlk : (marks i f k).length = k := marks_len i f k
      rw [hlk]
      have hml : k + 1 ≤ maxLen := by unfold maxLen; omega
      have hby : (k + 1) * 8 ≤ 140737488355328 := by omega
      have w1 : IntKind.i64.wrap (-1000000 * (i : Int)) = -1000000 * (i : Int) := by rw [IntKind.wrap_i64]; omega
      have w2 : IntKind.i64.wrap (-1000000 * (i : Int) - ((f : Int) + (k : Int))) = -1000000 * (i : Int) - ((f : Int) + (k : Int)) := by rw [IntKind.wrap_i64]; omega
      have w3 : IntKind.i64.wrap (-1000000 * (i : Int) - ((f : Int) + (k : Int)) - 7) = -1000000 * (i : Int) - ((f : Int) + (k : Int)) - 7 := by rw [IntKind.wrap_i64]; omega
      have hle : w.heap.size ≤ (wr.alloc (.cells #[.int .i64 (-1000000 * (i : Int) - ((f : Int) + (k : Int)) - 7)] 3)).heap.size := by have := hb.size; simp; omega
      have HO : Hid _ := And.intro hO' hb
      clear hO hO' hlk
      go_wp2_with (at_builtin; refine wpList_append_own_at _ rfl _ _ 57 rfl w.heap.size 3 i0 (.int .i64 0) 1 8 Tryz.underlying57 hi0 hz0 hz1 hz2 rfl (by decide) (.slice al k cl) k (iC (marks i f k)) rfl (HO.out.1.alloc _) ⟨wr.heap.size, 0, none⟩ 1 1 [.int .i64 (-1000000 * (i : Int) - ((f : Int) + (k : Int)) - 7)] rfl rfl (World.news_of_block (cs := #[.int .i64 (-1000000 * (i : Int) - ((f : Int) + (k : Int)) - 7)]) (t := 3) (fr := (0, 0)) (heap_alloc_new wr _)) (one_one _) hml hby hle ?_; intro v2 w2 hown2 hgrow2 hnil2 hat2; have H2 : Hid _ := And.intro hown2 hgrow2; clear hown2 hgrow2 hnil2 hat2)
      have HM : Hid (mk1 i (f + k) = -1000000 * (i : Int) - ((f : Int) + (k : Int)) - 7) := (by unfold mk1; omega : mk1 i (f + k) = -1000000 * (i : Int) - ((f : Int) + (k : Int)) - 7)
      go_roundg (n - (k + 1))
      case measure => omega
      case rel => exact ⟨k + 1, rfl, by omega, by first | go_num | (congr 1; omega), by unfold OwnI; rw [marks_len, marks_succ, iC_snoc, HM.out]; exact H2.out.1, lines_belowI HO.out.1 HO.out.2 H2.out.2⟩
    · obtain rfl : k = n := by omega
      have q1 : ¬ (f : Int) + (k : Int) < (f : Int) + (k : Int) := by omega
      have HO : Hid _ := And.intro hO hb
      clear hO hb
      go_wp2_with fail
      go_ret
      exact ⟨_, rfl, HO.out.1, HO.out.2⟩
end Go.Proofs.YtpmanmoljlhogaaGreatDoor
/- The book with lists of numbers alone: what it holds in memory. -/
namespace Go.Proofs.YtpmanmoljlhogaaGreatDoor
open Go.RowKit Go.Maps
/-- The lists lie apart from each other, from the book and from its row. -/
structure Apt (bk : Nat) (vi : Value) (ls : List Value) : Prop where
  b : ∀ l ∈ ls, l.ownBlock ≠ some bk
  r : ∀ l ∈ ls, ∀ k, l.ownBlock = some k → vi.ownBlock ≠ some k
  rb : vi.ownBlock ≠ some bk
  p : ∀ (i j : Nat) (l m : Value), ls[i]? = some l → ls[j]? = some m → i ≠ j → ∀ k, l.ownBlock = some k → m.ownBlock ≠ some k
/-- The book: its lists of numbers; (The other kinds stand by themselves.) -/
structure Bp (w : World) (bk : Nat) (vi : Value) (ls : List Value) (zss : List (List Int)) : Prop where
  c0 : w.cell? ⟨bk, 0, none⟩ = some vi
  ri : w.ownsRow 0 57 1 vi zss.length ls
  li : ∀ (k : Nat) (l : Value) (zs : List Int), ls[k]? = some l → zss[k]? = some zs → OwnI w 0 l zs
  ap : Apt bk vi ls
  len : zss.length ≤ 400
  sz : ∀ zs ∈ zss, zs.length ≤ 1000000
theorem Bp.ll {w : World} {bk : Nat} {vi : Value} {ls : List Value} {zss : List (List Int)} (h : Bp w bk vi ls zss) : ls.length = zss.length := by
  have := h.ri.1
  rw [Nat.mul_one] at this
  exact this
theorem Bp.below {w w' : World} {bk : Nat} {vi : Value} {ls : List Value} {zss : List (List Int)} (h : Bp w bk vi ls zss) (hb : Below w.heap.size w w') : Bp w' bk vi ls zss :=
  ⟨cell_up h.c0 hb, trow_at h.ri fun i hi => hb.block i (h.ri.lt i hi).2, fun k l zs h1 h2 => trow_at (h.li k l zs h1 h2) fun i hi => hb.block i ((h.li k l zs h1 h2).lt i hi).2, h.ap, h.len, h.sz⟩
/-- A list of the book. -/
theorem Bp.at {w : World} {bk : Nat} {vi : Value} {ls : List Value} {zss : List (List Int)} (h : Bp w bk vi ls zss) {i : Nat} {zs : List Int} (hi : zss[i]? = some zs) : ∃ gi ci l, vi = .slice (some ⟨gi, 0, none⟩) zss.length ci ∧ ls[i]? = some l ∧ w.cell? ⟨gi, i, none⟩ = some l ∧ OwnI w 0 l zs := by
  have hlt := (List.getElem?_eq_some_iff.1 hi).1
  obtain ⟨gi, ci, hv, _, _⟩ := h.ri.form (by omega)
  obtain ⟨l, hl⟩ : ∃ l, ls[i]? = some l := ⟨ls[i]'(by rw [h.ll]; exact hlt), List.getElem?_eq_getElem _⟩
  refine ⟨gi, ci, l, hv, hl, ?_, h.li i l zs hl hi⟩
  have hr := h.ri
  rw [hv] at hr
  rw [hr.cellAt i (by omega), hl]
/-- One cell of one list is turned. -/
theorem Bp.set {w : World} {bk : Nat} {vi : Value} {ls : List Value} {zss : List (List Int)} (h : Bp w bk vi ls zss) {i : Nat} {zs : List Int} {g n c : Nat} (hi : zss[i]? = some zs) (hl : ls[i]? = some (.slice (some ⟨g, 0, none⟩) n c)) (k : Nat) (x : Int) : Bp (w.setCell ⟨g, k, none⟩ (.int .i64 x)) bk vi ls (zss.set i (zs.set k x)) := by
  have hlm := List.mem_of_getElem? hl
  have hbk : bk ≠ g := fun e => h.ap.b _ hlm (by rw [e]; rfl)
  have hcell : ∀ o, (w.setCell ⟨g, k, none⟩ (.int .i64 x)).cell? ⟨bk, o, none⟩ = w.cell? ⟨bk, o, none⟩ := fun o => World.cell?_of_block (set_other _ _ _ _ _ hbk)
  have hO := h.li i _ zs hl hi
  refine ⟨by rw [hcell]; exact h.c0, ?_, fun q l ys h1 h2 => ?_, h.ap, by rw [List.length_set]; exact h.len, fun ys hy => ?_⟩
  · rw [List.length_set]
    exact trow_at h.ri fun j hj => set_other _ _ _ _ _ fun e => h.ap.r _ hlm g rfl (by rw [← e]; exact hj)
  · by_cases hq : q = i
    · subst hq
      rw [hl] at h1
      have e1 := Option.some.inj h1
      rw [List.getElem?_set_self (List.getElem?_eq_some_iff.1 hi).1] at h2
      have e2 := Option.some.inj h2
      subst e1; subst e2
      rcases hO.2 with ⟨e, _⟩ | ⟨g', cap', cur, e, hg, hb, hc, hm, hs, htk⟩
      · cases e
      injection e with e1 e2 e3
      have e4 := Option.some.inj e1
      injection e4 with e5
      subst e5; subst e3
      refine ⟨by simp [iC], .inr ⟨g, c, cur.setIfInBounds k (.int .i64 x), by rw [List.length_set, e2], hg, heap_setCell_same w g k cur _ _ hb, by rw [List.length_set]; exact hc, hm, by simpa using hs, ?_⟩⟩
      rw [Array.toList_setIfInBounds, List.length_set, List.take_set, htk]
      unfold iC
      rw [List.map_set]
    · rw [List.getElem?_set_ne (fun e => hq e.symm)] at h2
      refine trow_at (h.li q l ys h1 h2) fun j hj => set_other _ _ _ _ _ fun e => ?_
      exact h.ap.p i q _ l hl h1 (fun e' => hq e'.symm) g rfl (by rw [← e]; exact hj)
  · rcases List.mem_or_eq_of_mem_set hy with hm | rfl
    · exact h.sz ys hm
    · rw [List.length_set]; exact h.sz zs (List.mem_of_getElem? hi)
/-- The lists as they were, beside. -/
structure Bs (w : World) (bk : Nat) (vi vw : Value) (ls ws : List Value) (zss : List (List Int)) : Prop where
  p : Bp w bk vi ls zss
  c1 : w.cell? ⟨bk, 1, none⟩ = some vw
  rw : w.ownsRow 0 57 1 vw zss.length ws
  lw : ∀ (k : Nat) (l : Value) (zs : List Int), ws[k]? = some l → zss[k]? = some zs → OwnI w 0 l zs
  bt : ∃ cs, w.heap[bk]? = some (.cells cs 40 (0, 0)) ∧ cs.size = 22
  ne : ∀ k, vi.ownBlock = some k → vw.ownBlock ≠ some k
theorem Bs.below {w w' : World} {bk : Nat} {vi vw : Value} {ls ws : List Value} {zss : List (List Int)} (h : Bs w bk vi vw ls ws zss) (hb : Below w.heap.size w w') : Bs w' bk vi vw ls ws zss :=
  ⟨h.p.below hb, cell_up h.c1 hb, trow_at h.rw fun i hi => hb.block i (h.rw.lt i hi).2, fun k l zs h1 h2 => trow_at (h.lw k l zs h1 h2) fun i hi => hb.block i ((h.lw k l zs h1 h2).lt i hi).2, h.bt.imp fun _ hx => ⟨(hb.block bk (t_lt hx.1)).trans hx.1, hx.2⟩, h.ne⟩
theorem Bs.at {w : World} {bk : Nat} {vi vw : Value} {ls ws : List Value} {zss : List (List Int)} (h : Bs w bk vi vw ls ws zss) {i : Nat} {zs : List Int} (hi : zss[i]? = some zs) : ∃ gw cw l, vw = .slice (some ⟨gw, 0, none⟩) zss.length cw ∧ w.cell? ⟨gw, i, none⟩ = some l ∧ OwnI w 0 l zs := by
  have hlt := (List.getElem?_eq_some_iff.1 hi).1
  obtain ⟨gw, cw, hv, _, _⟩ := h.rw.form (by omega)
  have hwl : ws.length = zss.length := by have := h.rw.1; rw [Nat.mul_one] at this; exact this
  obtain ⟨l, hl⟩ : ∃ l, ws[i]? = some l := ⟨ws[i]'(by rw [hwl]; exact hlt), List.getElem?_eq_getElem _⟩
  refine ⟨gw, cw, l, hv, ?_, h.lw i l zs hl hi⟩
  have hr := h.rw
  rw [hv] at hr
  rw [hr.cellAt i (by omega), hl]
end Go.Proofs.YtpmanmoljlhogaaGreatDoor
/- Contract of the book's SameInts. -/
namespace Go.Proofs.YtpmanmoljlhogaaGreatDoor
open Go.RowKit Go.Maps
theorem take_both {α : Type} {a b : List α} {j : Nat} {x : α} (ha : a[j]? = some x) (hb : b[j]? = some x) (h : a.take j = b.take j) : a.take (j + 1) = b.take (j + 1) := by
  rw [take_succ_of ha, take_succ_of hb, h]
theorem eq_len {α : Type} {a b : List α} {n : Nat} (ha : a.length = n) (hb : b.length = n) (h : a.take n = b.take n) : a = b := by
  rw [List.take_of_length_le (by omega), List.take_of_length_le (by omega)] at h
  exact h
set_option maxRecDepth 100000 in
set_option maxHeartbeats 1000000 in
theorem sameInts_b (va vb : Value) (za zb : List Int) (w : World) (hn : za.length ≤ 1000000000000000) (hm : zb.length ≤ 1000000000000000) (hA : HasI w va za) (hB : HasI w vb zb) :
    Calls Tryz.prog 24 #[va, vb] w fun e w' => e = .returned (.bool (za == zb)) ∧ Below w.heap.size w w' := by
  obtain ⟨ao, cap, rfl, hcA⟩ := hA
  obtain ⟨ao', cap', rfl, hcB⟩ := hB
  by_cases hlen : za.length = zb.length
  · obtain ⟨n, hN⟩ : ∃ n, n = za.length := ⟨_, rfl⟩
    have HH : Hid _ := And.intro hcA (And.intro hcB (And.intro hN (hN.trans hlen)))
    rw [← hlen, ← hN]
    rw [← hN] at hn
    clear hcA hcB hN hlen hm
    have q : ((n : Int) != (n : Int)) = false := by simp
    go_enter Tryz.func24, Tryz.ntmps24
    go_wp2
    go_loopg [5] n (fun g i wr => ∃ j m : Nat, g = n - j ∧ j ≤ n ∧ i = .int .i64 j ∧ za.take j = zb.take j ∧ wr = w.drewN m)
    case atStart => exact ⟨0, 0, rfl, Nat.zero_le _, rfl, rfl, rfl⟩
    case round =>
      obtain ⟨j, m, rfl, hj, rfl, heq, rfl⟩ := hrel
      have HQ : Hid _ := heq
      clear heq
      by_cases hlt : j < n
      · obtain ⟨x, hx⟩ : ∃ z, za[j]? = some z := ⟨za[j]'(by have := HH.out.2.2.1; omega), List.getElem?_eq_getElem _⟩
        obtain ⟨y, hy⟩ : ∃ z, zb[j]? = some z := ⟨zb[j]'(by have := HH.out.2.2.2; omega), List.getElem?_eq_getElem _⟩
        obtain ⟨a, rfl, c0⟩ := HH.out.1 j x hx
        obtain ⟨b, rfl, d0⟩ := HH.out.2.1 j y hy
        have q0 : (0 : Int) ≤ (j : Int) := by omega
        have q1 : (j : Int) < (n : Int) := by omega
        by_cases hxy : x = y
        · subst hxy
          have HT : Hid _ := take_both hx hy HQ.out
          clear hx hy
          go_wp2_with fail
          go_quiet (fail)
          go_wp2
          go_roundg (n - (j + 1))
          case measure => omega
          case rel => exact ⟨j + 1, _, rfl, by omega, by go_num, HT.out, by first | rfl | exact World.drewN_drewN _ _ _⟩
        · have e1 : (x == y) = false := by simpa using hxy
          have HF : Hid ((za == zb) = false) := (by
            rw [beq_eq_false_iff_ne]
            rintro rfl
            rw [hx] at hy
            exact hxy (Option.some.inj hy) : (za == zb) = false)
          clear hx hy hxy
          go_wp2_with fail
          go_quiet (fail)
          go_wp2
          go_ret
          exact ⟨by rw [HF.out]; rfl, by first | exact below_drewN (below_drewN (Below.refl _ _) _) _ | exact below_drewN (Below.refl _ _) _⟩
      · obtain rfl : j = n := by omega
        have q1 : ¬ (j : Int) < (j : Int) := by omega
        have HF : Hid ((za == zb) = true) := (by
          rw [beq_iff_eq]
          exact eq_len HH.out.2.2.1.symm HH.out.2.2.2.symm HQ.out : (za == zb) = true)
        go_wp2
        go_ret
        exact ⟨by rw [HF.out]; rfl, below_drewN (Below.refl _ _) _⟩
  · have q : ((za.length : Int) != (zb.length : Int)) = true := by rw [bne_iff_ne]; omega
    have HF : Hid ((za == zb) = false) := (by rw [beq_eq_false_iff_ne]; rintro rfl; exact hlen rfl : (za == zb) = false)
    clear hcA hcB hlen
    go_enter Tryz.func24, Tryz.ntmps24
    go_wp2
    go_ret
    exact ⟨by rw [HF.out]; rfl, Below.refl _ _⟩
end Go.Proofs.YtpmanmoljlhogaaGreatDoor
/- Contracts of the book's stillInts and putInts. -/
namespace Go.Proofs.YtpmanmoljlhogaaGreatDoor
open Go.RowKit Go.Maps
attribute [local go_sem ↓] Go.wp_at_zero Go.wp_at_succ
set_option maxRecDepth 100000 in
set_option maxHeartbeats 4000000 in
theorem still_any (bk : Nat) (vi vw : Value) (ls ws : List Value) (zss : List (List Int)) (w : World) (h : Bs w bk vi vw ls ws zss) :
    Calls Tryz.prog 38 #[.pointer (some ⟨bk, 0, none⟩)] w fun r w' => r = .returned (.bool true) ∧ Below w.heap.size w w' := by
  obtain ⟨ai, ci, rfl⟩ := row_shape h.p.ri
  obtain ⟨n, hn⟩ : ∃ n, n = zss.length := ⟨_, rfl⟩
  have HB : Hid _ := And.intro h (And.intro hn h.p.len)
  have c0 := h.p.c0
  rw [← hn] at c0
  have hnl : n ≤ 400 := by rw [hn]; exact h.p.len
  clear h hn
  go_enter Tryz.func38, Tryz.ntmps38
  go_wp2_with fail
  go_loopg [3] n (fun q iv wr => ∃ (i : Nat), q = n - i ∧ i ≤ n ∧ iv = .int .i64 i ∧ Below w.heap.size w wr)
  case atStart => exact ⟨0, rfl, Nat.zero_le _, rfl, Below.refl _ _⟩
  case round =>
    obtain ⟨i, rfl, hi, rfl, hb⟩ := hrel
    have c0' := cell_up c0 hb
    by_cases hlt : i < n
    · obtain ⟨zs, hz⟩ : ∃ zs, zss[i]? = some zs := ⟨zss[i]'(by have := HB.out.2.1; omega), List.getElem?_eq_getElem _⟩
      have h1 := HB.out.1.below hb
      obtain ⟨gi, ci', l, hv, _, cl, hO⟩ := h1.p.at hz
      obtain ⟨gw, cw, l2, hv2, cl2, hO2⟩ := h1.at hz
      have c1 := h1.c1
      rw [hv2] at c1
      injection hv with e1 e2 e3
      subst e1
      rw [← HB.out.2.1] at c1
      have hzl := h1.p.sz zs (List.mem_of_getElem? hz)
      obtain ⟨a1, k1, rfl⟩ := row_shape hO
      obtain ⟨a2, k2, rfl⟩ := row_shape hO2
      have q0 : (0 : Int) ≤ (i : Int) := by omega
      have q1 : (i : Int) < (n : Int) := by omega
      have hSm := fun W (hw : Below wr.heap.size wr W) => sameInts_b (.slice a1 zs.length k1) (.slice a2 zs.length k2) zs zs W (by omega) (by omega) (hO.has.below hw) (hO2.has.below hw)
      rw [beq_self_eq_true] at hSm
      have HS : Hid _ := hSm
      have HBl : Hid _ := hb
      clear hSm hO hO2 h1 hz hb hzl e2 e3 hv2
      go_upto_region 4 with fail
      go_cut [28] (fun s28 wx => s28 = .bool false ∧ Below w.heap.size w wx)
      case first =>
        go_region_held3 (fun w' => w'.cell? ⟨bk, 0, none⟩ = some (.slice (some ⟨gi, 0, none⟩) n ci) ∧ w'.cell? ⟨gi, i, none⟩ = some (.slice a1 zs.length k1) ∧ w'.cell? ⟨bk, 1, none⟩ = some (.slice (some ⟨gw, 0, none⟩) n cw) ∧ w'.cell? ⟨gw, i, none⟩ = some (.slice a2 zs.length k2)) (go_keep)
          ((first
            | (go_at_call 24; refine (HS.out _ (by repeat (first | exact Below.refl _ _ | assumption | refine Below.drew ?_ | refine Below.setCell ?_ (by simp) _ | refine Below.alloc ?_ (by simp) _))).mono ?_; rintro r8 w8 ⟨rfl, hb8'⟩; have hb8 := below_of_drew3 hb8'; have c0' := cell_up c0' hb8; have cl := cell_up cl hb8; have c1 := cell_up c1 hb8; have cl2 := cell_up cl2 hb8; have H8 : Hid _ := HBl.out.trans (hb8.mono HBl.out.size); clear hb8 hb8' HS)
            | fail))
        all_goals (refine Met.intro ?_; apply_assumption; refine Met.intro ?_; apply_assumption; (repeat apply Exists.intro); refine ⟨?rel, rfl⟩; case rel => exact ⟨rfl, by first | exact H8.out | exact below_drewN H8.out _⟩)
      case rest =>
        obtain ⟨rfl, hb9⟩ := hcut
        have H9 : Hid _ := hb9
        clear hb9 HS c0' cl c1 cl2
        go_wp2_with fail
        go_roundg (n - (i + 1))
        case measure => omega
        case rel => exact ⟨i + 1, rfl, by omega, by go_num, H9.out⟩
    · obtain rfl : i = n := by omega
      have q1 : ¬ (i : Int) < (i : Int) := by omega
      have HBl : Hid _ := hb
      clear hb
      go_wp2_with fail
      go_ret
      exact ⟨rfl, HBl.out⟩
end Go.Proofs.YtpmanmoljlhogaaGreatDoor
/- Contract of the book's putInts. -/
namespace Go.Proofs.YtpmanmoljlhogaaGreatDoor
open Go.RowKit Go.Maps
attribute [local go_sem ↓] Go.wp_at_zero Go.wp_at_succ
/-- A list of which the first k places are marked. -/
def mid (i : Nat) (zs : List Int) (k : Nat) : List Int := marks i 0 k ++ zs.drop k
theorem mid_len (i : Nat) (zs : List Int) {k : Nat} (hk : k ≤ zs.length) : (mid i zs k).length = zs.length := by
  unfold mid
  rw [List.length_append, marks_len, List.length_drop]
  omega
theorem mid_zero (i : Nat) (zs : List Int) : mid i zs 0 = zs := by simp [mid, marks]
theorem mid_full (i : Nat) (zs : List Int) : mid i zs zs.length = marks i 0 zs.length := by simp [mid]
theorem mid_succ (i : Nat) (zs : List Int) {k : Nat} (hk : k < zs.length) : (mid i zs k).set k (mk1 i k) = mid i zs (k + 1) := by
  unfold mid
  rw [List.set_append_right _ _ (by rw [marks_len]; exact Nat.le_refl _), marks_len, Nat.sub_self, marks_succ, List.append_assoc, Nat.zero_add]
  congr 1
  rw [List.drop_eq_getElem_cons hk]
  rfl
/-- All lists ahead of i are marked. -/
structure Mkd (zss yss : List (List Int)) (i : Nat) : Prop where
  len : yss.length = zss.length
  at' : ∀ (k : Nat) (zs : List Int), zss[k]? = some zs → yss[k]? = some (if k < i then marks k 0 zs.length else zs)
theorem Mkd.start (zss : List (List Int)) : Mkd zss zss 0 := ⟨rfl, fun k zs h => by rw [if_neg (by omega)]; exact h⟩
theorem Mkd.next {zss yss : List (List Int)} {i : Nat} {zs : List Int} (h : Mkd zss yss i) (hi : zss[i]? = some zs) : Mkd zss (yss.set i (marks i 0 zs.length)) (i + 1) := by
  refine ⟨by rw [List.length_set]; exact h.len, fun k ys hk => ?_⟩
  have hlt := (List.getElem?_eq_some_iff.1 hi).1
  by_cases e : k = i
  · subst e
    rw [List.getElem?_set_self (by rw [h.len]; exact hlt), if_pos (by omega)]
    rw [hi] at hk
    cases hk
    rfl
  · rw [List.getElem?_set_ne (fun e' => e e'.symm), h.at' k ys hk]
    by_cases h2 : k < i
    · rw [if_pos h2, if_pos (by omega)]
    · rw [if_neg h2, if_neg (by omega)]
/-- The lists' marks. -/
def allM (zss : List (List Int)) : List (List Int) := zss.mapIdx fun k zs => marks k 0 zs.length
theorem Mkd.fin {zss yss : List (List Int)} (h : Mkd zss yss zss.length) : yss = allM zss := by
  apply List.ext_getElem?
  intro k
  unfold allM
  rw [List.getElem?_mapIdx]
  cases e : zss[k]? with
  | none =>
    rw [List.getElem?_eq_none_iff] at e
    rw [List.getElem?_eq_none_iff.2 (by rw [h.len]; exact e)]
    rfl
  | some zs =>
    have hlt := (List.getElem?_eq_some_iff.1 e).1
    rw [h.at' k zs e, if_pos hlt]
    rfl
set_option maxRecDepth 100000 in
set_option maxHeartbeats 8000000 in
theorem putI_any (bk : Nat) (vi : Value) (ls : List Value) (zss : List (List Int)) (w : World) (h : Bp w bk vi ls zss) :
    Calls Tryz.prog 49 #[.pointer (some ⟨bk, 0, none⟩)] w fun r w' => r = .returned (.tuple #[]) ∧ Bp w' bk vi ls (allM zss) ∧ Kept (LsF ls) w w' := by
  obtain ⟨ai, ci, rfl⟩ := row_shape h.ri
  obtain ⟨n, hn⟩ : ∃ n, n = zss.length := ⟨_, rfl⟩
  have hnl : n ≤ 400 := by rw [hn]; exact h.len
  have HB : Hid _ := And.intro h hn
  have HZ : Hid (n = zss.length) := hn
  rw [← hn]
  clear h hn
  go_enter Tryz.func49, Tryz.ntmps49
  go_wp2_with fail
  go_loopg [2] n (fun q iv wr => ∃ (i : Nat) (yss : List (List Int)), q = n - i ∧ i ≤ n ∧ iv = .int .i64 i ∧ Mkd zss yss i ∧ Bp wr bk (.slice ai n ci) ls yss ∧ Kept (LsF ls) w wr)
  case atStart => exact ⟨0, zss, rfl, Nat.zero_le _, rfl, Mkd.start _, by have h1 := HB.out.1; rw [← HZ.out] at h1; exact h1, Kept.refl _ _⟩
  case round =>
    obtain ⟨i, yss, rfl, hi, rfl, hM, hP, hK⟩ := hrel
    clear HB
    obtain ⟨wq, rfl⟩ : ∃ wq, wq = wr := ⟨_, rfl⟩
    have c0 := hP.c0
    by_cases hlt : i < n
    · obtain ⟨zs, hz⟩ : ∃ zs, zss[i]? = some zs := ⟨zss[i]'(by have := HZ.out; omega), List.getElem?_eq_getElem _⟩
      have hy : yss[i]? = some zs := by rw [hM.at' i zs hz, if_neg (by omega)]
      obtain ⟨gi, ci', l, hv, hl, cl, hO⟩ := hP.at hy
      injection hv with e1 e2 e3
      subst e1
      have hzl := hP.sz zs (List.mem_of_getElem? hy)
      obtain ⟨a1, k1, rfl⟩ := row_shape hO
      have q0 : (0 : Int) ≤ (i : Int) := by omega
      have q1 : (i : Int) < (n : Int) := by omega
      have HMk : Hid _ := mark_any i 0 zs.length wq (by omega) (by omega)
      have HI : Hid _ := And.intro hM (And.intro hP (And.intro hK (And.intro hz (And.intro hy hl))))
      clear hM hP hK hz hy hl hO e2 e3
      go_wp2_with fail
      refine Calls.mono HMk.out ?_
      rintro r w2 ⟨vm, rfl, hOm, hb2⟩
      obtain ⟨am, km, rfl⟩ := row_shape hOm
      have hml : (marks i 0 zs.length).length = zs.length := marks_len _ _ _
      rw [hml]
      have hOm' : w2.ownsRow wq.heap.size 3 1 (.slice am zs.length km) zs.length (iC (marks i 0 zs.length)) := by have h1 := hOm; unfold OwnI at h1; rw [hml] at h1; exact h1
      have H2 : Hid _ := And.intro hOm' (And.intro hb2 (HI.out.2.1.below hb2))
      obtain ⟨N, hN⟩ : ∃ N, N = zs.length := ⟨_, rfl⟩
      have HNz : Hid (N = zs.length) := hN
      rw [← hN] at hzl ⊢
      clear hOm hOm' hb2 hml hN HMk c0 cl
      go_wp2_with fail
      go_loopg [4] N (fun q kv wr => ∃ (k : Nat), q = N - k ∧ k ≤ N ∧ kv = .int .i64 k ∧ Bp wr bk (.slice (some ⟨gi, 0, none⟩) n ci) ls (yss.set i (mid i zs k)) ∧ Kept (fun b => (Value.slice a1 zs.length k1).ownBlock = some b) w2 wr)
      case atStart => exact ⟨0, rfl, Nat.zero_le _, rfl, by rw [mid_zero, set_same HI.out.2.2.2.2.1]; exact H2.out.2.2, Kept.refl _ _⟩
      case round =>
        obtain ⟨k, rfl, hk, rfl, hPk, hKk⟩ := hrel
        have hyl : i < yss.length := by have h1 := HI.out.1.len; have h2 := HZ.out; omega
        have hyk : (yss.set i (mid i zs k))[i]? = some (mid i zs k) := List.getElem?_set_self hyl
        have c0 := hPk.c0
        by_cases hkl : k < N
        · obtain ⟨gi', ci'', l', hv', hl', cl', hO'⟩ := hPk.at hyk
          injection hv' with e1 en1 en2
          clear en1 en2
          have e1 := Option.some.inj e1
          injection e1 with e1
          subst e1
          rw [HI.out.2.2.2.2.2] at hl'
          have e2 := Option.some.inj hl'
          subst e2
          have hmidl : (mid i zs k).length = zs.length := mid_len i zs (by have := HNz.out; omega)
          obtain ⟨g, cg, hf, _, hgl⟩ := World.ownsRow.form hO' (by rw [hmidl]; have := HNz.out; omega)
          injection hf with e3 en3 e4
          clear en3
          subst e3; subst e4
          obtain ⟨gm, cm, hfm, hgm, _⟩ := World.ownsRow.form H2.out.1 (by have := HNz.out; omega)
          injection hfm with e5 en5 e6
          clear en5
          subst e5; subst e6
          have hgq : g < wq.heap.size := ((HI.out.2.1.li i _ zs HI.out.2.2.2.2.2 HI.out.2.2.2.2.1).lt g rfl).2
          have cM : wr.cell? ⟨gm, k, none⟩ = some (.int .i64 (mk1 i k)) := by
            have h1 : w2.cell? ⟨gm, k, none⟩ = some (.int .i64 (mk1 i k)) := by
              rw [World.ownsRow.cellAt H2.out.1 k (by have := HNz.out; omega)]
              unfold iC
              rw [List.getElem?_map, marks_at (by have := HNz.out; omega), Nat.zero_add]
              rfl
            rw [World.cell?_of_block (a := ⟨gm, k, none⟩) (hKk.block gm (World.block_lt_of_cell? w2 _ h1) (fun e => by have h9 := Option.some.inj e; simp at h9; omega))]
            exact h1
          obtain ⟨z0, hz0⟩ : ∃ z0, (mid i zs k)[k]? = some z0 := ⟨(mid i zs k)[k]'(by rw [hmidl]; have := HNz.out; omega), List.getElem?_eq_getElem _⟩
          have cG := OwnI.cell hO' hz0
          obtain ⟨cc, hcc⟩ := row_cells hO' (i := g) rfl
          have cF := blk_free hcc k
          have q2 : (0 : Int) ≤ (k : Int) := by omega
          have q3 : (k : Int) < (N : Int) := by omega
          have hset := hPk.set hyk HI.out.2.2.2.2.2 k (mk1 i k)
          rw [List.set_set, mid_succ i zs (by have := HNz.out; omega)] at hset
          have HJ : Hid _ := And.intro hset (hKk.trans ((Kept.setCell wr g k (.int .i64 (mk1 i k))).mono fun b _ hb => by subst hb; rfl))
          clear hset hPk hKk hyk hO' hl' hz0 hcc hmidl hgl
          rw [← HNz.out] at cl'
          go_upto_region 7 with fail
          go_region
          all_goals
            go_wp2_with fail
            go_roundg (N - (k + 1))
            case measure => omega
            case rel => exact ⟨k + 1, rfl, by omega, by go_num, by first | exact HJ.out.1 | exact HJ.out.1.below ((Below.refl _ _).drew), by first | exact HJ.out.2 | exact HJ.out.2.trans (.of_below ((Below.refl _ _).drew))⟩
        · obtain rfl : k = N := by omega
          have q3 : ¬ (k : Int) < (k : Int) := by omega
          have hfull : mid i zs k = marks i 0 zs.length := by rw [HNz.out]; exact mid_full i zs
          rw [hfull] at hPk
          have hKw : Kept (LsF ls) w wr := (HI.out.2.2.1.trans (.of_below H2.out.2.1)).trans (hKk.mono fun b _ hb => ⟨_, List.mem_of_getElem? HI.out.2.2.2.2.2, hb⟩)
          have HJ : Hid _ := And.intro hPk (And.intro hKw (HI.out.1.next HI.out.2.2.2.1))
          clear hPk hKk hyk hfull hKw
          go_wp2_with fail
          go_roundg (n - (i + 1))
          case measure => omega
          case rel => exact ⟨i + 1, _, rfl, by omega, by go_num, HJ.out.2.2, HJ.out.1, HJ.out.2.1⟩
    · obtain rfl : i = n := by omega
      have q1 : ¬ (i : Int) < (i : Int) := by omega
      have hMf : Mkd zss yss zss.length := by rw [← HZ.out]; exact hM
      have hP' := hP
      rw [hMf.fin] at hP'
      have HJ : Hid _ := And.intro hP' hK
      clear hP' hP hK hM hMf
      go_wp2_with fail
      go_end0
      exact ⟨rfl, HJ.out.1, HJ.out.2⟩
end Go.Proofs.YtpmanmoljlhogaaGreatDoor
/- Contract of the book's markedInts. -/
namespace Go.Proofs.YtpmanmoljlhogaaGreatDoor
open Go.RowKit Go.Maps
attribute [local go_sem ↓] Go.wp_at_zero Go.wp_at_succ
/-- A row of lists, each with its marks. -/
structure Mr (w : World) (v : Value) (ns : List Nat) : Prop where
  ex : ∃ ao cap, v = .slice ao ns.length cap ∧ ∀ (k n : Nat), ns[k]? = some n → ∃ a l, ao = some a ∧ w.cell? (a.add k) = some l ∧ HasI w l (marks k 0 n)
theorem Mr.below {w w' : World} {v : Value} {ns : List Nat} (h : Mr w v ns) (hb : Below w.heap.size w w') : Mr w' v ns := by
  obtain ⟨ao, cap, hv, h1⟩ := h.ex
  refine ⟨ao, cap, hv, fun k n hk => ?_⟩
  obtain ⟨a, l, ha, hc, hl⟩ := h1 k n hk
  exact ⟨a, l, ha, (hb.cell (World.block_lt_of_cell? w _ hc)).trans hc, hl.below hb⟩
set_option maxRecDepth 100000 in
set_option maxHeartbeats 4000000 in
theorem markedI_any (v : Value) (ns : List Nat) (w : World) (h : Mr w v ns) (hl : ns.length ≤ 400) (hs : ∀ n ∈ ns, n ≤ 2000000) :
    Calls Tryz.prog 71 #[v] w fun r w' => r = .returned (.bool true) ∧ Below w.heap.size w w' := by
  obtain ⟨ao, cap, rfl, _⟩ := h.ex
  obtain ⟨n, hn⟩ : ∃ n, n = ns.length := ⟨_, rfl⟩
  have HM : Hid _ := And.intro h (And.intro hs hn)
  rw [← hn] at hl ⊢
  clear h hs hn
  go_enter Tryz.func71, Tryz.ntmps71
  go_wp2_with fail
  go_loopg [3] n (fun q iv wr => ∃ (i : Nat), q = n - i ∧ i ≤ n ∧ iv = .int .i64 i ∧ Below w.heap.size w wr)
  case atStart => exact ⟨0, rfl, Nat.zero_le _, rfl, Below.refl _ _⟩
  case round =>
    obtain ⟨i, rfl, hi, rfl, hb⟩ := hrel
    by_cases hlt : i < n
    · obtain ⟨N, hN⟩ : ∃ N, ns[i]? = some N := ⟨ns[i]'(by have := HM.out.2.2; omega), List.getElem?_eq_getElem _⟩
      obtain ⟨ao', cap', hv, h1⟩ := (HM.out.1.below hb).ex
      injection hv with e1 e2 e3
      subst e1
      obtain ⟨a, l, rfl, cl, hL⟩ := h1 i N hN
      have hN2 := HM.out.2.1 N (List.mem_of_getElem? hN)
      obtain ⟨al, kl, hlv, _⟩ := _root_.id hL
      rw [marks_len] at hlv
      subst hlv
      have q0 : (0 : Int) ≤ (i : Int) := by omega
      have q1 : (i : Int) < (n : Int) := by omega
      have hMk := fun W => mark_any i 0 N W (by omega) (by omega)
      have HK : Hid _ := And.intro hMk (And.intro hL hb)
      clear hMk hL hb h1 hN e2 e3
      go_upto_region 4 with fail
      go_cut [22] (fun s22 wx => s22 = .bool false ∧ Below w.heap.size w wx)
      case first =>
        go_region_held3 (fun w' => w'.cell? (a.add i) = some (.slice al N kl)) (go_keep)
          ((first
            | (go_at_call 108; refine (HK.out.1 _).mono ?_; rintro r8 w8 ⟨v8, rfl, hO8, hb8'⟩; have hb8 := below_of_drew3 hb8'; have cl := (hb8.cell (World.block_lt_of_cell? _ _ cl)).trans cl; have hL8 := HK.out.2.1.below hb8; have hS8 := sameInts_b (.slice al N kl) v8 (marks i 0 N) (marks i 0 N) w8 (by rw [marks_len]; omega) (by rw [marks_len]; omega) hL8 hO8.has; rw [beq_self_eq_true] at hS8; have H8 : Hid _ := And.intro hS8 (HK.out.2.2.trans (hb8.mono HK.out.2.2.size)); clear hb8 hb8' hO8 hL8 hS8)
            | (go_at_call 24; refine (Calls.mono H8.out.1 ?_); rintro r9 w9 ⟨rfl, hb9⟩; have cl := (hb9.cell (World.block_lt_of_cell? _ _ cl)).trans cl; have H9 : Hid _ := H8.out.2.trans (hb9.mono H8.out.2.size); clear hb9)
            | fail))
        all_goals (refine Met.intro ?_; apply_assumption; refine Met.intro ?_; apply_assumption; (repeat apply Exists.intro); refine ⟨?rel, rfl⟩; case rel => exact ⟨rfl, by first | exact H9.out | exact below_drewN H9.out _⟩)
      case rest =>
        obtain ⟨rfl, hb9⟩ := hcut
        have H9 : Hid _ := hb9
        clear hb9 cl
        go_wp2_with fail
        go_roundg (n - (i + 1))
        case measure => omega
        case rel => exact ⟨i + 1, rfl, by omega, by go_num, H9.out⟩
    · obtain rfl : i = n := by omega
      have q1 : ¬ (i : Int) < (i : Int) := by omega
      have HBl : Hid _ := hb
      clear hb
      go_wp2_with fail
      go_ret
      exact ⟨rfl, HBl.out⟩
end Go.Proofs.YtpmanmoljlhogaaGreatDoor
/- What stands while the book's growInts goes on. -/
namespace Go.Proofs.YtpmanmoljlhogaaGreatDoor
open Go.RowKit Go.Maps
/-- The lists, those that have grown and those that have not. -/
structure GrI (w wr : World) (bk : Nat) (vi : Value) (ls : List Value) (zss : List (List Int)) (i : Nat) (vo : Value) (os : List Value) : Prop where
  c0 : wr.cell? ⟨bk, 0, none⟩ = some vi
  ri : wr.ownsRow 0 57 1 vi zss.length ls
  todo : ∀ (k : Nat) (l : Value) (zs : List Int), i ≤ k → ls[k]? = some l → zss[k]? = some zs → OwnI wr 0 l zs
  done : ∀ (k : Nat) (l : Value) (zs : List Int), k < i → ls[k]? = some l → zss[k]? = some zs → HasI wr l zs ∧ ∃ o, os[k]? = some o ∧ HasI wr o (zs ++ marks k zs.length 96) ∧ (o.ownBlock = l.ownBlock ∨ ∀ b, o.ownBlock = some b → w.heap.size ≤ b) ∧ ∀ b, o.ownBlock = some b → vo.ownBlock ≠ some b
  row : wr.ownsRow w.heap.size 57 1 vo i os
  kp : Kept (LsF ls) w wr
/-- What does not turn meanwhile. -/
structure Gs (w : World) (bk : Nat) (vi : Value) (ls : List Value) : Prop where
  ap : Apt bk vi ls
  bk : bk < w.heap.size
  vi : ∀ b, vi.ownBlock = some b → b < w.heap.size
  ls : ∀ l ∈ ls, ∀ b, l.ownBlock = some b → b < w.heap.size
theorem gr_start {w : World} {bk : Nat} {vi : Value} {ls : List Value} {zss : List (List Int)} (h : Bp w bk vi ls zss) : GrI w w bk vi ls zss 0 (.slice none 0 0) [] ∧ Gs w bk vi ls := by
  refine ⟨⟨h.c0, h.ri, fun k l zs _ h1 h2 => h.li k l zs h1 h2, fun k l zs hk => by omega, World.ownsRow_nil _ _ _ _, Kept.refl _ _⟩, ⟨h.ap, World.block_lt_of_cell? w _ h.c0, fun b hb => (h.ri.lt b hb).2, fun l hl b hb => ?_⟩⟩
  obtain ⟨k, hk, rfl⟩ := List.getElem_of_mem hl
  have hz : zss[k]? = some (zss[k]'(by rw [← h.ll]; exact hk)) := List.getElem?_eq_getElem _
  exact ((h.li k _ _ (List.getElem?_eq_getElem hk) hz).lt b hb).2
/-- Inside a round: the list's own block alone may have turned, and what is new. -/
structure Gm (wq wr : World) (l : Value) (zs : List Int) (i : Nat) (lv : Value) (m : Nat) : Prop where
  kp : Kept (fun b => l.ownBlock = some b) wq wr
  has : HasI wr l zs
  own : OwnI wr 0 lv (zs ++ marks i zs.length m)
  at' : lv.ownBlock = l.ownBlock ∨ ∀ b, lv.ownBlock = some b → wq.heap.size ≤ b
theorem gm_start {wq : World} {l : Value} {zs : List Int} (i : Nat) (h : OwnI wq 0 l zs) : Gm wq wq l zs i l 0 :=
  ⟨Kept.refl _ _, h.has, by simpa [marks] using h, .inl rfl⟩
theorem Gm.below {wq wr w' : World} {l : Value} {zs : List Int} {i : Nat} {lv : Value} {m : Nat} (h : Gm wq wr l zs i lv m) (hb : Below wr.heap.size wr w') : Gm wq w' l zs i lv m :=
  ⟨h.kp.trans (.of_below hb), h.has.below hb, trow_at h.own fun k hk => hb.block k (h.own.lt k hk).2, h.at'⟩
/-- A list with a prefix, read at the prefix's own length. -/
theorem has_prefix {w : World} {l lv : Value} {zs ys : List Int} (hl : ∃ c, l = .slice (match l with | .slice a _ _ => a | _ => none) zs.length c) (ho : OwnI w 0 lv (zs ++ ys)) (he : lv.ownBlock = l.ownBlock) (hlf : zs ≠ [] → ∃ g c, l = .slice (some ⟨g, 0, none⟩) zs.length c) (h0 : zs = [] → HasI w l zs) : HasI w l zs := by
  by_cases hz : zs = []
  · exact h0 hz
  obtain ⟨g, c, rfl⟩ := hlf hz
  refine ⟨_, c, rfl, fun j z hj => ⟨_, rfl, ?_⟩⟩
  have hlt := (List.getElem?_eq_some_iff.1 hj).1
  obtain ⟨g2, c2, rfl, _, _⟩ := World.ownsRow.form ho (by rw [List.length_append]; omega)
  have hg : g2 = g := by have h1 := he; simp [Value.ownBlock] at h1; exact h1
  subst hg
  rw [addz]
  exact OwnI.cell ho (by rw [List.getElem?_append_left hlt]; exact hj)
/-- The next marks are appended. -/
theorem Gm.app {wq wr w' : World} {l : Value} {zs : List Int} {i : Nat} {lv lv' : Value} {m d : Nat} (h : Gm wq wr l zs i lv m) (hO : OwnI wq 0 l zs) (hn : w'.ownsRow 0 3 1 lv' ((zs ++ marks i zs.length m).length + d) (iC (zs ++ marks i zs.length m) ++ iC (marks i (zs.length + m) d)))
    (hk : (lv'.ownBlock = lv.ownBlock ∧ wr.grownBy w' lv.ownBlock) ∨ ((∀ k, lv'.ownBlock = some k → wr.heap.size ≤ k) ∧ wr.grownBy w' none)) : Gm wq w' l zs i lv' (m + d) := by
  have e1 : zs ++ marks i zs.length (m + d) = (zs ++ marks i zs.length m) ++ marks i (zs.length + m) d := by rw [List.append_assoc, marks_add]
  have hown : OwnI w' 0 lv' (zs ++ marks i zs.length (m + d)) := by
    have e2 : ((zs ++ marks i zs.length m) ++ marks i (zs.length + m) d).length = (zs ++ marks i zs.length m).length + d := by rw [List.length_append, marks_len i (zs.length + m) d]
    have e3 : iC ((zs ++ marks i zs.length m) ++ marks i (zs.length + m) d) = iC (zs ++ marks i zs.length m) ++ iC (marks i (zs.length + m) d) := by unfold iC; rw [List.map_append]
    unfold OwnI
    rw [e1, e2, e3]
    exact hn
  rcases hk with ⟨h1, h2⟩ | ⟨h1, h2⟩
  · have hkk : Kept (fun b => l.ownBlock = some b) wq w' := by
      refine h.kp.trans2 (Kept.of_grown h2) fun b hb => ?_
      rcases h.at' with e | e
      · exact .inl (by rw [← e]; exact hb)
      · exact .inr (e b hb)
    refine ⟨hkk, ?_, hown, ?_⟩
    · rcases h.at' with e | e
      · obtain ⟨al, cl, hlv⟩ := row_shape hO
        refine has_prefix ⟨cl, by rw [hlv]⟩ hown (h1.trans e) (fun hz => ?_) (fun hz => ?_)
        · obtain ⟨g, c, hf, _, _⟩ := World.ownsRow.form hO (List.length_pos_iff.2 hz)
          exact ⟨g, c, hf⟩
        · subst hz; rw [hlv]; exact ⟨al, cl, rfl, fun j z hj => by simp at hj⟩
      · exact h.has.kept (Kept.of_grown h2) fun hz b hb hf => by
          have h3 := e b hf
          have h4 := made_far hO.has hz hb
          omega
    · rcases h.at' with e | e
      · exact .inl (h1.trans e)
      · exact .inr fun b hb => e b (by rw [← h1]; exact hb)
  · refine ⟨h.kp.trans ((Kept.of_grown h2).mono fun b _ hb => by cases hb), h.has.kept (Kept.of_grown h2) fun _ b _ hf => (by cases hf), hown, .inr fun b hb => ?_⟩
    have := h1 b hb
    have := h.kp.size
    omega
/-- The round's end: the list has grown, and stands in the row of those that have. -/
theorem GrI.next {w wq wr w' : World} {bk : Nat} {vi : Value} {ls : List Value} {zss : List (List Int)} {i : Nat} {vo vo' : Value} {os : List Value} {l lv : Value} {zs : List Int} (h : GrI w wq bk vi ls zss i vo os) (hs : Gs w bk vi ls) (hl : ls[i]? = some l) (hz : zss[i]? = some zs) (hm : Gm wq wr l zs i lv 96)
    (hr : w'.ownsRow w.heap.size 57 1 vo' (i + 1) (os ++ [lv])) (hg : wr.grownBy w' vo.ownBlock) (hat : vo'.ownBlock = vo.ownBlock ∨ ∀ b, vo'.ownBlock = some b → wr.heap.size ≤ b) : GrI w w' bk vi ls zss (i + 1) vo' (os ++ [lv]) := by
  have hlm := List.mem_of_getElem? hl
  have hO := h.todo i l zs (Nat.le_refl _) hl hz
  have hvo : ∀ b, vo.ownBlock = some b → w.heap.size ≤ b ∧ b < wq.heap.size := fun b hb => h.row.lt b hb
  -- a block below w that is not the list's own stands
  have hst : ∀ b, b < w.heap.size → l.ownBlock ≠ some b → w'.heap[b]? = wq.heap[b]? := fun b hb hn => by
    have h1 := h.kp.size
    have h2 := hm.kp.size
    rw [hg.block b (by omega) (fun e => by have := (hvo b e.symm).1; omega)]
    exact hm.kp.block b (by omega) hn
  have hst2 : ∀ b, b < wq.heap.size → l.ownBlock ≠ some b → vo.ownBlock ≠ some b → w'.heap[b]? = wq.heap[b]? := fun b hb hn hn2 => by
    have h2 := hm.kp.size
    rw [hg.block b (by omega) (fun e => hn2 e.symm)]
    exact hm.kp.block b hb hn
  have hKw : Kept (LsF ls) w w' := by
    refine (h.kp.trans (hm.kp.mono fun b _ hb => ⟨l, hlm, hb⟩)).trans2 (Kept.of_grown hg) fun b hb => .inr (hvo b hb).1
  have hK2 : Kept (fun b => l.ownBlock = some b ∨ vo.ownBlock = some b) wq w' := (hm.kp.mono fun b _ hb => .inl hb).trans ((Kept.of_grown hg).mono fun b _ hb => .inr hb)
  have hlen : os.length = i := by have := h.row.1; rw [Nat.mul_one] at this; exact this
  refine ⟨?_, trow_at h.ri fun b hb => hst b (hs.vi b hb) (fun e => hs.ap.r l hlm b e hb), fun k l2 zs2 hk h1 h2 => ?_, fun k l2 zs2 hk h1 h2 => ?_, hr, hKw⟩
  · rw [World.cell?_of_block (a := ⟨bk, 0, none⟩) (hst bk hs.bk (hs.ap.b l hlm))]; exact h.c0
  · exact trow_at (h.todo k l2 zs2 (by omega) h1 h2) fun b hb => hst b (hs.ls l2 (List.mem_of_getElem? h1) b hb) fun e => hs.ap.p i k l l2 hl h1 (by omega) b e hb
  · by_cases e : k = i
    · subst e
      rw [hl] at h1; rw [hz] at h2
      cases h1; cases h2
      have hvn : ∀ b, lv.ownBlock = some b → vo.ownBlock ≠ some b := fun b hb hv => by
        have h3 := hvo b hv
        rcases hm.at' with e | e
        · rw [e] at hb; have := hs.ls l hlm b hb; omega
        · have := e b hb; omega
      have hO' := trow_at (w' := w') hm.own fun b hb => hg.block b (hm.own.lt b hb).2 fun e => hvn b hb e.symm
      refine ⟨hm.has.kept (Kept.of_grown hg) fun hz b hb hf => ?_, lv, ?_, OwnI.has hO', ?_, fun b hb hv => ?_⟩
      · have := hs.ls l hlm b hb; have := (hvo b hf).1; omega
      · rw [List.getElem?_append_right (by omega), hlen, Nat.sub_self]; rfl
      · rcases hm.at' with e | e
        · exact .inl e
        · exact .inr fun b hb => by have := e b hb; have := h.kp.size; omega
      · rcases hat with e | e
        · rw [e] at hv; exact hvn b hb hv
        · have h3 := e b hv
          have := (hm.own.lt b hb).2
          omega
    · obtain ⟨d1, o, d2, d3, d4, d5⟩ := h.done k l2 zs2 (by omega) h1 h2
      have hne : ∀ b, l2.ownBlock = some b → l.ownBlock ≠ some b := fun b hb e' => hs.ap.p i k l l2 hl h1 (fun e9 => e e9.symm) b e' hb
      refine ⟨?_, o, by rw [List.getElem?_append_left (by omega)]; exact d2, ?_, d4, fun b hb hv => ?_⟩
      · exact d1.kept hK2 fun _ b hb hf => hf.elim (hne b hb) fun hv => by
          have h3 := hs.ls l2 (List.mem_of_getElem? h1) b hb
          have h4 := (hvo b hv).1
          omega
      · exact d3.kept hK2 fun _ b hb hf => hf.elim (fun hv => by
          rcases d4 with e9 | e9
          · rw [e9] at hb; exact hne b hb hv
          · have h3 := e9 b hb
            have h4 := hs.ls l hlm b hv
            omega) (d5 b hb)
      · rcases hat with e9 | e9
        · rw [e9] at hv; exact d5 b hb hv
        · have h3 := e9 b hv
          have h4 := made_far d3 (fun e8 => by have h5 := congrArg List.length e8; rw [List.length_append, marks_len] at h5; simp at h5) hb
          have h5 := hm.kp.size
          omega
end Go.Proofs.YtpmanmoljlhogaaGreatDoor
/- Contract of the book's growInts. -/
namespace Go.Proofs.YtpmanmoljlhogaaGreatDoor
open Go.RowKit Go.Maps
attribute [local go_sem ↓] Go.wp_at_zero Go.wp_at_succ
theorem Tryz.infoRowI : (Tryz.prog.info? 57).map (fun i => (i.zero, i.size, i.bytes)) = some (some (.slice none 0 0), 1, 24) := by kernel_rfl
set_option maxRecDepth 100000 in
set_option maxHeartbeats 8000000 in
theorem growI_any (bk : Nat) (vi : Value) (ls : List Value) (zss : List (List Int)) (w : World) (h : Bp w bk vi ls zss) :
    Calls Tryz.prog 60 #[.pointer (some ⟨bk, 0, none⟩)] w fun r w' => ∃ vo os, r = .returned vo ∧ GrI w w' bk vi ls zss zss.length vo os := by
  obtain ⟨i0, hi0, hz0, hz1, hz2⟩ := info_parts Tryz.infoI3
  obtain ⟨j0, hj0, hy0, hy1, hy2⟩ := info_parts Tryz.infoRowI
  obtain ⟨ai, ci, rfl⟩ := row_shape h.ri
  obtain ⟨n, hn⟩ : ∃ n, n = zss.length := ⟨_, rfl⟩
  have hnl : n ≤ 400 := by rw [hn]; exact h.len
  have h2 := gr_start h
  rw [← hn] at h2 ⊢
  have HS : Hid _ := And.intro h2.2 (And.intro hn h.sz)
  have HR : Hid _ := h2.1
  clear h hn h2
  go_enter Tryz.func60, Tryz.ntmps60
  go_wp2_with fail
  go_loopg [3, 4] n (fun q ov iv wr => ∃ (i : Nat) (os : List Value), q = n - i ∧ i ≤ n ∧ iv = .int .i64 i ∧ GrI w wr bk (.slice ai n ci) ls zss i ov os)
  case atStart => exact ⟨0, [], rfl, Nat.zero_le _, rfl, HR.out⟩
  case round =>
    obtain ⟨i, os, rfl, hi, rfl, hG⟩ := hrel
    clear HR
    obtain ⟨wq, rfl⟩ : ∃ wq, wq = wr := ⟨_, rfl⟩
    have c0 := hG.c0
    by_cases hlt : i < n
    · obtain ⟨zs, hz⟩ : ∃ zs, zss[i]? = some zs := ⟨zss[i]'(by have := HS.out.2.1; omega), List.getElem?_eq_getElem _⟩
      have hri := hG.ri
      rw [← HS.out.2.1] at hri
      have hll : ls.length = n := by have := hri.1; rw [Nat.mul_one] at this; exact this
      obtain ⟨l, hl⟩ : ∃ l, ls[i]? = some l := ⟨ls[i]'(by omega), List.getElem?_eq_getElem _⟩
      obtain ⟨gi, cgi, hv, _, _⟩ := World.ownsRow.form hri (by omega)
      injection hv with e1 e2 e3
      subst e1; subst e3
      clear e2
      have cl : wq.cell? ⟨gi, i, none⟩ = some l := by rw [hri.cellAt i (by omega), hl]
      have hO := hG.todo i l zs (Nat.le_refl _) hl hz
      have hzl := HS.out.2.2 zs (List.mem_of_getElem? hz)
      obtain ⟨al, kl, rfl⟩ := row_shape hO
      obtain ⟨ao, ko, rfl⟩ := row_shape hG.row
      have q0 : (0 : Int) ≤ (i : Int) := by omega
      have q1 : (i : Int) < (n : Int) := by omega
      have HG : Hid _ := And.intro hG (And.intro hO (And.intro hl hz))
      clear hG hO hl hz hri
      go_wp2_with fail
      go_loopg [5, 6] 16 (fun q lv nv wr => ∃ (m : Nat), q = 16 - m ∧ m ≤ 16 ∧ nv = .int .i64 m ∧ Gm wq wr (.slice al zs.length kl) zs i lv m)
      case atStart => exact ⟨0, rfl, Nat.zero_le _, rfl, gm_start i HG.out.2.1⟩
      case round =>
        obtain ⟨m, rfl, hm, rfl, hM⟩ := hrel
        obtain ⟨ay, ky, hys⟩ := row_shape hM.own
        have hyl : (zs ++ marks i zs.length m).length = zs.length + m := by rw [List.length_append, marks_len]
        rw [hyl] at hys
        subst hys
        obtain ⟨N, hN⟩ : ∃ N, N = zs.length + m := ⟨_, rfl⟩
        by_cases hmt : m < 16
        · have p1 : (m : Int) < 16 := by omega
          have hMk := fun W => mark_any i N 1 W (by omega) (by omega)
          rw [← hN] at hM
          have HM : Hid _ := And.intro hM (And.intro hMk (And.intro hyl hN))
          rw [← hN]
          have hN1 : N + 1 ≤ maxLen := by unfold maxLen; omega
          have hN8 : (N + 1) * 8 ≤ 140737488355328 := by omega
          clear hM hMk hyl hN
          go_wp2_with (first
            | (go_at_call 108; refine (HM.out.2.1 _).mono ?_; rintro r8 w8 ⟨v8, rfl, hO8, hb8⟩; obtain ⟨g8, c8, rfl, _, _⟩ := World.ownsRow.form hO8 (by rw [marks_len]; omega); rw [marks_len]; have hM8 := HM.out.1.below hb8; have hown8 : w8.ownsRow 0 3 1 (.slice ay N ky) N (iC (zs ++ marks i zs.length m)) := (by have h9 := hM8.own; unfold OwnI at h9; rw [HM.out.2.2.1, ← HM.out.2.2.2] at h9; exact h9); have H8 : Hid _ := And.intro hown8 (And.intro hO8 hM8); clear hb8 hO8 hM8 hown8)
            | (at_builtin; refine wpList_append_keep _ rfl _ _ 57 rfl 0 3 i0 (.int .i64 0) 1 8 Tryz.underlying57 hi0 hz0 hz1 hz2 rfl (by decide) (.slice ay N ky) N (iC (zs ++ marks i zs.length m)) rfl H8.out.1 ⟨g8, 0, none⟩ 1 c8 (iC (marks i N 1)) rfl (by rw [iC_length, marks_len]) (fun j u hj => by rw [addz, World.ownsRow.cellAt H8.out.2.1 j (by rw [← H8.out.2.1.1]; exact (List.getElem?_eq_some_iff.1 hj).1)]; exact hj) (iC_one _) hN1 hN8 (Nat.zero_le _) ?_; intro v2 w2 hown2 hk2; have H2 : Hid _ := And.intro hown2 hk2; clear hown2 hk2)
            | fail)
          have hgm : Gm wq w2 (.slice al zs.length kl) zs i v2 (m + 1) := Gm.app H8.out.2.2 HG.out.2.1 (by rw [HM.out.2.2.1, ← HM.out.2.2.2]; exact H2.out.1) H2.out.2
          have H3 : Hid _ := hgm
          clear hgm
          go_roundg (16 - (m + 1))
          case measure => omega
          case rel => exact ⟨m + 1, rfl, by omega, by go_num, H3.out⟩
        · obtain rfl : m = 16 := by omega
          have p1 : ¬ (16 : Int) < 16 := by omega
          have hMk := fun W => mark_any i N 80 W (by omega) (by omega)
          rw [← hN] at hM
          have HM : Hid _ := And.intro hM (And.intro hMk (And.intro hyl hN))
          rw [← hN]
          have hN1 : N + 80 ≤ maxLen := by unfold maxLen; omega
          have hN8 : (N + 80) * 8 ≤ 140737488355328 := by omega
          have hR1 : i + 1 ≤ maxLen := by unfold maxLen; omega
          have hR8 : (i + 1) * 24 ≤ 140737488355328 := by omega
          clear hM hMk hyl hN
          go_wp2_with (first
            | (go_at_call 108; refine (HM.out.2.1 _).mono ?_; rintro r8 w8 ⟨v8, rfl, hO8, hb8⟩; obtain ⟨g8, c8, rfl, _, _⟩ := World.ownsRow.form hO8 (by rw [marks_len]; omega); rw [marks_len]; have hM8 := HM.out.1.below hb8; have hown8 : w8.ownsRow 0 3 1 (.slice ay N ky) N (iC (zs ++ marks i zs.length 16)) := (by have h9 := hM8.own; unfold OwnI at h9; rw [HM.out.2.2.1, ← HM.out.2.2.2] at h9; exact h9); have H8 : Hid _ := And.intro hown8 (And.intro hO8 hM8); clear hb8 hO8 hM8 hown8)
            | (at_builtin; refine wpList_append_keep _ rfl _ _ 57 rfl 0 3 i0 (.int .i64 0) 1 8 Tryz.underlying57 hi0 hz0 hz1 hz2 rfl (by decide) (.slice ay N ky) N (iC (zs ++ marks i zs.length 16)) rfl H8.out.1 ⟨g8, 0, none⟩ 80 c8 (iC (marks i N 80)) rfl (by rw [iC_length, marks_len]) (fun j u hj => by rw [addz, World.ownsRow.cellAt H8.out.2.1 j (by rw [← H8.out.2.1.1]; exact (List.getElem?_eq_some_iff.1 hj).1)]; exact hj) (iC_one _) hN1 hN8 (Nat.zero_le _) ?_; intro v2 w2 hown2 hk2; obtain ⟨a2, k2, rfl⟩ := row_shape hown2; have hgm : Gm wq w2 (.slice al zs.length kl) zs i (.slice a2 (N + 80) k2) 96 := Gm.app H8.out.2.2 HG.out.2.1 (by rw [HM.out.2.2.1, ← HM.out.2.2.2]; exact hown2) hk2; have H2 : Hid _ := hgm.below (w' := w2.alloc (.cells #[.slice a2 (N + 80) k2] 57)) ((Below.refl _ _).alloc (Nat.le_refl _) _); have hle2 : w.heap.size ≤ (w2.alloc (.cells #[.slice a2 (N + 80) k2] 57)).heap.size := (by have h1 := HG.out.1.kp.size; have h2 := hgm.kp.size; simp; omega); have hrow2 : (w2.alloc (.cells #[.slice a2 (N + 80) k2] 57)).ownsRow w.heap.size 57 1 (.slice ao i ko) i os := trow_at HG.out.1.row (fun b hb => (by have h3 := (HG.out.1.row.lt b hb); have h4 := H2.out.kp; refine h4.block b h3.2 fun e => ?_; have h5 := HS.out.1.ls _ (List.mem_of_getElem? HG.out.2.2.1) b e; omega)); have HR2 : Hid _ := hrow2; clear hown2 hk2 hgm hrow2)
            | (at_builtin; refine wpList_append_own_at _ rfl _ _ 28 rfl w.heap.size 57 j0 (.slice none 0 0) 1 24 Tryz.underlying28 hj0 hy0 hy1 hy2 rfl (by decide) (.slice ao i ko) i os rfl HR2.out ⟨w2.heap.size, 0, none⟩ 1 1 [.slice a2 (N + 80) k2] rfl rfl (World.news_of_block (cs := #[.slice a2 (N + 80) k2]) (t := 57) (fr := (0, 0)) (heap_alloc_new w2 _)) (one_list _ ⟨_, _, _, rfl⟩) hR1 hR8 hle2 ?_; intro v3 w3 hown3 hgrow3 hnil3 hat3; have H3 : Hid _ := And.intro hown3 (And.intro hgrow3 hat3); clear hown3 hgrow3 hnil3 hat3)
            | fail)
          have hnx : GrI w w3 bk (.slice (some ⟨gi, 0, none⟩) n ci) ls zss (i + 1) v3 (os ++ [.slice a2 (N + 80) k2]) := HG.out.1.next HS.out.1 HG.out.2.2.1 HG.out.2.2.2 H2.out H3.out.1 H3.out.2.1 (H3.out.2.2.imp_right fun e b hb => by rw [e] at hb; have := Option.some.inj hb; omega)
          have H4 : Hid _ := hnx
          clear hnx
          go_roundg (n - (i + 1))
          case measure => omega
          case rel => exact ⟨i + 1, _, rfl, by omega, by go_num, H4.out⟩
    · obtain rfl : i = n := by omega
      have q1 : ¬ (i : Int) < (i : Int) := by omega
      have HJ : Hid _ := hG
      clear hG
      go_wp2_with fail
      go_ret
      exact ⟨_, rfl, os, HJ.out⟩
end Go.Proofs.YtpmanmoljlhogaaGreatDoor
