/- Texts of this claim, joined: SyOut, SyBack, SyReach0, SyEnds, SyTen, SyEdg, SyReach. -/
import Derived.Test.YtihdpncjgmpboaaGreatDoorPart9
import Derived.Test.YtihdpncjgmpboaaGreatDoorBXSteps
import Derived.Test.YtihdpncjgmpboaaGreatDoorPart6
import Derived.Deep.AppendLies
import Derived.Test.YtihdpncjgmpboaaGreatDoorPart7
import Derived.Test.YtihdpncjgmpboaaGreatDoorPart12
import Derived.DataElems
import Derived.Maps.AppendAt
/- Contract of the document's Out: of each state its steps. -/
namespace Go.Proofs.YtihdpncjgmpboaaGreatDoor
open Go.RowKit Go.Maps
attribute [local go_sem ↓] Go.wp_at_zero Go.wp_at_succ
/-- Rows of steps, one for each state, all of them from B on, no two in one block. -/
structure Outs (w : World) (B : Nat) (us : List Value) (n : Nat) (f : Nat → List BSteps.El) : Prop where
  len : us.length = n
  row : ∀ i, i < n → ∃ u, us[i]? = some u ∧ BSteps.Own w B u (f i)
  ap : ∀ (i j : Nat) (u x : Value) (b : Nat), us[i]? = some u → us[j]? = some x → i ≠ j → u.ownBlock = some b → x.ownBlock ≠ some b
theorem Outs.below {w w' : World} {B : Nat} {us : List Value} {n : Nat} {f : Nat → List BSteps.El} (h : Outs w B us n f) (hb : Below w.heap.size w w') : Outs w' B us n f :=
  ⟨h.len, fun i hi => by obtain ⟨u, h1, h2⟩ := h.row i hi; exact ⟨u, h1, trow_at h2 fun b hb' => hb.block b (h2.lt b hb').2⟩, h.ap⟩
theorem outs_new (w : World) (B n : Nat) : Outs w B (List.replicate n (.slice none 0 0)) n fun _ => [] :=
  ⟨by simp, fun i hi => ⟨.slice none 0 0, by rw [List.getElem?_replicate, if_pos hi], World.ownsRow_nil _ _ _ _⟩, fun i j u x b h1 _ _ h3 => by
    rw [List.getElem?_replicate] at h1
    split at h1
    · cases h1; cases h3
    · cases h1⟩
/-- One row has grown. -/
theorem Outs.set {w w' : World} {B : Nat} {us : List Value} {n : Nat} {f : Nat → List BSteps.El} (h : Outs w B us n f) {i : Nat} {u u' : Value} {F : Nat → Prop} (hi : i < n) (hu : us[i]? = some u) (hk : Kept F w w') (hF : ∀ b, F b → u.ownBlock = some b ∨ ∀ (j : Nat) (x : Value), us[j]? = some x → x.ownBlock ≠ some b) {zs : List BSteps.El} (hO : BSteps.Own w' B u' zs) (hat : u'.ownBlock = u.ownBlock ∨ ∀ b, u'.ownBlock = some b → w.heap.size ≤ b) :
    Outs w' B (us.set i u') n (fun j => if j = i then zs else f j) := by
  refine ⟨by rw [List.length_set]; exact h.len, fun j hj => ?_, fun a c x y b hx hy hac hb => ?_⟩
  · by_cases e : j = i
    · subst e
      exact ⟨u', List.getElem?_set_self (by rw [h.len]; exact hj), by rw [if_pos rfl]; exact hO⟩
    · obtain ⟨x, h1, h2⟩ := h.row j hj
      refine ⟨x, by rw [List.getElem?_set_ne (fun e' => e e'.symm)]; exact h1, ?_⟩
      rw [if_neg e]
      refine own_up h2 hk fun b hb hf => ?_
      rcases hF b hf with hf | hf
      · exact h.ap j i x u b h1 hu e hb hf
      · exact hf j x h1 hb
  · have hold : ∀ (j : Nat) (z : Value), us[j]? = some z → j ≠ i → ∀ b, z.ownBlock = some b → u'.ownBlock ≠ some b := fun j z hz hj b hzb e => by
      rcases hat with h1 | h1
      · rw [h1] at e; exact h.ap j i z u b hz hu hj hzb e
      · have h2 := h1 b e
        obtain ⟨z', h3, h4⟩ := h.row j (by have := (List.getElem?_eq_some_iff.1 hz).1; rw [h.len] at this; exact this)
        rw [hz] at h3; cases h3
        have := (h4.lt b hzb).2
        omega
    by_cases ea : a = i
    · subst ea
      rw [List.getElem?_set_self (by rw [h.len]; exact hi)] at hx
      cases hx
      rw [List.getElem?_set_ne hac] at hy
      exact fun e => hold c y hy (fun e' => hac e'.symm) b e hb
    · rw [List.getElem?_set_ne (fun e' => ea e'.symm)] at hx
      by_cases ec : c = i
      · subst ec
        rw [List.getElem?_set_self (by rw [h.len]; exact hi)] at hy
        cases hy
        exact hold a x hx ea b hb
      · rw [List.getElem?_set_ne (fun e' => ec e'.symm)] at hy
        exact h.ap a c x y b hx hy hac hb
theorem Outs.congr {w : World} {B : Nat} {us : List Value} {n : Nat} {f g : Nat → List BSteps.El} (h : Outs w B us n f) (hfg : ∀ i, i < n → f i = g i) : Outs w B us n g :=
  ⟨h.len, fun i hi => by rw [← hfg i hi]; exact h.row i hi, h.ap⟩
theorem Outs.kept {w w' : World} {B : Nat} {us : List Value} {n : Nat} {f : Nat → List BSteps.El} {F : Nat → Prop} (h : Outs w B us n f) (hk : Kept F w w') (hF : ∀ (j : Nat) (x : Value), us[j]? = some x → ∀ b, x.ownBlock = some b → ¬ F b) : Outs w' B us n f :=
  ⟨h.len, fun i hi => by obtain ⟨u, h1, h2⟩ := h.row i hi; exact ⟨u, h1, own_up h2 hk fun b hb => hF i u h1 b hb⟩, h.ap⟩
theorem kcell {w w' : World} {F : Nat → Prop} (hk : Kept F w w') {b o : Nat} {v : Value} (hF : ¬ F b) (c : w.cell? ⟨b, o, none⟩ = some v) : w'.cell? ⟨b, o, none⟩ = some v := (World.cell?_of_block (a := ⟨b, o, none⟩) (hk.block b (World.block_lt_of_cell? w _ c) hF)).trans c
/-- One row more long, its slice laid into the list of rows. -/
theorem outs_grow {w wr w4 : World} {g n i N g4 k4 cu : Nat} {au : Option Addr} {us : List Value} {f : Nat → List BSteps.El} (z : BSteps.El) (hOs : Outs wr w.heap.size us n f) (hi : i < n) (hu : us[i]? = some (.slice au N cu)) (hN : N = (f i).length) (hown : w4.ownsRow w.heap.size 76 2 (.slice (some ⟨g4, 0, none⟩) (N + 1) k4) (N + 1) (BSteps.C (f i) ++ [.int .i64 z.1, .int .i64 z.2])) (hk : Kept (fun b => (Value.slice au N cu).ownBlock = some b) wr w4) (hat : (Value.slice au N cu).ownBlock = some g4 ∨ g4 = wr.heap.size + 1) (hA4 : Arr 46 w w4 g us) :
    Arr 46 w (w4.setCell ⟨g, i, none⟩ (.slice (some ⟨g4, 0, none⟩) (N + 1) k4)) g (us.set i (.slice (some ⟨g4, 0, none⟩) (N + 1) k4)) ∧ Outs (w4.setCell ⟨g, i, none⟩ (.slice (some ⟨g4, 0, none⟩) (N + 1) k4)) w.heap.size (us.set i (.slice (some ⟨g4, 0, none⟩) (N + 1) k4)) n (fun j => if j = i then f i ++ [z] else f j) ∧ Kept (fun b => b = g ∨ (Value.slice au N cu).ownBlock = some b) wr (w4.setCell ⟨g, i, none⟩ (.slice (some ⟨g4, 0, none⟩) (N + 1) k4)) := by
  have hO : BSteps.Own w4 w.heap.size (.slice (some ⟨g4, 0, none⟩) (N + 1) k4) (f i ++ [z]) := by
    unfold BSteps.Own
    have e1 : (f i ++ [z]).length = N + 1 := by rw [List.length_append, hN]; rfl
    rw [e1, BSteps.C_app]
    exact hown
  have h1 := hOs.set (F := fun b => (Value.slice au N cu).ownBlock = some b) hi hu hk (fun b hb => .inl hb) hO (by
    rcases hat with h | h
    · exact .inl h.symm
    · exact .inr fun b hb => by have e9 : g4 = b := Option.some.inj hb
                                omega)
  refine ⟨hA4.set i _, ?_, ?_⟩
  · refine h1.kept (Kept.setCell w4 g i _) fun j x hx b hb e => ?_
    obtain ⟨cs, hc, _⟩ := hA4.ids
    obtain ⟨x', h2, h3⟩ := h1.row j (by have := (List.getElem?_eq_some_iff.1 hx).1; rw [h1.len] at this; exact this)
    rw [hx] at h2; cases h2
    exact own_bk h3 hc (by decide) (by rw [← e]; exact hb)
  · exact (hk.mono fun b _ hb => .inr hb).trans ((Kept.setCell w4 g i _).mono fun b _ hb => .inl hb)
theorem Sy.steps_take {l : List Sy.Ed} {j : Nat} {e : Sy.Ed} (he : l[j]? = some e) (i : Int) : Sy.steps (l.take (j + 1)) i = if e.1 = i then Sy.steps (l.take j) i ++ [(e.2.1, e.2.2)] else Sy.steps (l.take j) i := by
  rw [List.take_add_one, he]
  exact Sy.steps_snoc _ _ _
theorem out_round {w wr w4 : World} {g n N g4 k4 cu gl c : Nat} {au : Option Addr} {us : List Value} {l : List Sy.Ed} {j L f : Nat} {e : Sy.Ed} (hL : j < L) (hfn : f < n) (hOs : Outs wr w.heap.size us n (fun i => Sy.steps (l.take j) i)) (hOl : BEdges.Own wr w.heap.size (.slice (some ⟨gl, 0, none⟩) l.length c) l) (he : l[j]? = some e) (hf : e.1 = (f : Int)) (hu : us[f]? = some (.slice au (Sy.steps (l.take j) f).length cu)) (hN : N = (Sy.steps (l.take j) f).length)
    (hown : w4.ownsRow w.heap.size 76 2 (.slice (some ⟨g4, 0, none⟩) (N + 1) k4) (N + 1) (BSteps.C (Sy.steps (l.take j) f) ++ [.int .i64 e.2.1, .int .i64 e.2.2])) (hk : Kept (fun b => (Value.slice au N cu).ownBlock = some b) wr w4) (hat : (Value.slice au N cu).ownBlock = some g4 ∨ g4 = wr.heap.size + 1) (hA4 : Arr 46 w w4 g us) (hne : ¬ gl = g) (hgl : ¬ (Value.slice au N cu).ownBlock = some gl) :
    ∃ (j1 : Nat) (us : List Value), L - (j + 1) = L - j1 ∧ j1 ≤ L ∧ Value.int .i64 ((j : Int) + 1) = .int .i64 j1 ∧ Arr 46 w (w4.setCell ⟨g, f, none⟩ (.slice (some ⟨g4, 0, none⟩) (N + 1) k4)) g us ∧ Outs (w4.setCell ⟨g, f, none⟩ (.slice (some ⟨g4, 0, none⟩) (N + 1) k4)) w.heap.size us n (fun i => Sy.steps (l.take j1) i) ∧ BEdges.Own (w4.setCell ⟨g, f, none⟩ (.slice (some ⟨g4, 0, none⟩) (N + 1) k4)) w.heap.size (.slice (some ⟨gl, 0, none⟩) l.length c) l := by
  obtain ⟨h1, h2, h3⟩ := outs_grow (e.2.1, e.2.2) hOs hfn (by rw [hN]; exact hu) hN hown hk hat hA4
  refine ⟨j + 1, _, rfl, hL, rfl, h1, h2.congr fun i hi => ?_, own_up hOl h3 fun b hb hF => ?_⟩
  · rw [Sy.steps_take he, hf]
    by_cases e9 : i = f
    · subst e9; rw [if_pos rfl, if_pos rfl]
    · rw [if_neg e9, if_neg (fun h => e9 (by omega))]
  · cases hb
    rcases hF with hF | hF
    · exact hne hF
    · exact hgl hF
set_option linter.unusedSimpArgs false in
set_option maxRecDepth 100000 in
set_option maxHeartbeats 8000000 in
theorem refOut_any (n : Nat) (k s : Int) (v : Value) (es : List Sy.Ed) (w : World) (hn : n ≤ 1000000) (hv : HasE w v es) (hm : es.length ≤ 100000) (hr : ∀ e ∈ es, 0 ≤ e.1 ∧ e.1 < (n : Int)) :
    Calls Tryz.prog 19 #[sysV n k s v] w fun e w' => ∃ g us, e = .returned (.slice (some ⟨g, 0, none⟩) n n) ∧ Arr 46 w w' g us ∧ Outs w' w.heap.size us n (fun i => Sy.steps (Sy.nf es) i) := by
  obtain ⟨i0, hi0, hz0, hz1, hz2⟩ := info_parts BSteps.Tryz.infoE
  obtain ⟨w0, hw0⟩ : ∃ w0, w0 = w.alloc (.cells #[.int .i64 n, .int .i64 k, .int .i64 s, v] 24) := ⟨_, rfl⟩
  have hb0 : Below w.heap.size w w0 := by rw [hw0]; exact (Below.refl _ _).alloc (Nat.le_refl _) _
  have hs0 : w0.heap.size = w.heap.size + 1 := by rw [hw0]; simp
  have hg0 : w0.heap[w.heap.size]? = some (.cells #[.int .i64 n, .int .i64 k, .int .i64 s, v] 24 (0, 0)) := by rw [hw0]; exact heap_alloc_new w _
  have hA0 := arr_new 46 (.slice none 0 0) rfl n w0
  have hmk := makeSt n hn w0
  have hS := refSorted_any v es _ ((hv.below hb0).below hA0.bl) hm
  unfold SortedAt at hS
  have hv0 := hv
  obtain ⟨ao, cap, rfl, _⟩ := hv0
  obtain ⟨m, hmm⟩ : ∃ m, m = es.length := ⟨_, rfl⟩
  obtain ⟨l, hl⟩ : ∃ l, l = Sy.nf es := ⟨_, rfl⟩
  rw [← hmm] at hS hw0 hg0 ⊢
  rw [← hl] at hS ⊢
  have hlr : ∀ e ∈ l, 0 ≤ e.1 ∧ e.1 < (n : Int) := fun e he => hr e ((Sy.nf_mem es e).1 (by rw [← hl]; exact he))
  have hll : l.length ≤ 100000 := by have := Sy.nf_len es; rw [← hl] at this; omega
  have H0 : Hid _ := And.intro hS (And.intro hb0 (And.intro hg0 (And.intro hA0 (And.intro hw0 hs0))))
  have HLR : Hid _ := hlr
  unfold sysV
  obtain ⟨x0, x1, x2, x3⟩ := four_cells hg0
  clear hS hb0 hg0 hA0 hw0 hlr hv hr hmm hl
  go_enter Tryz.func19, Tryz.ntmps19
  go_upto_region 1 with fail
  rw [← H0.out.2.2.2.2.1]
  go_wp2_with fail
  refine Calls.mono H0.out.1 ?_
  rintro e w1 ⟨u, rfl, hO, hb1⟩
  obtain ⟨bo, cbp, rfl⟩ := row_shape hO
  obtain ⟨L, hL⟩ : ∃ L, L = l.length := ⟨_, rfl⟩
  have hA1 : Arr 46 w w1 w0.heap.size (List.replicate n (.slice none 0 0)) := by
    have h1 := H0.out.2.2.2.1.below hb1
    exact ⟨H0.out.2.1.trans (h1.bl.mono H0.out.2.1.size), h1.ids, by rw [H0.out.2.2.2.2.2]; omega⟩
  have hO1 : BEdges.Own w1 w.heap.size (.slice bo l.length cbp) l := row_base hO (by have := hA1.bl.size; have := H0.out.2.2.2.1.bl.size; have := H0.out.2.1.size; omega)
  rw [hs0] at hA1
  have H1 : Hid _ := And.intro hA1 (And.intro hO1 hL)
  rw [← hL]
  rw [← hL] at hll
  clear hO hb1 hA1 hO1 hL x0 x1 x2 x3 hmk
  obtain ⟨g, hgg⟩ : ∃ g, g = w.heap.size + 1 := ⟨_, rfl⟩
  rw [← hgg] at H1 ⊢
  have hg1 : w.heap.size < g := by omega
  clear hgg H0 hs0
  go_wp2_with fail
  go_loopg [5] L (fun q jv wr => ∃ (j : Nat) (us : List Value), q = L - j ∧ j ≤ L ∧ jv = .int .i64 j ∧ Arr 46 w wr g us ∧ Outs wr w.heap.size us n (fun i => Sy.steps (l.take j) i) ∧ BEdges.Own wr w.heap.size (.slice bo l.length cbp) l)
  case atStart => exact ⟨0, _, rfl, Nat.zero_le _, rfl, H1.out.1, outs_new _ _ _, H1.out.2.1⟩
  case round =>
    obtain ⟨j, us, rfl, hj, rfl, hA, hOs, hOl⟩ := hrel
    by_cases hlt : j < L
    · obtain ⟨e, he⟩ : ∃ e, l[j]? = some e := ⟨l[j]'(by have := H1.out.2.2; omega), List.getElem?_eq_getElem _⟩
      obtain ⟨gl, hgl, e0, e1, e2⟩ := own_edge hOl he
      have hel := HLR.out e (List.mem_of_getElem? he)
      obtain ⟨f, hf⟩ : ∃ f : Nat, e.1 = (f : Int) := ⟨e.1.toNat, by omega⟩
      have hfn : f < n := by omega
      obtain ⟨u, hu, hOu⟩ := hOs.row f hfn
      obtain ⟨au, cu, rfl⟩ := row_shape hOu
      obtain ⟨N, hN⟩ : ∃ N, N = (Sy.steps (l.take j) f).length := ⟨_, rfl⟩
      have hNl : N ≤ 100000 := by have := Sy.steps_len (l.take j) f; rw [List.length_take] at this; omega
      have cu0 := hA.cell hu
      have cuf := hA.free f
      have hgw := hA.lt
      have hOu' : wr.ownsRow w.heap.size 76 2 (.slice au N cu) N (BSteps.C (Sy.steps (l.take j) f)) := by have h1 := hOu; unfold BSteps.Own at h1; rw [← hN] at h1; exact h1
      rw [← hN] at cu0
      rw [hf] at e0
      have q0 : (0 : Int) ≤ (j : Int) := by omega
      have q1 : (j : Int) < (L : Int) := by omega
      have q2 : (0 : Int) ≤ (f : Int) := by omega
      have q3 : (f : Int) < (n : Int) := by omega
      have hml : N + 1 ≤ maxLen := by unfold maxLen; omega
      have hby : (N + 1) * 16 ≤ 140737488355328 := by omega
      have hgb := own_ne hOl hOu' (by decide)
      have HA : Hid _ := And.intro hA (And.intro hOs (And.intro hOl (And.intro he (And.intro hf (And.intro hu (And.intro hOu' hN))))))
      have hOd : (wr.drew.alloc (.cells #[.int .i64 e.2.1, .int .i64 e.2.2] 76)).ownsRow w.heap.size 76 2 (.slice au N cu) N (BSteps.C (Sy.steps (l.take j) f)) := World.ownsRow.alloc (trow_at hOu' fun _ _ => rfl) _
      have HD : Hid _ := hOd
      have hle : w.heap.size ≤ (wr.drew.alloc (.cells #[.int .i64 e.2.1, .int .i64 e.2.2] 76)).heap.size := by have := hA.bl.size; simp; omega
      have HKP : Hid (∀ b, (Value.slice au N cu).ownBlock = some b → w.heap.size ≤ b ∧ b ≠ g) := (fun b hb => ⟨(hOu'.lt b hb).1, fun e => by
        obtain ⟨cs9, hc9, _⟩ := hA.ids
        exact own_bk hOu' hc9 (by decide) (by rw [← e]; exact hb)⟩ : ∀ b, (Value.slice au N cu).ownBlock = some b → w.heap.size ≤ b ∧ b ≠ g)
      cases hgl
      have HGL : Hid (¬ (Value.slice au N cu).ownBlock = some gl) := (fun h9 => hgb gl rfl h9 : ¬ (Value.slice au N cu).ownBlock = some gl)
      have n1 : gl < wr.heap.size := World.block_lt_of_cell? wr _ e0
      have n2 : ¬ gl = wr.heap.size := by omega
      have n3 : ¬ g = wr.heap.size := by omega
      have hne : ¬ gl = g := fun e9 => by
        obtain ⟨cs9, hc9, _⟩ := hA.ids
        exact own_bk (bk := g) hOl hc9 (by decide) (by rw [← e9]; rfl)
      have hne' : ¬ g = gl := fun e => hne e.symm
      clear hgb
      clear hA hOs hOl he hf hu hOu hOu' hN hel hOd
      go_upto_region 6 with fail
      refine wp_region_held_drew (S := (fun w' => w'.cell? ⟨gl, j * 3, none⟩ = some (.int .i64 f) ∧ w'.cell? ⟨gl, j * 3 + 1, none⟩ = some (.int .i64 e.2.1) ∧ w'.cell? ⟨gl, j * 3 + 2, none⟩ = some (.int .i64 e.2.2))) (by kernel_rfl) ?_ (fun hHeld => ?_)
      · exact ⟨e0, e1, e2⟩
      refine wpAnyH_take (i := 0) (oi := _) (v := ?_) rfl (by kernel_rfl) (by kernel_rfl) (by kernel_rfl) (fun _ _ _ h => h) (Or.inl ⟨by rfl, ?_⟩) (by assumption) ?_
      rotate_left
      · (intro w hSw; (try dsimp only at hSw); go_simp; (try with_reducible rfl))
      (try simp only [Act.put, List.setIfInBounds_toArray, List.set_cons_zero, List.set_cons_succ])
      refine wpAnyH_take (i := 1) (oi := _) (v := ?_) rfl (by kernel_rfl) (by kernel_rfl) (by kernel_rfl) (fun _ _ _ h => h) (Or.inl ⟨by rfl, ?_⟩) (by assumption) ?_
      rotate_left
      · (intro w hSw; (try dsimp only at hSw); go_simp; (try with_reducible rfl))
      (try simp only [Act.put, List.setIfInBounds_toArray, List.set_cons_zero, List.set_cons_succ])
      refine wpAnyH_take (i := 2) (oi := _) (v := ?_) rfl (by kernel_rfl) (by kernel_rfl) (by kernel_rfl) (fun _ _ _ h => h) (Or.inl ⟨by rfl, ?_⟩) (by assumption) ?_
      rotate_left
      · (intro w hSw; (try dsimp only at hSw); go_simp; (try with_reducible rfl))
      (try simp only [Act.put, List.setIfInBounds_toArray, List.set_cons_zero, List.set_cons_succ])
      refine wpAnyH_take (i := 3) (oi := _) (v := ?_) rfl (by kernel_rfl) (by kernel_rfl) (by kernel_rfl) (fun _ _ _ h => h) (Or.inl ⟨by rfl, ?_⟩) (by assumption) ?_
      rotate_left
      · (intro w hSw; (try dsimp only at hSw); go_simp; (try with_reducible rfl))
      (try simp only [Act.put, List.setIfInBounds_toArray, List.set_cons_zero, List.set_cons_succ])
      refine wpAnyH_take (i := 4) (oi := _) (v := ?_) rfl (by kernel_rfl) (by kernel_rfl) (by kernel_rfl) (fun _ _ _ h => h) (Or.inl ⟨by rfl, ?_⟩) (by assumption) ?_
      rotate_left
      · (intro w hSw; (try dsimp only at hSw); go_simp; (try with_reducible rfl))
      (try simp only [Act.put, List.setIfInBounds_toArray, List.set_cons_zero, List.set_cons_succ])
      refine wpAnyH_take (i := 5) (oi := _) (v := ?_) rfl (by kernel_rfl) (by kernel_rfl) (by kernel_rfl) (fun _ _ _ h => h) (Or.inl ⟨by rfl, ?_⟩) (by assumption) ?_
      rotate_left
      · (intro w hSw; (try dsimp only at hSw); go_simp; (try with_reducible rfl))
      (try simp only [Act.put, List.setIfInBounds_toArray, List.set_cons_zero, List.set_cons_succ])
      refine wpAnyH_take (i := 6) (oi := _) (v := ?_) rfl (by kernel_rfl) (by kernel_rfl) (by kernel_rfl) (fun _ _ _ h => h) (Or.inl ⟨by rfl, ?_⟩) (by assumption) ?_
      rotate_left
      · (intro w hSw; (try dsimp only at hSw); go_simp; (try with_reducible rfl))
      (try simp only [Act.put, List.setIfInBounds_toArray, List.set_cons_zero, List.set_cons_succ])
      refine wpAnyH_take (i := 7) (oi := _) (v := ?_) rfl (by kernel_rfl) (by kernel_rfl) (by kernel_rfl) (fun _ _ _ h => h) (Or.inl ⟨by rfl, ?_⟩) (by assumption) ?_
      rotate_left
      · (intro w hSw; (try dsimp only at hSw); go_simp; (try with_reducible rfl))
      (try simp only [Act.put, List.setIfInBounds_toArray, List.set_cons_zero, List.set_cons_succ])
      refine wpAnyH_take (i := 8) (oi := _) (v := ?_) rfl (by kernel_rfl) (by kernel_rfl) (by kernel_rfl) (fun _ _ _ h => h) (Or.inl ⟨by rfl, ?_⟩) (by assumption) ?_
      rotate_left
      · (intro w hSw; (try dsimp only at hSw); go_simp; (try with_reducible rfl))
      (try simp only [Act.put, List.setIfInBounds_toArray, List.set_cons_zero, List.set_cons_succ])
      refine wpAnyH_take (i := 9) (oi := _) (v := ?_) rfl (by kernel_rfl) (by kernel_rfl) (by kernel_rfl) (fun _ _ _ h => h) (Or.inl ⟨by rfl, ?_⟩) (by assumption) ?_
      rotate_left
      · (intro w hSw; (try dsimp only at hSw); go_simp; (try with_reducible rfl))
      (try simp only [Act.put, List.setIfInBounds_toArray, List.set_cons_zero, List.set_cons_succ])
      refine wpAnyH_take (i := 10) (oi := _) (v := ?_) rfl (by kernel_rfl) (by kernel_rfl) (by kernel_rfl) (fun _ _ _ h => h) (Or.inl ⟨by rfl, ?_⟩) (by assumption) ?_
      rotate_left
      · (intro w hSw; (try dsimp only at hSw); go_simp; (try with_reducible rfl))
      (try simp only [Act.put, List.setIfInBounds_toArray, List.set_cons_zero, List.set_cons_succ])
      refine wpAnyH_take (i := 11) (oi := _) (v := ?_) rfl (by kernel_rfl) (by kernel_rfl) (by kernel_rfl) (fun _ _ _ h => h) (Or.inl ⟨by rfl, ?_⟩) (by assumption) ?_
      rotate_left
      · (intro w hSw; (try dsimp only at hSw); go_simp; (try with_reducible rfl))
      (try simp only [Act.put, List.setIfInBounds_toArray, List.set_cons_zero, List.set_cons_succ])
      refine wpAnyH_take (i := 12) (oi := _) (v := ?_) rfl (by kernel_rfl) (by kernel_rfl) (by kernel_rfl) (fun _ _ _ h => h) (Or.inl ⟨by rfl, ?_⟩) (by assumption) ?_
      rotate_left
      · (intro w hSw; (try dsimp only at hSw); go_simp; (try with_reducible rfl))
      (try simp only [Act.put, List.setIfInBounds_toArray, List.set_cons_zero, List.set_cons_succ])
      refine wpAnyH_take (i := 14) (oi := _) (v := ?_) rfl (by kernel_rfl) (by kernel_rfl) (by kernel_rfl) (fun _ _ _ h => h) (Or.inl ⟨by rfl, ?_⟩) (by assumption) ?_
      rotate_left
      · (intro w hSw; (try dsimp only at hSw); go_simp; (try with_reducible rfl))
      (try simp only [Act.put, List.setIfInBounds_toArray, List.set_cons_zero, List.set_cons_succ])
      refine wpAnyH_take (i := 15) (oi := _) (v := ?_) rfl (by kernel_rfl) (by kernel_rfl) (by kernel_rfl) (fun _ _ _ h => h) (Or.inl ⟨by rfl, ?_⟩) (by assumption) ?_
      rotate_left
      · (intro w hSw; (try dsimp only at hSw); go_simp; (try with_reducible rfl))
      (try simp only [Act.put, List.setIfInBounds_toArray, List.set_cons_zero, List.set_cons_succ])
      refine wpAnyH_take (i := 16) (oi := _) (v := ?_) rfl (by kernel_rfl) (by kernel_rfl) (by kernel_rfl) (fun _ _ _ h => h) (Or.inl ⟨by rfl, ?_⟩) (by assumption) ?_
      rotate_left
      · (intro w hSw; (try dsimp only at hSw); go_simp; (try with_reducible rfl))
      (try simp only [Act.put, List.setIfInBounds_toArray, List.set_cons_zero, List.set_cons_succ])
      refine wpAnyH_take (i := 17) (oi := _) (v := ?_) rfl (by kernel_rfl) (by kernel_rfl) (by kernel_rfl) (fun _ _ _ h => h) (Or.inl ⟨by rfl, ?_⟩) (by assumption) ?_
      rotate_left
      · (intro w hSw; (try dsimp only at hSw); go_simp; (try with_reducible rfl))
      (try simp only [Act.put, List.setIfInBounds_toArray, List.set_cons_zero, List.set_cons_succ])
      refine wpAnyH_take (i := 18) (oi := _) (v := ?_) rfl (by kernel_rfl) (by kernel_rfl) (by kernel_rfl) (fun _ _ _ h => h) (Or.inl ⟨by rfl, ?_⟩) (by assumption) ?_
      rotate_left
      · (intro w hSw; (try dsimp only at hSw); go_simp; (try with_reducible rfl))
      (try simp only [Act.put, List.setIfInBounds_toArray, List.set_cons_zero, List.set_cons_succ])
      refine wpAnyH_take (i := 19) (oi := _) (v := ?_) rfl (by kernel_rfl) (by kernel_rfl) (by kernel_rfl) (fun _ _ _ h => h) (Or.inl ⟨by rfl, ?_⟩) (by assumption) ?_
      rotate_left
      · (intro w hSw; (try dsimp only at hSw); go_simp; (try with_reducible rfl))
      (try simp only [Act.put, List.setIfInBounds_toArray, List.set_cons_zero, List.set_cons_succ])
      refine wpAnyH_take (i := 20) (oi := _) (v := ?_) rfl (by kernel_rfl) (by kernel_rfl) (by kernel_rfl) (fun _ _ _ h => h) (Or.inl ⟨by rfl, ?_⟩) (by assumption) ?_
      rotate_left
      · (intro w hSw; (try dsimp only at hSw); go_simp; (try with_reducible rfl))
      (try simp only [Act.put, List.setIfInBounds_toArray, List.set_cons_zero, List.set_cons_succ])
      refine wpAnyH_take (i := 21) (oi := _) (v := ?_) rfl (by kernel_rfl) (by kernel_rfl) (by kernel_rfl) (fun _ _ _ h => h) (Or.inl ⟨by rfl, ?_⟩) (by assumption) ?_
      rotate_left
      · (intro w hSw; (try dsimp only at hSw); go_simp; (try with_reducible rfl))
      (try simp only [Act.put, List.setIfInBounds_toArray, List.set_cons_zero, List.set_cons_succ])
      refine wpAnyH_take (i := 22) (oi := _) (v := ?_) rfl (by kernel_rfl) (by kernel_rfl) (by kernel_rfl) (fun _ _ _ h => h) (Or.inl ⟨by rfl, ?_⟩) (by assumption) ?_
      rotate_left
      · (intro w hSw; (try dsimp only at hSw); go_simp; (try with_reducible rfl))
      (try simp only [Act.put, List.setIfInBounds_toArray, List.set_cons_zero, List.set_cons_succ])
      refine wpAnyH_take (i := 23) (oi := _) (v := ?_) rfl (by kernel_rfl) (by kernel_rfl) (by kernel_rfl) (fun _ _ _ h => h) (Or.inl ⟨by rfl, ?_⟩) (by assumption) ?_
      rotate_left
      · (intro w hSw; (try dsimp only at hSw); go_simp; (try with_reducible rfl))
      (try simp only [Act.put, List.setIfInBounds_toArray, List.set_cons_zero, List.set_cons_succ])
      refine wpAnyH_take (i := 24) (oi := _) (v := ?_) rfl (by kernel_rfl) (by kernel_rfl) (by kernel_rfl) (fun _ _ _ h => h) (Or.inl ⟨by rfl, ?_⟩) (by assumption) ?_
      rotate_left
      · (intro w hSw; (try dsimp only at hSw); go_simp; (try with_reducible rfl))
      (try simp only [Act.put, List.setIfInBounds_toArray, List.set_cons_zero, List.set_cons_succ])
      refine wpAnyH_ready (rs := [13, 25]) (by kernel_rfl) (by simp) ?_
      refine AllReadyH.cons (o := _) rfl (fun K hK => ?_) ?_
      · go_simp
        refine hK.out _ _ ?_ (fun hHeld => ?_)
        · ((try dsimp only); go_keep)
        clear hK K
        (try simp only [Act.put, List.setIfInBounds_toArray, List.set_cons_zero, List.set_cons_succ])
        refine wpAnyH_ready (rs := [25]) (by kernel_rfl) (by simp) ?_
        refine AllReadyH.cons (o := _) rfl (fun K hK => ?_) ?_
        · go_simp
          refine hK.out _ _ ?_ (fun hHeld => ?_)
          · ((try dsimp only); go_keep)
          clear hK K
          (try simp only [Act.put, List.setIfInBounds_toArray, List.set_cons_zero, List.set_cons_succ])
          refine wpAnyH_ready (rs := [26]) (by kernel_rfl) (by simp) ?_
          refine AllReadyH.cons (o := _) rfl (fun K hK => ?_) ?_
          · (refine step_append_lies _ (by rfl) _ _ _ (by rfl) w.heap.size 76 i0 _ 2 16 Tryz.underlying46 hi0 hz0 hz1 hz2 rfl (by decide) (.slice au N cu) N (BSteps.C (Sy.steps (l.take j) f)) (by rfl) HD.out ⟨wr.heap.size, 0, none⟩ 1 1 [.int .i64 e.2.1, .int .i64 e.2.2] (by rfl) (by rfl) (World.news_of_block (cs := #[.int .i64 e.2.1, .int .i64 e.2.2]) (t := 76) (fr := (0, 0)) (heap_alloc_new wr.drew _)) (by simp [Value.oneCell']) Nat.one_pos hml hby hle (wr.heap.size + 1) (by simp) ?_; intro g4 k4 w4 hown4 hgrow4 hat4 hlt4; have hk4 : Kept (fun b => (Value.slice au N cu).ownBlock = some b) wr w4 := (Kept.of_below ((Below.refl _ wr).drew)).trans (grown_alloc (w := wr.drew) hgrow4); have hA4 := HA.out.1.kept hk4 HKP.out; have cu0 := hA4.cell HA.out.2.2.2.2.2.1; have cuf := hA4.free f; have e0 := kcell hk4 HGL.out e0; have e1 := kcell hk4 HGL.out e1; have e2 := kcell hk4 HGL.out e2; have H4 : Hid _ := And.intro hown4 (And.intro hk4 (And.intro hat4 hA4)); clear hown4 hgrow4 hat4 hlt4 hk4 hA4)
            refine hK.out _ _ ?_ (fun hHeld => ?_)
            · exact ⟨e0, e1, e2⟩
            clear hK K
            (try simp only [Act.put, List.setIfInBounds_toArray, List.set_cons_zero, List.set_cons_succ])
            refine wpAnyH_take (i := 27) (oi := _) (v := ?_) rfl (by kernel_rfl) (by kernel_rfl) (by kernel_rfl) (fun _ _ _ h => h) (Or.inl ⟨by rfl, ?_⟩) (by assumption) ?_
            rotate_left
            · (intro w hSw; (try dsimp only at hSw); go_simp; (try with_reducible rfl))
            (try simp only [Act.put, List.setIfInBounds_toArray, List.set_cons_zero, List.set_cons_succ])
            refine wpAnyH_ready (rs := [28]) (by kernel_rfl) (by simp) ?_
            refine AllReadyH.cons (o := _) rfl (fun K hK => ?_) ?_
            · go_simp
              refine hK.out _ _ ?_ (fun hHeld => ?_)
              · ((try dsimp only); go_keep)
              clear hK K
              (try simp only [Act.put, List.setIfInBounds_toArray, List.set_cons_zero, List.set_cons_succ])
              refine wpAnyH_done (by kernel_rfl) ?_ _
              (try go_simp)
              go_wp2_with fail
              go_roundg (L - (j + 1))
              case measure => omega
              case rel => exact out_round hlt hfn HA.out.2.1 HA.out.2.2.1 HA.out.2.2.2.1 HA.out.2.2.2.2.1 HA.out.2.2.2.2.2.1 HA.out.2.2.2.2.2.2.2 H4.out.1 H4.out.2.1 H4.out.2.2.1 H4.out.2.2.2 hne HGL.out
            exact AllReadyH.nil
          exact AllReadyH.nil
        exact AllReadyH.nil
      refine AllReadyH.cons (o := _) rfl (fun K hK => ?_) ?_
      · go_simp
        refine hK.out _ _ ?_ (fun hHeld => ?_)
        · ((try dsimp only); go_keep)
        clear hK K
        (try simp only [Act.put, List.setIfInBounds_toArray, List.set_cons_zero, List.set_cons_succ])
        refine wpAnyH_ready (rs := [13]) (by kernel_rfl) (by simp) ?_
        refine AllReadyH.cons (o := _) rfl (fun K hK => ?_) ?_
        · go_simp
          refine hK.out _ _ ?_ (fun hHeld => ?_)
          · ((try dsimp only); go_keep)
          clear hK K
          (try simp only [Act.put, List.setIfInBounds_toArray, List.set_cons_zero, List.set_cons_succ])
          refine wpAnyH_ready (rs := [26]) (by kernel_rfl) (by simp) ?_
          refine AllReadyH.cons (o := _) rfl (fun K hK => ?_) ?_
          · (refine step_append_lies _ (by rfl) _ _ _ (by rfl) w.heap.size 76 i0 _ 2 16 Tryz.underlying46 hi0 hz0 hz1 hz2 rfl (by decide) (.slice au N cu) N (BSteps.C (Sy.steps (l.take j) f)) (by rfl) HD.out ⟨wr.heap.size, 0, none⟩ 1 1 [.int .i64 e.2.1, .int .i64 e.2.2] (by rfl) (by rfl) (World.news_of_block (cs := #[.int .i64 e.2.1, .int .i64 e.2.2]) (t := 76) (fr := (0, 0)) (heap_alloc_new wr.drew _)) (by simp [Value.oneCell']) Nat.one_pos hml hby hle (wr.heap.size + 1) (by simp) ?_; intro g4 k4 w4 hown4 hgrow4 hat4 hlt4; have hk4 : Kept (fun b => (Value.slice au N cu).ownBlock = some b) wr w4 := (Kept.of_below ((Below.refl _ wr).drew)).trans (grown_alloc (w := wr.drew) hgrow4); have hA4 := HA.out.1.kept hk4 HKP.out; have cu0 := hA4.cell HA.out.2.2.2.2.2.1; have cuf := hA4.free f; have e0 := kcell hk4 HGL.out e0; have e1 := kcell hk4 HGL.out e1; have e2 := kcell hk4 HGL.out e2; have H4 : Hid _ := And.intro hown4 (And.intro hk4 (And.intro hat4 hA4)); clear hown4 hgrow4 hat4 hlt4 hk4 hA4)
            refine hK.out _ _ ?_ (fun hHeld => ?_)
            · exact ⟨e0, e1, e2⟩
            clear hK K
            (try simp only [Act.put, List.setIfInBounds_toArray, List.set_cons_zero, List.set_cons_succ])
            refine wpAnyH_take (i := 27) (oi := _) (v := ?_) rfl (by kernel_rfl) (by kernel_rfl) (by kernel_rfl) (fun _ _ _ h => h) (Or.inl ⟨by rfl, ?_⟩) (by assumption) ?_
            rotate_left
            · (intro w hSw; (try dsimp only at hSw); go_simp; (try with_reducible rfl))
            (try simp only [Act.put, List.setIfInBounds_toArray, List.set_cons_zero, List.set_cons_succ])
            refine wpAnyH_ready (rs := [28]) (by kernel_rfl) (by simp) ?_
            refine AllReadyH.cons (o := _) rfl (fun K hK => ?_) ?_
            · go_simp
              refine hK.out _ _ ?_ (fun hHeld => ?_)
              · ((try dsimp only); go_keep)
              clear hK K
              (try simp only [Act.put, List.setIfInBounds_toArray, List.set_cons_zero, List.set_cons_succ])
              refine wpAnyH_done (by kernel_rfl) ?_ _
              (try go_simp)
              go_wp2_with fail
              go_roundg (L - (j + 1))
              case measure => omega
              case rel => exact out_round hlt hfn HA.out.2.1 HA.out.2.2.1 HA.out.2.2.2.1 HA.out.2.2.2.2.1 HA.out.2.2.2.2.2.1 HA.out.2.2.2.2.2.2.2 H4.out.1 H4.out.2.1 H4.out.2.2.1 H4.out.2.2.2 hne HGL.out
            exact AllReadyH.nil
          exact AllReadyH.nil
        exact AllReadyH.nil
      exact AllReadyH.nil
    · obtain rfl : j = L := by omega
      have q1 : ¬ (j : Int) < (j : Int) := by omega
      have HA : Hid _ := And.intro hA hOs
      clear hA hOs hOl
      go_wp2_with fail
      go_ret
      refine ⟨_, rfl, us, HA.out.1, ?_⟩
      have h1 := HA.out.2
      rw [List.take_of_length_le (by have := H1.out.2.2; omega)] at h1
      exact h1
end Go.Proofs.YtihdpncjgmpboaaGreatDoor
/- Contract of the document's Back: the edges turned round. -/
namespace Go.Proofs.YtihdpncjgmpboaaGreatDoor
open Go.RowKit Go.Maps
attribute [local go_sem ↓] Go.wp_at_zero Go.wp_at_succ
/-- An edge turned round. -/
theorem kcell' {w w' : World} {F : Nat → Prop} (hk : Kept F w w') {a : Addr} {v : Value} (hF : ¬ F a.block) (c : w.cell? a = some v) : w'.cell? a = some v := (World.cell?_of_block (a := a) (hk.block a.block (World.block_lt_of_cell? w _ c) hF)).trans c
/-- What stands in the loop of Back. -/
structure BackAt (w wr : World) (n k s : Int) (v u : Value) (L : List Sy.Ed) : Prop where
  bl : Below w.heap.size w wr
  box : wr.heap[w.heap.size]? = some (.cells #[.int .i64 n, .int .i64 k, .int .i64 s, v] 24 (0, 0))
  res : wr.heap[w.heap.size + 1]? = some (.cells #[.int .i64 0, .int .i64 0, .int .i64 0, .slice none 0 0] 24 (0, 0))
  own : BEdges.Own wr w.heap.size u L
theorem back_grow {w wr w4 : World} {n k s : Int} {v : Value} {au : Option Addr} {N cu g4 k4 : Nat} {L : List Sy.Ed} (h : BackAt w wr n k s v (.slice au N cu) L) (hN : N = L.length) (z : Sy.Ed) (hown : w4.ownsRow w.heap.size 65 3 (.slice (some ⟨g4, 0, none⟩) (N + 1) k4) (N + 1) (BEdges.C L ++ [.int .i64 z.1, .int .i64 z.2.1, .int .i64 z.2.2])) (hk : Kept (fun b => (Value.slice au N cu).ownBlock = some b) wr w4) : BackAt w w4 n k s v (.slice (some ⟨g4, 0, none⟩) (N + 1) k4) (L ++ [z]) := by
  refine ⟨h.bl.trans (hk.below h.bl.size fun b hb => (h.own.lt b hb).1), (hk.block _ (t_lt h.box) (own_bk h.own h.box (by decide))).trans h.box, (hk.block _ (t_lt h.res) (own_bk h.own h.res (by decide))).trans h.res, ?_⟩
  unfold BEdges.Own
  have e1 : (L ++ [z]).length = N + 1 := by rw [List.length_append, hN]; rfl
  rw [e1, BEdges.C_app]
  exact hown
theorem back_round {w wr w4 : World} {n k s : Int} {v : Value} {au : Option Addr} {j m N cu g4 k4 : Nat} {es : List Sy.Ed} {z : Sy.Ed} (h : BackAt w wr n k s v (.slice au N cu) ((es.take j).map Sy.turn)) (hlt : j < m) (hz : es[j]? = some z) (hN : N = j) (hm : m = es.length) (hown : w4.ownsRow w.heap.size 65 3 (.slice (some ⟨g4, 0, none⟩) (N + 1) k4) (N + 1) (BEdges.C ((es.take j).map Sy.turn) ++ [.int .i64 z.2.2, .int .i64 z.2.1, .int .i64 z.1])) (hk : Kept (fun b => (Value.slice au N cu).ownBlock = some b) wr w4) :
    ∃ j1 : Nat, m - (j + 1) = m - j1 ∧ j1 ≤ m ∧ Value.int .i64 ((j : Int) + 1) = .int .i64 j1 ∧ BackAt w w4 n k s v (.slice (some ⟨g4, 0, none⟩) (N + 1) k4) ((es.take j1).map Sy.turn) := by
  have h1 := back_grow h (by rw [hN, List.length_map, List.length_take]; omega) (Sy.turn z) hown hk
  refine ⟨j + 1, rfl, hlt, rfl, ?_⟩
  rw [List.take_add_one, hz, List.map_append]
  exact h1
theorem back_fin {w wr : World} {n k s : Int} {v : Value} {ao : Option Addr} {N c : Nat} {L : List Sy.Ed} (h : BackAt w wr n k s v (.slice ao N c) L) {wf : World} (hwf : wf = (((((wr.setCell ⟨w.heap.size, 3, none⟩ (.slice ao N c)).setCell ⟨w.heap.size + 1, 0, none⟩ (.int .i64 n)).setCell ⟨w.heap.size + 1, 1, none⟩ (.int .i64 k)).setCell ⟨w.heap.size + 1, 2, none⟩ (.int .i64 s)).setCell ⟨w.heap.size + 1, 3, none⟩ (.slice ao N c))) :
    Below w.heap.size w wf ∧ wf.heap[w.heap.size + 1]? = some (.cells #[.int .i64 n, .int .i64 k, .int .i64 s, .slice ao N c] 24 (0, 0)) ∧ BEdges.Own wf w.heap.size (.slice ao N c) L := by
  subst hwf
  have nn : ¬ w.heap.size + 1 = w.heap.size := by omega
  have hgm : (wr.setCell ⟨w.heap.size, 3, none⟩ (.slice ao N c)).heap[w.heap.size + 1]? = some (.cells #[.int .i64 0, .int .i64 0, .int .i64 0, .slice none 0 0] 24 (0, 0)) := (set_other _ _ _ _ _ nn).trans h.res
  refine ⟨four_below (h.bl.setCell (Nat.le_refl _) _) (by omega) _ _ _ _, four_set hgm, trow_at h.own fun b hb => ?_⟩
  have h1 := own_bk h.own h.box (by decide)
  have h2 := own_bk h.own h.res (by decide)
  have e1 : b ≠ w.heap.size + 1 := fun e => h2 (by rw [← e]; exact hb)
  have e2 : b ≠ w.heap.size := fun e => h1 (by rw [← e]; exact hb)
  rw [set_other _ _ _ _ _ e1, set_other _ _ _ _ _ e1, set_other _ _ _ _ _ e1, set_other _ _ _ _ _ e1, set_other _ _ _ _ _ e2]
end Go.Proofs.YtihdpncjgmpboaaGreatDoor
/- The reachable states: plain facts, and what stands in memory while the document's Reach works. -/
namespace Go.Proofs.YtihdpncjgmpboaaGreatDoor
open Go.RowKit Go.Maps
/-- The rows of all states, the marks, the list of those that are found. -/
structure RcAt (w wr : World) (go gi : Nat) (us : List Value) (n : Nat) (f : Nat → List BSteps.El) (u : Value) (zs : List Int) (bs : List Bool) : Prop where
  out : Arr 46 w wr go us
  rows : Outs wr w.heap.size us n f
  inn : Arr 4 w wr gi (bC bs)
  lst : OwnI wr w.heap.size u zs
theorem RcAt.below {w wr w' : World} {go gi : Nat} {us : List Value} {n : Nat} {f : Nat → List BSteps.El} {u : Value} {zs : List Int} {bs : List Bool} (h : RcAt w wr go gi us n f u zs bs) (hb : Below wr.heap.size wr w') : RcAt w w' go gi us n f u zs bs :=
  ⟨h.out.below hb, h.rows.below hb, h.inn.below hb, trow_at h.lst fun b hb' => hb.block b (h.lst.lt b hb').2⟩
theorem RcAt.row_ne {w wr : World} {go gi : Nat} {us : List Value} {n : Nat} {f : Nat → List BSteps.El} {u : Value} {zs : List Int} {bs : List Bool} (h : RcAt w wr go gi us n f u zs bs) {j : Nat} {x : Value} (hx : us[j]? = some x) : BSteps.Own wr w.heap.size x (f j) := by
  obtain ⟨x', h1, h2⟩ := h.rows.row j (by have := (List.getElem?_eq_some_iff.1 hx).1; rw [h.rows.len] at this; exact this)
  rw [hx] at h1; cases h1
  exact h2
theorem RcAt.mark {w wr : World} {go gi : Nat} {us : List Value} {n : Nat} {f : Nat → List BSteps.El} {u : Value} {zs : List Int} {bs : List Bool} (h : RcAt w wr go gi us n f u zs bs) (q : Nat) : RcAt w (wr.setCell ⟨gi, q, none⟩ (.bool true)) go gi us n f u zs (bs.set q true) := by
  obtain ⟨cs, hc, _⟩ := h.inn.ids
  obtain ⟨co, hco, _⟩ := h.out.ids
  have hk := Kept.setCell wr gi q (.bool true)
  refine ⟨h.out.kept hk fun b hb => ⟨by rw [hb]; exact h.inn.gu, fun e => ?_⟩, h.rows.kept hk fun j x hx b hb e => ?_, by rw [← bC_set]; exact h.inn.set q _, own_up h.lst hk fun b hb e => ?_⟩
  · subst e
    rw [hb, hc] at hco
    exact absurd hco (by simp)
  · exact own_bk (h.row_ne hx) hc (by decide) (by rw [← e]; exact hb)
  · exact own_bk h.lst hc (by decide) (by rw [← e]; exact hb)
theorem RcAt.push {w wr w2 : World} {go gi : Nat} {us : List Value} {n : Nat} {f : Nat → List BSteps.El} {u u2 : Value} {zs : List Int} {bs : List Bool} (h : RcAt w wr go gi us n f u zs bs) {q : Int} {N : Nat} (hN : N = zs.length) (hown : w2.ownsRow w.heap.size 3 1 u2 (N + 1) (iC zs ++ [.int .i64 q])) (hk : Kept (fun b => u.ownBlock = some b) wr w2) : RcAt w w2 go gi us n f u2 (zs ++ [q]) bs := by
  obtain ⟨cs, hc, _⟩ := h.inn.ids
  obtain ⟨co, hco, _⟩ := h.out.ids
  refine ⟨h.out.kept hk fun b hb => ⟨(h.lst.lt b hb).1, fun e => own_bk h.lst hco (by decide) (by rw [← e]; exact hb)⟩, h.rows.kept hk fun j x hx b hb e => own_ne (h.row_ne hx) h.lst (by decide) b hb e, h.inn.kept hk fun b hb => ⟨(h.lst.lt b hb).1, fun e => own_bk h.lst hc (by decide) (by rw [← e]; exact hb)⟩, ?_⟩
  unfold OwnI
  rw [iC_snoc, List.length_append, ← hN]
  exact hown
/-- An older beginning. -/
theorem Outs.base {w : World} {B B' : Nat} {us : List Value} {n : Nat} {f : Nat → List BSteps.El} (h : Outs w B us n f) (hb : B' ≤ B) : Outs w B' us n f :=
  ⟨h.len, fun i hi => by obtain ⟨u, h1, h2⟩ := h.row i hi; exact ⟨u, h1, row_base h2 hb⟩, h.ap⟩
end Go.Proofs.YtihdpncjgmpboaaGreatDoor
/- Contract of the law's ends: where the steps with a label lead. -/
namespace Go.Proofs.YtihdpncjgmpboaaGreatDoor
open Go.RowKit Go.Maps
attribute [local go_sem ↓] Go.wp_at_zero Go.wp_at_succ
def Sy.ends (l : List BSteps.El) (b : Int) : List Int := (l.filter fun x => x.1 == b).map (·.2)
theorem Sy.ends_take {l : List BSteps.El} {j : Nat} {x : BSteps.El} (h : l[j]? = some x) (b : Int) : Sy.ends (l.take (j + 1)) b = if x.1 = b then Sy.ends (l.take j) b ++ [x.2] else Sy.ends (l.take j) b := by
  rw [take_succ_of h]
  unfold Sy.ends
  rw [List.filter_append, List.map_append]
  by_cases e : x.1 = b <;> simp [e]
theorem Sy.ends_len (l : List BSteps.El) (b : Int) : (Sy.ends l b).length ≤ l.length := by
  unfold Sy.ends
  rw [List.length_map]
  exact List.length_filter_le _ _
end Go.Proofs.YtihdpncjgmpboaaGreatDoor
/- Contracts of the program's table.ends, By and From. -/
namespace Go.Proofs.YtihdpncjgmpboaaGreatDoor
open Go.RowKit Go.Maps
attribute [local go_sem ↓] Go.wp_at_zero Go.wp_at_succ
theorem Sy.str_pair {l : List Sy.Ed} (h : Sy.Str l) : l.Pairwise fun a b => Sy.lt a b = true := by
  induction l with
  | nil => exact .nil
  | cons a r ih => exact List.pairwise_cons.2 ⟨h.head, ih h.tail⟩
/-- The rest of a list of steps. -/
theorem hasS_drop {w : World} {av : Option Addr} {M cv : Nat} {zs : List BSteps.El} (h : BSteps.Has w (.slice av M cv) zs) (f c : Nat) (hM : M = zs.length) : BSteps.Has w (.slice (Option.map (fun x => x.add (f * 2)) av) (M - f) c) (zs.drop f) := by
  obtain ⟨ao, cap, he, hc⟩ := h
  injection he with e1 e2 e3
  subst e1
  refine ⟨_, c, by rw [List.length_drop, hM], fun j u hj => ?_⟩
  have hl : j < (zs.drop f).length * 2 := by have := (List.getElem?_eq_some_iff.1 hj).1; rw [BSteps.C_len] at this; exact this
  obtain ⟨z, hz⟩ : ∃ z, (zs.drop f)[j / 2]? = some z := ⟨_, List.getElem?_eq_getElem (by omega)⟩
  have h1 := BSteps.C_at _ (j / 2) z hz (j % 2) (Nat.mod_lt _ (by decide))
  rw [show j / 2 * 2 + j % 2 = j by omega, hj] at h1
  rw [List.getElem?_drop] at hz
  have h2 := BSteps.C_at _ (f + j / 2) z hz (j % 2) (Nat.mod_lt _ (by decide))
  rw [← h1, show (f + j / 2) * 2 + j % 2 = f * 2 + j by omega] at h2
  obtain ⟨a, rfl, hca⟩ := hc _ _ h2
  exact ⟨_, rfl, by rw [Addr.add_add]; exact hca⟩
/-- In a row the labels rise. -/
theorem Sy.rowOf_rise {l : List Sy.Ed} (h : Sy.Str l) (n : Nat) (i : Int) : (Sy.rowOf n l i).Pairwise fun x y => x.1 ≤ y.1 := by
  unfold Sy.rowOf
  split
  · unfold Sy.steps
    rw [List.pairwise_map]
    refine (((Sy.str_pair h).filter _).imp_of_mem ?_)
    intro a b ha hb hl
    have h1 : a.1 = i := by simpa using (List.mem_filter.1 ha).2
    have h2 : b.1 = i := by simpa using (List.mem_filter.1 hb).2
    rw [Sy.lt_iff] at hl
    show a.2.1 ≤ b.2.1
    omega
  · exact .nil
theorem bel8 {w W w8 : World} (hb : Below W.heap.size W w8) (h : Below w.heap.size w W) : Below w.heap.size w w8 := h.trans (hb.mono h.size)
theorem Sy.ends_nil_of {zs : List BSteps.El} {b : Int} (h : ∀ z ∈ zs, z.1 ≠ b) : Sy.ends zs b = [] := by
  unfold Sy.ends
  rw [List.filter_eq_nil_iff.2 fun z hz => by simpa using h z hz]
  rfl
theorem Sy.ends_append (xs ys : List BSteps.El) (b : Int) : Sy.ends (xs ++ ys) b = Sy.ends xs b ++ Sy.ends ys b := by simp [Sy.ends]
/-- Ahead of the place none, and behind the first other none. -/
theorem Sy.ends_cut {zs : List BSteps.El} {b : Int} {i j : Nat} (hs : zs.Pairwise fun x y => x.1 ≤ y.1) (hB : BinAt zs b i i) (hij : i + j ≤ zs.length) (hj : ∀ z, zs[i + j]? = some z → z.1 ≠ b) : Sy.ends zs b = Sy.ends ((zs.drop i).take j) b := by
  have e1 : zs = zs.take i ++ ((zs.drop i).take j ++ (zs.drop i).drop j) := by rw [List.take_append_drop, List.take_append_drop]
  have h1 : Sy.ends (zs.take i) b = [] := Sy.ends_nil_of fun z hz => by
    obtain ⟨k, hk, rfl⟩ := List.mem_iff_getElem.1 hz
    rw [List.length_take] at hk
    have := hB.lo k (zs[k]'(by omega)) (by omega) (List.getElem?_eq_getElem _)
    rw [List.getElem_take]
    omega
  have h2 : Sy.ends ((zs.drop i).drop j) b = [] := Sy.ends_nil_of fun z hz => by
    obtain ⟨k, hk, rfl⟩ := List.mem_iff_getElem.1 hz
    simp only [List.length_drop] at hk
    have h3 := hj (zs[i + j]'(by omega)) (List.getElem?_eq_getElem _)
    have h4 := hB.hi (i + j) (zs[i + j]'(by omega)) (by omega) (List.getElem?_eq_getElem _)
    simp only [List.getElem_drop]
    by_cases e : k = 0
    · subst e; simpa using h3
    · have := List.pairwise_iff_getElem.1 hs (i + j) (i + (j + k)) (by omega) (by omega) (by omega)
      omega
  conv => lhs; rw [e1]
  rw [Sy.ends_append, Sy.ends_append, h1, h2]
  simp
set_option maxRecDepth 100000 in
set_option maxHeartbeats 8000000 in
theorem tends_any (bs bb m n B : Nat) (l : List Sy.Ed) (i b : Int) (w : World) (hn : n ≤ 100000) (hl : l.length = m) (hm : m ≤ 100000) (hs : Sy.Str l) (hT : Tb w B bs bb n l) :
    Calls Tryz.prog 30 #[tabV bs bb m n, .int .i64 i, .int .i64 b] w fun r w' => ∃ u, r = .returned u ∧ OwnI w' w.heap.size u (Sy.ends (Sy.rowOf n l i) b) ∧ Below w.heap.size w w' := by
  obtain ⟨i0, hi0, hz0, hz1, hz2⟩ := info_parts Tryz.infoI4
  obtain ⟨w1, hw1⟩ : ∃ w1, w1 = w.alloc (.cells #[.slice (some ⟨bs, 0, none⟩) m m, .slice (some ⟨bb, 0, none⟩) (n + 1) (n + 1)] 68) := ⟨_, rfl⟩
  have hb1 : Below w.heap.size w w1 := by rw [hw1]; exact (Below.refl _ _).alloc (Nat.le_refl _) _
  have hg1 : w1.heap[w.heap.size]? = some (.cells #[.slice (some ⟨bs, 0, none⟩) m m, .slice (some ⟨bb, 0, none⟩) (n + 1) (n + 1)] 68 (0, 0)) := by rw [hw1]; exact heap_alloc_new w _
  have hR := row2_any bs bb m n B l i w1 hn hl (str_rows hs) (hT.below hb1)
  obtain ⟨zs, hzs⟩ : ∃ zs, zs = Sy.rowOf n l i := ⟨_, rfl⟩
  have hrise := Sy.rowOf_rise hs n i
  have hzl := rowOf_len n l i
  rw [← hzs] at hR hrise hzl ⊢
  have c0 : w1.cell? ⟨w.heap.size, 0, none⟩ = some (.slice (some ⟨bs, 0, none⟩) m m) := cell0_of hg1 rfl
  have c1 : w1.cell? ⟨w.heap.size, 1, none⟩ = some (.slice (some ⟨bb, 0, none⟩) (n + 1) (n + 1)) := cell0_of hg1 rfl
  unfold tabV at hR ⊢
  have H1 : Hid _ := And.intro hw1 (And.intro hb1 (And.intro hR (And.intro hrise (And.intro (hT.below hb1) hzl))))
  have hzm : zs.length ≤ 100000 := by omega
  have HT0 : Hid _ := hT
  clear hw1 hb1 hg1 hR hT hrise hs hzs hl hzl
  go_enter Tryz.func30, Tryz.ntmps30
  go_upto_region 1 with fail
  rw [← H1.out.1]
  go_wp2_with fail
  refine Calls.mono H1.out.2.2.1 ?_
  rintro r w2 ⟨v, rfl, hv, hcap, hb2⟩
  have hT2 := H1.out.2.2.2.2.1.below hb2
  obtain ⟨av, cv, rfl, _⟩ := hv w2 hT2
  have hBi := bin_any _ zs b w2 (hv w2 hT2) H1.out.2.2.2.1 hzm
  obtain ⟨M, hM⟩ : ∃ M, M = zs.length := ⟨_, rfl⟩
  rw [← hM] at hv hBi hzm hcap ⊢
  have hMc : M ≤ cv := by
    obtain ⟨a', k', c', he, hkc⟩ := hcap
    injection he with e1 e2 e3
    omega
  have H2 : Hid _ := And.intro hBi (And.intro hv (And.intro hT2 (And.intro (bel8 hb2 H1.out.2.1) hM)))
  clear hBi hv hT2 hb2 hM c0 c1 hcap
  go_wp2_with fail
  refine Calls.mono H2.out.1 ?_
  rintro r w3 ⟨f, fb, rfl, hfM, hBA, hb3⟩
  have hf0 : (0 : Int) ≤ (f : Int) := by omega
  have hf1 : (f : Int) ≤ (M : Int) := by omega
  have H3 : Hid _ := And.intro hBA (And.intro (H2.out.2.2.1.below hb3) (bel8 hb3 H2.out.2.2.2.1))
  clear hBA hb3
  by_cases hcf : cv = f
  · obtain rfl : f = M := by omega
    subst hcf
    have z0 : cv - cv = 0 := Nat.sub_self _
    go_wp2_with fail
    go_loopg [10, 26] 0 (fun q uv kv wr => q = 0 ∧ kv = .int .i64 0 ∧ uv = .slice none 0 0 ∧ wr = w3)
    case atStart => exact ⟨rfl, rfl, rfl, rfl⟩
    case round =>
      obtain ⟨rfl, rfl, rfl, rfl⟩ := hrel
      go_wp2_with fail
      go_ret
      refine ⟨_, rfl, ?_, H3.out.2.2⟩
      rw [Sy.ends_cut (j := 0) H1.out.2.2.2.1 H3.out.1 (by have := H2.out.2.2.2.2; omega) (fun z hz => by have := (List.getElem?_eq_some_iff.1 hz).1; have := H2.out.2.2.2.2; omega)]
      exact World.ownsRow_nil _ _ _ _
  · have hD := fun W (hW : Tb W B bs bb n l) => hasS_drop (H2.out.2.1 W hW) f (cv - f) H2.out.2.2.2.2
    go_wp2_with fail
    obtain ⟨R, hR⟩ : ∃ R, R = M - f := ⟨_, rfl⟩
    obtain ⟨a2, ha2⟩ : ∃ a2, a2 = Option.map (fun (x : Addr) => x.add (f * 2)) av := ⟨_, rfl⟩
    obtain ⟨c2, hc2⟩ : ∃ c2, c2 = cv - f := ⟨_, rfl⟩
    rw [← hR, ← ha2, ← hc2] at hD
    rw [← hR, ← ha2, ← hc2]
    have hR2 : f + R = M := by omega
    have H4 : Hid _ := And.intro hD hR2
    clear hD hR ha2 hc2 hR2
    have hRm : R ≤ 100000 := by have := H4.out.2; omega
    go_loopg [10, 26] R (fun q uv kv wr => ∃ j : Nat, q = R - j ∧ j ≤ R ∧ kv = .int .i64 j ∧ OwnI wr w.heap.size uv (Sy.ends ((zs.drop f).take j) b) ∧ Below w.heap.size w wr)
    case atStart => exact ⟨0, rfl, Nat.zero_le _, rfl, World.ownsRow_nil _ _ _ _, H3.out.2.2⟩
    case round =>
      obtain ⟨j, rfl, hj, rfl, hO, hb⟩ := hrel
      obtain ⟨au, cu, hu⟩ := row_shape hO
      obtain ⟨ys, hys⟩ : ∃ ys, ys = Sy.ends ((zs.drop f).take j) b := ⟨_, rfl⟩
      rw [← hys] at hO hu
      obtain ⟨N, hN⟩ : ∃ N, N = ys.length := ⟨_, rfl⟩
      rw [← hN] at hu
      subst hu
      by_cases hlt : j < R
      · obtain ⟨x, hx⟩ : ∃ x, (zs.drop f)[j]? = some x := ⟨(zs.drop f)[j]'(by have := H4.out.2; have := H2.out.2.2.2.2; rw [List.length_drop]; omega), List.getElem?_eq_getElem _⟩
        obtain ⟨a, rfl, d0, d1⟩ := step_at (H4.out.1 wr (HT0.out.below hb)) hx
        have hst := Sy.ends_take hx b
        have hno := fun (hxb : x.1 ≠ b) => Sy.ends_cut (j := j) H1.out.2.2.2.1 H3.out.1 (by have := H2.out.2.2.2.2; have := H4.out.2; omega) (fun z hz => by rw [List.getElem?_drop] at hx; rw [hx] at hz; cases hz; exact hxb)
        obtain ⟨x1, x2⟩ := x
        simp only at d0 d1 hst hno
        obtain ⟨wb, hwb⟩ : ∃ wb, wb = wr.alloc (.cells #[.int .i64 x1, .int .i64 x2] 76) := ⟨_, rfl⟩
        have hbb : Below wr.heap.size wr wb := by rw [hwb]; exact (Below.refl _ _).alloc (Nat.le_refl _) _
        have hgb : wb.heap[wr.heap.size]? = some (.cells #[.int .i64 x1, .int .i64 x2] 76 (0, 0)) := by rw [hwb]; exact heap_alloc_new wr _
        have f0 : wb.cell? ⟨wr.heap.size, 0, none⟩ = some (.int .i64 x1) := cell0_of hgb rfl
        have f1 : wb.cell? ⟨wr.heap.size, 1, none⟩ = some (.int .i64 x2) := cell0_of hgb rfl
        have hOb : OwnI wb w.heap.size (.slice au N cu) ys := trow_at hO fun b hb => hbb.block b (hO.lt b hb).2
        have hOz : wb.ownsRow w.heap.size 3 1 (.slice au N cu) N (iC ys) := by have h1 := hOb; unfold OwnI at h1; rw [← hN] at h1; exact h1
        have hbw : Below w.heap.size w wb := hb.trans (hbb.mono hb.size)
        have hle : w.heap.size ≤ (wb.alloc (.cells #[.int .i64 x2] 3)).heap.size := by have := hbw.size; simp; omega
        have hNl : N ≤ 100000 := by have := Sy.ends_len ((zs.drop f).take j) b; rw [List.length_take, List.length_drop] at this; rw [hN, hys]; omega
        have hml : N + 1 ≤ maxLen := by unfold maxLen; omega
        have hby : (N + 1) * 8 ≤ 140737488355328 := by omega
        have q0 : (0 : Int) ≤ (j : Int) := by omega
        have q1 : (j : Int) < (R : Int) := by omega
        have HZ : Hid _ := And.intro hOz (And.intro hbw (And.intro hwb (And.intro hys (And.intro hst (And.intro hN (And.intro hOb hno))))))
        clear hO hOb hOz hbw hwb hbb hgb hys hst hN hx hb hno
        by_cases hxb : x1 = b
        · have e1 : (x1 != b) = false := by simp [hxb]
          have HX : Hid (x1 = b) := hxb
          clear hxb
          go_upto_region 7 with fail
          rw [← HZ.out.2.2.1]
          go_wp2_with (at_builtin; refine wpList_append_own_at _ rfl _ _ 49 rfl w.heap.size 3 i0 (.int .i64 0) 1 8 Tryz.underlying49 hi0 hz0 hz1 hz2 rfl (by decide) (.slice au N cu) N (iC ys) rfl (HZ.out.1.alloc _) ⟨wb.heap.size, 0, none⟩ 1 1 [.int .i64 x2] rfl rfl (World.news_of_block (cs := #[.int .i64 x2]) (t := 3) (fr := (0, 0)) (heap_alloc_new wb _)) (by simp [Value.oneCell']) hml hby hle ?_; intro v5 w5 hO5 hg5 hnil5 hat5; have H5 : Hid _ := And.intro hO5 hg5; clear hO5 hg5 hnil5 hat5)
          go_roundg (R - (j + 1))
          case measure => omega
          case rel =>
            refine ⟨j + 1, rfl, by omega, by go_num, ?_, ?_⟩
            · rw [HZ.out.2.2.2.2.1, if_pos HX.out, ← HZ.out.2.2.2.1]
              unfold OwnI
              rw [iC_snoc, List.length_append, ← HZ.out.2.2.2.2.2.1]
              exact H5.out.1
            · exact HZ.out.2.1.trans ((grown_alloc H5.out.2).below HZ.out.2.1.size fun b hb => (HZ.out.1.lt b hb).1)
        · have e1 : (x1 != b) = true := by simp [hxb]
          have HX : Hid (x1 ≠ b) := hxb
          clear hxb
          go_upto_region 7 with fail
          rw [← HZ.out.2.2.1]
          go_wp2_with fail
          go_ret
          refine ⟨_, rfl, ?_, HZ.out.2.1⟩
          rw [HZ.out.2.2.2.2.2.2.2 HX.out, ← HZ.out.2.2.2.1]
          exact HZ.out.2.2.2.2.2.2.1
      · obtain rfl : j = R := by omega
        have q1 : ¬ (j : Int) < (j : Int) := by omega
        have HO : Hid _ := And.intro hO (And.intro hb hys)
        clear hO hb hys hN
        go_wp2_with fail
        go_ret
        refine ⟨_, rfl, ?_, HO.out.2.1⟩
        rw [Sy.ends_cut (j := j) H1.out.2.2.2.1 H3.out.1 (by have := H2.out.2.2.2.2; have := H4.out.2; omega) (fun z hz => by have := (List.getElem?_eq_some_iff.1 hz).1; have := H2.out.2.2.2.2; have := H4.out.2; omega), ← HO.out.2.2]
        exact HO.out.1
set_option maxRecDepth 100000 in
set_option maxHeartbeats 1000000 in
theorem by_any {B g bs bb cs cb n : Nat} {k s : Int} {es : List Sy.Ed} (i b : Int) (w : World) (h : Gr w B g bs bb cs cb n k s es) : Calls Tryz.prog 10 #[.pointer (some ⟨g, 0, none⟩), .int .i64 i, .int .i64 b] w fun r w' => ∃ u, r = .returned u ∧ OwnI w' w.heap.size u (Sy.ends (Sy.rowOf n (Sy.nf es) i) b) ∧ Below w.heap.size w w' := by
  obtain ⟨_, _, _, ⟨c0, c1⟩, _, _⟩ := h.cells
  have hq := Tryz.eqG g
  have hs := h.sizes
  have hR := tends_any bs bb (Sy.nf es).length n B (Sy.nf es) i b w (by omega) (rfl) (by omega) (Sy.nf_str _) h.out
  unfold tabV at hR
  have HR : Hid _ := hR
  obtain ⟨L, hL⟩ : ∃ L, L = (Sy.nf es).length := ⟨_, rfl⟩
  rw [← hL] at c0 HR
  clear h hR hL hs
  go_enter Tryz.func10, Tryz.ntmps10
  go_wp2_with fail
  refine Calls.mono HR.out ?_
  rintro r w1 ⟨u, rfl, hO, hb⟩
  have H1 : Hid _ := And.intro hO hb
  clear hO hb
  go_wp2_with fail
  go_ret
  exact ⟨_, rfl, H1.out.1, H1.out.2⟩
set_option maxRecDepth 100000 in
set_option maxHeartbeats 1000000 in
theorem from_any {B g bs bb cs cb n : Nat} {k s : Int} {es : List Sy.Ed} (i b : Int) (w : World) (h : Gr w B g bs bb cs cb n k s es) : Calls Tryz.prog 11 #[.pointer (some ⟨g, 0, none⟩), .int .i64 i, .int .i64 b] w fun r w' => ∃ u, r = .returned u ∧ OwnI w' w.heap.size u (Sy.ends (Sy.rowOf n (Sy.nf ((Sy.nf es).map Sy.turn)) i) b) ∧ Below w.heap.size w w' := by
  obtain ⟨_, _, _, _, c0, c1⟩ := h.cells
  have hq := Tryz.eqG g
  have hs := h.sizes
  have hR := tends_any cs cb (Sy.nf es).length n B (Sy.nf ((Sy.nf es).map Sy.turn)) i b w (by omega) (nf_turn_len es) (by omega) (Sy.nf_str _) h.inn
  unfold tabV at hR
  have HR : Hid _ := hR
  obtain ⟨L, hL⟩ : ∃ L, L = (Sy.nf es).length := ⟨_, rfl⟩
  rw [← hL] at c0 HR
  clear h hR hL hs
  go_enter Tryz.func11, Tryz.ntmps11
  go_wp2_with fail
  refine Calls.mono HR.out ?_
  rintro r w1 ⟨u, rfl, hO, hb⟩
  have H1 : Hid _ := And.intro hO hb
  clear hO hb
  go_wp2_with fail
  go_ret
  exact ⟨_, rfl, H1.out.1, H1.out.2⟩
end Go.Proofs.YtihdpncjgmpboaaGreatDoor
/- Contract of the program's Edges. -/
namespace Go.Proofs.YtihdpncjgmpboaaGreatDoor
open Go.RowKit Go.Maps
attribute [local go_sem ↓] Go.wp_at_zero Go.wp_at_succ
/-- A state's steps as edges. -/
def Sy.es1 (st : Int) (zs : List BSteps.El) : List Sy.Ed := zs.map fun x => (st, x.1, x.2)
theorem Sy.es1_steps (l : List Sy.Ed) (st : Int) : Sy.es1 st (Sy.steps l st) = l.filter fun e => e.1 == st := by
  unfold Sy.es1 Sy.steps
  rw [List.map_map]
  have h : ∀ e ∈ l.filter (fun e => e.1 == st), ((fun x : BSteps.El => (st, x.1, x.2)) ∘ fun e : Sy.Ed => (e.2.1, e.2.2)) e = e := fun e he => by
    have := (List.mem_filter.1 he).2
    simp at this
    obtain ⟨a, b, c⟩ := e
    simp at this
    simp [this]
  rw [List.map_congr_left h]
  simp
theorem Sy.take_row {l : List Sy.Ed} (h : Sy.Rows l) (st : Int) : l.take (Sy.cnt l st) ++ Sy.es1 st (Sy.steps l st) = l.take (Sy.cnt l (st + 1)) := by
  rw [Sy.es1_steps, Sy.row_piece h st]
  have h1 := Sy.cnt_mono l st
  conv => rhs; rw [show Sy.cnt l (st + 1) = Sy.cnt l st + (Sy.cnt l (st + 1) - Sy.cnt l st) by omega, List.take_add]
theorem Sy.es1_snoc {st : Int} {zs : List BSteps.El} {k : Nat} {x : BSteps.El} (h : zs[k]? = some x) : Sy.es1 st (zs.take (k + 1)) = Sy.es1 st (zs.take k) ++ [(st, x.1, x.2)] := by
  rw [take_succ_of h]
  simp [Sy.es1]
theorem Sy.es1_len (st : Int) (zs : List BSteps.El) : (Sy.es1 st zs).length = zs.length := by simp [Sy.es1]
theorem Sy.take_all {n k s : Int} {es : List Sy.Ed} (h : Sy.right n k s es = true) : (Sy.nf es).take (Sy.cnt (Sy.nf es) n) = Sy.nf es := by
  rw [Sy.cnt_all fun e he => ((right_parts h).2.2.2.2.2 e ((Sy.nf_mem es e).1 he)).2.1, List.take_length]
theorem Sy.take_none {n k s : Int} {es : List Sy.Ed} (h : Sy.right n k s es = true) : (Sy.nf es).take (Sy.cnt (Sy.nf es) 0) = [] := by
  rw [Sy.cnt_none fun e he => by have := ((right_parts h).2.2.2.2.2 e ((Sy.nf_mem es e).1 he)).1; omega]
  rfl
set_option maxRecDepth 100000 in
set_option maxHeartbeats 8000000 in
theorem edges_any {B g bs bb cs cb n : Nat} {k s : Int} {es : List Sy.Ed} (w : World) (h : Gr w B g bs bb cs cb n k s es) : Calls Tryz.prog 13 #[.pointer (some ⟨g, 0, none⟩)] w fun r w' => ∃ u, r = .returned u ∧ BEdges.Own w' w.heap.size u (Sy.nf es) ∧ Below w.heap.size w w' := by
  obtain ⟨i0, hi0, hz0, hz1, hz2⟩ := info_parts BEdges.Tryz.infoE
  have hSt := states_any w h
  have hs := h.sizes
  have HG : Hid _ := And.intro h (And.intro hSt hs)
  have hn : n ≤ 1000 := hs.1
  obtain ⟨l, hl⟩ : ∃ l, l = Sy.nf es := ⟨_, rfl⟩
  have HL : Hid (l = Sy.nf es ∧ Sy.Rows l ∧ l.take (Sy.cnt l 0) = [] ∧ l.take (Sy.cnt l n) = l) := (by rw [hl]; exact ⟨rfl, nf_rows es, Sy.take_none h.right, Sy.take_all h.right⟩ : l = Sy.nf es ∧ Sy.Rows l ∧ l.take (Sy.cnt l 0) = [] ∧ l.take (Sy.cnt l n) = l)
  rw [← hl]
  clear h hSt hs hl
  go_enter Tryz.func13, Tryz.ntmps13
  go_wp2_with (go_at_call 31; refine Calls.mono HG.out.2.1 ?_; rintro r w1 ⟨rfl, hw⟩; obtain rfl := hw.symm)
  go_loopg [3, 9] n (fun q uv iv wr => ∃ st : Nat, q = n - st ∧ st ≤ n ∧ iv = .int .i64 st ∧ BEdges.Own wr w.heap.size uv (l.take (Sy.cnt l (st : Int))) ∧ Below w.heap.size w wr)
  case atStart => exact ⟨0, rfl, Nat.zero_le _, rfl, by show BEdges.Own w w.heap.size _ (l.take (Sy.cnt l 0)); rw [HL.out.2.2.1]; exact World.ownsRow_nil _ _ _ _, Below.refl _ _⟩
  case round =>
    obtain ⟨st, rfl, hst, rfl, hO, hb⟩ := hrel
    obtain ⟨wq, rfl⟩ : ∃ wq, wq = wr := ⟨_, rfl⟩
    by_cases hlt : st < n
    · have hG := HG.out.1.below hb
      obtain ⟨_, _, _, ⟨c0, c1⟩, _, _⟩ := hG.cells
      have hR := hG.row (st : Int)
      have hT := hG.out
      obtain ⟨L, hL⟩ : ∃ L, L = (Sy.nf es).length := ⟨_, rfl⟩
      have hl1 := Sy.steps_len (Sy.nf es) (st : Int)
      have hsz := HG.out.2.2.2
      rw [rowOf_in _ hlt] at hR
      have HR : Hid _ := And.intro hR (And.intro hb (And.intro hO (And.intro hL hT)))
      rw [← hL] at HR c0 hsz hl1
      have r1 : (st : Int) < (n : Int) := by omega
      clear hG hR hb hL hT hO
      go_wp2_with fail
      refine Calls.mono HR.out.1 ?_
      rintro r w1 ⟨v, rfl, hv, hb1⟩
      obtain ⟨av, cv, rfl, _⟩ := hv wq HR.out.2.2.2.2
      obtain ⟨M, hM⟩ : ∃ M, M = (Sy.steps (Sy.nf es) (st : Int)).length := ⟨_, rfl⟩
      rw [← hM]
      rw [← hM] at hv hl1
      have H1 : Hid _ := And.intro hv (And.intro hb1 hM)
      clear hv hb1 hM c0 c1
      go_wp2_with fail
      go_loopg [3, 19] M (fun q uv kv wr => ∃ k2 : Nat, q = M - k2 ∧ k2 ≤ M ∧ kv = .int .i64 k2 ∧ BEdges.Own wr w.heap.size uv (l.take (Sy.cnt l (st : Int)) ++ Sy.es1 st ((Sy.steps l st).take k2)) ∧ Below w.heap.size w wr)
      case atStart =>
        refine ⟨0, rfl, Nat.zero_le _, rfl, ?_, HR.out.2.1.trans (H1.out.2.1.mono HR.out.2.1.size)⟩
        have h1 : l.take (Sy.cnt l (st : Int)) ++ Sy.es1 st ((Sy.steps l st).take 0) = l.take (Sy.cnt l (st : Int)) := by simp [Sy.es1]
        rw [h1]
        exact trow_at HR.out.2.2.1 fun b hb => H1.out.2.1.block b (HR.out.2.2.1.lt b hb).2
      case round =>
        obtain ⟨k2, rfl, hk, rfl, hO, hb⟩ := hrel
        obtain ⟨ys, hys⟩ : ∃ ys, ys = l.take (Sy.cnt l (st : Int)) ++ Sy.es1 st ((Sy.steps l st).take k2) := ⟨_, rfl⟩
        rw [← hys] at hO
        obtain ⟨au, cu, hu⟩ := row_shape hO
        obtain ⟨N, hN⟩ : ∃ N, N = ys.length := ⟨_, rfl⟩
        rw [← hN] at hu
        subst hu
        have hys1 : N ≤ 100000 := by
          have h2 := List.length_take_le (Sy.cnt l (st : Int)) l
          have h3 := Sy.cnt_le l (st : Int)
          have h4 := List.length_take_le k2 (Sy.steps l st)
          have h5 := HG.out.2.2.2
          rw [← HL.out.1] at h5
          rw [hN, hys, List.length_append, Sy.es1_len]
          omega
        by_cases hkm : k2 < M
        · obtain ⟨x, hx⟩ : ∃ x, (Sy.steps l st)[k2]? = some x := ⟨(Sy.steps l st)[k2]'(by have := H1.out.2.2; rw [← HL.out.1] at this; omega), List.getElem?_eq_getElem _⟩
          have hx' := hx
          rw [HL.out.1] at hx'
          obtain ⟨a, rfl, d0, d1⟩ := step_at (H1.out.1 wr (HG.out.1.out.below hb)) hx'
          have hs1 := Sy.es1_snoc (st := (st : Int)) hx
          obtain ⟨x1, x2⟩ := x
          simp only at d0 d1 hs1
          obtain ⟨wb, hwb⟩ : ∃ wb, wb = wr.alloc (.cells #[.int .i64 x1, .int .i64 x2] 76) := ⟨_, rfl⟩
          have hbb : Below wr.heap.size wr wb := by rw [hwb]; exact (Below.refl _ _).alloc (Nat.le_refl _) _
          have hgb : wb.heap[wr.heap.size]? = some (.cells #[.int .i64 x1, .int .i64 x2] 76 (0, 0)) := by rw [hwb]; exact heap_alloc_new wr _
          have f0 : wb.cell? ⟨wr.heap.size, 0, none⟩ = some (.int .i64 x1) := cell0_of hgb rfl
          have f1 : wb.cell? ⟨wr.heap.size, 1, none⟩ = some (.int .i64 x2) := cell0_of hgb rfl
          have hOb : BEdges.Own wb w.heap.size (.slice au N cu) ys := trow_at hO fun b hb => hbb.block b (hO.lt b hb).2
          have hOz : wb.ownsRow w.heap.size 65 3 (.slice au N cu) N (BEdges.C ys) := by have h1 := hOb; unfold BEdges.Own at h1; rw [← hN] at h1; exact h1
          have hbw : Below w.heap.size w wb := hb.trans (hbb.mono hb.size)
          have hle : w.heap.size ≤ (wb.alloc (.cells #[.int .i64 st, .int .i64 x1, .int .i64 x2] 65)).heap.size := by have := hbw.size; simp; omega
          have hml : N + 1 ≤ maxLen := by unfold maxLen; omega
          have hby : (N + 1) * 24 ≤ 140737488355328 := by omega
          have k0 : (0 : Int) ≤ (k2 : Int) := by omega
          have k1 : (k2 : Int) < (M : Int) := by omega
          have HZ : Hid _ := And.intro hOz (And.intro hbw (And.intro hwb (And.intro hys (And.intro hs1 hN))))
          clear hO hOb hOz hbw hwb hbb hgb hys hs1 hN hx hx' hb
          go_upto_region 8 with fail
          rw [← HZ.out.2.2.1]
          go_wp2_with (at_builtin; refine wpList_append_own_at _ rfl _ _ 22 rfl w.heap.size 65 i0 (.agg #[.int .i64 0, .int .i64 0, .int .i64 0]) 3 24 Tryz.underlying22 hi0 hz0 hz1 hz2 rfl (by decide) (.slice au N cu) N (BEdges.C ys) rfl (HZ.out.1.alloc _) ⟨wb.heap.size, 0, none⟩ 1 1 [.int .i64 st, .int .i64 x1, .int .i64 x2] rfl rfl (World.news_of_block (cs := #[.int .i64 st, .int .i64 x1, .int .i64 x2]) (t := 65) (fr := (0, 0)) (heap_alloc_new wb _)) (by simp [Value.oneCell']) hml hby hle ?_; intro v5 w5 hO5 hg5 hnil5 hat5; have H2 : Hid _ := And.intro hO5 hg5; clear hO5 hg5 hnil5 hat5)
          go_roundg (M - (k2 + 1))
          case measure => omega
          case rel =>
            refine ⟨k2 + 1, rfl, by omega, by go_num, ?_, ?_⟩
            · rw [HZ.out.2.2.2.2.1, ← List.append_assoc, ← HZ.out.2.2.2.1]
              unfold BEdges.Own
              rw [BEdges.C_snoc, List.length_append, ← HZ.out.2.2.2.2.2]
              exact H2.out.1
            · exact HZ.out.2.1.trans ((grown_alloc H2.out.2).below HZ.out.2.1.size fun b hb => (HZ.out.1.lt b hb).1)
        · obtain rfl : k2 = M := by omega
          have k1 : ¬ (k2 : Int) < (k2 : Int) := by omega
          have hfull : ys = l.take (Sy.cnt l ((st : Int) + 1)) := by
            have ht : (Sy.steps l st).take k2 = Sy.steps l st := List.take_of_length_le (by have := H1.out.2.2; rw [← HL.out.1] at this; omega)
            rw [hys, ht]
            exact Sy.take_row HL.out.2.1 st
          have HJ : Hid _ := And.intro hO (And.intro hfull (And.intro hb hN))
          clear hO hfull hb hN hys
          go_wp2_with fail
          go_roundg (n - (st + 1))
          case measure => omega
          case rel =>
            refine ⟨st + 1, rfl, by omega, by go_num, ?_, HJ.out.2.2.1⟩
            rw [show (((st + 1 : Nat) : Int)) = (st : Int) + 1 by omega, ← HJ.out.2.1]
            exact HJ.out.1
    · obtain rfl : st = n := by omega
      have r1 : ¬ (st : Int) < (st : Int) := by omega
      rw [HL.out.2.2.2] at hO
      have HJ : Hid _ := And.intro hO hb
      obtain ⟨au, cu, hu⟩ := row_shape hO
      obtain ⟨N, hN⟩ : ∃ N, N = l.length := ⟨_, rfl⟩
      rw [← hN] at hu
      subst hu
      clear hO hb hN
      go_wp2_with fail
      go_ret
      exact ⟨_, rfl, HJ.out.1, HJ.out.2⟩
end Go.Proofs.YtihdpncjgmpboaaGreatDoor
/- Contract of the document's Reach: which states are reachable. -/
namespace Go.Proofs.YtihdpncjgmpboaaGreatDoor
open Go.RowKit Go.Maps
attribute [local go_sem ↓] Go.wp_at_zero Go.wp_at_succ
end Go.Proofs.YtihdpncjgmpboaaGreatDoor
