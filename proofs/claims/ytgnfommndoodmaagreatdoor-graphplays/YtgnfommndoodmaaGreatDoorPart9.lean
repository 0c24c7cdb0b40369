/- Texts of this claim, joined: SyOut, SyBack, SyReach0, SyEnds. -/
import Derived.Test.YtgnfommndoodmaaGreatDoorPart5
import Derived.Test.YtgnfommndoodmaaGreatDoorPart1
import Derived.Test.YtgnfommndoodmaaGreatDoorPart0
import Derived.Deep.AppendLies
/- Contract of the document's Out: of each state its steps. -/
namespace Go.Proofs.YtgnfommndoodmaaGreatDoor
open Go.RowKit Go.Maps
attribute [local go_sem ↓] Go.wp_at_zero Go.wp_at_succ
/-- Rows of steps, one for each state, all of them from B on, no two in one block. -/
structure Outs (w : World) (B : Nat) (us : List Value) (n : Nat) (f : Nat → List BSteps.El) : Prop where
  len : us.length = n
  row : ∀ i, i < n → ∃ u, us[i]? = some u ∧ BSteps.Own w B u (f i)
  ap : ∀ (i j : Nat) (u x : Value) (b : Nat), us[i]? = some u → us[j]? = some x → i ≠ j → u.ownBlock = some b → x.ownBlock ≠ some b
theorem Outs.below {w w' : World} {B : Nat} {us : List Value} {n : Nat} {f : Nat → List BSteps.El} (h : Outs w B us n f) (hb : Below w.heap.size w w') : Outs w' B us n f :=
  ⟨h.len, fun i hi => by obtain ⟨u, h1, h2⟩ := h.row i hi; exact ⟨u, h1, trow_at h2 fun b hb' => hb.block b (h2.lt b hb').2⟩, h.ap⟩
theorem outs_new (w : World) (B n : Nat) : Outs w B (List.replicate n (.slice none 0 0)) n fun _ => [] :=
  ⟨by simp, fun i hi => ⟨.slice none 0 0, by rw [List.getElem?_replicate, if_pos hi], World.ownsRow_nil _ _ _ _⟩, fun i j u x b h1 _ _ h3 => by
    rw [List.getElem?_replicate] at h1
    split at h1
    · cases h1; cases h3
    · cases h1⟩
/-- One row has grown. -/
theorem Outs.set {w w' : World} {B : Nat} {us : List Value} {n : Nat} {f : Nat → List BSteps.El} (h : Outs w B us n f) {i : Nat} {u u' : Value} {F : Nat → Prop} (hi : i < n) (hu : us[i]? = some u) (hk : Kept F w w') (hF : ∀ b, F b → u.ownBlock = some b ∨ ∀ (j : Nat) (x : Value), us[j]? = some x → x.ownBlock ≠ some b) {zs : List BSteps.El} (hO : BSteps.Own w' B u' zs) (hat : u'.ownBlock = u.ownBlock ∨ ∀ b, u'.ownBlock = some b → w.heap.size ≤ b) :
    Outs w' B (us.set i u') n (fun j => if j = i then zs else f j) := by
  refine ⟨by rw [List.length_set]; exact h.len, fun j hj => ?_, fun a c x y b hx hy hac hb => ?_⟩
  · by_cases e : j = i
    · subst e
      exact ⟨u', List.getElem?_set_self (by rw [h.len]; exact hj), by rw [if_pos rfl]; exact hO⟩
    · obtain ⟨x, h1, h2⟩ := h.row j hj
      refine ⟨x, by rw [List.getElem?_set_ne (fun e' => e e'.symm)]; exact h1, ?_⟩
      rw [if_neg e]
      refine own_up h2 hk fun b hb hf => ?_
      rcases hF b hf with hf | hf
      · exact h.ap j i x u b h1 hu e hb hf
      · exact hf j x h1 hb
  · have hold : ∀ (j : Nat) (z : Value), us[j]? = some z → j ≠ i → ∀ b, z.ownBlock = some b → u'.ownBlock ≠ some b := fun j z hz hj b hzb e => by
      rcases hat with h1 | h1
      · rw [h1] at e; exact h.ap j i z u b hz hu hj hzb e
      · have h2 := h1 b e
        obtain ⟨z', h3, h4⟩ := h.row j (by have := (List.getElem?_eq_some_iff.1 hz).1; rw [h.len] at this; exact this)
        rw [hz] at h3; cases h3
        have := (h4.lt b hzb).2
        omega
    by_cases ea : a = i
    · subst ea
      rw [List.getElem?_set_self (by rw [h.len]; exact hi)] at hx
      cases hx
      rw [List.getElem?_set_ne hac] at hy
      exact fun e => hold c y hy (fun e' => hac e'.symm) b e hb
    · rw [List.getElem?_set_ne (fun e' => ea e'.symm)] at hx
      by_cases ec : c = i
      · subst ec
        rw [List.getElem?_set_self (by rw [h.len]; exact hi)] at hy
        cases hy
        exact hold a x hx ea b hb
      · rw [List.getElem?_set_ne (fun e' => ec e'.symm)] at hy
        exact h.ap a c x y b hx hy hac hb
theorem Outs.congr {w : World} {B : Nat} {us : List Value} {n : Nat} {f g : Nat → List BSteps.El} (h : Outs w B us n f) (hfg : ∀ i, i < n → f i = g i) : Outs w B us n g :=
  ⟨h.len, fun i hi => by rw [← hfg i hi]; exact h.row i hi, h.ap⟩
theorem Outs.kept {w w' : World} {B : Nat} {us : List Value} {n : Nat} {f : Nat → List BSteps.El} {F : Nat → Prop} (h : Outs w B us n f) (hk : Kept F w w') (hF : ∀ (j : Nat) (x : Value), us[j]? = some x → ∀ b, x.ownBlock = some b → ¬ F b) : Outs w' B us n f :=
  ⟨h.len, fun i hi => by obtain ⟨u, h1, h2⟩ := h.row i hi; exact ⟨u, h1, own_up h2 hk fun b hb => hF i u h1 b hb⟩, h.ap⟩
theorem kcell {w w' : World} {F : Nat → Prop} (hk : Kept F w w') {b o : Nat} {v : Value} (hF : ¬ F b) (c : w.cell? ⟨b, o, none⟩ = some v) : w'.cell? ⟨b, o, none⟩ = some v := (World.cell?_of_block (a := ⟨b, o, none⟩) (hk.block b (World.block_lt_of_cell? w _ c) hF)).trans c
/-- One row more long, its slice laid into the list of rows. -/
theorem outs_grow {w wr w4 : World} {g n i N g4 k4 cu : Nat} {au : Option Addr} {us : List Value} {f : Nat → List BSteps.El} (z : BSteps.El) (hOs : Outs wr w.heap.size us n f) (hi : i < n) (hu : us[i]? = some (.slice au N cu)) (hN : N = (f i).length) (hown : w4.ownsRow w.heap.size 92 2 (.slice (some ⟨g4, 0, none⟩) (N + 1) k4) (N + 1) (BSteps.C (f i) ++ [.int .i64 z.1, .int .i64 z.2])) (hk : Kept (fun b => (Value.slice au N cu).ownBlock = some b) wr w4) (hat : (Value.slice au N cu).ownBlock = some g4 ∨ g4 = wr.heap.size + 1) (hA4 : Arr 41 w w4 g us) :
    Arr 41 w (w4.setCell ⟨g, i, none⟩ (.slice (some ⟨g4, 0, none⟩) (N + 1) k4)) g (us.set i (.slice (some ⟨g4, 0, none⟩) (N + 1) k4)) ∧ Outs (w4.setCell ⟨g, i, none⟩ (.slice (some ⟨g4, 0, none⟩) (N + 1) k4)) w.heap.size (us.set i (.slice (some ⟨g4, 0, none⟩) (N + 1) k4)) n (fun j => if j = i then f i ++ [z] else f j) ∧ Kept (fun b => b = g ∨ (Value.slice au N cu).ownBlock = some b) wr (w4.setCell ⟨g, i, none⟩ (.slice (some ⟨g4, 0, none⟩) (N + 1) k4)) := by
  have hO : BSteps.Own w4 w.heap.size (.slice (some ⟨g4, 0, none⟩) (N + 1) k4) (f i ++ [z]) := by
    unfold BSteps.Own
    have e1 : (f i ++ [z]).length = N + 1 := by rw [List.length_append, hN]; rfl
    rw [e1, BSteps.C_app]
    exact hown
  have h1 := hOs.set (F := fun b => (Value.slice au N cu).ownBlock = some b) hi hu hk (fun b hb => .inl hb) hO (by
    rcases hat with h | h
    · exact .inl h.symm
    · exact .inr fun b hb => by have e9 : g4 = b := Option.some.inj hb
                                omega)
  refine ⟨hA4.set i _, ?_, ?_⟩
  · refine h1.kept (Kept.setCell w4 g i _) fun j x hx b hb e => ?_
    obtain ⟨cs, hc, _⟩ := hA4.ids
    obtain ⟨x', h2, h3⟩ := h1.row j (by have := (List.getElem?_eq_some_iff.1 hx).1; rw [h1.len] at this; exact this)
    rw [hx] at h2; cases h2
    exact own_bk h3 hc (by decide) (by rw [← e]; exact hb)
  · exact (hk.mono fun b _ hb => .inr hb).trans ((Kept.setCell w4 g i _).mono fun b _ hb => .inl hb)
theorem Sy.steps_take {l : List Sy.Ed} {j : Nat} {e : Sy.Ed} (he : l[j]? = some e) (i : Int) : Sy.steps (l.take (j + 1)) i = if e.1 = i then Sy.steps (l.take j) i ++ [(e.2.1, e.2.2)] else Sy.steps (l.take j) i := by
  rw [List.take_add_one, he]
  exact Sy.steps_snoc _ _ _
theorem out_round {w wr w4 : World} {g n N g4 k4 cu gl c : Nat} {au : Option Addr} {us : List Value} {l : List Sy.Ed} {j L f : Nat} {e : Sy.Ed} (hL : j < L) (hfn : f < n) (hOs : Outs wr w.heap.size us n (fun i => Sy.steps (l.take j) i)) (hOl : BEdges.Own wr w.heap.size (.slice (some ⟨gl, 0, none⟩) l.length c) l) (he : l[j]? = some e) (hf : e.1 = (f : Int)) (hu : us[f]? = some (.slice au (Sy.steps (l.take j) f).length cu)) (hN : N = (Sy.steps (l.take j) f).length)
    (hown : w4.ownsRow w.heap.size 92 2 (.slice (some ⟨g4, 0, none⟩) (N + 1) k4) (N + 1) (BSteps.C (Sy.steps (l.take j) f) ++ [.int .i64 e.2.1, .int .i64 e.2.2])) (hk : Kept (fun b => (Value.slice au N cu).ownBlock = some b) wr w4) (hat : (Value.slice au N cu).ownBlock = some g4 ∨ g4 = wr.heap.size + 1) (hA4 : Arr 41 w w4 g us) (hne : ¬ gl = g) (hgl : ¬ (Value.slice au N cu).ownBlock = some gl) :
    ∃ (j1 : Nat) (us : List Value), L - (j + 1) = L - j1 ∧ j1 ≤ L ∧ Value.int .i64 ((j : Int) + 1) = .int .i64 j1 ∧ Arr 41 w (w4.setCell ⟨g, f, none⟩ (.slice (some ⟨g4, 0, none⟩) (N + 1) k4)) g us ∧ Outs (w4.setCell ⟨g, f, none⟩ (.slice (some ⟨g4, 0, none⟩) (N + 1) k4)) w.heap.size us n (fun i => Sy.steps (l.take j1) i) ∧ BEdges.Own (w4.setCell ⟨g, f, none⟩ (.slice (some ⟨g4, 0, none⟩) (N + 1) k4)) w.heap.size (.slice (some ⟨gl, 0, none⟩) l.length c) l := by
  obtain ⟨h1, h2, h3⟩ := outs_grow (e.2.1, e.2.2) hOs hfn (by rw [hN]; exact hu) hN hown hk hat hA4
  refine ⟨j + 1, _, rfl, hL, rfl, h1, h2.congr fun i hi => ?_, own_up hOl h3 fun b hb hF => ?_⟩
  · rw [Sy.steps_take he, hf]
    by_cases e9 : i = f
    · subst e9; rw [if_pos rfl, if_pos rfl]
    · rw [if_neg e9, if_neg (fun h => e9 (by omega))]
  · cases hb
    rcases hF with hF | hF
    · exact hne hF
    · exact hgl hF
set_option linter.unusedSimpArgs false in
set_option maxRecDepth 100000 in
set_option maxHeartbeats 8000000 in
theorem refOut_any (n : Nat) (k s : Int) (v : Value) (es : List Sy.Ed) (w : World) (hn : n ≤ 1000000) (hv : HasE w v es) (hm : es.length ≤ 100000) (hr : ∀ e ∈ es, 0 ≤ e.1 ∧ e.1 < (n : Int)) :
    Calls Tryz.prog 12 #[sysV n k s v] w fun e w' => ∃ g us, e = .returned (.slice (some ⟨g, 0, none⟩) n n) ∧ Arr 41 w w' g us ∧ Outs w' w.heap.size us n (fun i => Sy.steps (Sy.nf es) i) := by
  obtain ⟨i0, hi0, hz0, hz1, hz2⟩ := info_parts BSteps.Tryz.infoE
  obtain ⟨w0, hw0⟩ : ∃ w0, w0 = w.alloc (.cells #[.int .i64 n, .int .i64 k, .int .i64 s, v] 24) := ⟨_, rfl⟩
  have hb0 : Below w.heap.size w w0 := by rw [hw0]; exact (Below.refl _ _).alloc (Nat.le_refl _) _
  have hs0 : w0.heap.size = w.heap.size + 1 := by rw [hw0]; simp
  have hg0 : w0.heap[w.heap.size]? = some (.cells #[.int .i64 n, .int .i64 k, .int .i64 s, v] 24 (0, 0)) := by rw [hw0]; exact heap_alloc_new w _
  have hA0 := arr_new 41 (.slice none 0 0) rfl n w0
  have hmk := makeSt n hn w0
  have hS := refSorted_any v es _ ((hv.below hb0).below hA0.bl) hm
  unfold SortedAt at hS
  have hv0 := hv
  obtain ⟨ao, cap, rfl, _⟩ := hv0
  obtain ⟨m, hmm⟩ : ∃ m, m = es.length := ⟨_, rfl⟩
  obtain ⟨l, hl⟩ : ∃ l, l = Sy.nf es := ⟨_, rfl⟩
  rw [← hmm] at hS hw0 hg0 ⊢
  rw [← hl] at hS ⊢
  have hlr : ∀ e ∈ l, 0 ≤ e.1 ∧ e.1 < (n : Int) := fun e he => hr e ((Sy.nf_mem es e).1 (by rw [← hl]; exact he))
  have hll : l.length ≤ 100000 := by have := Sy.nf_len es; rw [← hl] at this; omega
  have H0 : Hid _ := And.intro hS (And.intro hb0 (And.intro hg0 (And.intro hA0 (And.intro hw0 hs0))))
  have HLR : Hid _ := hlr
  unfold sysV
  obtain ⟨x0, x1, x2, x3⟩ := four_cells hg0
  clear hS hb0 hg0 hA0 hw0 hlr hv hr hmm hl
  go_enter Tryz.func12, Tryz.ntmps12
  go_upto_region 1 with fail
  rw [← H0.out.2.2.2.2.1]
  go_wp2_with fail
  refine Calls.mono H0.out.1 ?_
  rintro e w1 ⟨u, rfl, hO, hb1⟩
  obtain ⟨bo, cbp, rfl⟩ := row_shape hO
  obtain ⟨L, hL⟩ : ∃ L, L = l.length := ⟨_, rfl⟩
  have hA1 : Arr 41 w w1 w0.heap.size (List.replicate n (.slice none 0 0)) := by
    have h1 := H0.out.2.2.2.1.below hb1
    exact ⟨H0.out.2.1.trans (h1.bl.mono H0.out.2.1.size), h1.ids, by rw [H0.out.2.2.2.2.2]; omega⟩
  have hO1 : BEdges.Own w1 w.heap.size (.slice bo l.length cbp) l := row_base hO (by have := hA1.bl.size; have := H0.out.2.2.2.1.bl.size; have := H0.out.2.1.size; omega)
  rw [hs0] at hA1
  have H1 : Hid _ := And.intro hA1 (And.intro hO1 hL)
  rw [← hL]
  rw [← hL] at hll
  clear hO hb1 hA1 hO1 hL x0 x1 x2 x3 hmk
  obtain ⟨g, hgg⟩ : ∃ g, g = w.heap.size + 1 := ⟨_, rfl⟩
  rw [← hgg] at H1 ⊢
  have hg1 : w.heap.size < g := by omega
  clear hgg H0 hs0
  go_wp2_with fail
  go_loopg [5] L (fun q jv wr => ∃ (j : Nat) (us : List Value), q = L - j ∧ j ≤ L ∧ jv = .int .i64 j ∧ Arr 41 w wr g us ∧ Outs wr w.heap.size us n (fun i => Sy.steps (l.take j) i) ∧ BEdges.Own wr w.heap.size (.slice bo l.length cbp) l)
  case atStart => exact ⟨0, _, rfl, Nat.zero_le _, rfl, H1.out.1, outs_new _ _ _, H1.out.2.1⟩
  case round =>
    obtain ⟨j, us, rfl, hj, rfl, hA, hOs, hOl⟩ := hrel
    by_cases hlt : j < L
    · obtain ⟨e, he⟩ : ∃ e, l[j]? = some e := ⟨l[j]'(by have := H1.out.2.2; omega), List.getElem?_eq_getElem _⟩
      obtain ⟨gl, hgl, e0, e1, e2⟩ := own_edge hOl he
      have hel := HLR.out e (List.mem_of_getElem? he)
      obtain ⟨f, hf⟩ : ∃ f : Nat, e.1 = (f : Int) := ⟨e.1.toNat, by omega⟩
      have hfn : f < n := by omega
      obtain ⟨u, hu, hOu⟩ := hOs.row f hfn
      obtain ⟨au, cu, rfl⟩ := row_shape hOu
      obtain ⟨N, hN⟩ : ∃ N, N = (Sy.steps (l.take j) f).length := ⟨_, rfl⟩
      have hNl : N ≤ 100000 := by have := Sy.steps_len (l.take j) f; rw [List.length_take] at this; omega
      have cu0 := hA.cell hu
      have cuf := hA.free f
      have hgw := hA.lt
      have hOu' : wr.ownsRow w.heap.size 92 2 (.slice au N cu) N (BSteps.C (Sy.steps (l.take j) f)) := by have h1 := hOu; unfold BSteps.Own at h1; rw [← hN] at h1; exact h1
      rw [← hN] at cu0
      rw [hf] at e0
      have q0 : (0 : Int) ≤ (j : Int) := by omega
      have q1 : (j : Int) < (L : Int) := by omega
      have q2 : (0 : Int) ≤ (f : Int) := by omega
      have q3 : (f : Int) < (n : Int) := by omega
      have hml : N + 1 ≤ maxLen := by unfold maxLen; omega
      have hby : (N + 1) * 16 ≤ 140737488355328 := by omega
      have hgb := own_ne hOl hOu' (by decide)
      have HA : Hid _ := And.intro hA (And.intro hOs (And.intro hOl (And.intro he (And.intro hf (And.intro hu (And.intro hOu' hN))))))
      have hOd : (wr.drew.alloc (.cells #[.int .i64 e.2.1, .int .i64 e.2.2] 92)).ownsRow w.heap.size 92 2 (.slice au N cu) N (BSteps.C (Sy.steps (l.take j) f)) := World.ownsRow.alloc (trow_at hOu' fun _ _ => rfl) _
      have HD : Hid _ := hOd
      have hle : w.heap.size ≤ (wr.drew.alloc (.cells #[.int .i64 e.2.1, .int .i64 e.2.2] 92)).heap.size := by have := hA.bl.size; simp; omega
      have HKP : Hid (∀ b, (Value.slice au N cu).ownBlock = some b → w.heap.size ≤ b ∧ b ≠ g) := (fun b hb => ⟨(hOu'.lt b hb).1, fun e => by
        obtain ⟨cs9, hc9, _⟩ := hA.ids
        exact own_bk hOu' hc9 (by decide) (by rw [← e]; exact hb)⟩ : ∀ b, (Value.slice au N cu).ownBlock = some b → w.heap.size ≤ b ∧ b ≠ g)
      cases hgl
      have HGL : Hid (¬ (Value.slice au N cu).ownBlock = some gl) := (fun h9 => hgb gl rfl h9 : ¬ (Value.slice au N cu).ownBlock = some gl)
      have n1 : gl < wr.heap.size := World.block_lt_of_cell? wr _ e0
      have n2 : ¬ gl = wr.heap.size := by omega
      have n3 : ¬ g = wr.heap.size := by omega
      have hne : ¬ gl = g := fun e9 => by
        obtain ⟨cs9, hc9, _⟩ := hA.ids
        exact own_bk (bk := g) hOl hc9 (by decide) (by rw [← e9]; rfl)
      have hne' : ¬ g = gl := fun e => hne e.symm
      clear hgb
      clear hA hOs hOl he hf hu hOu hOu' hN hel hOd
      go_upto_region 6 with fail
      refine wp_region_held_drew (S := (fun w' => w'.cell? ⟨gl, j * 3, none⟩ = some (.int .i64 f) ∧ w'.cell? ⟨gl, j * 3 + 1, none⟩ = some (.int .i64 e.2.1) ∧ w'.cell? ⟨gl, j * 3 + 2, none⟩ = some (.int .i64 e.2.2))) (by kernel_rfl) ?_ (fun hHeld => ?_)
      · exact ⟨e0, e1, e2⟩
      refine wpAnyH_take (i := 0) (oi := _) (v := ?_) rfl (by kernel_rfl) (by kernel_rfl) (by kernel_rfl) (fun _ _ _ h => h) (Or.inl ⟨by rfl, ?_⟩) (by assumption) ?_
      rotate_left
      · (intro w hSw; (try dsimp only at hSw); go_simp; (try with_reducible rfl))
      (try simp only [Act.put, List.setIfInBounds_toArray, List.set_cons_zero, List.set_cons_succ])
      refine wpAnyH_take (i := 1) (oi := _) (v := ?_) rfl (by kernel_rfl) (by kernel_rfl) (by kernel_rfl) (fun _ _ _ h => h) (Or.inl ⟨by rfl, ?_⟩) (by assumption) ?_
      rotate_left
      · (intro w hSw; (try dsimp only at hSw); go_simp; (try with_reducible rfl))
      (try simp only [Act.put, List.setIfInBounds_toArray, List.set_cons_zero, List.set_cons_succ])
      refine wpAnyH_take (i := 2) (oi := _) (v := ?_) rfl (by kernel_rfl) (by kernel_rfl) (by kernel_rfl) (fun _ _ _ h => h) (Or.inl ⟨by rfl, ?_⟩) (by assumption) ?_
      rotate_left
      · (intro w hSw; (try dsimp only at hSw); go_simp; (try with_reducible rfl))
      (try simp only [Act.put, List.setIfInBounds_toArray, List.set_cons_zero, List.set_cons_succ])
      refine wpAnyH_take (i := 3) (oi := _) (v := ?_) rfl (by kernel_rfl) (by kernel_rfl) (by kernel_rfl) (fun _ _ _ h => h) (Or.inl ⟨by rfl, ?_⟩) (by assumption) ?_
      rotate_left
      · (intro w hSw; (try dsimp only at hSw); go_simp; (try with_reducible rfl))
      (try simp only [Act.put, List.setIfInBounds_toArray, List.set_cons_zero, List.set_cons_succ])
      refine wpAnyH_take (i := 4) (oi := _) (v := ?_) rfl (by kernel_rfl) (by kernel_rfl) (by kernel_rfl) (fun _ _ _ h => h) (Or.inl ⟨by rfl, ?_⟩) (by assumption) ?_
      rotate_left
      · (intro w hSw; (try dsimp only at hSw); go_simp; (try with_reducible rfl))
      (try simp only [Act.put, List.setIfInBounds_toArray, List.set_cons_zero, List.set_cons_succ])
      refine wpAnyH_take (i := 5) (oi := _) (v := ?_) rfl (by kernel_rfl) (by kernel_rfl) (by kernel_rfl) (fun _ _ _ h => h) (Or.inl ⟨by rfl, ?_⟩) (by assumption) ?_
      rotate_left
      · (intro w hSw; (try dsimp only at hSw); go_simp; (try with_reducible rfl))
      (try simp only [Act.put, List.setIfInBounds_toArray, List.set_cons_zero, List.set_cons_succ])
      refine wpAnyH_take (i := 6) (oi := _) (v := ?_) rfl (by kernel_rfl) (by kernel_rfl) (by kernel_rfl) (fun _ _ _ h => h) (Or.inl ⟨by rfl, ?_⟩) (by assumption) ?_
      rotate_left
      · (intro w hSw; (try dsimp only at hSw); go_simp; (try with_reducible rfl))
      (try simp only [Act.put, List.setIfInBounds_toArray, List.set_cons_zero, List.set_cons_succ])
      refine wpAnyH_take (i := 7) (oi := _) (v := ?_) rfl (by kernel_rfl) (by kernel_rfl) (by kernel_rfl) (fun _ _ _ h => h) (Or.inl ⟨by rfl, ?_⟩) (by assumption) ?_
      rotate_left
      · (intro w hSw; (try dsimp only at hSw); go_simp; (try with_reducible rfl))
      (try simp only [Act.put, List.setIfInBounds_toArray, List.set_cons_zero, List.set_cons_succ])
      refine wpAnyH_take (i := 8) (oi := _) (v := ?_) rfl (by kernel_rfl) (by kernel_rfl) (by kernel_rfl) (fun _ _ _ h => h) (Or.inl ⟨by rfl, ?_⟩) (by assumption) ?_
      rotate_left
      · (intro w hSw; (try dsimp only at hSw); go_simp; (try with_reducible rfl))
      (try simp only [Act.put, List.setIfInBounds_toArray, List.set_cons_zero, List.set_cons_succ])
      refine wpAnyH_take (i := 9) (oi := _) (v := ?_) rfl (by kernel_rfl) (by kernel_rfl) (by kernel_rfl) (fun _ _ _ h => h) (Or.inl ⟨by rfl, ?_⟩) (by assumption) ?_
      rotate_left
      · (intro w hSw; (try dsimp only at hSw); go_simp; (try with_reducible rfl))
      (try simp only [Act.put, List.setIfInBounds_toArray, List.set_cons_zero, List.set_cons_succ])
      refine wpAnyH_take (i := 10) (oi := _) (v := ?_) rfl (by kernel_rfl) (by kernel_rfl) (by kernel_rfl) (fun _ _ _ h => h) (Or.inl ⟨by rfl, ?_⟩) (by assumption) ?_
      rotate_left
      · (intro w hSw; (try dsimp only at hSw); go_simp; (try with_reducible rfl))
      (try simp only [Act.put, List.setIfInBounds_toArray, List.set_cons_zero, List.set_cons_succ])
      refine wpAnyH_take (i := 11) (oi := _) (v := ?_) rfl (by kernel_rfl) (by kernel_rfl) (by kernel_rfl) (fun _ _ _ h => h) (Or.inl ⟨by rfl, ?_⟩) (by assumption) ?_
      rotate_left
      · (intro w hSw; (try dsimp only at hSw); go_simp; (try with_reducible rfl))
      (try simp only [Act.put, List.setIfInBounds_toArray, List.set_cons_zero, List.set_cons_succ])
      refine wpAnyH_take (i := 12) (oi := _) (v := ?_) rfl (by kernel_rfl) (by kernel_rfl) (by kernel_rfl) (fun _ _ _ h => h) (Or.inl ⟨by rfl, ?_⟩) (by assumption) ?_
      rotate_left
      · (intro w hSw; (try dsimp only at hSw); go_simp; (try with_reducible rfl))
      (try simp only [Act.put, List.setIfInBounds_toArray, List.set_cons_zero, List.set_cons_succ])
      refine wpAnyH_take (i := 14) (oi := _) (v := ?_) rfl (by kernel_rfl) (by kernel_rfl) (by kernel_rfl) (fun _ _ _ h => h) (Or.inl ⟨by rfl, ?_⟩) (by assumption) ?_
      rotate_left
      · (intro w hSw; (try dsimp only at hSw); go_simp; (try with_reducible rfl))
      (try simp only [Act.put, List.setIfInBounds_toArray, List.set_cons_zero, List.set_cons_succ])
      refine wpAnyH_take (i := 15) (oi := _) (v := ?_) rfl (by kernel_rfl) (by kernel_rfl) (by kernel_rfl) (fun _ _ _ h => h) (Or.inl ⟨by rfl, ?_⟩) (by assumption) ?_
      rotate_left
      · (intro w hSw; (try dsimp only at hSw); go_simp; (try with_reducible rfl))
      (try simp only [Act.put, List.setIfInBounds_toArray, List.set_cons_zero, List.set_cons_succ])
      refine wpAnyH_take (i := 16) (oi := _) (v := ?_) rfl (by kernel_rfl) (by kernel_rfl) (by kernel_rfl) (fun _ _ _ h => h) (Or.inl ⟨by rfl, ?_⟩) (by assumption) ?_
      rotate_left
      · (intro w hSw; (try dsimp only at hSw); go_simp; (try with_reducible rfl))
      (try simp only [Act.put, List.setIfInBounds_toArray, List.set_cons_zero, List.set_cons_succ])
      refine wpAnyH_take (i := 17) (oi := _) (v := ?_) rfl (by kernel_rfl) (by kernel_rfl) (by kernel_rfl) (fun _ _ _ h => h) (Or.inl ⟨by rfl, ?_⟩) (by assumption) ?_
      rotate_left
      · (intro w hSw; (try dsimp only at hSw); go_simp; (try with_reducible rfl))
      (try simp only [Act.put, List.setIfInBounds_toArray, List.set_cons_zero, List.set_cons_succ])
      refine wpAnyH_take (i := 18) (oi := _) (v := ?_) rfl (by kernel_rfl) (by kernel_rfl) (by kernel_rfl) (fun _ _ _ h => h) (Or.inl ⟨by rfl, ?_⟩) (by assumption) ?_
      rotate_left
      · (intro w hSw; (try dsimp only at hSw); go_simp; (try with_reducible rfl))
      (try simp only [Act.put, List.setIfInBounds_toArray, List.set_cons_zero, List.set_cons_succ])
      refine wpAnyH_take (i := 19) (oi := _) (v := ?_) rfl (by kernel_rfl) (by kernel_rfl) (by kernel_rfl) (fun _ _ _ h => h) (Or.inl ⟨by rfl, ?_⟩) (by assumption) ?_
      rotate_left
      · (intro w hSw; (try dsimp only at hSw); go_simp; (try with_reducible rfl))
      (try simp only [Act.put, List.setIfInBounds_toArray, List.set_cons_zero, List.set_cons_succ])
      refine wpAnyH_take (i := 20) (oi := _) (v := ?_) rfl (by kernel_rfl) (by kernel_rfl) (by kernel_rfl) (fun _ _ _ h => h) (Or.inl ⟨by rfl, ?_⟩) (by assumption) ?_
      rotate_left
      · (intro w hSw; (try dsimp only at hSw); go_simp; (try with_reducible rfl))
      (try simp only [Act.put, List.setIfInBounds_toArray, List.set_cons_zero, List.set_cons_succ])
      refine wpAnyH_take (i := 21) (oi := _) (v := ?_) rfl (by kernel_rfl) (by kernel_rfl) (by kernel_rfl) (fun _ _ _ h => h) (Or.inl ⟨by rfl, ?_⟩) (by assumption) ?_
      rotate_left
      · (intro w hSw; (try dsimp only at hSw); go_simp; (try with_reducible rfl))
      (try simp only [Act.put, List.setIfInBounds_toArray, List.set_cons_zero, List.set_cons_succ])
      refine wpAnyH_take (i := 22) (oi := _) (v := ?_) rfl (by kernel_rfl) (by kernel_rfl) (by kernel_rfl) (fun _ _ _ h => h) (Or.inl ⟨by rfl, ?_⟩) (by assumption) ?_
      rotate_left
      · (intro w hSw; (try dsimp only at hSw); go_simp; (try with_reducible rfl))
      (try simp only [Act.put, List.setIfInBounds_toArray, List.set_cons_zero, List.set_cons_succ])
      refine wpAnyH_take (i := 23) (oi := _) (v := ?_) rfl (by kernel_rfl) (by kernel_rfl) (by kernel_rfl) (fun _ _ _ h => h) (Or.inl ⟨by rfl, ?_⟩) (by assumption) ?_
      rotate_left
      · (intro w hSw; (try dsimp only at hSw); go_simp; (try with_reducible rfl))
      (try simp only [Act.put, List.setIfInBounds_toArray, List.set_cons_zero, List.set_cons_succ])
      refine wpAnyH_take (i := 24) (oi := _) (v := ?_) rfl (by kernel_rfl) (by kernel_rfl) (by kernel_rfl) (fun _ _ _ h => h) (Or.inl ⟨by rfl, ?_⟩) (by assumption) ?_
      rotate_left
      · (intro w hSw; (try dsimp only at hSw); go_simp; (try with_reducible rfl))
      (try simp only [Act.put, List.setIfInBounds_toArray, List.set_cons_zero, List.set_cons_succ])
      refine wpAnyH_ready (rs := [13, 25]) (by kernel_rfl) (by simp) ?_
      refine AllReadyH.cons (o := _) rfl (fun K hK => ?_) ?_
      · go_simp
        refine hK.out _ _ ?_ (fun hHeld => ?_)
        · ((try dsimp only); go_keep)
        clear hK K
        (try simp only [Act.put, List.setIfInBounds_toArray, List.set_cons_zero, List.set_cons_succ])
        refine wpAnyH_ready (rs := [25]) (by kernel_rfl) (by simp) ?_
        refine AllReadyH.cons (o := _) rfl (fun K hK => ?_) ?_
        · go_simp
          refine hK.out _ _ ?_ (fun hHeld => ?_)
          · ((try dsimp only); go_keep)
          clear hK K
          (try simp only [Act.put, List.setIfInBounds_toArray, List.set_cons_zero, List.set_cons_succ])
          refine wpAnyH_ready (rs := [26]) (by kernel_rfl) (by simp) ?_
          refine AllReadyH.cons (o := _) rfl (fun K hK => ?_) ?_
          · (refine step_append_lies _ (by rfl) _ _ _ (by rfl) w.heap.size 92 i0 _ 2 16 Tryz.underlying41 hi0 hz0 hz1 hz2 rfl (by decide) (.slice au N cu) N (BSteps.C (Sy.steps (l.take j) f)) (by rfl) HD.out ⟨wr.heap.size, 0, none⟩ 1 1 [.int .i64 e.2.1, .int .i64 e.2.2] (by rfl) (by rfl) (World.news_of_block (cs := #[.int .i64 e.2.1, .int .i64 e.2.2]) (t := 92) (fr := (0, 0)) (heap_alloc_new wr.drew _)) (by simp [Value.oneCell']) Nat.one_pos hml hby hle (wr.heap.size + 1) (by simp) ?_; intro g4 k4 w4 hown4 hgrow4 hat4 hlt4; have hk4 : Kept (fun b => (Value.slice au N cu).ownBlock = some b) wr w4 := (Kept.of_below ((Below.refl _ wr).drew)).trans (grown_alloc (w := wr.drew) hgrow4); have hA4 := HA.out.1.kept hk4 HKP.out; have cu0 := hA4.cell HA.out.2.2.2.2.2.1; have cuf := hA4.free f; have e0 := kcell hk4 HGL.out e0; have e1 := kcell hk4 HGL.out e1; have e2 := kcell hk4 HGL.out e2; have H4 : Hid _ := And.intro hown4 (And.intro hk4 (And.intro hat4 hA4)); clear hown4 hgrow4 hat4 hlt4 hk4 hA4)
            refine hK.out _ _ ?_ (fun hHeld => ?_)
            · exact ⟨e0, e1, e2⟩
            clear hK K
            (try simp only [Act.put, List.setIfInBounds_toArray, List.set_cons_zero, List.set_cons_succ])
            refine wpAnyH_take (i := 27) (oi := _) (v := ?_) rfl (by kernel_rfl) (by kernel_rfl) (by kernel_rfl) (fun _ _ _ h => h) (Or.inl ⟨by rfl, ?_⟩) (by assumption) ?_
            rotate_left
            · (intro w hSw; (try dsimp only at hSw); go_simp; (try with_reducible rfl))
            (try simp only [Act.put, List.setIfInBounds_toArray, List.set_cons_zero, List.set_cons_succ])
            refine wpAnyH_ready (rs := [28]) (by kernel_rfl) (by simp) ?_
            refine AllReadyH.cons (o := _) rfl (fun K hK => ?_) ?_
            · go_simp
              refine hK.out _ _ ?_ (fun hHeld => ?_)
              · ((try dsimp only); go_keep)
              clear hK K
              (try simp only [Act.put, List.setIfInBounds_toArray, List.set_cons_zero, List.set_cons_succ])
              refine wpAnyH_done (by kernel_rfl) ?_ _
              (try go_simp)
              go_wp2_with fail
              go_roundg (L - (j + 1))
              case measure => omega
              case rel => exact out_round hlt hfn HA.out.2.1 HA.out.2.2.1 HA.out.2.2.2.1 HA.out.2.2.2.2.1 HA.out.2.2.2.2.2.1 HA.out.2.2.2.2.2.2.2 H4.out.1 H4.out.2.1 H4.out.2.2.1 H4.out.2.2.2 hne HGL.out
            exact AllReadyH.nil
          exact AllReadyH.nil
        exact AllReadyH.nil
      refine AllReadyH.cons (o := _) rfl (fun K hK => ?_) ?_
      · go_simp
        refine hK.out _ _ ?_ (fun hHeld => ?_)
        · ((try dsimp only); go_keep)
        clear hK K
        (try simp only [Act.put, List.setIfInBounds_toArray, List.set_cons_zero, List.set_cons_succ])
        refine wpAnyH_ready (rs := [13]) (by kernel_rfl) (by simp) ?_
        refine AllReadyH.cons (o := _) rfl (fun K hK => ?_) ?_
        · go_simp
          refine hK.out _ _ ?_ (fun hHeld => ?_)
          · ((try dsimp only); go_keep)
          clear hK K
          (try simp only [Act.put, List.setIfInBounds_toArray, List.set_cons_zero, List.set_cons_succ])
          refine wpAnyH_ready (rs := [26]) (by kernel_rfl) (by simp) ?_
          refine AllReadyH.cons (o := _) rfl (fun K hK => ?_) ?_
          · (refine step_append_lies _ (by rfl) _ _ _ (by rfl) w.heap.size 92 i0 _ 2 16 Tryz.underlying41 hi0 hz0 hz1 hz2 rfl (by decide) (.slice au N cu) N (BSteps.C (Sy.steps (l.take j) f)) (by rfl) HD.out ⟨wr.heap.size, 0, none⟩ 1 1 [.int .i64 e.2.1, .int .i64 e.2.2] (by rfl) (by rfl) (World.news_of_block (cs := #[.int .i64 e.2.1, .int .i64 e.2.2]) (t := 92) (fr := (0, 0)) (heap_alloc_new wr.drew _)) (by simp [Value.oneCell']) Nat.one_pos hml hby hle (wr.heap.size + 1) (by simp) ?_; intro g4 k4 w4 hown4 hgrow4 hat4 hlt4; have hk4 : Kept (fun b => (Value.slice au N cu).ownBlock = some b) wr w4 := (Kept.of_below ((Below.refl _ wr).drew)).trans (grown_alloc (w := wr.drew) hgrow4); have hA4 := HA.out.1.kept hk4 HKP.out; have cu0 := hA4.cell HA.out.2.2.2.2.2.1; have cuf := hA4.free f; have e0 := kcell hk4 HGL.out e0; have e1 := kcell hk4 HGL.out e1; have e2 := kcell hk4 HGL.out e2; have H4 : Hid _ := And.intro hown4 (And.intro hk4 (And.intro hat4 hA4)); clear hown4 hgrow4 hat4 hlt4 hk4 hA4)
            refine hK.out _ _ ?_ (fun hHeld => ?_)
            · exact ⟨e0, e1, e2⟩
            clear hK K
            (try simp only [Act.put, List.setIfInBounds_toArray, List.set_cons_zero, List.set_cons_succ])
            refine wpAnyH_take (i := 27) (oi := _) (v := ?_) rfl (by kernel_rfl) (by kernel_rfl) (by kernel_rfl) (fun _ _ _ h => h) (Or.inl ⟨by rfl, ?_⟩) (by assumption) ?_
            rotate_left
            · (intro w hSw; (try dsimp only at hSw); go_simp; (try with_reducible rfl))
            (try simp only [Act.put, List.setIfInBounds_toArray, List.set_cons_zero, List.set_cons_succ])
            refine wpAnyH_ready (rs := [28]) (by kernel_rfl) (by simp) ?_
            refine AllReadyH.cons (o := _) rfl (fun K hK => ?_) ?_
            · go_simp
              refine hK.out _ _ ?_ (fun hHeld => ?_)
              · ((try dsimp only); go_keep)
              clear hK K
              (try simp only [Act.put, List.setIfInBounds_toArray, List.set_cons_zero, List.set_cons_succ])
              refine wpAnyH_done (by kernel_rfl) ?_ _
              (try go_simp)
              go_wp2_with fail
              go_roundg (L - (j + 1))
              case measure => omega
              case rel => exact out_round hlt hfn HA.out.2.1 HA.out.2.2.1 HA.out.2.2.2.1 HA.out.2.2.2.2.1 HA.out.2.2.2.2.2.1 HA.out.2.2.2.2.2.2.2 H4.out.1 H4.out.2.1 H4.out.2.2.1 H4.out.2.2.2 hne HGL.out
            exact AllReadyH.nil
          exact AllReadyH.nil
        exact AllReadyH.nil
      exact AllReadyH.nil
    · obtain rfl : j = L := by omega
      have q1 : ¬ (j : Int) < (j : Int) := by omega
      have HA : Hid _ := And.intro hA hOs
      clear hA hOs hOl
      go_wp2_with fail
      go_ret
      refine ⟨_, rfl, us, HA.out.1, ?_⟩
      have h1 := HA.out.2
      rw [List.take_of_length_le (by have := H1.out.2.2; omega)] at h1
      exact h1
end Go.Proofs.YtgnfommndoodmaaGreatDoor
/- Contract of the document's Back: the edges turned round. -/
namespace Go.Proofs.YtgnfommndoodmaaGreatDoor
open Go.RowKit Go.Maps
attribute [local go_sem ↓] Go.wp_at_zero Go.wp_at_succ
/-- An edge turned round. -/
theorem kcell' {w w' : World} {F : Nat → Prop} (hk : Kept F w w') {a : Addr} {v : Value} (hF : ¬ F a.block) (c : w.cell? a = some v) : w'.cell? a = some v := (World.cell?_of_block (a := a) (hk.block a.block (World.block_lt_of_cell? w _ c) hF)).trans c
/-- What stands in the loop of Back. -/
structure BackAt (w wr : World) (n k s : Int) (v u : Value) (L : List Sy.Ed) : Prop where
  bl : Below w.heap.size w wr
  box : wr.heap[w.heap.size]? = some (.cells #[.int .i64 n, .int .i64 k, .int .i64 s, v] 24 (0, 0))
  res : wr.heap[w.heap.size + 1]? = some (.cells #[.int .i64 0, .int .i64 0, .int .i64 0, .slice none 0 0] 24 (0, 0))
  own : BEdges.Own wr w.heap.size u L
theorem back_grow {w wr w4 : World} {n k s : Int} {v : Value} {au : Option Addr} {N cu g4 k4 : Nat} {L : List Sy.Ed} (h : BackAt w wr n k s v (.slice au N cu) L) (hN : N = L.length) (z : Sy.Ed) (hown : w4.ownsRow w.heap.size 38 3 (.slice (some ⟨g4, 0, none⟩) (N + 1) k4) (N + 1) (BEdges.C L ++ [.int .i64 z.1, .int .i64 z.2.1, .int .i64 z.2.2])) (hk : Kept (fun b => (Value.slice au N cu).ownBlock = some b) wr w4) : BackAt w w4 n k s v (.slice (some ⟨g4, 0, none⟩) (N + 1) k4) (L ++ [z]) := by
  refine ⟨h.bl.trans (hk.below h.bl.size fun b hb => (h.own.lt b hb).1), (hk.block _ (t_lt h.box) (own_bk h.own h.box (by decide))).trans h.box, (hk.block _ (t_lt h.res) (own_bk h.own h.res (by decide))).trans h.res, ?_⟩
  unfold BEdges.Own
  have e1 : (L ++ [z]).length = N + 1 := by rw [List.length_append, hN]; rfl
  rw [e1, BEdges.C_app]
  exact hown
theorem back_round {w wr w4 : World} {n k s : Int} {v : Value} {au : Option Addr} {j m N cu g4 k4 : Nat} {es : List Sy.Ed} {z : Sy.Ed} (h : BackAt w wr n k s v (.slice au N cu) ((es.take j).map Sy.turn)) (hlt : j < m) (hz : es[j]? = some z) (hN : N = j) (hm : m = es.length) (hown : w4.ownsRow w.heap.size 38 3 (.slice (some ⟨g4, 0, none⟩) (N + 1) k4) (N + 1) (BEdges.C ((es.take j).map Sy.turn) ++ [.int .i64 z.2.2, .int .i64 z.2.1, .int .i64 z.1])) (hk : Kept (fun b => (Value.slice au N cu).ownBlock = some b) wr w4) :
    ∃ j1 : Nat, m - (j + 1) = m - j1 ∧ j1 ≤ m ∧ Value.int .i64 ((j : Int) + 1) = .int .i64 j1 ∧ BackAt w w4 n k s v (.slice (some ⟨g4, 0, none⟩) (N + 1) k4) ((es.take j1).map Sy.turn) := by
  have h1 := back_grow h (by rw [hN, List.length_map, List.length_take]; omega) (Sy.turn z) hown hk
  refine ⟨j + 1, rfl, hlt, rfl, ?_⟩
  rw [List.take_add_one, hz, List.map_append]
  exact h1
theorem back_fin {w wr : World} {n k s : Int} {v : Value} {ao : Option Addr} {N c : Nat} {L : List Sy.Ed} (h : BackAt w wr n k s v (.slice ao N c) L) {wf : World} (hwf : wf = (((((wr.setCell ⟨w.heap.size, 3, none⟩ (.slice ao N c)).setCell ⟨w.heap.size + 1, 0, none⟩ (.int .i64 n)).setCell ⟨w.heap.size + 1, 1, none⟩ (.int .i64 k)).setCell ⟨w.heap.size + 1, 2, none⟩ (.int .i64 s)).setCell ⟨w.heap.size + 1, 3, none⟩ (.slice ao N c))) :
    Below w.heap.size w wf ∧ wf.heap[w.heap.size + 1]? = some (.cells #[.int .i64 n, .int .i64 k, .int .i64 s, .slice ao N c] 24 (0, 0)) ∧ BEdges.Own wf w.heap.size (.slice ao N c) L := by
  subst hwf
  have nn : ¬ w.heap.size + 1 = w.heap.size := by omega
  have hgm : (wr.setCell ⟨w.heap.size, 3, none⟩ (.slice ao N c)).heap[w.heap.size + 1]? = some (.cells #[.int .i64 0, .int .i64 0, .int .i64 0, .slice none 0 0] 24 (0, 0)) := (set_other _ _ _ _ _ nn).trans h.res
  refine ⟨four_below (h.bl.setCell (Nat.le_refl _) _) (by omega) _ _ _ _, four_set hgm, trow_at h.own fun b hb => ?_⟩
  have h1 := own_bk h.own h.box (by decide)
  have h2 := own_bk h.own h.res (by decide)
  have e1 : b ≠ w.heap.size + 1 := fun e => h2 (by rw [← e]; exact hb)
  have e2 : b ≠ w.heap.size := fun e => h1 (by rw [← e]; exact hb)
  rw [set_other _ _ _ _ _ e1, set_other _ _ _ _ _ e1, set_other _ _ _ _ _ e1, set_other _ _ _ _ _ e1, set_other _ _ _ _ _ e2]
set_option linter.unusedSimpArgs false in
set_option maxRecDepth 100000 in
set_option maxHeartbeats 8000000 in
theorem refBack_any (n k s : Int) (v : Value) (es : List Sy.Ed) (w : World) (hv : HasE w v es) (hm : es.length ≤ 100000) :
    Calls Tryz.prog 13 #[sysV n k s v] w fun e w' => ∃ u, e = .returned (sysV n k s u) ∧ BEdges.Own w' w.heap.size u (es.map Sy.turn) ∧ Below w.heap.size w w' := by
  obtain ⟨i0, hi0, hz0, hz1, hz2⟩ := info_parts BEdges.Tryz.infoE
  obtain ⟨w1, hw1⟩ : ∃ w1, w1 = (w.alloc (.cells #[.int .i64 n, .int .i64 k, .int .i64 s, v] 24)).alloc (.cells #[.int .i64 0, .int .i64 0, .int .i64 0, .slice none 0 0] 24) := ⟨_, rfl⟩
  have hb1 : Below w.heap.size w w1 := by rw [hw1]; exact ((Below.refl _ _).alloc (Nat.le_refl _) _).alloc (by simp) _
  have hg : w1.heap[w.heap.size + 1]? = some (.cells #[.int .i64 0, .int .i64 0, .int .i64 0, .slice none 0 0] 24 (0, 0)) := by rw [hw1]; exact two_alloc w _ _
  have hg0 : w1.heap[w.heap.size]? = some (.cells #[.int .i64 n, .int .i64 k, .int .i64 s, v] 24 (0, 0)) := by rw [hw1, Below.heap_alloc _ _ _ (by simp)]; exact heap_alloc_new w _
  have hv0 := hv
  obtain ⟨ao, cap, rfl, _, hH⟩ := hv0
  have hB : BackAt w w1 n k s (.slice ao es.length cap) (.slice none 0 0) [] := ⟨hb1, hg0, hg, World.ownsRow_nil _ _ _ _⟩
  obtain ⟨m, hmm⟩ : ∃ m, m = es.length := ⟨_, rfl⟩
  rw [← hmm] at hB hw1 hm hH ⊢
  have H1 : Hid _ := And.intro hB (And.intro hw1 (And.intro hH hmm))
  clear hB hw1 hb1 hg hg0 hH hv hmm
  unfold sysV
  go_enter Tryz.func13, Tryz.ntmps13
  go_wp2_with fail
  rw [← H1.out.2.1]
  go_loopg [3, 4] m (fun q u jv wr => ∃ j : Nat, q = m - j ∧ j ≤ m ∧ jv = .int .i64 j ∧ BackAt w wr n k s (.slice ao m cap) u ((es.take j).map Sy.turn))
  case atStart => exact ⟨0, rfl, Nat.zero_le _, rfl, H1.out.1⟩
  case round =>
    obtain ⟨j, rfl, hj, rfl, hB⟩ := hrel
    obtain ⟨b0, b1, b2, b3⟩ := four_cells hB.box
    by_cases hlt : j < m
    · obtain ⟨e, he⟩ : ∃ e, es[j]? = some e := ⟨es[j]'(by have := H1.out.2.2.2; omega), List.getElem?_eq_getElem _⟩
      obtain ⟨a0, ha0, c9, _, _⟩ := edge_at H1.out.2.2.1 he
      obtain ⟨a, ha, e0, e1, e2⟩ := edge_at (H1.out.2.2.1.below hB.bl) he
      obtain rfl : a0 = a := Option.some.inj (ha0.symm.trans ha)
      clear ha
      subst ha0
      have hab : (a0.add (j * 3)).block < w.heap.size := World.block_lt_of_cell? w _ c9
      obtain ⟨au, cu, hu⟩ := row_shape hB.own
      have hjl : ((es.take j).map Sy.turn).length = j := by rw [List.length_map, List.length_take]; have := H1.out.2.2.2; omega
      rw [hjl] at hu
      obtain rfl := hu
      have q0 : (0 : Int) ≤ (j : Int) := by omega
      have q1 : (j : Int) < (m : Int) := by omega
      have hml : j + 1 ≤ maxLen := by unfold maxLen; omega
      have hby : (j + 1) * 24 ≤ 140737488355328 := by omega
      have hOu : wr.ownsRow w.heap.size 38 3 (.slice au j cu) j (BEdges.C ((es.take j).map Sy.turn)) := by have h1 := hB.own; unfold BEdges.Own at h1; rw [hjl] at h1; exact h1
      have HD : Hid ((wr.drew.alloc (.cells #[.int .i64 e.2.2, .int .i64 e.2.1, .int .i64 e.1] 38)).ownsRow w.heap.size 38 3 (.slice au j cu) j (BEdges.C ((es.take j).map Sy.turn))) := (World.ownsRow.alloc (trow_at hOu fun _ _ => rfl) _ : (wr.drew.alloc (.cells #[.int .i64 e.2.2, .int .i64 e.2.1, .int .i64 e.1] 38)).ownsRow w.heap.size 38 3 (.slice au j cu) j (BEdges.C ((es.take j).map Sy.turn)))
      have hle : w.heap.size ≤ (wr.drew.alloc (.cells #[.int .i64 e.2.2, .int .i64 e.2.1, .int .i64 e.1] 38)).heap.size := by have := hB.bl.size; simp; omega
      have n1 : (a0.add (j * 3)).block < wr.heap.size := Nat.lt_of_lt_of_le hab hB.bl.size
      have n2 : ¬ (a0.add (j * 3)).block = wr.heap.size := by omega
      have n3 : w.heap.size < wr.heap.size := t_lt hB.box
      have n4 : ¬ w.heap.size = wr.heap.size := by omega
      have HF : Hid (¬ (Value.slice au j cu).ownBlock = some (a0.add (j * 3)).block ∧ ¬ (Value.slice au j cu).ownBlock = some w.heap.size) := (⟨fun h9 => by have := (hOu.lt _ h9).1; omega, own_bk hOu hB.box (by decide)⟩ : ¬ (Value.slice au j cu).ownBlock = some (a0.add (j * 3)).block ∧ ¬ (Value.slice au j cu).ownBlock = some w.heap.size)
      have HA : Hid _ := And.intro hB he
      clear hB he hOu hjl c9 hab b0 b1 b2
      go_upto_region 5 with fail
      refine wp_region_held_drew (S := (fun w' => w'.cell? ⟨w.heap.size, 3, none⟩ = some (.slice (some a0) m cap) ∧ w'.cell? (a0.add (j * 3)) = some (.int .i64 e.1) ∧ w'.cell? ⟨(a0.add (j * 3)).block, (a0.add (j * 3)).off + 1, none⟩ = some (.int .i64 e.2.1) ∧ w'.cell? ⟨(a0.add (j * 3)).block, (a0.add (j * 3)).off + 2, none⟩ = some (.int .i64 e.2.2))) (by kernel_rfl) ?_ (fun hHeld => ?_)
      · exact ⟨b3, e0, e1, e2⟩
      refine wpAnyH_take (i := 0) (oi := _) (v := ?_) rfl (by kernel_rfl) (by kernel_rfl) (by kernel_rfl) (fun _ _ _ h => h) (Or.inl ⟨by rfl, ?_⟩) (by assumption) ?_
      rotate_left
      · (intro w hSw; (try dsimp only at hSw); go_simp; (try with_reducible rfl))
      (try simp only [Act.put, List.setIfInBounds_toArray, List.set_cons_zero, List.set_cons_succ])
      refine wpAnyH_take (i := 1) (oi := _) (v := ?_) rfl (by kernel_rfl) (by kernel_rfl) (by kernel_rfl) (fun _ _ _ h => h) (Or.inl ⟨by rfl, ?_⟩) (by assumption) ?_
      rotate_left
      · (intro w hSw; (try dsimp only at hSw); go_simp; (try with_reducible rfl))
      (try simp only [Act.put, List.setIfInBounds_toArray, List.set_cons_zero, List.set_cons_succ])
      refine wpAnyH_take (i := 2) (oi := _) (v := ?_) rfl (by kernel_rfl) (by kernel_rfl) (by kernel_rfl) (fun _ _ _ h => h) (Or.inl ⟨by rfl, ?_⟩) (by assumption) ?_
      rotate_left
      · (intro w hSw; (try dsimp only at hSw); go_simp; (try with_reducible rfl))
      (try simp only [Act.put, List.setIfInBounds_toArray, List.set_cons_zero, List.set_cons_succ])
      refine wpAnyH_take (i := 3) (oi := _) (v := ?_) rfl (by kernel_rfl) (by kernel_rfl) (by kernel_rfl) (fun _ _ _ h => h) (Or.inl ⟨by rfl, ?_⟩) (by assumption) ?_
      rotate_left
      · (intro w hSw; (try dsimp only at hSw); go_simp; (try with_reducible rfl))
      (try simp only [Act.put, List.setIfInBounds_toArray, List.set_cons_zero, List.set_cons_succ])
      refine wpAnyH_take (i := 4) (oi := _) (v := ?_) rfl (by kernel_rfl) (by kernel_rfl) (by kernel_rfl) (fun _ _ _ h => h) (Or.inl ⟨by rfl, ?_⟩) (by assumption) ?_
      rotate_left
      · (intro w hSw; (try dsimp only at hSw); go_simp; (try with_reducible rfl))
      (try simp only [Act.put, List.setIfInBounds_toArray, List.set_cons_zero, List.set_cons_succ])
      refine wpAnyH_take (i := 5) (oi := _) (v := ?_) rfl (by kernel_rfl) (by kernel_rfl) (by kernel_rfl) (fun _ _ _ h => h) (Or.inl ⟨by rfl, ?_⟩) (by assumption) ?_
      rotate_left
      · (intro w hSw; (try dsimp only at hSw); go_simp; (try with_reducible rfl))
      (try simp only [Act.put, List.setIfInBounds_toArray, List.set_cons_zero, List.set_cons_succ])
      refine wpAnyH_take (i := 6) (oi := _) (v := ?_) rfl (by kernel_rfl) (by kernel_rfl) (by kernel_rfl) (fun _ _ _ h => h) (Or.inl ⟨by rfl, ?_⟩) (by assumption) ?_
      rotate_left
      · (intro w hSw; (try dsimp only at hSw); go_simp; (try with_reducible rfl))
      (try simp only [Act.put, List.setIfInBounds_toArray, List.set_cons_zero, List.set_cons_succ])
      refine wpAnyH_take (i := 7) (oi := _) (v := ?_) rfl (by kernel_rfl) (by kernel_rfl) (by kernel_rfl) (fun _ _ _ h => h) (Or.inl ⟨by rfl, ?_⟩) (by assumption) ?_
      rotate_left
      · (intro w hSw; (try dsimp only at hSw); go_simp; (try with_reducible rfl))
      (try simp only [Act.put, List.setIfInBounds_toArray, List.set_cons_zero, List.set_cons_succ])
      refine wpAnyH_take (i := 8) (oi := _) (v := ?_) rfl (by kernel_rfl) (by kernel_rfl) (by kernel_rfl) (fun _ _ _ h => h) (Or.inl ⟨by rfl, ?_⟩) (by assumption) ?_
      rotate_left
      · (intro w hSw; (try dsimp only at hSw); go_simp; (try with_reducible rfl))
      (try simp only [Act.put, List.setIfInBounds_toArray, List.set_cons_zero, List.set_cons_succ])
      refine wpAnyH_take (i := 9) (oi := _) (v := ?_) rfl (by kernel_rfl) (by kernel_rfl) (by kernel_rfl) (fun _ _ _ h => h) (Or.inl ⟨by rfl, ?_⟩) (by assumption) ?_
      rotate_left
      · (intro w hSw; (try dsimp only at hSw); go_simp; (try with_reducible rfl))
      (try simp only [Act.put, List.setIfInBounds_toArray, List.set_cons_zero, List.set_cons_succ])
      refine wpAnyH_take (i := 10) (oi := _) (v := ?_) rfl (by kernel_rfl) (by kernel_rfl) (by kernel_rfl) (fun _ _ _ h => h) (Or.inl ⟨by rfl, ?_⟩) (by assumption) ?_
      rotate_left
      · (intro w hSw; (try dsimp only at hSw); go_simp; (try with_reducible rfl))
      (try simp only [Act.put, List.setIfInBounds_toArray, List.set_cons_zero, List.set_cons_succ])
      refine wpAnyH_take (i := 11) (oi := _) (v := ?_) rfl (by kernel_rfl) (by kernel_rfl) (by kernel_rfl) (fun _ _ _ h => h) (Or.inl ⟨by rfl, ?_⟩) (by assumption) ?_
      rotate_left
      · (intro w hSw; (try dsimp only at hSw); go_simp; (try with_reducible rfl))
      (try simp only [Act.put, List.setIfInBounds_toArray, List.set_cons_zero, List.set_cons_succ])
      refine wpAnyH_take (i := 12) (oi := _) (v := ?_) rfl (by kernel_rfl) (by kernel_rfl) (by kernel_rfl) (fun _ _ _ h => h) (Or.inl ⟨by rfl, ?_⟩) (by assumption) ?_
      rotate_left
      · (intro w hSw; (try dsimp only at hSw); go_simp; (try with_reducible rfl))
      (try simp only [Act.put, List.setIfInBounds_toArray, List.set_cons_zero, List.set_cons_succ])
      refine wpAnyH_take (i := 13) (oi := _) (v := ?_) rfl (by kernel_rfl) (by kernel_rfl) (by kernel_rfl) (fun _ _ _ h => h) (Or.inl ⟨by rfl, ?_⟩) (by assumption) ?_
      rotate_left
      · (intro w hSw; (try dsimp only at hSw); go_simp; (try with_reducible rfl))
      (try simp only [Act.put, List.setIfInBounds_toArray, List.set_cons_zero, List.set_cons_succ])
      refine wpAnyH_take (i := 14) (oi := _) (v := ?_) rfl (by kernel_rfl) (by kernel_rfl) (by kernel_rfl) (fun _ _ _ h => h) (Or.inl ⟨by rfl, ?_⟩) (by assumption) ?_
      rotate_left
      · (intro w hSw; (try dsimp only at hSw); go_simp; (try with_reducible rfl))
      (try simp only [Act.put, List.setIfInBounds_toArray, List.set_cons_zero, List.set_cons_succ])
      refine wpAnyH_take (i := 15) (oi := _) (v := ?_) rfl (by kernel_rfl) (by kernel_rfl) (by kernel_rfl) (fun _ _ _ h => h) (Or.inl ⟨by rfl, ?_⟩) (by assumption) ?_
      rotate_left
      · (intro w hSw; (try dsimp only at hSw); go_simp; (try with_reducible rfl))
      (try simp only [Act.put, List.setIfInBounds_toArray, List.set_cons_zero, List.set_cons_succ])
      refine wpAnyH_take (i := 16) (oi := _) (v := ?_) rfl (by kernel_rfl) (by kernel_rfl) (by kernel_rfl) (fun _ _ _ h => h) (Or.inl ⟨by rfl, ?_⟩) (by assumption) ?_
      rotate_left
      · (intro w hSw; (try dsimp only at hSw); go_simp; (try with_reducible rfl))
      (try simp only [Act.put, List.setIfInBounds_toArray, List.set_cons_zero, List.set_cons_succ])
      refine wpAnyH_take (i := 17) (oi := _) (v := ?_) rfl (by kernel_rfl) (by kernel_rfl) (by kernel_rfl) (fun _ _ _ h => h) (Or.inl ⟨by rfl, ?_⟩) (by assumption) ?_
      rotate_left
      · (intro w hSw; (try dsimp only at hSw); go_simp; (try with_reducible rfl))
      (try simp only [Act.put, List.setIfInBounds_toArray, List.set_cons_zero, List.set_cons_succ])
      refine wpAnyH_take (i := 18) (oi := _) (v := ?_) rfl (by kernel_rfl) (by kernel_rfl) (by kernel_rfl) (fun _ _ _ h => h) (Or.inl ⟨by rfl, ?_⟩) (by assumption) ?_
      rotate_left
      · (intro w hSw; (try dsimp only at hSw); go_simp; (try with_reducible rfl))
      (try simp only [Act.put, List.setIfInBounds_toArray, List.set_cons_zero, List.set_cons_succ])
      refine wpAnyH_take (i := 19) (oi := _) (v := ?_) rfl (by kernel_rfl) (by kernel_rfl) (by kernel_rfl) (fun _ _ _ h => h) (Or.inl ⟨by rfl, ?_⟩) (by assumption) ?_
      rotate_left
      · (intro w hSw; (try dsimp only at hSw); go_simp; (try with_reducible rfl))
      (try simp only [Act.put, List.setIfInBounds_toArray, List.set_cons_zero, List.set_cons_succ])
      refine wpAnyH_ready (rs := [20]) (by kernel_rfl) (by simp) ?_
      refine AllReadyH.cons (o := _) rfl (fun K hK => ?_) ?_
      · go_simp
        refine hK.out _ _ ?_ (fun hHeld => ?_)
        · ((try dsimp only); go_keep)
        clear hK K
        (try simp only [Act.put, List.setIfInBounds_toArray, List.set_cons_zero, List.set_cons_succ])
        refine wpAnyH_ready (rs := [21]) (by kernel_rfl) (by simp) ?_
        refine AllReadyH.cons (o := _) rfl (fun K hK => ?_) ?_
        · (refine step_append_lies _ (by rfl) _ _ _ (by rfl) w.heap.size 38 i0 _ 3 24 Tryz.underlying22 hi0 hz0 hz1 hz2 rfl (by decide) (.slice au j cu) j (BEdges.C ((es.take j).map Sy.turn)) (by rfl) HD.out ⟨wr.heap.size, 0, none⟩ 1 1 [.int .i64 e.2.2, .int .i64 e.2.1, .int .i64 e.1] (by rfl) (by rfl) (World.news_of_block (cs := #[.int .i64 e.2.2, .int .i64 e.2.1, .int .i64 e.1]) (t := 38) (fr := (0, 0)) (heap_alloc_new wr.drew _)) (by simp [Value.oneCell']) Nat.one_pos hml hby hle (wr.heap.size + 1) (by simp) ?_; intro g4 k4 w4 hown4 hgrow4 hat4 hlt4; have hk4 : Kept (fun b => (Value.slice au j cu).ownBlock = some b) wr w4 := (Kept.of_below ((Below.refl _ wr).drew)).trans (grown_alloc (w := wr.drew) hgrow4); have e0 := kcell' hk4 HF.out.1 e0; have e1 := kcell' (a := ⟨(a0.add (j * 3)).block, (a0.add (j * 3)).off + 1, none⟩) hk4 HF.out.1 e1; have e2 := kcell' (a := ⟨(a0.add (j * 3)).block, (a0.add (j * 3)).off + 2, none⟩) hk4 HF.out.1 e2; have b3 := kcell' (a := ⟨w.heap.size, 3, none⟩) hk4 HF.out.2 b3; have H4 : Hid _ := And.intro hown4 hk4; clear hown4 hgrow4 hat4 hlt4 hk4)
          refine hK.out _ _ ?_ (fun hHeld => ?_)
          · exact ⟨b3, e0, e1, e2⟩
          clear hK K
          (try simp only [Act.put, List.setIfInBounds_toArray, List.set_cons_zero, List.set_cons_succ])
          refine wpAnyH_take (i := 22) (oi := _) (v := ?_) rfl (by kernel_rfl) (by kernel_rfl) (by kernel_rfl) (fun _ _ _ h => h) (Or.inl ⟨by rfl, ?_⟩) (by assumption) ?_
          rotate_left
          · (intro w hSw; (try dsimp only at hSw); go_simp; (try with_reducible rfl))
          (try simp only [Act.put, List.setIfInBounds_toArray, List.set_cons_zero, List.set_cons_succ])
          refine wpAnyH_done (by kernel_rfl) ?_ _
          (try go_simp)
          go_wp2_with fail
          go_roundg (m - (j + 1))
          case measure => omega
          case rel => exact back_round HA.out.1 hlt HA.out.2 rfl H1.out.2.2.2 H4.out.1 H4.out.2
        exact AllReadyH.nil
      exact AllReadyH.nil
    · obtain rfl : j = m := by omega
      have q1 : ¬ (j : Int) < (j : Int) := by omega
      have nn : ¬ w.heap.size + 1 = w.heap.size := by omega
      have nn2 : ¬ w.heap.size = w.heap.size + 1 := by omega
      obtain ⟨y0, y1, y2, y3⟩ := four_cells hB.res
      obtain ⟨au, cu, hu⟩ := row_shape hB.own
      have hj9 : es.take j = es := List.take_of_length_le (by have := H1.out.2.2.2; omega)
      have hjl : (es.map Sy.turn).length = j := by rw [List.length_map]; exact H1.out.2.2.2.symm
      rw [hj9] at hB hu
      rw [hjl] at hu
      obtain rfl := hu
      clear hj9 hjl
      have z0 := blk_free hB.res 0
      have z1 := blk_free hB.res 1
      have z2 := blk_free hB.res 2
      have z3 := blk_free hB.res 3
      have z4 := blk_free hB.box 3
      have HA : Hid _ := hB
      clear hB
      go_wp2_with fail
      obtain ⟨h1, h2, h3⟩ := back_fin HA.out rfl
      generalize (((((wr.setCell ⟨w.heap.size, 3, none⟩ (.slice au j cu)).setCell ⟨w.heap.size + 1, 0, none⟩ (.int .i64 n)).setCell ⟨w.heap.size + 1, 1, none⟩ (.int .i64 k)).setCell ⟨w.heap.size + 1, 2, none⟩ (.int .i64 s)).setCell ⟨w.heap.size + 1, 3, none⟩ (.slice au j cu)) = wf at h1 h2 h3 ⊢
      clear y0 y1 y2 y3 z0 z1 z2 z3 z4 b0 b1 b2 b3
      obtain ⟨c0, c1, c2, c3⟩ := four_cells h2
      exact bodyPost_ret (v := .agg #[.int .i64 n, .int .i64 k, .int .i64 s, .slice au j cu]) (by simp [results, Tryz.results13, go_sem, c0, c1, c2, c3]) rfl ⟨_, rfl, h3, h1⟩
end Go.Proofs.YtgnfommndoodmaaGreatDoor
/- The reachable states: plain facts, and what stands in memory while the document's Reach works. -/
namespace Go.Proofs.YtgnfommndoodmaaGreatDoor
open Go.RowKit Go.Maps
/-- The rows of all states, the marks, the list of those that are found. -/
structure RcAt (w wr : World) (go gi : Nat) (us : List Value) (n : Nat) (f : Nat → List BSteps.El) (u : Value) (zs : List Int) (bs : List Bool) : Prop where
  out : Arr 41 w wr go us
  rows : Outs wr w.heap.size us n f
  inn : Arr 4 w wr gi (bC bs)
  lst : OwnI wr w.heap.size u zs
theorem RcAt.below {w wr w' : World} {go gi : Nat} {us : List Value} {n : Nat} {f : Nat → List BSteps.El} {u : Value} {zs : List Int} {bs : List Bool} (h : RcAt w wr go gi us n f u zs bs) (hb : Below wr.heap.size wr w') : RcAt w w' go gi us n f u zs bs :=
  ⟨h.out.below hb, h.rows.below hb, h.inn.below hb, trow_at h.lst fun b hb' => hb.block b (h.lst.lt b hb').2⟩
theorem RcAt.row_ne {w wr : World} {go gi : Nat} {us : List Value} {n : Nat} {f : Nat → List BSteps.El} {u : Value} {zs : List Int} {bs : List Bool} (h : RcAt w wr go gi us n f u zs bs) {j : Nat} {x : Value} (hx : us[j]? = some x) : BSteps.Own wr w.heap.size x (f j) := by
  obtain ⟨x', h1, h2⟩ := h.rows.row j (by have := (List.getElem?_eq_some_iff.1 hx).1; rw [h.rows.len] at this; exact this)
  rw [hx] at h1; cases h1
  exact h2
theorem RcAt.mark {w wr : World} {go gi : Nat} {us : List Value} {n : Nat} {f : Nat → List BSteps.El} {u : Value} {zs : List Int} {bs : List Bool} (h : RcAt w wr go gi us n f u zs bs) (q : Nat) : RcAt w (wr.setCell ⟨gi, q, none⟩ (.bool true)) go gi us n f u zs (bs.set q true) := by
  obtain ⟨cs, hc, _⟩ := h.inn.ids
  obtain ⟨co, hco, _⟩ := h.out.ids
  have hk := Kept.setCell wr gi q (.bool true)
  refine ⟨h.out.kept hk fun b hb => ⟨by rw [hb]; exact h.inn.gu, fun e => ?_⟩, h.rows.kept hk fun j x hx b hb e => ?_, by rw [← bC_set]; exact h.inn.set q _, own_up h.lst hk fun b hb e => ?_⟩
  · subst e
    rw [hb, hc] at hco
    exact absurd hco (by simp)
  · exact own_bk (h.row_ne hx) hc (by decide) (by rw [← e]; exact hb)
  · exact own_bk h.lst hc (by decide) (by rw [← e]; exact hb)
theorem RcAt.push {w wr w2 : World} {go gi : Nat} {us : List Value} {n : Nat} {f : Nat → List BSteps.El} {u u2 : Value} {zs : List Int} {bs : List Bool} (h : RcAt w wr go gi us n f u zs bs) {q : Int} {N : Nat} (hN : N = zs.length) (hown : w2.ownsRow w.heap.size 3 1 u2 (N + 1) (iC zs ++ [.int .i64 q])) (hk : Kept (fun b => u.ownBlock = some b) wr w2) : RcAt w w2 go gi us n f u2 (zs ++ [q]) bs := by
  obtain ⟨cs, hc, _⟩ := h.inn.ids
  obtain ⟨co, hco, _⟩ := h.out.ids
  refine ⟨h.out.kept hk fun b hb => ⟨(h.lst.lt b hb).1, fun e => own_bk h.lst hco (by decide) (by rw [← e]; exact hb)⟩, h.rows.kept hk fun j x hx b hb e => own_ne (h.row_ne hx) h.lst (by decide) b hb e, h.inn.kept hk fun b hb => ⟨(h.lst.lt b hb).1, fun e => own_bk h.lst hc (by decide) (by rw [← e]; exact hb)⟩, ?_⟩
  unfold OwnI
  rw [iC_snoc, List.length_append, ← hN]
  exact hown
/-- An older beginning. -/
theorem Outs.base {w : World} {B B' : Nat} {us : List Value} {n : Nat} {f : Nat → List BSteps.El} (h : Outs w B us n f) (hb : B' ≤ B) : Outs w B' us n f :=
  ⟨h.len, fun i hi => by obtain ⟨u, h1, h2⟩ := h.row i hi; exact ⟨u, h1, row_base h2 hb⟩, h.ap⟩
end Go.Proofs.YtgnfommndoodmaaGreatDoor
/- Contract of the law's ends: where the steps with a label lead. -/
namespace Go.Proofs.YtgnfommndoodmaaGreatDoor
open Go.RowKit Go.Maps
attribute [local go_sem ↓] Go.wp_at_zero Go.wp_at_succ
def Sy.ends (l : List BSteps.El) (b : Int) : List Int := (l.filter fun x => x.1 == b).map (·.2)
theorem Sy.ends_take {l : List BSteps.El} {j : Nat} {x : BSteps.El} (h : l[j]? = some x) (b : Int) : Sy.ends (l.take (j + 1)) b = if x.1 = b then Sy.ends (l.take j) b ++ [x.2] else Sy.ends (l.take j) b := by
  rw [take_succ_of h]
  unfold Sy.ends
  rw [List.filter_append, List.map_append]
  by_cases e : x.1 = b <;> simp [e]
theorem Sy.ends_len (l : List BSteps.El) (b : Int) : (Sy.ends l b).length ≤ l.length := by
  unfold Sy.ends
  rw [List.length_map]
  exact List.length_filter_le _ _
set_option maxRecDepth 100000 in
set_option maxHeartbeats 4000000 in
theorem ends_any (v : Value) (zs : List BSteps.El) (b : Int) (w : World) (hv : BSteps.Has w v zs) (hn : zs.length ≤ 100000) :
    Calls Tryz.prog 17 #[v, .int .i64 b] w fun r w' => ∃ u, r = .returned u ∧ OwnI w' w.heap.size u (Sy.ends zs b) ∧ Below w.heap.size w w' := by
  obtain ⟨i0, hi0, hz0, hz1, hz2⟩ := info_parts Tryz.infoI4
  have hv0 := hv
  obtain ⟨ao, cap, rfl, _⟩ := hv0
  obtain ⟨n, hN⟩ : ∃ n, n = zs.length := ⟨_, rfl⟩
  rw [← hN] at hv hn ⊢
  have HH : Hid _ := And.intro hv hN
  clear hv hN
  go_enter Tryz.func17, Tryz.ntmps17
  go_wp2_with fail
  go_loopg [5, 6] n (fun q uv iv wr => ∃ i : Nat, q = n - i ∧ i ≤ n ∧ iv = .int .i64 i ∧ OwnI wr w.heap.size uv (Sy.ends (zs.take i) b) ∧ Below w.heap.size w wr)
  case atStart => exact ⟨0, rfl, Nat.zero_le _, rfl, World.ownsRow_nil _ _ _ _, Below.refl _ _⟩
  case round =>
    obtain ⟨i, rfl, hi, rfl, hO, hb⟩ := hrel
    obtain ⟨au, cu, hu⟩ := row_shape hO
    obtain ⟨N, hN⟩ : ∃ N, N = (Sy.ends (zs.take i) b).length := ⟨_, rfl⟩
    rw [← hN] at hu
    obtain rfl := hu
    by_cases hlt : i < n
    · obtain ⟨x, hx⟩ : ∃ x, zs[i]? = some x := ⟨zs[i]'(by have := HH.out.2; omega), List.getElem?_eq_getElem _⟩
      obtain ⟨a, rfl, c0, c1⟩ := step_at (HH.out.1.below hb) hx
      have q0 : (0 : Int) ≤ (i : Int) := by omega
      have q1 : (i : Int) < (n : Int) := by omega
      have hNl : N ≤ 100000 := by have := Sy.ends_len (zs.take i) b; rw [List.length_take] at this; omega
      have hml : N + 1 ≤ maxLen := by unfold maxLen; omega
      have hby : (N + 1) * 8 ≤ 140737488355328 := by omega
      by_cases hxb : x.1 = b
      · have e1 : (x.1 == b) = true := by simp [hxb]
        have hOw : wr.ownsRow w.heap.size 3 1 (.slice au N cu) N (iC (Sy.ends (zs.take i) b)) := by have h1 := hO; unfold OwnI at h1; rw [← hN] at h1; exact h1
        have hle : w.heap.size ≤ (wr.alloc (.cells #[.int .i64 x.2] 3)).heap.size := by have := hb.size; simp; omega
        have HO : Hid _ := And.intro hOw (And.intro hb (And.intro hx (And.intro hxb hN)))
        clear hO hb hx hOw hxb hN
        go_wp2_with (at_builtin; refine wpList_append_own_at _ rfl _ _ 44 rfl w.heap.size 3 i0 (.int .i64 0) 1 8 Tryz.underlying44 hi0 hz0 hz1 hz2 rfl (by decide) (.slice au N cu) N (iC (Sy.ends (zs.take i) b)) rfl (HO.out.1.alloc _) ⟨wr.heap.size, 0, none⟩ 1 1 [.int .i64 x.2] rfl rfl (World.news_of_block (cs := #[.int .i64 x.2]) (t := 3) (fr := (0, 0)) (heap_alloc_new wr _)) (by simp [Value.oneCell']) hml hby hle ?_; intro v2 w4 hown2 hgrow2 hnil2 hat2; have H2 : Hid _ := And.intro hown2 hgrow2; clear hown2 hgrow2 hnil2 hat2)
        go_roundg (n - (i + 1))
        case measure => omega
        case rel =>
          refine ⟨i + 1, rfl, by omega, by go_num, ?_, HO.out.2.1.trans ((grown_alloc H2.out.2).below HO.out.2.1.size fun b hb => (HO.out.1.lt b hb).1)⟩
          rw [Sy.ends_take HO.out.2.2.1, if_pos HO.out.2.2.2.1]
          unfold OwnI
          rw [iC_snoc, List.length_append, ← HO.out.2.2.2.2]
          exact H2.out.1
      · have e1 : (x.1 == b) = false := by simp [hxb]
        have HO : Hid _ := And.intro hO (And.intro hb (And.intro hx (And.intro hxb hN)))
        clear hO hb hx hxb hN
        go_wp2_with fail
        go_roundg (n - (i + 1))
        case measure => omega
        case rel => exact ⟨i + 1, rfl, by omega, by go_num, by rw [Sy.ends_take HO.out.2.2.1, if_neg HO.out.2.2.2.1]; exact HO.out.1, HO.out.2.1⟩
    · obtain rfl : i = n := by omega
      have q1 : ¬ (i : Int) < (i : Int) := by omega
      have HO : Hid _ := And.intro hO hb
      clear hO hb hN
      go_wp2_with fail
      go_ret
      have h1 := HO.out.1
      rw [List.take_of_length_le (by have := HH.out.2; omega)] at h1
      exact ⟨_, rfl, h1, HO.out.2⟩
end Go.Proofs.YtgnfommndoodmaaGreatDoor
