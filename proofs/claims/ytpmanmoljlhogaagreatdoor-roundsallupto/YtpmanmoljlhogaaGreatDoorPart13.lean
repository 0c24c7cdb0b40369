/- Texts of this claim, joined: SyOut, RoDRnd, RoBad, RoRound, RoRank. -/
import Derived.Test.YtpmanmoljlhogaaGreatDoorPart9
import Derived.Test.YtpmanmoljlhogaaGreatDoorPart4
import Derived.Deep.AppendLies
import Derived.Test.YtpmanmoljlhogaaGreatDoorPart12
import Derived.Test.YtpmanmoljlhogaaGreatDoorPart11
import Derived.Sort.QuietThIn
import Derived.Sort.BigQuietIn
import Derived.Test.YtpmanmoljlhogaaGreatDoorErCode
/- Contract of the document's Out: of each state its steps. -/
namespace Go.Proofs.YtpmanmoljlhogaaGreatDoor
open Go.RowKit Go.Maps
attribute [local go_sem ↓] Go.wp_at_zero Go.wp_at_succ
/-- Rows of steps, one for each state, all of them from B on, no two in one block. -/
structure Outs (w : World) (B : Nat) (us : List Value) (n : Nat) (f : Nat → List BSteps.El) : Prop where
  len : us.length = n
  row : ∀ i, i < n → ∃ u, us[i]? = some u ∧ BSteps.Own w B u (f i)
  ap : ∀ (i j : Nat) (u x : Value) (b : Nat), us[i]? = some u → us[j]? = some x → i ≠ j → u.ownBlock = some b → x.ownBlock ≠ some b
theorem Outs.below {w w' : World} {B : Nat} {us : List Value} {n : Nat} {f : Nat → List BSteps.El} (h : Outs w B us n f) (hb : Below w.heap.size w w') : Outs w' B us n f :=
  ⟨h.len, fun i hi => by obtain ⟨u, h1, h2⟩ := h.row i hi; exact ⟨u, h1, trow_at h2 fun b hb' => hb.block b (h2.lt b hb').2⟩, h.ap⟩
theorem outs_new (w : World) (B n : Nat) : Outs w B (List.replicate n (.slice none 0 0)) n fun _ => [] :=
  ⟨by simp, fun i hi => ⟨.slice none 0 0, by rw [List.getElem?_replicate, if_pos hi], World.ownsRow_nil _ _ _ _⟩, fun i j u x b h1 _ _ h3 => by
    rw [List.getElem?_replicate] at h1
    split at h1
    · cases h1; cases h3
    · cases h1⟩
/-- One row has grown. -/
theorem Outs.set {w w' : World} {B : Nat} {us : List Value} {n : Nat} {f : Nat → List BSteps.El} (h : Outs w B us n f) {i : Nat} {u u' : Value} {F : Nat → Prop} (hi : i < n) (hu : us[i]? = some u) (hk : Kept F w w') (hF : ∀ b, F b → u.ownBlock = some b ∨ ∀ (j : Nat) (x : Value), us[j]? = some x → x.ownBlock ≠ some b) {zs : List BSteps.El} (hO : BSteps.Own w' B u' zs) (hat : u'.ownBlock = u.ownBlock ∨ ∀ b, u'.ownBlock = some b → w.heap.size ≤ b) :
    Outs w' B (us.set i u') n (fun j => if j = i then zs else f j) := by
  refine ⟨by rw [List.length_set]; exact h.len, fun j hj => ?_, fun a c x y b hx hy hac hb => ?_⟩
  · by_cases e : j = i
    · subst e
      exact ⟨u', List.getElem?_set_self (by rw [h.len]; exact hj), by rw [if_pos rfl]; exact hO⟩
    · obtain ⟨x, h1, h2⟩ := h.row j hj
      refine ⟨x, by rw [List.getElem?_set_ne (fun e' => e e'.symm)]; exact h1, ?_⟩
      rw [if_neg e]
      refine own_up h2 hk fun b hb hf => ?_
      rcases hF b hf with hf | hf
      · exact h.ap j i x u b h1 hu e hb hf
      · exact hf j x h1 hb
  · have hold : ∀ (j : Nat) (z : Value), us[j]? = some z → j ≠ i → ∀ b, z.ownBlock = some b → u'.ownBlock ≠ some b := fun j z hz hj b hzb e => by
      rcases hat with h1 | h1
      · rw [h1] at e; exact h.ap j i z u b hz hu hj hzb e
      · have h2 := h1 b e
        obtain ⟨z', h3, h4⟩ := h.row j (by have := (List.getElem?_eq_some_iff.1 hz).1; rw [h.len] at this; exact this)
        rw [hz] at h3; cases h3
        have := (h4.lt b hzb).2
        omega
    by_cases ea : a = i
    · subst ea
      rw [List.getElem?_set_self (by rw [h.len]; exact hi)] at hx
      cases hx
      rw [List.getElem?_set_ne hac] at hy
      exact fun e => hold c y hy (fun e' => hac e'.symm) b e hb
    · rw [List.getElem?_set_ne (fun e' => ea e'.symm)] at hx
      by_cases ec : c = i
      · subst ec
        rw [List.getElem?_set_self (by rw [h.len]; exact hi)] at hy
        cases hy
        exact hold a x hx ea b hb
      · rw [List.getElem?_set_ne (fun e' => ec e'.symm)] at hy
        exact h.ap a c x y b hx hy hac hb
theorem Outs.congr {w : World} {B : Nat} {us : List Value} {n : Nat} {f g : Nat → List BSteps.El} (h : Outs w B us n f) (hfg : ∀ i, i < n → f i = g i) : Outs w B us n g :=
  ⟨h.len, fun i hi => by rw [← hfg i hi]; exact h.row i hi, h.ap⟩
theorem Outs.kept {w w' : World} {B : Nat} {us : List Value} {n : Nat} {f : Nat → List BSteps.El} {F : Nat → Prop} (h : Outs w B us n f) (hk : Kept F w w') (hF : ∀ (j : Nat) (x : Value), us[j]? = some x → ∀ b, x.ownBlock = some b → ¬ F b) : Outs w' B us n f :=
  ⟨h.len, fun i hi => by obtain ⟨u, h1, h2⟩ := h.row i hi; exact ⟨u, h1, own_up h2 hk fun b hb => hF i u h1 b hb⟩, h.ap⟩
theorem kcell {w w' : World} {F : Nat → Prop} (hk : Kept F w w') {b o : Nat} {v : Value} (hF : ¬ F b) (c : w.cell? ⟨b, o, none⟩ = some v) : w'.cell? ⟨b, o, none⟩ = some v := (World.cell?_of_block (a := ⟨b, o, none⟩) (hk.block b (World.block_lt_of_cell? w _ c) hF)).trans c
/-- One row more long, its slice laid into the list of rows. -/
theorem outs_grow {w wr w4 : World} {g n i N g4 k4 cu : Nat} {au : Option Addr} {us : List Value} {f : Nat → List BSteps.El} (z : BSteps.El) (hOs : Outs wr w.heap.size us n f) (hi : i < n) (hu : us[i]? = some (.slice au N cu)) (hN : N = (f i).length) (hown : w4.ownsRow w.heap.size 116 2 (.slice (some ⟨g4, 0, none⟩) (N + 1) k4) (N + 1) (BSteps.C (f i) ++ [.int .i64 z.1, .int .i64 z.2])) (hk : Kept (fun b => (Value.slice au N cu).ownBlock = some b) wr w4) (hat : (Value.slice au N cu).ownBlock = some g4 ∨ g4 = wr.heap.size + 1) (hA4 : Arr 114 w w4 g us) :
    Arr 114 w (w4.setCell ⟨g, i, none⟩ (.slice (some ⟨g4, 0, none⟩) (N + 1) k4)) g (us.set i (.slice (some ⟨g4, 0, none⟩) (N + 1) k4)) ∧ Outs (w4.setCell ⟨g, i, none⟩ (.slice (some ⟨g4, 0, none⟩) (N + 1) k4)) w.heap.size (us.set i (.slice (some ⟨g4, 0, none⟩) (N + 1) k4)) n (fun j => if j = i then f i ++ [z] else f j) ∧ Kept (fun b => b = g ∨ (Value.slice au N cu).ownBlock = some b) wr (w4.setCell ⟨g, i, none⟩ (.slice (some ⟨g4, 0, none⟩) (N + 1) k4)) := by
  have hO : BSteps.Own w4 w.heap.size (.slice (some ⟨g4, 0, none⟩) (N + 1) k4) (f i ++ [z]) := by
    unfold BSteps.Own
    have e1 : (f i ++ [z]).length = N + 1 := by rw [List.length_append, hN]; rfl
    rw [e1, BSteps.C_app]
    exact hown
  have h1 := hOs.set (F := fun b => (Value.slice au N cu).ownBlock = some b) hi hu hk (fun b hb => .inl hb) hO (by
    rcases hat with h | h
    · exact .inl h.symm
    · exact .inr fun b hb => by have e9 : g4 = b := Option.some.inj hb
                                omega)
  refine ⟨hA4.set i _, ?_, ?_⟩
  · refine h1.kept (Kept.setCell w4 g i _) fun j x hx b hb e => ?_
    obtain ⟨cs, hc, _⟩ := hA4.ids
    obtain ⟨x', h2, h3⟩ := h1.row j (by have := (List.getElem?_eq_some_iff.1 hx).1; rw [h1.len] at this; exact this)
    rw [hx] at h2; cases h2
    exact own_bk h3 hc (by decide) (by rw [← e]; exact hb)
  · exact (hk.mono fun b _ hb => .inr hb).trans ((Kept.setCell w4 g i _).mono fun b _ hb => .inl hb)
theorem Sy.steps_take {l : List Sy.Ed} {j : Nat} {e : Sy.Ed} (he : l[j]? = some e) (i : Int) : Sy.steps (l.take (j + 1)) i = if e.1 = i then Sy.steps (l.take j) i ++ [(e.2.1, e.2.2)] else Sy.steps (l.take j) i := by
  rw [List.take_add_one, he]
  exact Sy.steps_snoc _ _ _
theorem out_round {w wr w4 : World} {g n N g4 k4 cu gl c : Nat} {au : Option Addr} {us : List Value} {l : List Sy.Ed} {j L f : Nat} {e : Sy.Ed} (hL : j < L) (hfn : f < n) (hOs : Outs wr w.heap.size us n (fun i => Sy.steps (l.take j) i)) (hOl : BEdges.Own wr w.heap.size (.slice (some ⟨gl, 0, none⟩) l.length c) l) (he : l[j]? = some e) (hf : e.1 = (f : Int)) (hu : us[f]? = some (.slice au (Sy.steps (l.take j) f).length cu)) (hN : N = (Sy.steps (l.take j) f).length)
    (hown : w4.ownsRow w.heap.size 116 2 (.slice (some ⟨g4, 0, none⟩) (N + 1) k4) (N + 1) (BSteps.C (Sy.steps (l.take j) f) ++ [.int .i64 e.2.1, .int .i64 e.2.2])) (hk : Kept (fun b => (Value.slice au N cu).ownBlock = some b) wr w4) (hat : (Value.slice au N cu).ownBlock = some g4 ∨ g4 = wr.heap.size + 1) (hA4 : Arr 114 w w4 g us) (hne : ¬ gl = g) (hgl : ¬ (Value.slice au N cu).ownBlock = some gl) :
    ∃ (j1 : Nat) (us : List Value), L - (j + 1) = L - j1 ∧ j1 ≤ L ∧ Value.int .i64 ((j : Int) + 1) = .int .i64 j1 ∧ Arr 114 w (w4.setCell ⟨g, f, none⟩ (.slice (some ⟨g4, 0, none⟩) (N + 1) k4)) g us ∧ Outs (w4.setCell ⟨g, f, none⟩ (.slice (some ⟨g4, 0, none⟩) (N + 1) k4)) w.heap.size us n (fun i => Sy.steps (l.take j1) i) ∧ BEdges.Own (w4.setCell ⟨g, f, none⟩ (.slice (some ⟨g4, 0, none⟩) (N + 1) k4)) w.heap.size (.slice (some ⟨gl, 0, none⟩) l.length c) l := by
  obtain ⟨h1, h2, h3⟩ := outs_grow (e.2.1, e.2.2) hOs hfn (by rw [hN]; exact hu) hN hown hk hat hA4
  refine ⟨j + 1, _, rfl, hL, rfl, h1, h2.congr fun i hi => ?_, own_up hOl h3 fun b hb hF => ?_⟩
  · rw [Sy.steps_take he, hf]
    by_cases e9 : i = f
    · subst e9; rw [if_pos rfl, if_pos rfl]
    · rw [if_neg e9, if_neg (fun h => e9 (by omega))]
  · cases hb
    rcases hF with hF | hF
    · exact hne hF
    · exact hgl hF
set_option linter.unusedSimpArgs false in
set_option maxRecDepth 100000 in
set_option maxHeartbeats 8000000 in
theorem refOut_any (n : Nat) (k s : Int) (v : Value) (es : List Sy.Ed) (w : World) (hn : n ≤ 1000000) (hv : HasE w v es) (hm : es.length ≤ 100000) (hr : ∀ e ∈ es, 0 ≤ e.1 ∧ e.1 < (n : Int)) :
    Calls Tryz.prog 31 #[sysV n k s v] w fun e w' => ∃ g us, e = .returned (.slice (some ⟨g, 0, none⟩) n n) ∧ Arr 114 w w' g us ∧ Outs w' w.heap.size us n (fun i => Sy.steps (Sy.nf es) i) := by
  obtain ⟨i0, hi0, hz0, hz1, hz2⟩ := info_parts BSteps.Tryz.infoE
  obtain ⟨w0, hw0⟩ : ∃ w0, w0 = w.alloc (.cells #[.int .i64 n, .int .i64 k, .int .i64 s, v] 24) := ⟨_, rfl⟩
  have hb0 : Below w.heap.size w w0 := by rw [hw0]; exact (Below.refl _ _).alloc (Nat.le_refl _) _
  have hs0 : w0.heap.size = w.heap.size + 1 := by rw [hw0]; simp
  have hg0 : w0.heap[w.heap.size]? = some (.cells #[.int .i64 n, .int .i64 k, .int .i64 s, v] 24 (0, 0)) := by rw [hw0]; exact heap_alloc_new w _
  have hA0 := arr_new 114 (.slice none 0 0) rfl n w0
  have hmk := makeSt n hn w0
  have hS := refSorted_any v es _ ((hv.below hb0).below hA0.bl) hm
  unfold SortedAt at hS
  have hv0 := hv
  obtain ⟨ao, cap, rfl, _⟩ := hv0
  obtain ⟨m, hmm⟩ : ∃ m, m = es.length := ⟨_, rfl⟩
  obtain ⟨l, hl⟩ : ∃ l, l = Sy.nf es := ⟨_, rfl⟩
  rw [← hmm] at hS hw0 hg0 ⊢
  rw [← hl] at hS ⊢
  have hlr : ∀ e ∈ l, 0 ≤ e.1 ∧ e.1 < (n : Int) := fun e he => hr e ((Sy.nf_mem es e).1 (by rw [← hl]; exact he))
  have hll : l.length ≤ 100000 := by have := Sy.nf_len es; rw [← hl] at this; omega
  have H0 : Hid _ := And.intro hS (And.intro hb0 (And.intro hg0 (And.intro hA0 (And.intro hw0 hs0))))
  have HLR : Hid _ := hlr
  unfold sysV
  obtain ⟨x0, x1, x2, x3⟩ := four_cells hg0
  clear hS hb0 hg0 hA0 hw0 hlr hv hr hmm hl
  go_enter Tryz.func31, Tryz.ntmps31
  go_upto_region 1 with fail
  rw [← H0.out.2.2.2.2.1]
  go_wp2_with fail
  refine Calls.mono H0.out.1 ?_
  rintro e w1 ⟨u, rfl, hO, hb1⟩
  obtain ⟨bo, cbp, rfl⟩ := row_shape hO
  obtain ⟨L, hL⟩ : ∃ L, L = l.length := ⟨_, rfl⟩
  have hA1 : Arr 114 w w1 w0.heap.size (List.replicate n (.slice none 0 0)) := by
    have h1 := H0.out.2.2.2.1.below hb1
    exact ⟨H0.out.2.1.trans (h1.bl.mono H0.out.2.1.size), h1.ids, by rw [H0.out.2.2.2.2.2]; omega⟩
  have hO1 : BEdges.Own w1 w.heap.size (.slice bo l.length cbp) l := row_base hO (by have := hA1.bl.size; have := H0.out.2.2.2.1.bl.size; have := H0.out.2.1.size; omega)
  rw [hs0] at hA1
  have H1 : Hid _ := And.intro hA1 (And.intro hO1 hL)
  rw [← hL]
  rw [← hL] at hll
  clear hO hb1 hA1 hO1 hL x0 x1 x2 x3 hmk
  obtain ⟨g, hgg⟩ : ∃ g, g = w.heap.size + 1 := ⟨_, rfl⟩
  rw [← hgg] at H1 ⊢
  have hg1 : w.heap.size < g := by omega
  clear hgg H0 hs0
  go_wp2_with fail
  go_loopg [5] L (fun q jv wr => ∃ (j : Nat) (us : List Value), q = L - j ∧ j ≤ L ∧ jv = .int .i64 j ∧ Arr 114 w wr g us ∧ Outs wr w.heap.size us n (fun i => Sy.steps (l.take j) i) ∧ BEdges.Own wr w.heap.size (.slice bo l.length cbp) l)
  case atStart => exact ⟨0, _, rfl, Nat.zero_le _, rfl, H1.out.1, outs_new _ _ _, H1.out.2.1⟩
  case round =>
    obtain ⟨j, us, rfl, hj, rfl, hA, hOs, hOl⟩ := hrel
    by_cases hlt : j < L
    · obtain ⟨e, he⟩ : ∃ e, l[j]? = some e := ⟨l[j]'(by have := H1.out.2.2; omega), List.getElem?_eq_getElem _⟩
      obtain ⟨gl, hgl, e0, e1, e2⟩ := own_edge hOl he
      have hel := HLR.out e (List.mem_of_getElem? he)
      obtain ⟨f, hf⟩ : ∃ f : Nat, e.1 = (f : Int) := ⟨e.1.toNat, by omega⟩
      have hfn : f < n := by omega
      obtain ⟨u, hu, hOu⟩ := hOs.row f hfn
      obtain ⟨au, cu, rfl⟩ := row_shape hOu
      obtain ⟨N, hN⟩ : ∃ N, N = (Sy.steps (l.take j) f).length := ⟨_, rfl⟩
      have hNl : N ≤ 100000 := by have := Sy.steps_len (l.take j) f; rw [List.length_take] at this; omega
      have cu0 := hA.cell hu
      have cuf := hA.free f
      have hgw := hA.lt
      have hOu' : wr.ownsRow w.heap.size 116 2 (.slice au N cu) N (BSteps.C (Sy.steps (l.take j) f)) := by have h1 := hOu; unfold BSteps.Own at h1; rw [← hN] at h1; exact h1
      rw [← hN] at cu0
      rw [hf] at e0
      have q0 : (0 : Int) ≤ (j : Int) := by omega
      have q1 : (j : Int) < (L : Int) := by omega
      have q2 : (0 : Int) ≤ (f : Int) := by omega
      have q3 : (f : Int) < (n : Int) := by omega
      have hml : N + 1 ≤ maxLen := by unfold maxLen; omega
      have hby : (N + 1) * 16 ≤ 140737488355328 := by omega
      have hgb := own_ne hOl hOu' (by decide)
      have HA : Hid _ := And.intro hA (And.intro hOs (And.intro hOl (And.intro he (And.intro hf (And.intro hu (And.intro hOu' hN))))))
      have hOd : (wr.drew.alloc (.cells #[.int .i64 e.2.1, .int .i64 e.2.2] 116)).ownsRow w.heap.size 116 2 (.slice au N cu) N (BSteps.C (Sy.steps (l.take j) f)) := World.ownsRow.alloc (trow_at hOu' fun _ _ => rfl) _
      have HD : Hid _ := hOd
      have hle : w.heap.size ≤ (wr.drew.alloc (.cells #[.int .i64 e.2.1, .int .i64 e.2.2] 116)).heap.size := by have := hA.bl.size; simp; omega
      have HKP : Hid (∀ b, (Value.slice au N cu).ownBlock = some b → w.heap.size ≤ b ∧ b ≠ g) := (fun b hb => ⟨(hOu'.lt b hb).1, fun e => by
        obtain ⟨cs9, hc9, _⟩ := hA.ids
        exact own_bk hOu' hc9 (by decide) (by rw [← e]; exact hb)⟩ : ∀ b, (Value.slice au N cu).ownBlock = some b → w.heap.size ≤ b ∧ b ≠ g)
      cases hgl
      have HGL : Hid (¬ (Value.slice au N cu).ownBlock = some gl) := (fun h9 => hgb gl rfl h9 : ¬ (Value.slice au N cu).ownBlock = some gl)
      have n1 : gl < wr.heap.size := World.block_lt_of_cell? wr _ e0
      have n2 : ¬ gl = wr.heap.size := by omega
      have n3 : ¬ g = wr.heap.size := by omega
      have hne : ¬ gl = g := fun e9 => by
        obtain ⟨cs9, hc9, _⟩ := hA.ids
        exact own_bk (bk := g) hOl hc9 (by decide) (by rw [← e9]; rfl)
      have hne' : ¬ g = gl := fun e => hne e.symm
      clear hgb
      clear hA hOs hOl he hf hu hOu hOu' hN hel hOd
      go_upto_region 6 with fail
      refine wp_region_held_drew (S := (fun w' => w'.cell? ⟨gl, j * 3, none⟩ = some (.int .i64 f) ∧ w'.cell? ⟨gl, j * 3 + 1, none⟩ = some (.int .i64 e.2.1) ∧ w'.cell? ⟨gl, j * 3 + 2, none⟩ = some (.int .i64 e.2.2))) (by kernel_rfl) ?_ (fun hHeld => ?_)
      · exact ⟨e0, e1, e2⟩
      refine wpAnyH_take (i := 0) (oi := _) (v := ?_) rfl (by kernel_rfl) (by kernel_rfl) (by kernel_rfl) (fun _ _ _ h => h) (Or.inl ⟨by rfl, ?_⟩) (by assumption) ?_
      rotate_left
      · (intro w hSw; (try dsimp only at hSw); go_simp; (try with_reducible rfl))
      (try simp only [Act.put, List.setIfInBounds_toArray, List.set_cons_zero, List.set_cons_succ])
      refine wpAnyH_take (i := 1) (oi := _) (v := ?_) rfl (by kernel_rfl) (by kernel_rfl) (by kernel_rfl) (fun _ _ _ h => h) (Or.inl ⟨by rfl, ?_⟩) (by assumption) ?_
      rotate_left
      · (intro w hSw; (try dsimp only at hSw); go_simp; (try with_reducible rfl))
      (try simp only [Act.put, List.setIfInBounds_toArray, List.set_cons_zero, List.set_cons_succ])
      refine wpAnyH_take (i := 2) (oi := _) (v := ?_) rfl (by kernel_rfl) (by kernel_rfl) (by kernel_rfl) (fun _ _ _ h => h) (Or.inl ⟨by rfl, ?_⟩) (by assumption) ?_
      rotate_left
      · (intro w hSw; (try dsimp only at hSw); go_simp; (try with_reducible rfl))
      (try simp only [Act.put, List.setIfInBounds_toArray, List.set_cons_zero, List.set_cons_succ])
      refine wpAnyH_take (i := 3) (oi := _) (v := ?_) rfl (by kernel_rfl) (by kernel_rfl) (by kernel_rfl) (fun _ _ _ h => h) (Or.inl ⟨by rfl, ?_⟩) (by assumption) ?_
      rotate_left
      · (intro w hSw; (try dsimp only at hSw); go_simp; (try with_reducible rfl))
      (try simp only [Act.put, List.setIfInBounds_toArray, List.set_cons_zero, List.set_cons_succ])
      refine wpAnyH_take (i := 4) (oi := _) (v := ?_) rfl (by kernel_rfl) (by kernel_rfl) (by kernel_rfl) (fun _ _ _ h => h) (Or.inl ⟨by rfl, ?_⟩) (by assumption) ?_
      rotate_left
      · (intro w hSw; (try dsimp only at hSw); go_simp; (try with_reducible rfl))
      (try simp only [Act.put, List.setIfInBounds_toArray, List.set_cons_zero, List.set_cons_succ])
      refine wpAnyH_take (i := 5) (oi := _) (v := ?_) rfl (by kernel_rfl) (by kernel_rfl) (by kernel_rfl) (fun _ _ _ h => h) (Or.inl ⟨by rfl, ?_⟩) (by assumption) ?_
      rotate_left
      · (intro w hSw; (try dsimp only at hSw); go_simp; (try with_reducible rfl))
      (try simp only [Act.put, List.setIfInBounds_toArray, List.set_cons_zero, List.set_cons_succ])
      refine wpAnyH_take (i := 6) (oi := _) (v := ?_) rfl (by kernel_rfl) (by kernel_rfl) (by kernel_rfl) (fun _ _ _ h => h) (Or.inl ⟨by rfl, ?_⟩) (by assumption) ?_
      rotate_left
      · (intro w hSw; (try dsimp only at hSw); go_simp; (try with_reducible rfl))
      (try simp only [Act.put, List.setIfInBounds_toArray, List.set_cons_zero, List.set_cons_succ])
      refine wpAnyH_take (i := 7) (oi := _) (v := ?_) rfl (by kernel_rfl) (by kernel_rfl) (by kernel_rfl) (fun _ _ _ h => h) (Or.inl ⟨by rfl, ?_⟩) (by assumption) ?_
      rotate_left
      · (intro w hSw; (try dsimp only at hSw); go_simp; (try with_reducible rfl))
      (try simp only [Act.put, List.setIfInBounds_toArray, List.set_cons_zero, List.set_cons_succ])
      refine wpAnyH_take (i := 8) (oi := _) (v := ?_) rfl (by kernel_rfl) (by kernel_rfl) (by kernel_rfl) (fun _ _ _ h => h) (Or.inl ⟨by rfl, ?_⟩) (by assumption) ?_
      rotate_left
      · (intro w hSw; (try dsimp only at hSw); go_simp; (try with_reducible rfl))
      (try simp only [Act.put, List.setIfInBounds_toArray, List.set_cons_zero, List.set_cons_succ])
      refine wpAnyH_take (i := 9) (oi := _) (v := ?_) rfl (by kernel_rfl) (by kernel_rfl) (by kernel_rfl) (fun _ _ _ h => h) (Or.inl ⟨by rfl, ?_⟩) (by assumption) ?_
      rotate_left
      · (intro w hSw; (try dsimp only at hSw); go_simp; (try with_reducible rfl))
      (try simp only [Act.put, List.setIfInBounds_toArray, List.set_cons_zero, List.set_cons_succ])
      refine wpAnyH_take (i := 10) (oi := _) (v := ?_) rfl (by kernel_rfl) (by kernel_rfl) (by kernel_rfl) (fun _ _ _ h => h) (Or.inl ⟨by rfl, ?_⟩) (by assumption) ?_
      rotate_left
      · (intro w hSw; (try dsimp only at hSw); go_simp; (try with_reducible rfl))
      (try simp only [Act.put, List.setIfInBounds_toArray, List.set_cons_zero, List.set_cons_succ])
      refine wpAnyH_take (i := 11) (oi := _) (v := ?_) rfl (by kernel_rfl) (by kernel_rfl) (by kernel_rfl) (fun _ _ _ h => h) (Or.inl ⟨by rfl, ?_⟩) (by assumption) ?_
      rotate_left
      · (intro w hSw; (try dsimp only at hSw); go_simp; (try with_reducible rfl))
      (try simp only [Act.put, List.setIfInBounds_toArray, List.set_cons_zero, List.set_cons_succ])
      refine wpAnyH_take (i := 12) (oi := _) (v := ?_) rfl (by kernel_rfl) (by kernel_rfl) (by kernel_rfl) (fun _ _ _ h => h) (Or.inl ⟨by rfl, ?_⟩) (by assumption) ?_
      rotate_left
      · (intro w hSw; (try dsimp only at hSw); go_simp; (try with_reducible rfl))
      (try simp only [Act.put, List.setIfInBounds_toArray, List.set_cons_zero, List.set_cons_succ])
      refine wpAnyH_take (i := 14) (oi := _) (v := ?_) rfl (by kernel_rfl) (by kernel_rfl) (by kernel_rfl) (fun _ _ _ h => h) (Or.inl ⟨by rfl, ?_⟩) (by assumption) ?_
      rotate_left
      · (intro w hSw; (try dsimp only at hSw); go_simp; (try with_reducible rfl))
      (try simp only [Act.put, List.setIfInBounds_toArray, List.set_cons_zero, List.set_cons_succ])
      refine wpAnyH_take (i := 15) (oi := _) (v := ?_) rfl (by kernel_rfl) (by kernel_rfl) (by kernel_rfl) (fun _ _ _ h => h) (Or.inl ⟨by rfl, ?_⟩) (by assumption) ?_
      rotate_left
      · (intro w hSw; (try dsimp only at hSw); go_simp; (try with_reducible rfl))
      (try simp only [Act.put, List.setIfInBounds_toArray, List.set_cons_zero, List.set_cons_succ])
      refine wpAnyH_take (i := 16) (oi := _) (v := ?_) rfl (by kernel_rfl) (by kernel_rfl) (by kernel_rfl) (fun _ _ _ h => h) (Or.inl ⟨by rfl, ?_⟩) (by assumption) ?_
      rotate_left
      · (intro w hSw; (try dsimp only at hSw); go_simp; (try with_reducible rfl))
      (try simp only [Act.put, List.setIfInBounds_toArray, List.set_cons_zero, List.set_cons_succ])
      refine wpAnyH_take (i := 17) (oi := _) (v := ?_) rfl (by kernel_rfl) (by kernel_rfl) (by kernel_rfl) (fun _ _ _ h => h) (Or.inl ⟨by rfl, ?_⟩) (by assumption) ?_
      rotate_left
      · (intro w hSw; (try dsimp only at hSw); go_simp; (try with_reducible rfl))
      (try simp only [Act.put, List.setIfInBounds_toArray, List.set_cons_zero, List.set_cons_succ])
      refine wpAnyH_take (i := 18) (oi := _) (v := ?_) rfl (by kernel_rfl) (by kernel_rfl) (by kernel_rfl) (fun _ _ _ h => h) (Or.inl ⟨by rfl, ?_⟩) (by assumption) ?_
      rotate_left
      · (intro w hSw; (try dsimp only at hSw); go_simp; (try with_reducible rfl))
      (try simp only [Act.put, List.setIfInBounds_toArray, List.set_cons_zero, List.set_cons_succ])
      refine wpAnyH_take (i := 19) (oi := _) (v := ?_) rfl (by kernel_rfl) (by kernel_rfl) (by kernel_rfl) (fun _ _ _ h => h) (Or.inl ⟨by rfl, ?_⟩) (by assumption) ?_
      rotate_left
      · (intro w hSw; (try dsimp only at hSw); go_simp; (try with_reducible rfl))
      (try simp only [Act.put, List.setIfInBounds_toArray, List.set_cons_zero, List.set_cons_succ])
      refine wpAnyH_take (i := 20) (oi := _) (v := ?_) rfl (by kernel_rfl) (by kernel_rfl) (by kernel_rfl) (fun _ _ _ h => h) (Or.inl ⟨by rfl, ?_⟩) (by assumption) ?_
      rotate_left
      · (intro w hSw; (try dsimp only at hSw); go_simp; (try with_reducible rfl))
      (try simp only [Act.put, List.setIfInBounds_toArray, List.set_cons_zero, List.set_cons_succ])
      refine wpAnyH_take (i := 21) (oi := _) (v := ?_) rfl (by kernel_rfl) (by kernel_rfl) (by kernel_rfl) (fun _ _ _ h => h) (Or.inl ⟨by rfl, ?_⟩) (by assumption) ?_
      rotate_left
      · (intro w hSw; (try dsimp only at hSw); go_simp; (try with_reducible rfl))
      (try simp only [Act.put, List.setIfInBounds_toArray, List.set_cons_zero, List.set_cons_succ])
      refine wpAnyH_take (i := 22) (oi := _) (v := ?_) rfl (by kernel_rfl) (by kernel_rfl) (by kernel_rfl) (fun _ _ _ h => h) (Or.inl ⟨by rfl, ?_⟩) (by assumption) ?_
      rotate_left
      · (intro w hSw; (try dsimp only at hSw); go_simp; (try with_reducible rfl))
      (try simp only [Act.put, List.setIfInBounds_toArray, List.set_cons_zero, List.set_cons_succ])
      refine wpAnyH_take (i := 23) (oi := _) (v := ?_) rfl (by kernel_rfl) (by kernel_rfl) (by kernel_rfl) (fun _ _ _ h => h) (Or.inl ⟨by rfl, ?_⟩) (by assumption) ?_
      rotate_left
      · (intro w hSw; (try dsimp only at hSw); go_simp; (try with_reducible rfl))
      (try simp only [Act.put, List.setIfInBounds_toArray, List.set_cons_zero, List.set_cons_succ])
      refine wpAnyH_take (i := 24) (oi := _) (v := ?_) rfl (by kernel_rfl) (by kernel_rfl) (by kernel_rfl) (fun _ _ _ h => h) (Or.inl ⟨by rfl, ?_⟩) (by assumption) ?_
      rotate_left
      · (intro w hSw; (try dsimp only at hSw); go_simp; (try with_reducible rfl))
      (try simp only [Act.put, List.setIfInBounds_toArray, List.set_cons_zero, List.set_cons_succ])
      refine wpAnyH_ready (rs := [13, 25]) (by kernel_rfl) (by simp) ?_
      refine AllReadyH.cons (o := _) rfl (fun K hK => ?_) ?_
      · go_simp
        refine hK.out _ _ ?_ (fun hHeld => ?_)
        · ((try dsimp only); go_keep)
        clear hK K
        (try simp only [Act.put, List.setIfInBounds_toArray, List.set_cons_zero, List.set_cons_succ])
        refine wpAnyH_ready (rs := [25]) (by kernel_rfl) (by simp) ?_
        refine AllReadyH.cons (o := _) rfl (fun K hK => ?_) ?_
        · go_simp
          refine hK.out _ _ ?_ (fun hHeld => ?_)
          · ((try dsimp only); go_keep)
          clear hK K
          (try simp only [Act.put, List.setIfInBounds_toArray, List.set_cons_zero, List.set_cons_succ])
          refine wpAnyH_ready (rs := [26]) (by kernel_rfl) (by simp) ?_
          refine AllReadyH.cons (o := _) rfl (fun K hK => ?_) ?_
          · (refine step_append_lies _ (by rfl) _ _ _ (by rfl) w.heap.size 116 i0 _ 2 16 Tryz.underlying114 hi0 hz0 hz1 hz2 rfl (by decide) (.slice au N cu) N (BSteps.C (Sy.steps (l.take j) f)) (by rfl) HD.out ⟨wr.heap.size, 0, none⟩ 1 1 [.int .i64 e.2.1, .int .i64 e.2.2] (by rfl) (by rfl) (World.news_of_block (cs := #[.int .i64 e.2.1, .int .i64 e.2.2]) (t := 116) (fr := (0, 0)) (heap_alloc_new wr.drew _)) (by simp [Value.oneCell']) Nat.one_pos hml hby hle (wr.heap.size + 1) (by simp) ?_; intro g4 k4 w4 hown4 hgrow4 hat4 hlt4; have hk4 : Kept (fun b => (Value.slice au N cu).ownBlock = some b) wr w4 := (Kept.of_below ((Below.refl _ wr).drew)).trans (grown_alloc (w := wr.drew) hgrow4); have hA4 := HA.out.1.kept hk4 HKP.out; have cu0 := hA4.cell HA.out.2.2.2.2.2.1; have cuf := hA4.free f; have e0 := kcell hk4 HGL.out e0; have e1 := kcell hk4 HGL.out e1; have e2 := kcell hk4 HGL.out e2; have H4 : Hid _ := And.intro hown4 (And.intro hk4 (And.intro hat4 hA4)); clear hown4 hgrow4 hat4 hlt4 hk4 hA4)
            refine hK.out _ _ ?_ (fun hHeld => ?_)
            · exact ⟨e0, e1, e2⟩
            clear hK K
            (try simp only [Act.put, List.setIfInBounds_toArray, List.set_cons_zero, List.set_cons_succ])
            refine wpAnyH_take (i := 27) (oi := _) (v := ?_) rfl (by kernel_rfl) (by kernel_rfl) (by kernel_rfl) (fun _ _ _ h => h) (Or.inl ⟨by rfl, ?_⟩) (by assumption) ?_
            rotate_left
            · (intro w hSw; (try dsimp only at hSw); go_simp; (try with_reducible rfl))
            (try simp only [Act.put, List.setIfInBounds_toArray, List.set_cons_zero, List.set_cons_succ])
            refine wpAnyH_ready (rs := [28]) (by kernel_rfl) (by simp) ?_
            refine AllReadyH.cons (o := _) rfl (fun K hK => ?_) ?_
            · go_simp
              refine hK.out _ _ ?_ (fun hHeld => ?_)
              · ((try dsimp only); go_keep)
              clear hK K
              (try simp only [Act.put, List.setIfInBounds_toArray, List.set_cons_zero, List.set_cons_succ])
              refine wpAnyH_done (by kernel_rfl) ?_ _
              (try go_simp)
              go_wp2_with fail
              go_roundg (L - (j + 1))
              case measure => omega
              case rel => exact out_round hlt hfn HA.out.2.1 HA.out.2.2.1 HA.out.2.2.2.1 HA.out.2.2.2.2.1 HA.out.2.2.2.2.2.1 HA.out.2.2.2.2.2.2.2 H4.out.1 H4.out.2.1 H4.out.2.2.1 H4.out.2.2.2 hne HGL.out
            exact AllReadyH.nil
          exact AllReadyH.nil
        exact AllReadyH.nil
      refine AllReadyH.cons (o := _) rfl (fun K hK => ?_) ?_
      · go_simp
        refine hK.out _ _ ?_ (fun hHeld => ?_)
        · ((try dsimp only); go_keep)
        clear hK K
        (try simp only [Act.put, List.setIfInBounds_toArray, List.set_cons_zero, List.set_cons_succ])
        refine wpAnyH_ready (rs := [13]) (by kernel_rfl) (by simp) ?_
        refine AllReadyH.cons (o := _) rfl (fun K hK => ?_) ?_
        · go_simp
          refine hK.out _ _ ?_ (fun hHeld => ?_)
          · ((try dsimp only); go_keep)
          clear hK K
          (try simp only [Act.put, List.setIfInBounds_toArray, List.set_cons_zero, List.set_cons_succ])
          refine wpAnyH_ready (rs := [26]) (by kernel_rfl) (by simp) ?_
          refine AllReadyH.cons (o := _) rfl (fun K hK => ?_) ?_
          · (refine step_append_lies _ (by rfl) _ _ _ (by rfl) w.heap.size 116 i0 _ 2 16 Tryz.underlying114 hi0 hz0 hz1 hz2 rfl (by decide) (.slice au N cu) N (BSteps.C (Sy.steps (l.take j) f)) (by rfl) HD.out ⟨wr.heap.size, 0, none⟩ 1 1 [.int .i64 e.2.1, .int .i64 e.2.2] (by rfl) (by rfl) (World.news_of_block (cs := #[.int .i64 e.2.1, .int .i64 e.2.2]) (t := 116) (fr := (0, 0)) (heap_alloc_new wr.drew _)) (by simp [Value.oneCell']) Nat.one_pos hml hby hle (wr.heap.size + 1) (by simp) ?_; intro g4 k4 w4 hown4 hgrow4 hat4 hlt4; have hk4 : Kept (fun b => (Value.slice au N cu).ownBlock = some b) wr w4 := (Kept.of_below ((Below.refl _ wr).drew)).trans (grown_alloc (w := wr.drew) hgrow4); have hA4 := HA.out.1.kept hk4 HKP.out; have cu0 := hA4.cell HA.out.2.2.2.2.2.1; have cuf := hA4.free f; have e0 := kcell hk4 HGL.out e0; have e1 := kcell hk4 HGL.out e1; have e2 := kcell hk4 HGL.out e2; have H4 : Hid _ := And.intro hown4 (And.intro hk4 (And.intro hat4 hA4)); clear hown4 hgrow4 hat4 hlt4 hk4 hA4)
            refine hK.out _ _ ?_ (fun hHeld => ?_)
            · exact ⟨e0, e1, e2⟩
            clear hK K
            (try simp only [Act.put, List.setIfInBounds_toArray, List.set_cons_zero, List.set_cons_succ])
            refine wpAnyH_take (i := 27) (oi := _) (v := ?_) rfl (by kernel_rfl) (by kernel_rfl) (by kernel_rfl) (fun _ _ _ h => h) (Or.inl ⟨by rfl, ?_⟩) (by assumption) ?_
            rotate_left
            · (intro w hSw; (try dsimp only at hSw); go_simp; (try with_reducible rfl))
            (try simp only [Act.put, List.setIfInBounds_toArray, List.set_cons_zero, List.set_cons_succ])
            refine wpAnyH_ready (rs := [28]) (by kernel_rfl) (by simp) ?_
            refine AllReadyH.cons (o := _) rfl (fun K hK => ?_) ?_
            · go_simp
              refine hK.out _ _ ?_ (fun hHeld => ?_)
              · ((try dsimp only); go_keep)
              clear hK K
              (try simp only [Act.put, List.setIfInBounds_toArray, List.set_cons_zero, List.set_cons_succ])
              refine wpAnyH_done (by kernel_rfl) ?_ _
              (try go_simp)
              go_wp2_with fail
              go_roundg (L - (j + 1))
              case measure => omega
              case rel => exact out_round hlt hfn HA.out.2.1 HA.out.2.2.1 HA.out.2.2.2.1 HA.out.2.2.2.2.1 HA.out.2.2.2.2.2.1 HA.out.2.2.2.2.2.2.2 H4.out.1 H4.out.2.1 H4.out.2.2.1 H4.out.2.2.2 hne HGL.out
            exact AllReadyH.nil
          exact AllReadyH.nil
        exact AllReadyH.nil
      exact AllReadyH.nil
    · obtain rfl : j = L := by omega
      have q1 : ¬ (j : Int) < (j : Int) := by omega
      have HA : Hid _ := And.intro hA hOs
      clear hA hOs hOl
      go_wp2_with fail
      go_ret
      refine ⟨_, rfl, us, HA.out.1, ?_⟩
      have h1 := HA.out.2
      rw [List.take_of_length_le (by have := H1.out.2.2; omega)] at h1
      exact h1
end Go.Proofs.YtpmanmoljlhogaaGreatDoor
/- Contract of the document's Rounds: the classes of all rounds. -/
namespace Go.Proofs.YtpmanmoljlhogaaGreatDoor
open Go.RowKit Go.Maps
attribute [local go_sem ↓] Go.wp_at_zero Go.wp_at_succ
/-- The document's count of classes is the length of the list of those that come. -/
theorem Sy.place_Ro (c : Int) (l : List Int) : Sy.place c l = Ro.place c l := by
  induction l with
  | nil => rfl
  | cons a r ih => simp only [Sy.place, Ro.place, ih]
theorem seenG_foldl (l : List Int) : ∀ seen, Sy.seenG seen l = l.foldl (fun s c => Ro.more c s) seen := by
  induction l with
  | nil => intro seen; rfl
  | cons c r ih =>
    intro seen
    simp only [Sy.seenG, List.foldl_cons, ih, Sy.place_Ro]
    congr 1
    unfold Ro.more
    by_cases h : c ∈ seen
    · rw [if_pos h, if_pos (Ro.place_lt.2 h)]
    · rw [if_neg h, if_neg (fun h1 => h (Ro.place_lt.1 h1))]
theorem more_map {A B : Type} [DecidableEq A] [DecidableEq B] (f : A → B) (hf : ∀ x y, f x = f y → x = y) (c : A) (l : List A) : Ro.more (f c) (l.map f) = (Ro.more c l).map f := by
  unfold Ro.more
  by_cases h : c ∈ l
  · rw [if_pos h, if_pos (List.mem_map.2 ⟨c, h, rfl⟩)]
  · rw [if_neg h, if_neg (fun h1 => by obtain ⟨y, hy, e⟩ := List.mem_map.1 h1; exact h (hf _ _ e ▸ hy))]
    simp
theorem dd_map {A B : Type} [DecidableEq A] [DecidableEq B] (f : A → B) (hf : ∀ x y, f x = f y → x = y) (l : List A) : Ro.dd (l.map f) = (Ro.dd l).map f := by
  refine Ro.snoc_ind (P := fun l => Ro.dd (l.map f) = (Ro.dd l).map f) rfl (fun l x ih => ?_) l
  rw [List.map_append, List.map_cons, List.map_nil, Ro.dd_snoc, ih, more_map f hf, Ro.dd_snoc]
theorem together_nat (c : List Nat) : Sy.together (natI c) = (Ro.dd c).length := by
  rw [Sy.together_eq, seenG_foldl]
  show (Ro.dd (natI c)).length = _
  unfold natI
  rw [dd_map _ (fun x y e => by omega), List.length_map]
/-- The rounds so far. -/
structure DrAt (w2 wr : World) (m : Nat) (out : Nat → List Ro.St) (av : Value) (xs : List Rd) : Prop where
  bl : Below w2.heap.size w2 wr
  row : wr.ownsRow w2.heap.size 57 1 av xs.length (xs.map (hdr m))
  rows : RwAt wr w2.heap.size m out xs
theorem DrAt.below {w2 wr w' : World} {m : Nat} {out : Nat → List Ro.St} {av : Value} {xs : List Rd} (h : DrAt w2 wr m out av xs) (hb : Below wr.heap.size wr w') : DrAt w2 w' m out av xs :=
  ⟨bel6 hb h.bl, trow_at h.row fun b e => hb.block b (h.row.lt b e).2, h.rows.keep fun _ _ _ hc => res_up6 hb hc⟩
theorem DrAt.new (w2 : World) (m : Nat) (out : Nat → List Ro.St) : DrAt w2 ((w2.alloc (.cells (madeV (.int .i64 0) m) 3)).alloc (.cells #[.slice (some ⟨w2.heap.size, 0, none⟩) m m] 57)) m out (.slice (some ⟨w2.heap.size + 1, 0, none⟩) 1 1) [(0, w2.heap.size)] := by
  obtain ⟨w3, hw3⟩ : ∃ w3, w3 = w2.alloc (.cells (madeV (.int .i64 0) m) 3) := ⟨_, rfl⟩
  have h1 := arr_new 3 (.int .i64 0) rfl m w2
  rw [← hw3] at h1 ⊢
  have hz : w3.heap.size = w2.heap.size + 1 := by rw [hw3]; simp
  obtain ⟨w4, hw4⟩ : ∃ w4, w4 = w3.alloc (.cells #[.slice (some ⟨w2.heap.size, 0, none⟩) m m] 57) := ⟨_, rfl⟩
  have hb : Below w3.heap.size w3 w4 := by rw [hw4]; exact (Below.refl _ _).alloc (Nat.le_refl _) _
  have hg : w4.heap[w3.heap.size]? = some (.cells #[.slice (some ⟨w2.heap.size, 0, none⟩) m m] 57 (0, 0)) := by rw [hw4]; exact heap_alloc_new w3 _
  rw [← hw4]
  have h2 : Arr 57 w2 w4 (w2.heap.size + 1) [.slice (some ⟨w2.heap.size, 0, none⟩) m m] := ⟨bel6 hb h1.bl, ⟨_, by rw [← hz]; exact hg, rfl⟩, by omega⟩
  refine ⟨h2.bl, h2.own (by simp [maxLen]), ⟨fun j x hx => ?_, List.pairwise_singleton _ _⟩⟩
  have hj : j = 0 := by have := (List.getElem?_eq_some_iff.1 hx).1; simp at this; omega
  subst hj
  simp at hx
  subst hx
  obtain ⟨cs, hc, hx⟩ := (h1.below hb).ids
  exact ⟨rfl, Nat.le_refl _, cs, hc, by rw [hx]; simp [natC, Ro.rnd]⟩
theorem DrAt.app {w2 wr w5 : World} {m M g : Nat} {out : Nat → List Ro.St} {av v5 : Value} {xs : List Rd} {tmp : Obj} {cs : Array Value} (h : DrAt w2 wr m out av xs) (hM : M = xs.length) (hup : ∀ y ∈ xs, y.2 < g) (hg0 : w2.heap.size ≤ g) (hc : wr.heap[g]? = some (.cells cs 3 (0, 0))) (hcs : cs.toList = natC (Ro.rnd m out M))
    (hO : w5.ownsRow w2.heap.size 57 1 v5 (M + 1) (xs.map (hdr m) ++ [.slice (some ⟨g, 0, none⟩) m m])) (hg : (wr.alloc tmp).grownBy w5 av.ownBlock) : DrAt w2 w5 m out v5 (xs ++ [(M, g)]) := by
  have hk := grown_alloc hg
  have up : ∀ (b : Nat) (cs : Array Value), wr.heap[b]? = some (.cells cs 3 (0, 0)) → w5.heap[b]? = some (.cells cs 3 (0, 0)) := fun b cs hb => (hk.block b (t_lt hb) fun e => own_bk h.row hb (by decide) e).trans hb
  refine ⟨h.bl.trans (hk.below h.bl.size fun b e => (h.row.lt b e).1), ?_, ⟨fun j x hx => ?_, ?_⟩⟩
  · rw [List.map_append, List.length_append, ← hM]
    exact hO
  · rcases Nat.lt_or_ge j xs.length with hj | hj
    · rw [List.getElem?_append_left hj] at hx
      obtain ⟨e1, e2, cs', e3, e4⟩ := h.rows.row j x hx
      exact ⟨e1, e2, cs', up _ _ e3, e4⟩
    · rw [List.getElem?_append_right hj] at hx
      have hj0 : j - xs.length = 0 := by have := (List.getElem?_eq_some_iff.1 hx).1; simp at this; omega
      rw [hj0] at hx
      simp at hx
      subst hx
      obtain rfl : j = M := by omega
      exact ⟨rfl, hg0, cs, up _ _ hc, hcs⟩
  · exact List.pairwise_append.2 ⟨h.rows.up, List.pairwise_singleton _ _, fun y hy z hz => by rw [List.mem_singleton.1 hz]; exact hup y hy⟩
theorem outs_stp {w w' : World} {B gs m : Nat} {us : List Value} {es : List Sy.Ed} (hA : Arr 114 w w' gs us) (hU : Outs w' B us m (fun i => Sy.steps (Sy.nf es) i)) : Stp w' gs m (outOf m es) := ⟨fun i hi => by
  obtain ⟨u, h1, h2⟩ := hU.row i hi
  obtain ⟨a, c, rfl⟩ := row_shape h2
  have e : outOf m es i = Sy.steps (Sy.nf es) (i : Int) := by unfold outOf Sy.rowOf; rw [if_pos ⟨by omega, by omega⟩]
  rw [e]
  exact ⟨a, c, hA.cell h1, h2.has⟩⟩
set_option maxRecDepth 100000 in
set_option maxHeartbeats 8000000 in
theorem docRounds_any (m : Nat) (k s : Int) (v : Value) (es : List Sy.Ed) (w : World) (hv : HasE w v es) (hq : Sy.right m k s es = true) :
    Calls Tryz.prog 11 #[sysV m k s v] w fun r w' => ∃ u xs R, r = .returned u ∧ Ro.Last m (outOf m es) R ∧ xs.length = R + 1 ∧ OwnRs w' w.heap.size m u xs ∧ RwAt w' w.heap.size m (outOf m es) xs ∧ Below w.heap.size w w' := by
  obtain ⟨i0, hi0, hz0, hz1, hz2⟩ := info_parts Tryz.infoRI
  have hp := right_parts hq
  have hm : m ≤ 1000 := by omega
  have hF := steps_fit hq
  have hv0 := hv
  obtain ⟨ao, cap, rfl, _⟩ := hv0
  obtain ⟨L, hL⟩ : ∃ L, L = es.length := ⟨_, rfl⟩
  obtain ⟨w1, hw1⟩ : ∃ w1, w1 = w.alloc (.cells #[.int .i64 m, .int .i64 k, .int .i64 s, .slice ao L cap] 24) := ⟨_, rfl⟩
  have hb1 : Below w.heap.size w w1 := by rw [hw1]; exact (Below.refl _ _).alloc (Nat.le_refl _) _
  have hg1 : w1.heap[w.heap.size]? = some (.cells #[.int .i64 m, .int .i64 k, .int .i64 s, .slice ao L cap] 24 (0, 0)) := by rw [hw1]; exact heap_alloc_new w _
  have hO := refOut_any m k s _ es w1 (by omega) (hv.below hb1) (by omega) (fun e he => by have := hp.2.2.2.2.2 e he; omega)
  rw [← hL] at hO ⊢
  unfold sysV at hO ⊢
  obtain ⟨out, hout⟩ : ∃ out, out = outOf m es := ⟨_, rfl⟩
  have H1 : Hid _ := And.intro hw1 (And.intro hb1 (And.intro hO (And.intro hF (And.intro hout hg1))))
  obtain ⟨x0, x1, x2, x3⟩ := four_cells hg1
  clear hv hp hq hw1 hb1 hg1 hO hL hF hout
  go_enter Tryz.func11, Tryz.ntmps11
  go_upto_region 1 with fail
  rw [← H1.out.1]
  go_wp2_with fail
  refine Calls.mono H1.out.2.2.1 ?_
  rintro r w2 ⟨gs, us, rfl, hA2, hU2⟩
  have hSt : Stp w2 gs m out := by rw [H1.out.2.2.2.2.1]; exact outs_stp hA2 hU2
  have y0 : w2.cell? ⟨w.heap.size, 0, none⟩ = some (.int .i64 m) := cell_up x0 hA2.bl
  have hmk := makeI m (by omega) w2
  have H2 : Hid _ := And.intro hSt (bel6 hA2.bl H1.out.2.1)
  clear hA2 hU2 hSt x0 x1 x2 x3
  go_wp2_with fail
  clear hmk y0
  have hD := DrAt.new w2 m out
  obtain ⟨w3, hw3⟩ : ∃ w3, w3 = (w2.alloc (.cells (madeV (.int .i64 0) m) 3)).alloc (.cells #[.slice (some ⟨w2.heap.size, 0, none⟩) m m] 57) := ⟨_, rfl⟩
  rw [← hw3] at hD ⊢
  have HD : Hid _ := hD
  clear hD hw3
  go_loopg [4, 5] 1001 (fun q cv av wr => ∃ (j g : Nat) (pre : List Rd), q = 1001 - j ∧ cv = .slice (some ⟨g, 0, none⟩) m m ∧ pre.length = j ∧ DrAt w2 wr m out av (pre ++ [(j, g)]) ∧ ∀ i, i < j → Ro.rnd m out (i + 1) ≠ Ro.rnd m out i)
  case atStart => exact ⟨0, w2.heap.size, [], rfl, rfl, rfl, HD.out, fun i hi => by omega⟩
  case round =>
    obtain ⟨j, g, pre, rfl, rfl, hpl, hDr, hch⟩ := hrel
    have hjm := Ro.changes_lt hch
    have hj1 : j ≤ 1000 := by omega
    obtain ⟨_, hgu, cs, hcs, hcl⟩ := hDr.rows.row j (j, g) (by rw [List.getElem?_append_right (by omega), hpl, Nat.sub_self]; rfl)
    have hcI := hasI_blk (Ro.rnd_len m out j) hcs hcl
    have hFo := H1.out.2.2.2.1
    rw [← H1.out.2.2.2.2.1] at hFo
    have hN := docNext_any gs m out (Ro.rnd m out j) _ wr hm (Ro.rnd_len m out j) (fun u hu => Ro.rnd_lt hu) hFo (H2.out.1.below hDr.bl) hcI
    have hDl := hDr.row
    obtain ⟨aa, ca, ha⟩ := row_shape hDl
    rw [show (pre ++ [(j, g)]).length = j + 1 by simp [hpl]] at ha
    obtain rfl := ha
    have HR : Hid _ := And.intro hN (And.intro hDr (And.intro hch (And.intro hpl (And.intro hcI (And.intro hjm hcs)))))
    clear hN hDr hch hpl hcI hjm hcs hcl hgu hFo hDl
    go_wp2_with fail
    refine Calls.mono HR.out.1 ?_
    rintro r w4 ⟨g2, rfl, hA4⟩
    have hb4 := hA4.bl
    obtain ⟨cs4, hc4, hx4⟩ := hA4.ids
    have hI4 : HasI w4 (.slice (some ⟨g2, 0, none⟩) m m) (natI (Ro.rnd m out (j + 1))) := hasI_blk (Ro.rnd_len m out (j + 1)) hc4 hx4
    have hl4 : ∀ i, (natI (Ro.rnd m out i)).length ≤ 100000 := fun i => by simp [natI, Ro.rnd_len]; omega
    have hT1 := refTogether_any _ _ w4 hI4 (hl4 (j + 1))
    rw [together_nat] at hT1
    have hT2 := fun W (hb : Below w4.heap.size w4 W) => refTogether_any _ _ W ((HR.out.2.2.2.2.1.below hb4).below hb) (hl4 j)
    rw [together_nat] at hT2
    have H4 : Hid _ := And.intro hT1 (And.intro hT2 (And.intro hA4 (And.intro hc4 hx4)))
    clear hT1 hT2 hA4 hc4 hx4 hI4 hl4 hb4
    go_wp2_with fail
    refine Calls.mono H4.out.1 ?_
    rintro r w5 ⟨rfl, hb5⟩
    have H5 : Hid (Below w4.heap.size w4 w5) := hb5
    clear hb5
    go_wp2_with fail
    refine Calls.mono (H4.out.2.1 _ H5.out) ?_
    rintro r w6 ⟨rfl, hb6⟩
    have hb46 := bel6 hb6 H5.out
    have hD6 := (HR.out.2.1.below H4.out.2.2.1.bl).below hb46
    have H6 : Hid _ := And.intro hD6 hb46
    clear hb6 hb46 hD6
    obtain ⟨t1, ht1⟩ : ∃ t, t = (Ro.dd (Ro.rnd m out (j + 1))).length := ⟨_, rfl⟩
    obtain ⟨t0, ht0⟩ : ∃ t, t = (Ro.dd (Ro.rnd m out j)).length := ⟨_, rfl⟩
    rw [← ht1, ← ht0]
    have HT : Hid _ := And.intro ht1 ht0
    clear ht1 ht0
    by_cases he : t1 = t0
    · have e1 : ((t1 : Int) == (t0 : Int)) = true := by simp [he]
      have HE : Hid _ := he
      clear he
      go_wp2_with fail
      go_ret
      have hst : Ro.rnd m out (j + 1) = Ro.rnd m out j := Ro.rnd_stop (by have h1 := HT.out.1; have h2 := HT.out.2; have h3 := HE.out; omega)
      refine ⟨_, pre ++ [(j, g)], j, rfl, by rw [← H1.out.2.2.2.2.1]; exact ⟨hst, HR.out.2.2.1⟩, by simp [HR.out.2.2.2.1], row_base H6.out.1.row H2.out.2.size, ?_, bel6 H6.out.1.bl H2.out.2⟩
      rw [← H1.out.2.2.2.2.1]
      exact H6.out.1.rows.base H2.out.2.size
    · have e1 : ((t1 : Int) == (t0 : Int)) = false := by simp; omega
      have HE : Hid _ := he
      clear he
      have hml : j + 1 + 1 ≤ maxLen := by unfold maxLen; omega
      have hby : (j + 1 + 1) * 24 ≤ 140737488355328 := by omega
      have hle : w2.heap.size ≤ (w6.alloc (.cells #[.slice (some ⟨g2, 0, none⟩) m m] 57)).heap.size := by have := H6.out.1.bl.size; simp; omega
      have hO6 : w6.ownsRow w2.heap.size 57 1 (.slice aa (j + 1) ca) (j + 1) ((pre ++ [(j, g)]).map (hdr m)) := by
        have h1 := H6.out.1.row
        rw [show (pre ++ [(j, g)]).length = j + 1 by simp [HR.out.2.2.2.1]] at h1
        exact h1
      have HO6 : Hid _ := And.intro hO6 trivial
      clear hO6
      go_wp2_with (at_builtin; refine wpList_append_own_at _ rfl _ _ 28 rfl w2.heap.size 57 i0 (.slice none 0 0) 1 24 Tryz.underlying28 hi0 hz0 hz1 hz2 rfl (by decide) (.slice aa (j + 1) ca) (j + 1) ((pre ++ [(j, g)]).map (hdr m)) rfl (HO6.out.1.alloc _) ⟨w6.heap.size, 0, none⟩ 1 1 [.slice (some ⟨g2, 0, none⟩) m m] rfl rfl (World.news_of_block (cs := #[.slice (some ⟨g2, 0, none⟩) m m]) (t := 57) (fr := (0, 0)) (heap_alloc_new w6 _)) (by simp [Value.oneCell']) hml hby hle ?_; intro v7 w7 hO7 hg7 hnil7 hat7; have H7 : Hid _ := And.intro hO7 hg7; clear hO7 hg7 hnil7 hat7)
      go_roundg (1001 - (j + 1))
      case measure => omega
      case rel =>
        have hg2 : w2.heap.size ≤ g2 := Nat.le_trans HR.out.2.1.bl.size H4.out.2.2.1.gu
        have hgl := t_lt HR.out.2.2.2.2.2.2
        have hgg := H4.out.2.2.1.gu
        refine ⟨j + 1, g2, pre ++ [(j, g)], rfl, rfl, by simp [HR.out.2.2.2.1], H6.out.1.app (by simp [HR.out.2.2.2.1]) (fun y hy => ?_) hg2 (res_up6 H6.out.2 H4.out.2.2.2.1) H4.out.2.2.2.2 H7.out.1 H7.out.2, fun i hi => ?_⟩
        · rcases List.mem_append.1 hy with hy | hy
          · have h1 := (List.pairwise_append.1 HR.out.2.1.rows.up).2.2 y hy (j, g) List.mem_cons_self
            simp only at h1
            omega
          · rw [List.mem_singleton.1 hy]; show g < g2; omega
        · rcases Nat.lt_or_ge i j with h1 | h1
          · exact HR.out.2.2.1 i h1
          · obtain rfl : i = j := by omega
            exact fun e => HE.out (by rw [HT.out.1, HT.out.2, e])
end Go.Proofs.YtpmanmoljlhogaaGreatDoor
/- Contracts of the program's All, Ranks and parting of what is no system. -/
namespace Go.Proofs.YtpmanmoljlhogaaGreatDoor
open Go.RowKit Go.Maps
attribute [local go_sem ↓] Go.wp_at_zero Go.wp_at_succ
set_option maxRecDepth 100000 in
set_option maxHeartbeats 4000000 in
theorem all_bad (hS : SortOk 1000000) (n k s : Int) (v : Value) (es : List Sy.Ed) (a : Addr) (w : World) (hA : Sent w 14 a) (hv : BEdges.Has w v es) (hm : es.length ≤ 100000) (hq : Sy.right n k s es = false) :
    Calls Tryz.prog 12 #[sysV n k s v] w fun r w' => ∃ b, r = .returned (.tuple #[.slice none 0 0, .iface 76 (.pointer (some ⟨b, 0, none⟩))]) ∧ Chain w' 0 0 a [rndB, sysB] (.iface 76 (.pointer (some ⟨b, 0, none⟩))) ∧ Below w.heap.size w w' := by
  have hv0 := hv
  obtain ⟨ao, cap, rfl, _⟩ := hv0
  obtain ⟨L, hL⟩ : ∃ L, L = es.length := ⟨_, rfl⟩
  obtain ⟨w1, hw1⟩ : ∃ w1, w1 = w.alloc (.cells #[.int .i64 n, .int .i64 k, .int .i64 s, .slice ao L cap] 24) := ⟨_, rfl⟩
  have hb1 : Below w.heap.size w w1 := by rw [hw1]; exact (Below.refl _ _).alloc (Nat.le_refl _) _
  have hg1 : w1.heap[w.heap.size]? = some (.cells #[.int .i64 n, .int .i64 k, .int .i64 s, .slice ao L cap] 24 (0, 0)) := by rw [hw1]; exact heap_alloc_new w _
  have hN := roundsOf_bad hS n k s _ es a w1 (hA.below hb1) (hv.below hb1) hm hq
  rw [← hL] at hN ⊢
  unfold sysV at hN ⊢
  have H1 : Hid _ := And.intro hw1 (And.intro hb1 hN)
  obtain ⟨x0, x1, x2, x3⟩ := four_cells hg1
  clear hA hv hm hq hw1 hb1 hg1 hN hL
  go_enter Tryz.func12, Tryz.ntmps12
  go_upto_region 1 with fail
  rw [← H1.out.1]
  go_wp2_with fail
  refine Calls.mono H1.out.2.2 ?_
  rintro r w2 ⟨T, u, rfl, hC, hb2⟩
  have hFt := rfault_any T u w2 a _ hC
  have H2 : Hid _ := And.intro hFt (bel6 hb2 H1.out.2.1)
  clear hC hb2 hFt
  go_wp2_with fail
  refine Calls.mono H2.out.1 ?_
  rintro r w3 ⟨b, rfl, hC3, hb3⟩
  have H3 : Hid _ := And.intro hC3 (bel6 hb3 H2.out.2)
  clear hC3 hb3
  go_wp2_with fail
  go_ret2
  exact ⟨_, rfl, H3.out.1, H3.out.2⟩
set_option maxRecDepth 100000 in
set_option maxHeartbeats 4000000 in
theorem ranks_bad (hS : SortOk 1000000) (n k s : Int) (v : Value) (es : List Sy.Ed) (a : Addr) (w : World) (hA : Sent w 14 a) (hv : BEdges.Has w v es) (hm : es.length ≤ 100000) (hq : Sy.right n k s es = false) :
    Calls Tryz.prog 21 #[sysV n k s v] w fun r w' => ∃ b, r = .returned (.tuple #[.slice none 0 0, .iface 76 (.pointer (some ⟨b, 0, none⟩))]) ∧ Chain w' 0 0 a [rndB, sysB] (.iface 76 (.pointer (some ⟨b, 0, none⟩))) ∧ Below w.heap.size w w' := by
  have hv0 := hv
  obtain ⟨ao, cap, rfl, _⟩ := hv0
  obtain ⟨L, hL⟩ : ∃ L, L = es.length := ⟨_, rfl⟩
  obtain ⟨w1, hw1⟩ : ∃ w1, w1 = w.alloc (.cells #[.int .i64 n, .int .i64 k, .int .i64 s, .slice ao L cap] 24) := ⟨_, rfl⟩
  have hb1 : Below w.heap.size w w1 := by rw [hw1]; exact (Below.refl _ _).alloc (Nat.le_refl _) _
  have hg1 : w1.heap[w.heap.size]? = some (.cells #[.int .i64 n, .int .i64 k, .int .i64 s, .slice ao L cap] 24 (0, 0)) := by rw [hw1]; exact heap_alloc_new w _
  have hN := roundsOf_bad hS n k s _ es a w1 (hA.below hb1) (hv.below hb1) hm hq
  rw [← hL] at hN ⊢
  unfold sysV at hN ⊢
  have H1 : Hid _ := And.intro hw1 (And.intro hb1 hN)
  obtain ⟨x0, x1, x2, x3⟩ := four_cells hg1
  clear hA hv hm hq hw1 hb1 hg1 hN hL
  go_enter Tryz.func21, Tryz.ntmps21
  go_upto_region 1 with fail
  rw [← H1.out.1]
  go_wp2_with fail
  refine Calls.mono H1.out.2.2 ?_
  rintro r w2 ⟨T, u, rfl, hC, hb2⟩
  have hFt := rfault_any T u w2 a _ hC
  have H2 : Hid _ := And.intro hFt (bel6 hb2 H1.out.2.1)
  clear hC hb2 hFt
  go_wp2_with fail
  refine Calls.mono H2.out.1 ?_
  rintro r w3 ⟨b, rfl, hC3, hb3⟩
  have H3 : Hid _ := And.intro hC3 (bel6 hb3 H2.out.2)
  clear hC3 hb3
  go_wp2_with fail
  go_ret2
  exact ⟨_, rfl, H3.out.1, H3.out.2⟩
end Go.Proofs.YtpmanmoljlhogaaGreatDoor
/- A region that draws its order and only reads, in the body of a loop over a function. Nothing of the program is in it. -/
namespace Go.Proofs.YtpmanmoljlhogaaGreatDoor
open Go.RowKit
variable {F : Fence} {n : Nat} {P : Program} {ops : Array Oper}
/-- Outside a round and in one an operation that is no defer statement runs alike. -/
theorem op_inRound {o : Oper} {l : Nat} {a : Act} {w : World} {K : Act → World → Prop} {Q : Exit → Act → World → Prop} (hro : F.round = none) (ho : ∀ c, o.op ≠ .defer c) (h : o.wpIn F n P a w K Q) : o.wpIn (F.inRound l) n P a w K Q := by
  unfold Oper.wpIn at h ⊢
  refine ⟨h.1, ?_⟩
  have h2 := h.2
  rw [hro, Oper.semAt_none] at h2
  rw [Fence.inRound_round, Oper.semAt_some l _ _ ho]
  generalize (execOp a.eval o).run P w = r at h2
  cases r with
  | ok x w' => cases x <;> exact h2
  | halt x w' => cases x <;> exact h2
theorem opIn_inRound {i l : Nat} {a : Act} {w : World} {K : Act → World → Prop} {Q : Exit → Act → World → Prop} (hro : F.round = none) (ho : ∀ o ∈ ops.toList, ∀ c, o.op ≠ .defer c) (h : wpOpIn F n P ops Q i K a w) : wpOpIn (F.inRound l) n P ops Q i K a w := by
  unfold wpOpIn at h ⊢
  cases hi : ops[i]? with
  | none => simpa [hi] using h
  | some o =>
    have hm : o ∈ ops.toList := by
      rw [← Array.getElem?_toList] at hi
      exact List.mem_of_getElem? hi
    simp only [hi] at h ⊢
    split
    · rename_i hw
      simp only [hw, if_true] at h
      exact op_inRound hro (ho o hm) h
    · rename_i hw
      simp only [hw] at h
      exact h
theorem any_inRound {md : Region.Mode} {l : Nat} {Q : Exit → Act → World → Prop} (hro : F.round = none) (ho : ∀ o ∈ ops.toList, ∀ c, o.op ≠ .defer c) : ∀ (fuel : Nat) (listed : Array Bool) (a : Act) (w : World), wpAnyIn F n P md ops Q fuel listed a w → wpAnyIn (F.inRound l) n P md ops Q fuel listed a w
  | 0, _, _, _, h => h
  | fuel + 1, _, _, _, h => ⟨h.1, fun i hi => opIn_inRound hro ho (wpOpIn_mono (fun a w => any_inRound hro ho fuel _ a w) (h.2 i hi))⟩
def noDefer (l : List Oper) : Bool := l.all fun o => match o.op with | .defer _ => false | _ => true
theorem noDefer_spec {l : List Oper} (h : noDefer l = true) : ∀ o ∈ l, ∀ c, o.op ≠ .defer c := fun o ho c e => by
  have h1 := List.all_eq_true.1 h o ho
  rw [e] at h1
  cases h1
theorem region_round {id l : Nat} {Q : Exit → Act → World → Prop} {a : Act} {w : World} {os : List Oper} (hro : F.round = none) (hm : P.follows .mixedOrders = true) (hB : Region.lexB .any os.toArray = true) (hd : noDefer os = true)
    (h : wpQuietIn F n P os.toArray (fun w' => ∃ n, w' = w.drewN n) (fun a' => ∀ w', (∃ n, w' = w.drewN n) → Q .normal a' w') os a) : (Code.region id os.toArray true).wpIn (F.inRound l) n P Q a w := by
  simp only [Region.lexB, Bool.and_eq_true] at hB
  refine wpIn_region_any hm (any_inRound hro (noDefer_spec (by simpa using hd)) _ _ _ _ (wpAnyIn_of_quiet (C := fun w' => ∃ n, w' = w.drewN n) (Q := fun a' => ∀ w', (∃ n, w' = w.drewN n) → Q .normal a' w') hro (fun _ w' hw' h => h w' hw') _ _ _ _ ⟨1, rfl⟩ ?_))
  have := wpAnyQIn_lex (F := F) (n := n) (C := fun w' => ∃ n, w' = w.drewN n) (md := .any) hB.1 os.toArray.toList 0 (Array.replicate os.toArray.size false) a (by simp) (by simpa using hB.2) (by simpa using h)
  simpa using this
end Go.Proofs.YtpmanmoljlhogaaGreatDoor
/- Contracts of the program's parting and Rank. -/
namespace Go.Proofs.YtpmanmoljlhogaaGreatDoor
open Go.RowKit Go.Maps Go.Shelf
attribute [local go_sem] Oper.semAt_some
/-- The boxes of parting: the system, both states, both results. -/
structure PgAt (w w1 : World) (n k s p q : Int) (ao : Option Addr) (L cap : Nat) : Prop where
  bl : Below w.heap.size w w1
  bs : w1.heap[w.heap.size]? = some (.cells #[.int .i64 n, .int .i64 k, .int .i64 s, .slice ao L cap] 24 (0, 0))
  bp : Boxed w1 (w.heap.size + 1) 3 (.int .i64 p)
  bq : Boxed w1 (w.heap.size + 2) 3 (.int .i64 q)
  br : Boxed w1 (w.heap.size + 3) 3 (.int .i64 0)
  be : Boxed w1 (w.heap.size + 4) 46 .nilIface
theorem PgAt.below {w w1 w2 : World} {n k s p q : Int} {ao : Option Addr} {L cap : Nat} (h : PgAt w w1 n k s p q ao L cap) (hb : Below w1.heap.size w1 w2) : PgAt w w2 n k s p q ao L cap :=
  ⟨bel6 hb h.bl, res_up6 hb h.bs, res_up6 hb h.bp, res_up6 hb h.bq, res_up6 hb h.br, res_up6 hb h.be⟩
def pgW (w : World) (n k s p q : Int) (ao : Option Addr) (L cap : Nat) : World := ((((w.alloc (.cells #[.int .i64 n, .int .i64 k, .int .i64 s, .slice ao L cap] 24)).alloc (.cells #[.int .i64 p] 3)).alloc (.cells #[.int .i64 q] 3)).alloc (.cells #[.int .i64 0] 3)).alloc (.cells #[.nilIface] 46)
theorem heap_new' (w : World) (o : Obj) (g : Nat) (h : g = w.heap.size) : (w.alloc o).heap[g]? = some o := by subst h; exact World.alloc_heap_new w o
theorem pg_new (w : World) (n k s p q : Int) (ao : Option Addr) (L cap : Nat) : PgAt w (pgW w n k s p q ao L cap) n k s p q ao L cap := by
  have up : ∀ {W : World} {b : Nat} {o : Obj} (x : Obj), W.heap[b]? = some o → (W.alloc x).heap[b]? = some o := fun {W b o} x h => (Below.heap_alloc W x b (t_lt h)).trans h
  unfold pgW
  refine ⟨?_, ?_, ?_, ?_, ?_, ?_⟩
  · refine Below.alloc (Below.alloc (Below.alloc (Below.alloc (Below.alloc (Below.refl _ _) (by simp) _) (by simp) _) (by simp; omega) _) (by simp; omega) _) (by simp; omega) _
  · exact up _ (up _ (up _ (up _ (heap_new' _ _ _ rfl))))
  · exact up _ (up _ (up _ (heap_new' _ _ _ (by simp))))
  · exact up _ (up _ (heap_new' _ _ _ (by simp)))
  · exact up _ (heap_new' _ _ _ (by simp))
  · exact heap_new' _ _ _ (by simp)
theorem Chain.set {w : World} {l c : Int} {a : Addr} {g o : Nat} {x : Value} {t : TypeId} {cs : Array Value} (hg : w.heap[g]? = some (.cells cs t (0, 0))) (ht : t ≠ 79) : ∀ {ls : List ByteArray} {v : Value}, Chain w l c a ls v → Chain (w.setCell ⟨g, o, none⟩ x) l c a ls v
  | [], _, h => h
  | s :: r, v, h => by
    obtain ⟨b, u, h1, h2, h3⟩ := h
    have hne : b ≠ g := fun e => by
      rw [← e, h2] at hg
      injection hg with hg
      injection hg with _ h4
      exact ht h4.symm
    exact ⟨b, u, h1, (setCell_other _ hne).trans h2, Chain.set hg ht h3⟩
theorem pg_ret {w w2 : World} {n k s p q : Int} {ao : Option Addr} {L cap : Nat} (hg : PgAt w w2 n k s p q ao L cap) (x y : Value) :
    ((w2.setCell ⟨w.heap.size + 1 + 1 + 1, 0, none⟩ x).setCell ⟨w.heap.size + 1 + 1 + 1 + 1, 0, none⟩ y).cell? ⟨w.heap.size + 1 + 1 + 1, 0, none⟩ = some x ∧ ((w2.setCell ⟨w.heap.size + 1 + 1 + 1, 0, none⟩ x).setCell ⟨w.heap.size + 1 + 1 + 1 + 1, 0, none⟩ y).cell? ⟨w.heap.size + 1 + 1 + 1 + 1, 0, none⟩ = some y ∧ Below w.heap.size w ((w2.setCell ⟨w.heap.size + 1 + 1 + 1, 0, none⟩ x).setCell ⟨w.heap.size + 1 + 1 + 1 + 1, 0, none⟩ y) := by
  have d3 : w2.cell? ⟨w.heap.size + 1 + 1 + 1, 0, none⟩ = some (.int .i64 0) := hg.br.cell
  have d4 : w2.cell? ⟨w.heap.size + 1 + 1 + 1 + 1, 0, none⟩ = some .nilIface := hg.be.cell
  have hne34 : (w.heap.size + 1 + 1 + 1) ≠ (w.heap.size + 1 + 1 + 1 + 1) := by omega
  refine ⟨?_, ?_, (hg.bl.setCell (p := ⟨w.heap.size + 1 + 1 + 1, 0, none⟩) (by simp; omega) _).setCell (p := ⟨w.heap.size + 1 + 1 + 1 + 1, 0, none⟩) (by simp; omega) _⟩
  · rw [cell_block (setCell_other _ hne34)]
    exact World.cell?_setCell_same' _ _ _ (by rw [d3]; rfl)
  · exact World.cell?_setCell_same' _ _ _ (by rw [cell_block (setCell_other _ (fun e => hne34 e.symm)), d4]; rfl)
set_option maxRecDepth 100000 in
set_option maxHeartbeats 4000000 in
theorem parting_ok (hS : SortOk 1000000) (m p q : Nat) (k s : Int) (v : Value) (es : List Sy.Ed) (a aN : Addr) (w : World) (hA : Sent w 14 a) (hN : Sent w 0 aN) (hP : Pow w) (hv : BEdges.Has w v es) (hm : es.length ≤ 100000) (hq : Sy.right m k s es = true) (hp : p < m) (hq2 : q < m) :
    Calls Tryz.prog 82 #[sysV m k s v, .int .i64 p, .int .i64 q] w fun r w' => ∃ R, Ro.Last m (outOf m es) R ∧ Below w.heap.size w w' ∧
      ((∃ j : Nat, j ≤ R ∧ r = .returned (.tuple #[.int .i64 j, .nilIface]) ∧ (Ro.rnd m (outOf m es) j)[p]? ≠ (Ro.rnd m (outOf m es) j)[q]? ∧ ∀ i, i < j → (Ro.rnd m (outOf m es) i)[p]? = (Ro.rnd m (outOf m es) i)[q]?) ∨
       (r = .returned (.tuple #[.int .i64 0, .iface 305 (.pointer (some aN))]) ∧ ∀ i, i ≤ R → (Ro.rnd m (outOf m es) i)[p]? = (Ro.rnd m (outOf m es) i)[q]?)) := by
  have hv0 := hv
  obtain ⟨ao, cap, rfl, _⟩ := hv0
  obtain ⟨L, hL⟩ : ∃ L, L = es.length := ⟨_, rfl⟩
  obtain ⟨w1, hw1⟩ : ∃ w1, w1 = pgW w m k s p q ao L cap := ⟨_, rfl⟩
  have hg1 : PgAt w w1 m k s p q ao L cap := by rw [hw1]; exact pg_new _ _ _ _ _ _ _ _ _
  have hO := roundsOf_ok hS m k s _ es a w1 (hA.below hg1.bl) (hv.below hg1.bl) hm hq
  rw [← hL] at hO ⊢
  unfold sysV at hO ⊢
  have hm1 : m ≤ 1000 := by have := (right_parts hq).1; omega
  have hF := steps_fit hq
  obtain ⟨out, hout⟩ : ∃ out, out = outOf m es := ⟨_, rfl⟩
  have H1 : Hid _ := And.intro hw1 (And.intro hg1 (And.intro hO (And.intro hP (And.intro hF (And.intro hout hN)))))
  obtain ⟨x0, x1, x2, x3⟩ := four_cells hg1.bs
  unfold pgW at H1
  clear hA hv hm hq hw1 hg1 hO hL hP hF hout hN
  refine (callsIn_wide (n := 3)).1 ?_
  refine callsIn_of_wp_marks Tryz.func82 rfl trivial ?_ rfl
  simp only [Tryz.ntmps82, List.size_toArray, List.length_cons, List.length_nil, Nat.reduceAdd, Nat.reduceSub, Array.replicate_succ, Array.replicate_zero, List.push_toArray, List.append_toArray, List.nil_append, List.cons_append]
  gi_upto_region 1 with fail
  rw [← H1.out.1]
  gi_wp2
  refine ⟨trivial, (callsIn_wide.2 H1.out.2.2.1).mono ?_⟩
  rintro r w2 ⟨b1, b2, gs, rfl, hO2⟩
  unfold roundsV
  have hg2 := H1.out.2.1.below hO2.bl
  have hRd := Reads.of hO2 (H1.out.2.2.2.1.below hg2.bl)
  have c1 := hg2.bp.cell
  have c2 := hg2.bq.cell
  obtain ⟨y0, y1, y2, y3⟩ := four_cells hg2.bs
  have g1 : (0 : Int) ≤ (p : Int) := by omega
  have g2 : (0 : Int) ≤ (q : Int) := by omega
  have g3 : (p : Int) < (m : Int) := by omega
  have g4 : (q : Int) < (m : Int) := by omega
  have g5 : ¬ min (p : Int) (q : Int) < 0 := by omega
  have g6 : ¬ (m : Int) ≤ max (p : Int) (q : Int) := by omega
  have H2 : Hid _ := And.intro hg2 hRd
  clear hg2 hRd hO2 x0 x1 x2 x3
  gi_wp2
  have hF := H1.out.2.2.2.2.1
  have hR := H2.out.2
  rw [← H1.out.2.2.2.2.2.1] at hF hR
  refine loop_tells rfl (by omega) (gf := 97) (lb := #[.pointer (some ⟨b1, 0, none⟩), .pointer (some ⟨b2, 0, none⟩)]) rfl trivial (enters_of Tryz.func97 (by kernel_rfl) rfl)
    (rounds_tell 2 w2.heap.size b1 b2 gs m out w2 (Nat.le_refl _) hm1 hF hR) (fun h k => h.trans k) (kpr_put (Nat.le_refl _)) (fun pre x W l o o' _ hl ho h => good_put pre x W l o o' hl ho h) (Below.refl _ _) (fun _ => rfl)
    (fun pre W => (∀ i, i < pre.length → (Ro.rnd m out i)[p]? = (Ro.rnd m out i)[q]?) ∧ Below w2.heap.size w2 W)
    (fun c pre W => (c = .ret ∧ ∃ j : Nat, pre.length = j + 1 ∧ (Ro.rnd m out j)[p]? ≠ (Ro.rnd m out j)[q]? ∧ (∀ i, i < j → (Ro.rnd m out i)[p]? = (Ro.rnd m out i)[q]?) ∧ W.cell? ⟨w.heap.size + 1 + 1 + 1, 0, none⟩ = some (.int .i64 j) ∧ W.cell? ⟨w.heap.size + 1 + 1 + 1 + 1, 0, none⟩ = some .nilIface) ∧ Below w.heap.size w W)
    (fun s A B row hs hg hr => ⟨hs.1, ownFrom_below (β := Unit) (Nat.le_refl _) (Nat.le_refl _) () A B row hs.2 hg hr⟩)
    (fun c s A B row hs hg hr => by
      obtain ⟨⟨h1, j, h2, h3, h4, h5, h6⟩, h7⟩ := hs
      exact ⟨⟨h1, j, h2, h3, h4, cell_kept h5 hg (fun r e => (hr r e).2), cell_kept h6 hg (fun r e => (hr r e).2)⟩, ownFrom_below (β := Unit) (Nat.le_refl _) H2.out.1.bl.size () A B row h7 hg hr⟩)
    ⟨fun i hi => by simp at hi, Below.refl _ _⟩
    (fun x => { tmps := #[(.agg #[.int .i64 m, .int .i64 k, .int .i64 s, .slice ao L cap]), .int .i64 (p : Int), .int .i64 (q : Int), .pointer (some ⟨w.heap.size, 0, none⟩), .pointer (some ⟨w.heap.size + 1, 0, none⟩), .pointer (some ⟨w.heap.size + 1 + 1, 0, none⟩), .pointer (some ⟨w.heap.size + 1 + 1 + 1, 0, none⟩), .pointer (some ⟨w.heap.size + 1 + 1 + 1 + 1, 0, none⟩), (.func (.func 97) #[] #[.pointer (some ⟨b1, 0, none⟩), .pointer (some ⟨b2, 0, none⟩)]), .nilIface, .int .i64 x.1, (.slice (some ⟨x.2, 0, none⟩) m m), .tuple #[(.func (.func 97) #[] #[.pointer (some ⟨b1, 0, none⟩), .pointer (some ⟨b2, 0, none⟩)]), .nilIface], (.agg #[.int .i64 m, .int .i64 k, .int .i64 s, .slice ao L cap]), .tuple #[(.func (.func 97) #[] #[.pointer (some ⟨b1, 0, none⟩), .pointer (some ⟨b2, 0, none⟩)]), .nilIface], (.func (.func 97) #[] #[.pointer (some ⟨b1, 0, none⟩), .pointer (some ⟨b2, 0, none⟩)]), .nilIface, .bool false, .nilIface, .bool false, undef, .bool (decide (min (p : Int) (q : Int) < 0) || decide ((m : Int) ≤ max (p : Int) (q : Int))), .int .i64 (p : Int), .int .i64 (q : Int), .int .i64 (min (p : Int) (q : Int)), .bool (decide (min (p : Int) (q : Int) < 0)), .bool (decide (min (p : Int) (q : Int) < 0)), .int .i64 (p : Int), .int .i64 (q : Int), .int .i64 (max (p : Int) (q : Int)), .pointer (some ⟨w.heap.size, 0, none⟩), .int .i64 m, .bool (decide ((m : Int) ≤ max (p : Int) (q : Int))), .bool (decide (min (p : Int) (q : Int) < 0) || decide ((m : Int) ≤ max (p : Int) (q : Int))), undef, (.func (.func 97) #[] #[.pointer (some ⟨b1, 0, none⟩), .pointer (some ⟨b2, 0, none⟩)]), .int .i64 x.1, (.slice (some ⟨x.2, 0, none⟩) m m), undef, undef, undef, undef, undef, undef, undef, undef, undef, undef, undef], defers := [] }) ?assign ?body ?done ?stop
  case assign =>
    intro l x W K hK
    unfold rdV
    gi_wp2
    exact hK
  case body =>
    rintro l pre x W ⟨hpre, hB⟩ hG
    have hg := H2.out.1.below hB
    have d1 := hg.bp.cell
    have d2 : W.cell? ⟨w.heap.size + 1 + 1, 0, none⟩ = some (.int .i64 q) := hg.bq.cell
    have d3 : W.cell? ⟨w.heap.size + 1 + 1 + 1, 0, none⟩ = some (.int .i64 0) := hg.br.cell
    have d4 : W.cell? ⟨w.heap.size + 1 + 1 + 1 + 1, 0, none⟩ = some .nilIface := hg.be.cell
    have f3 : W.frozen? ⟨w.heap.size + 1 + 1 + 1, 0, none⟩ = false := hg.br.frozen
    have f4 : W.frozen? ⟨w.heap.size + 1 + 1 + 1 + 1, 0, none⟩ = false := hg.be.frozen
    obtain ⟨cs, hcs, hcl⟩ := hG.blk
    have hl := Ro.rnd_len m out x.1
    obtain ⟨cp, hcp⟩ : ∃ cp, (Ro.rnd m out x.1)[p]? = some cp := ⟨_, List.getElem?_eq_getElem (by omega)⟩
    obtain ⟨cq, hcq⟩ : ∃ cq, (Ro.rnd m out x.1)[q]? = some cq := ⟨_, List.getElem?_eq_getElem (by omega)⟩
    have e1 : W.cell? ⟨x.2, p, none⟩ = some (.int .i64 cp) := cell0_of hcs (by rw [← Array.getElem?_toList, hcl]; simp [natC, hcp])
    have e2 : W.cell? ⟨x.2, q, none⟩ = some (.int .i64 cq) := cell0_of hcs (by rw [← Array.getElem?_toList, hcl]; simp [natC, hcq])
    have HG : Hid _ := And.intro hG (And.intro hpre (And.intro hB (And.intro hcp (And.intro hcq hg))))
    clear hG hpre hB hcp hcq hcs hcl hl hg
    by_cases hne : cp = cq
    · have n1 : ((cp : Int) != (cq : Int)) = false := by simp [hne]
      have HN : Hid _ := hne
      clear hne
      gi_wp2
      refine region_round (F := Fence.wide) rfl (by kernel_rfl) (by kernel_rfl) (by kernel_rfl) ?_
      repeat (gi_big_quiet_step (fail))
      refine wpQuietIn_nil ?_
      intro _ hw'
      obtain ⟨nq, hw''⟩ := hw'
      subst hw''
      gi_wp2
      refine ⟨⟨Nat.le_refl _, fun _ _ _ h _ => h⟩, ⟨below_drewN (Below.refl _ _) _, fun _ _ _ h => h⟩, fun i hi => ?_, below_drewN HG.out.2.2.1 _⟩
      rcases Nat.lt_or_ge i pre.length with h1 | h1
      · exact HG.out.2.1 i h1
      · have e : i = x.1 := by have := HG.out.1.num; simp at hi; omega
        rw [e, HG.out.2.2.2.1, HG.out.2.2.2.2.1, HN.out]
    · have n1 : ((cp : Int) != (cq : Int)) = true := by simp; omega
      have HN : Hid _ := hne
      clear hne
      gi_wp2
      refine region_round (F := Fence.wide) rfl (by kernel_rfl) (by kernel_rfl) (by kernel_rfl) ?_
      repeat (gi_big_quiet_step (fail))
      refine wpQuietIn_nil ?_
      intro _ hw'
      obtain ⟨nq, hw''⟩ := hw'
      subst hw''
      gi_wp2
      have hne34 : (w.heap.size + 1 + 1 + 1) ≠ (w.heap.size + 1 + 1 + 1 + 1) := by omega
      refine ⟨⟨?_, fun b o hb ho hc => ?_⟩, ⟨rfl, x.1, ?_, ?_, fun i hi => ?_, ?_, ?_⟩, ?_⟩
      · simp
      · exact ((KeepsOthers.setCell _ _ _).trans (KeepsOthers.setCell _ _ _)).same b o ho hc
      · simp [HG.out.1.num]
      · rw [HG.out.2.2.2.1, HG.out.2.2.2.2.1]
        intro e
        exact HN.out (Option.some.inj e)
      · exact HG.out.2.1 i (by have := HG.out.1.num; omega)
      · rw [cell_block (setCell_other _ hne34)]
        exact World.cell?_setCell_same' _ _ _ (by show (W.cell? _).isSome = true; rw [d3]; rfl)
      · exact World.cell?_setCell_same' _ _ _ (by rw [cell_block (setCell_other _ (fun e => hne34 e.symm))]; show (W.cell? _).isSome = true; rw [d4]; rfl)
      · exact ((bel6 (below_drewN HG.out.2.2.1 _) H2.out.1.bl).setCell (p := ⟨w.heap.size + 1 + 1 + 1, 0, none⟩) (by simp; omega) _).setCell (p := ⟨w.heap.size + 1 + 1 + 1 + 1, 0, none⟩) (by simp; omega) _
  case done =>
    rintro D xs W hD ⟨R, hRl, hxl⟩ ⟨hall, hB⟩ hK
    have hg := H2.out.1.below hB
    have d3 : W.cell? ⟨w.heap.size + 1 + 1 + 1, 0, none⟩ = some (.int .i64 0) := hg.br.cell
    have d4 : W.cell? ⟨w.heap.size + 1 + 1 + 1 + 1, 0, none⟩ = some .nilIface := hg.be.cell
    have f3 : W.frozen? ⟨w.heap.size + 1 + 1 + 1, 0, none⟩ = false := hg.br.frozen
    have f4 : W.frozen? ⟨w.heap.size + 1 + 1 + 1 + 1, 0, none⟩ = false := hg.be.frozen
    have hsN := (H1.out.2.2.2.2.2.2.below hg.bl).1
    have mixed : Tryz.prog.follows .mixedOrders = true := by kernel_rfl
    have HW : Hid _ := And.intro hg (And.intro hall (And.intro hRl hxl))
    clear hg hall hRl hxl hB
    gi_wp2
    gi_region
    gi_wp2
    obtain ⟨W9, hW9⟩ : ∃ W9, W9 = ((W.setCell ⟨w.heap.size + 1 + 1 + 1, 0, none⟩ (.int .i64 0)).setCell ⟨w.heap.size + 1 + 1 + 1 + 1, 0, none⟩ (.iface 305 (.pointer (some aN)))).drew := ⟨_, rfl⟩
    have hne34 : (w.heap.size + 1 + 1 + 1) ≠ (w.heap.size + 1 + 1 + 1 + 1) := by omega
    have hK9 : W9.heap[D]? = some (.deferred (some [])) := by
      rw [hW9]
      exact ((KeepsOthers.setCell _ _ _).trans (KeepsOthers.setCell _ _ _)).same D _ hK rfl
    have k5 : W9.cell? ⟨w.heap.size + 1 + 1 + 1, 0, none⟩ = some (.int .i64 0) := by
      rw [hW9]
      show ((W.setCell _ _).setCell _ _).cell? _ = _
      rw [cell_block (setCell_other _ hne34)]
      exact World.cell?_setCell_same' _ _ _ (by rw [d3]; rfl)
    have k6 : W9.cell? ⟨w.heap.size + 1 + 1 + 1 + 1, 0, none⟩ = some (.iface 305 (.pointer (some aN))) := by
      rw [hW9]
      show ((W.setCell _ _).setCell _ _).cell? _ = _
      exact World.cell?_setCell_same' _ _ _ (by rw [cell_block (setCell_other _ (fun e => hne34 e.symm)), d4]; rfl)
    have hB9 : Below w.heap.size w W9 := by
      rw [hW9]
      exact ((HW.out.1.bl.setCell (p := ⟨w.heap.size + 1 + 1 + 1, 0, none⟩) (by simp; omega) _).setCell (p := ⟨w.heap.size + 1 + 1 + 1 + 1, 0, none⟩) (by simp; omega) _).drew
    rw [← hW9]
    refine ⟨by simp, .inl ⟨_, _, rfl, run_takeDeferred hK9, ?_⟩⟩
    have k5' := cell_kept k5 (grownBy_putObj' _ D (.deferred none)) (fun r e => by cases e; exact ⟨_, hK9, rfl⟩)
    have k6' := cell_kept k6 (grownBy_putObj' _ D (.deferred none)) (fun r e => by cases e; exact ⟨_, hK9, rfl⟩)
    refine ⟨.tuple #[.int .i64 0, .iface 305 (.pointer (some aN))], ?_, R, by rw [← H1.out.2.2.2.2.2.1]; exact HW.out.2.2.1, ?_, .inr ⟨rfl, by rw [← H1.out.2.2.2.2.2.1]; exact fun i hi => HW.out.2.1 i (by have := HW.out.2.2.2; omega)⟩⟩
    · simp [results, Tryz.f82, go_sem, k5', k6']
    · exact hB9.trans (belowK_b (w := w) (Nat.le_refl _) W9 D _ _ (by have := H2.out.1.bl.size; omega) hK9 rfl rfl)
  case stop =>
    rintro D c pre W hD ⟨R, hRl, hxl⟩ ⟨⟨rfl, j, h2, h3, h4, h5, h6⟩, h7⟩ hK
    gi_wp2
    refine ⟨by simp, .inl ⟨_, _, rfl, run_takeDeferred hK, ?_⟩⟩
    have k5 := cell_kept h5 (grownBy_putObj' _ D (.deferred none)) (fun r e => by cases e; exact ⟨_, hK, rfl⟩)
    have k6 := cell_kept h6 (grownBy_putObj' _ D (.deferred none)) (fun r e => by cases e; exact ⟨_, hK, rfl⟩)
    refine ⟨.tuple #[.int .i64 j, .nilIface], ?_, R, by rw [← H1.out.2.2.2.2.2.1]; exact hRl, ?_, .inl ⟨j, by omega, rfl, by rw [← H1.out.2.2.2.2.2.1]; exact h3, by rw [← H1.out.2.2.2.2.2.1]; exact h4⟩⟩
    · simp [results, Tryz.f82, go_sem, k5, k6]
    · exact h7.trans (belowK_b (w := w) (Nat.le_refl _) W D _ _ (by have := H2.out.1.bl.size; omega) hK rfl rfl)
set_option maxRecDepth 100000 in
set_option maxHeartbeats 4000000 in
theorem parting_bad (hS : SortOk 1000000) (n k s p q : Int) (v : Value) (es : List Sy.Ed) (a : Addr) (w : World) (hA : Sent w 14 a) (hv : BEdges.Has w v es) (hm : es.length ≤ 100000) (hq : Sy.right n k s es = false) :
    Calls Tryz.prog 82 #[sysV n k s v, .int .i64 p, .int .i64 q] w fun r w' => ∃ T u, r = .returned (.tuple #[.int .i64 0, .iface T u]) ∧ Chain w' 0 0 a [sysB] (.iface T u) ∧ Below w.heap.size w w' := by
  have hv0 := hv
  obtain ⟨ao, cap, rfl, _⟩ := hv0
  obtain ⟨L, hL⟩ : ∃ L, L = es.length := ⟨_, rfl⟩
  obtain ⟨w1, hw1⟩ : ∃ w1, w1 = pgW w n k s p q ao L cap := ⟨_, rfl⟩
  have hg1 : PgAt w w1 n k s p q ao L cap := by rw [hw1]; exact pg_new _ _ _ _ _ _ _ _ _
  have hO := roundsOf_bad hS n k s _ es a w1 (hA.below hg1.bl) (hv.below hg1.bl) hm hq
  rw [← hL] at hO ⊢
  unfold sysV at hO ⊢
  have H1 : Hid _ := And.intro hw1 (And.intro hg1 hO)
  obtain ⟨x0, x1, x2, x3⟩ := four_cells hg1.bs
  unfold pgW at H1
  clear hA hv hm hq hw1 hg1 hO hL
  go_enter Tryz.func82, Tryz.ntmps82
  go_upto_region 1 with fail
  rw [← H1.out.1]
  go_wp2_with fail
  refine Calls.mono H1.out.2.2 ?_
  rintro r w2 ⟨T, u, rfl, hC2, hb2⟩
  have hg := H1.out.2.1.below hb2
  have d3 : w2.cell? ⟨w.heap.size + 1 + 1 + 1, 0, none⟩ = some (.int .i64 0) := hg.br.cell
  have d4 : w2.cell? ⟨w.heap.size + 1 + 1 + 1 + 1, 0, none⟩ = some .nilIface := hg.be.cell
  have f3 : w2.frozen? ⟨w.heap.size + 1 + 1 + 1, 0, none⟩ = false := hg.br.frozen
  have f4 : w2.frozen? ⟨w.heap.size + 1 + 1 + 1 + 1, 0, none⟩ = false := hg.be.frozen
  have H2 : Hid _ := And.intro hg (And.intro hC2 hb2)
  clear hg hC2 hb2 x0 x1 x2 x3
  go_wp2_with fail
  obtain ⟨W9, hW9⟩ : ∃ W9, W9 = (w2.setCell ⟨w.heap.size + 1 + 1 + 1, 0, none⟩ (.int .i64 0)).setCell ⟨w.heap.size + 1 + 1 + 1 + 1, 0, none⟩ (.iface T u) := ⟨_, rfl⟩
  obtain ⟨k5, k6, hB9⟩ := pg_ret H2.out.1 (.int .i64 0) (.iface T u)
  have hC9 : Chain W9 0 0 a [sysB] (.iface T u) := by
    rw [hW9]
    have hbe : (w2.setCell ⟨w.heap.size + 1 + 1 + 1, 0, none⟩ (.int .i64 0)).heap[w.heap.size + 1 + 1 + 1 + 1]? = _ := (setCell_other _ (by omega)).trans H2.out.1.be
    exact (H2.out.2.1.set H2.out.1.br (by decide)).set hbe (by decide)
  rw [← hW9] at k5 k6 hB9 ⊢
  refine bodyPost_ret (v := .tuple #[.int .i64 0, .iface T u]) ?_ rfl ⟨_, _, rfl, hC9, hB9⟩
  simp [results, Tryz.results82, go_sem, k5, k6]
set_option maxRecDepth 100000 in
set_option maxHeartbeats 4000000 in
theorem parting_idx (hS : SortOk 1000000) (m : Nat) (k s p q : Int) (v : Value) (es : List Sy.Ed) (a aI : Addr) (w : World) (hA : Sent w 14 a) (hI : Sent w 3 aI) (hv : BEdges.Has w v es) (hm : es.length ≤ 100000) (hq : Sy.right m k s es = true) (hno : min p q < 0 ∨ (m : Int) ≤ max p q) :
    Calls Tryz.prog 82 #[sysV m k s v, .int .i64 p, .int .i64 q] w fun r w' => r = .returned (.tuple #[.int .i64 0, .iface 305 (.pointer (some aI))]) ∧ Below w.heap.size w w' := by
  have hv0 := hv
  obtain ⟨ao, cap, rfl, _⟩ := hv0
  obtain ⟨L, hL⟩ : ∃ L, L = es.length := ⟨_, rfl⟩
  obtain ⟨w1, hw1⟩ : ∃ w1, w1 = pgW w m k s p q ao L cap := ⟨_, rfl⟩
  have hg1 : PgAt w w1 m k s p q ao L cap := by rw [hw1]; exact pg_new _ _ _ _ _ _ _ _ _
  have hO := roundsOf_ok hS m k s _ es a w1 (hA.below hg1.bl) (hv.below hg1.bl) hm hq
  rw [← hL] at hO ⊢
  unfold sysV at hO ⊢
  have hlt : 3 < w.heap.size := World.block_lt_of_cell? w _ hI.1
  have nn1 : ¬ 3 = w.heap.size + 1 + 1 + 1 := by omega
  have nn2 : ¬ w.heap.size + 1 + 1 + 1 = 3 := by omega
  have nn3 : ¬ 3 = w.heap.size + 1 + 1 + 1 + 1 := by omega
  have nn4 : ¬ w.heap.size + 1 + 1 + 1 + 1 = 3 := by omega
  have H1 : Hid _ := And.intro hw1 (And.intro hg1 (And.intro hO hI))
  obtain ⟨x0, x1, x2, x3⟩ := four_cells hg1.bs
  unfold pgW at H1
  clear hA hv hm hq hw1 hg1 hO hL hI
  go_enter Tryz.func82, Tryz.ntmps82
  go_upto_region 1 with fail
  rw [← H1.out.1]
  go_wp2_with fail
  refine Calls.mono H1.out.2.2.1 ?_
  rintro r w2 ⟨b1, b2, gs, rfl, hO2⟩
  unfold roundsV
  have hg := H1.out.2.1.below hO2.bl
  have c1 := hg.bp.cell
  have c2 : w2.cell? ⟨w.heap.size + 1 + 1, 0, none⟩ = some (.int .i64 q) := hg.bq.cell
  obtain ⟨y0, y1, y2, y3⟩ := four_cells hg.bs
  have d3 : w2.cell? ⟨w.heap.size + 1 + 1 + 1, 0, none⟩ = some (.int .i64 0) := hg.br.cell
  have d4 : w2.cell? ⟨w.heap.size + 1 + 1 + 1 + 1, 0, none⟩ = some .nilIface := hg.be.cell
  have f3 : w2.frozen? ⟨w.heap.size + 1 + 1 + 1, 0, none⟩ = false := hg.br.frozen
  have f4 : w2.frozen? ⟨w.heap.size + 1 + 1 + 1 + 1, 0, none⟩ = false := hg.be.frozen
  have hsI := (H1.out.2.2.2.below hg.bl).1
  obtain ⟨k5, k6, hB9⟩ := pg_ret hg (.int .i64 0) (.iface 305 (.pointer (some aI)))
  have H2 : Hid _ := And.intro k5 (And.intro k6 hB9)
  clear hg hO2 x0 x1 x2 x3 k5 k6 hB9
  by_cases hlo : min p q < 0
  · have g5 : decide (min p q < 0) = true := by simpa using hlo
    go_wp2_with fail
    go_region
    all_goals go_wp2_with fail
    all_goals
      refine bodyPost_ret (v := .tuple #[.int .i64 0, .iface 305 (.pointer (some aI))]) ?_ rfl ⟨rfl, H2.out.2.2.drew⟩
      simp [results, Tryz.results82, go_sem, H2.out.1, H2.out.2.1]
  · have g5 : decide (min p q < 0) = false := by simpa using hlo
    have g6 : (m : Int) ≤ max p q := by omega
    clear hno
    go_wp2_with fail
    go_region
    all_goals go_wp2_with fail
    all_goals
      refine bodyPost_ret (v := .tuple #[.int .i64 0, .iface 305 (.pointer (some aI))]) ?_ rfl ⟨rfl, H2.out.2.2.drew⟩
      simp [results, Tryz.results82, go_sem, H2.out.1, H2.out.2.1]
end Go.Proofs.YtpmanmoljlhogaaGreatDoor
