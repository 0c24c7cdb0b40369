/- Texts of this claim, joined: SyOut, SyBack, SyReach0, SyEnds, SyTen, SyOne0, SyNum, BSame, SyEq, SyCls. -/
import Derived.Test.YtplofbabfkkimaaGreatDoorPart0
import Derived.Test.YtplofbabfkkimaaGreatDoorPart5
import Derived.Test.YtplofbabfkkimaaGreatDoorPart2
import Derived.Test.YtplofbabfkkimaaGreatDoorPart4
import Derived.Test.YtplofbabfkkimaaGreatDoorPart3
import Derived.Deep.AppendLies
import Derived.Test.YtplofbabfkkimaaGreatDoorPart7
import Derived.DataElems
import Derived.Test.YtplofbabfkkimaaGreatDoorPart6
import Derived.Maps.OwnSet
import Derived.WalkSmall
import Derived.Deep.QuietTactic
import Derived.BigQuiet
import Derived.Deep.LoopGhost
/- Contract of the document's Out: of each state its steps. -/
namespace Go.Proofs.YtplofbabfkkimaaGreatDoor
open Go.RowKit Go.Maps
attribute [local go_sem ↓] Go.wp_at_zero Go.wp_at_succ
structure Outs (w : World) (B : Nat) (us : List Value) (n : Nat) (f : Nat → List BSteps.El) : Prop where
 len : us.length = n
 row : ∀ i, i < n → ∃ u, us[i]? = some u ∧ BSteps.Own w B u (f i)
 ap : ∀ (i j : Nat) (u x : Value) (b : Nat), us[i]? = some u → us[j]? = some x → i ≠ j → u.ownBlock = some b → x.ownBlock ≠ some b
theorem outs_new (w : World) (B n : Nat) : Outs w B (List.replicate n (.slice none 0 0)) n fun _ => [] :=
 ⟨by simp, fun i hi => ⟨.slice none 0 0, by rw [List.getElem?_replicate, if_pos hi], World.ownsRow_nil _ _ _ _⟩, fun i j u x b h1 _ _ h3 => by
  rw [List.getElem?_replicate] at h1
  split at h1
  ·cases h1; cases h3
  ·cases h1⟩
theorem Outs.set {w w' : World} {B : Nat} {us : List Value} {n : Nat} {f : Nat → List BSteps.El} (h : Outs w B us n f) {i : Nat} {u u' : Value} {F : Nat → Prop} (hi : i < n) (hu : us[i]? = some u) (hk : Kept F w w') (hF : ∀ b, F b → u.ownBlock = some b ∨ ∀ (j : Nat) (x : Value), us[j]? = some x → x.ownBlock ≠ some b) {zs : List BSteps.El} (hO : BSteps.Own w' B u' zs) (hat : u'.ownBlock = u.ownBlock ∨ ∀ b, u'.ownBlock = some b → w.heap.size ≤ b) :
 Outs w' B (us.set i u') n (fun j => if j = i then zs else f j) := by
 refine ⟨by rw [List.length_set]; exact h.len, fun j hj => ?_, fun a c x y b hx hy hac hb => ?_⟩
 ·by_cases e : j = i
  ·subst e
   exact ⟨u', List.getElem?_set_self (by rw [h.len]; exact hj), by rw [if_pos rfl]; exact hO⟩
  ·obtain ⟨x, h1, h2⟩ := h.row j hj
   refine ⟨x, by rw [List.getElem?_set_ne (fun e' => e e'.symm)]; exact h1, ?_⟩
   rw [if_neg e]
   refine own_up h2 hk fun b hb hf => ?_
   rcases hF b hf with hf | hf
   ·exact h.ap j i x u b h1 hu e hb hf
   ·exact hf j x h1 hb
 ·have hold : ∀ (j : Nat) (z : Value), us[j]? = some z → j ≠ i → ∀ b, z.ownBlock = some b → u'.ownBlock ≠ some b := fun j z hz hj b hzb e => by
   rcases hat with h1 | h1
   ·rw [h1] at e; exact h.ap j i z u b hz hu hj hzb e
   ·have h2 := h1 b e
    obtain ⟨z', h3, h4⟩ := h.row j (by have := (List.getElem?_eq_some_iff.1 hz).1; rw [h.len] at this; exact this)
    rw [hz] at h3; cases h3
    have := (h4.lt b hzb).2
    omega
  by_cases ea : a = i
  ·subst ea
   rw [List.getElem?_set_self (by rw [h.len]; exact hi)] at hx
   cases hx
   rw [List.getElem?_set_ne hac] at hy
   exact fun e => hold c y hy (fun e' => hac e'.symm) b e hb
  ·rw [List.getElem?_set_ne (fun e' => ea e'.symm)] at hx
   by_cases ec : c = i
   ·subst ec
    rw [List.getElem?_set_self (by rw [h.len]; exact hi)] at hy
    cases hy
    exact hold a x hx ea b hb
   ·rw [List.getElem?_set_ne (fun e' => ec e'.symm)] at hy
    exact h.ap a c x y b hx hy hac hb
theorem Outs.congr {w : World} {B : Nat} {us : List Value} {n : Nat} {f g : Nat → List BSteps.El} (h : Outs w B us n f) (hfg : ∀ i, i < n → f i = g i) : Outs w B us n g :=
 ⟨h.len, fun i hi => by rw [← hfg i hi]; exact h.row i hi, h.ap⟩
theorem Outs.kept {w w' : World} {B : Nat} {us : List Value} {n : Nat} {f : Nat → List BSteps.El} {F : Nat → Prop} (h : Outs w B us n f) (hk : Kept F w w') (hF : ∀ (j : Nat) (x : Value), us[j]? = some x → ∀ b, x.ownBlock = some b → ¬ F b) : Outs w' B us n f :=
 ⟨h.len, fun i hi => by obtain ⟨u, h1, h2⟩ := h.row i hi; exact ⟨u, h1, own_up h2 hk fun b hb => hF i u h1 b hb⟩, h.ap⟩
theorem kcell {w w' : World} {F : Nat → Prop} (hk : Kept F w w') {b o : Nat} {v : Value} (hF : ¬ F b) (c : w.cell? ⟨b, o, none⟩ = some v) : w'.cell? ⟨b, o, none⟩ = some v := (World.cell?_of_block (a := ⟨b, o, none⟩) (hk.block b (World.block_lt_of_cell? w _ c) hF)).trans c
theorem outs_grow {w wr w4 : World} {g n i N g4 k4 cu : Nat} {au : Option Addr} {us : List Value} {f : Nat → List BSteps.El} (z : BSteps.El) (hOs : Outs wr w.heap.size us n f) (hi : i < n) (hu : us[i]? = some (.slice au N cu)) (hN : N = (f i).length) (hown : w4.ownsRow w.heap.size 128 2 (.slice (some ⟨g4, 0, none⟩) (N + 1) k4) (N + 1) (BSteps.C (f i) ++ [.int .i64 z.1, .int .i64 z.2])) (hk : Kept (fun b => (Value.slice au N cu).ownBlock = some b) wr w4) (hat : (Value.slice au N cu).ownBlock = some g4 ∨ g4 = wr.heap.size + 1) (hA4 : Arr 84 w w4 g us) :
 Arr 84 w (w4.setCell ⟨g, i, none⟩ (.slice (some ⟨g4, 0, none⟩) (N + 1) k4)) g (us.set i (.slice (some ⟨g4, 0, none⟩) (N + 1) k4)) ∧ Outs (w4.setCell ⟨g, i, none⟩ (.slice (some ⟨g4, 0, none⟩) (N + 1) k4)) w.heap.size (us.set i (.slice (some ⟨g4, 0, none⟩) (N + 1) k4)) n (fun j => if j = i then f i ++ [z] else f j) ∧ Kept (fun b => b = g ∨ (Value.slice au N cu).ownBlock = some b) wr (w4.setCell ⟨g, i, none⟩ (.slice (some ⟨g4, 0, none⟩) (N + 1) k4)) := by
 have hO : BSteps.Own w4 w.heap.size (.slice (some ⟨g4, 0, none⟩) (N + 1) k4) (f i ++ [z]) := by
  unfold BSteps.Own
  have e1 : (f i ++ [z]).length = N + 1 := by rw [List.length_append, hN]; rfl
  rw [e1, BSteps.C_app]
  exact hown
 have h1 := hOs.set (F := fun b => (Value.slice au N cu).ownBlock = some b) hi hu hk (fun b hb => .inl hb) hO (by
  rcases hat with h | h
  ·exact .inl h.symm
  ·exact .inr fun b hb => by have e9 : g4 = b := Option.some.inj hb; omega)
 refine ⟨hA4.set i _, ?_, ?_⟩
 ·refine h1.kept (Kept.setCell w4 g i _) fun j x hx b hb e => ?_
  obtain ⟨cs, hc, _⟩ := hA4.ids
  obtain ⟨x', h2, h3⟩ := h1.row j (by have := (List.getElem?_eq_some_iff.1 hx).1; rw [h1.len] at this; exact this)
  rw [hx] at h2; cases h2
  exact own_bk h3 hc (by decide) (by rw [← e]; exact hb)
 ·exact (hk.mono fun b _ hb => .inr hb).trans ((Kept.setCell w4 g i _).mono fun b _ hb => .inl hb)
theorem Sy.steps_take {l : List Sy.Ed} {j : Nat} {e : Sy.Ed} (he : l[j]? = some e) (i : Int) : Sy.steps (l.take (j + 1)) i = if e.1 = i then Sy.steps (l.take j) i ++ [(e.2.1, e.2.2)] else Sy.steps (l.take j) i := by
 rw [List.take_add_one, he]
 exact Sy.steps_snoc _ _ _
theorem out_round {w wr w4 : World} {g n N g4 k4 cu gl c : Nat} {au : Option Addr} {us : List Value} {l : List Sy.Ed} {j L f : Nat} {e : Sy.Ed} (hL : j < L) (hfn : f < n) (hOs : Outs wr w.heap.size us n (fun i => Sy.steps (l.take j) i)) (hOl : BEdges.Own wr w.heap.size (.slice (some ⟨gl, 0, none⟩) l.length c) l) (he : l[j]? = some e) (hf : e.1 = (f : Int)) (hu : us[f]? = some (.slice au (Sy.steps (l.take j) f).length cu)) (hN : N = (Sy.steps (l.take j) f).length)
 (hown : w4.ownsRow w.heap.size 128 2 (.slice (some ⟨g4, 0, none⟩) (N + 1) k4) (N + 1) (BSteps.C (Sy.steps (l.take j) f) ++ [.int .i64 e.2.1, .int .i64 e.2.2])) (hk : Kept (fun b => (Value.slice au N cu).ownBlock = some b) wr w4) (hat : (Value.slice au N cu).ownBlock = some g4 ∨ g4 = wr.heap.size + 1) (hA4 : Arr 84 w w4 g us) (hne : ¬ gl = g) (hgl : ¬ (Value.slice au N cu).ownBlock = some gl) :
 ∃ (j1 : Nat) (us : List Value), L - (j + 1) = L - j1 ∧ j1 ≤ L ∧ Value.int .i64 ((j : Int) + 1) = .int .i64 j1 ∧ Arr 84 w (w4.setCell ⟨g, f, none⟩ (.slice (some ⟨g4, 0, none⟩) (N + 1) k4)) g us ∧ Outs (w4.setCell ⟨g, f, none⟩ (.slice (some ⟨g4, 0, none⟩) (N + 1) k4)) w.heap.size us n (fun i => Sy.steps (l.take j1) i) ∧ BEdges.Own (w4.setCell ⟨g, f, none⟩ (.slice (some ⟨g4, 0, none⟩) (N + 1) k4)) w.heap.size (.slice (some ⟨gl, 0, none⟩) l.length c) l := by
 obtain ⟨h1, h2, h3⟩ := outs_grow (e.2.1, e.2.2) hOs hfn (by rw [hN]; exact hu) hN hown hk hat hA4
 refine ⟨j + 1, _, rfl, hL, rfl, h1, h2.congr fun i hi => ?_, own_up hOl h3 fun b hb hF => ?_⟩
 ·rw [Sy.steps_take he, hf]
  by_cases e9 : i = f
  ·subst e9; rw [if_pos rfl, if_pos rfl]
  ·rw [if_neg e9, if_neg (fun h => e9 (by omega))]
 ·cases hb
  rcases hF with hF | hF
  ·exact hne hF
  ·exact hgl hF
set_option linter.unusedSimpArgs false in
set_option maxRecDepth 100000 in
set_option maxHeartbeats 8000000 in
theorem refOut_any (n : Nat) (k s : Int) (v : Value) (es : List Sy.Ed) (w : World) (hn : n ≤ 1000000) (hv : HasE w v es) (hm : es.length ≤ 100000) (hr : ∀ e ∈ es, 0 ≤ e.1 ∧ e.1 < (n : Int)) :
 Calls Tryz.prog 37 #[sysV n k s v] w fun e w' => ∃ g us, e = .returned (.slice (some ⟨g, 0, none⟩) n n) ∧ Arr 84 w w' g us ∧ Outs w' w.heap.size us n (fun i => Sy.steps (Sy.nf es) i) := by
 obtain ⟨i0, hi0, hz0, hz1, hz2⟩ := info_parts BSteps.Tryz.infoE
 obtain ⟨w0, hw0⟩ : ∃ w0, w0 = w.alloc (.cells #[.int .i64 n, .int .i64 k, .int .i64 s, v] 24) := ⟨_, rfl⟩
 have hb0 : Below w.heap.size w w0 := by rw [hw0]; exact (Below.refl _ _).alloc (Nat.le_refl _) _
 have hs0 : w0.heap.size = w.heap.size + 1 := by rw [hw0]; simp
 have hg0 : w0.heap[w.heap.size]? = some (.cells #[.int .i64 n, .int .i64 k, .int .i64 s, v] 24 (0, 0)) := by rw [hw0]; exact heap_alloc_new w _
 have hA0 := arr_new 84 (.slice none 0 0) rfl n w0
 have hmk := makeSt n hn w0
 have hS := refSorted_any v es _ ((hv.below hb0).below hA0.bl) hm
 unfold SortedAt at hS
 have hv0 := hv
 obtain ⟨ao, cap, rfl, _⟩ := hv0
 obtain ⟨m, hmm⟩ : ∃ m, m = es.length := ⟨_, rfl⟩
 obtain ⟨l, hl⟩ : ∃ l, l = Sy.nf es := ⟨_, rfl⟩
 rw [← hmm] at hS hw0 hg0 ⊢
 rw [← hl] at hS ⊢
 have hlr : ∀ e ∈ l, 0 ≤ e.1 ∧ e.1 < (n : Int) := fun e he => hr e ((Sy.nf_mem es e).1 (by rw [← hl]; exact he))
 have hll : l.length ≤ 100000 := by have := Sy.nf_len es; rw [← hl] at this; omega
 have H0 : Hid _ := And.intro hS (And.intro hb0 (And.intro hg0 (And.intro hA0 (And.intro hw0 hs0))))
 have HLR : Hid _ := hlr
 unfold sysV
 obtain ⟨x0, x1, x2, x3⟩ := four_cells hg0
 clear hS hb0 hg0 hA0 hw0 hlr hv hr hmm hl
 go_enter Tryz.func37, Tryz.ntmps37
 go_upto_region 1 with fail
 rw [← H0.out.2.2.2.2.1]
 go_wp2_with fail
 refine Calls.mono H0.out.1 ?_
 rintro e w1 ⟨u, rfl, hO, hb1⟩
 obtain ⟨bo, cbp, rfl⟩ := row_shape hO
 obtain ⟨L, hL⟩ : ∃ L, L = l.length := ⟨_, rfl⟩
 have hA1 : Arr 84 w w1 w0.heap.size (List.replicate n (.slice none 0 0)) := by
  have h1 := H0.out.2.2.2.1.below hb1
  exact ⟨H0.out.2.1.trans (h1.bl.mono H0.out.2.1.size), h1.ids, by rw [H0.out.2.2.2.2.2]; omega⟩
 have hO1 : BEdges.Own w1 w.heap.size (.slice bo l.length cbp) l := row_base hO (by have := hA1.bl.size; have := H0.out.2.2.2.1.bl.size; have := H0.out.2.1.size; omega)
 rw [hs0] at hA1
 have H1 : Hid _ := And.intro hA1 (And.intro hO1 hL)
 rw [← hL]
 rw [← hL] at hll
 clear hO hb1 hA1 hO1 hL x0 x1 x2 x3 hmk
 obtain ⟨g, hgg⟩ : ∃ g, g = w.heap.size + 1 := ⟨_, rfl⟩
 rw [← hgg] at H1 ⊢
 have hg1 : w.heap.size < g := by omega
 clear hgg H0 hs0
 go_wp2_with fail
 go_loopg [5] L (fun q jv wr => ∃ (j : Nat) (us : List Value), q = L - j ∧ j ≤ L ∧ jv = .int .i64 j ∧ Arr 84 w wr g us ∧ Outs wr w.heap.size us n (fun i => Sy.steps (l.take j) i) ∧ BEdges.Own wr w.heap.size (.slice bo l.length cbp) l)
 case atStart => exact ⟨0, _, rfl, Nat.zero_le _, rfl, H1.out.1, outs_new _ _ _, H1.out.2.1⟩
 case round =>
  obtain ⟨j, us, rfl, hj, rfl, hA, hOs, hOl⟩ := hrel
  by_cases hlt : j < L
  ·obtain ⟨e, he⟩ : ∃ e, l[j]? = some e := ⟨l[j]'(by have := H1.out.2.2; omega), List.getElem?_eq_getElem _⟩
   obtain ⟨gl, hgl, e0, e1, e2⟩ := own_edge hOl he
   have hel := HLR.out e (List.mem_of_getElem? he)
   obtain ⟨f, hf⟩ : ∃ f : Nat, e.1 = (f : Int) := ⟨e.1.toNat, by omega⟩
   have hfn : f < n := by omega
   obtain ⟨u, hu, hOu⟩ := hOs.row f hfn
   obtain ⟨au, cu, rfl⟩ := row_shape hOu
   obtain ⟨N, hN⟩ : ∃ N, N = (Sy.steps (l.take j) f).length := ⟨_, rfl⟩
   have hNl : N ≤ 100000 := by have := Sy.steps_len (l.take j) f; rw [List.length_take] at this; omega
   have cu0 := hA.cell hu
   have cuf := hA.free f
   have hgw := hA.lt
   have hOu' : wr.ownsRow w.heap.size 128 2 (.slice au N cu) N (BSteps.C (Sy.steps (l.take j) f)) := by have h1 := hOu; unfold BSteps.Own at h1; rw [← hN] at h1; exact h1
   rw [← hN] at cu0
   rw [hf] at e0
   have q0 : (0 : Int) ≤ (j : Int) := by omega
   have q1 : (j : Int) < (L : Int) := by omega
   have q2 : (0 : Int) ≤ (f : Int) := by omega
   have q3 : (f : Int) < (n : Int) := by omega
   have hml : N + 1 ≤ maxLen := by unfold maxLen; omega
   have hby : (N + 1) * 16 ≤ 140737488355328 := by omega
   have hgb := own_ne hOl hOu' (by decide)
   have HA : Hid _ := And.intro hA (And.intro hOs (And.intro hOl (And.intro he (And.intro hf (And.intro hu (And.intro hOu' hN))))))
   have hOd : (wr.drew.alloc (.cells #[.int .i64 e.2.1, .int .i64 e.2.2] 128)).ownsRow w.heap.size 128 2 (.slice au N cu) N (BSteps.C (Sy.steps (l.take j) f)) := World.ownsRow.alloc (trow_at hOu' fun _ _ => rfl) _
   have HD : Hid _ := hOd
   have hle : w.heap.size ≤ (wr.drew.alloc (.cells #[.int .i64 e.2.1, .int .i64 e.2.2] 128)).heap.size := by have := hA.bl.size; simp; omega
   have HKP : Hid (∀ b, (Value.slice au N cu).ownBlock = some b → w.heap.size ≤ b ∧ b ≠ g) := (fun b hb => ⟨(hOu'.lt b hb).1, fun e => by
    obtain ⟨cs9, hc9, _⟩ := hA.ids
    exact own_bk hOu' hc9 (by decide) (by rw [← e]; exact hb)⟩ : ∀ b, (Value.slice au N cu).ownBlock = some b → w.heap.size ≤ b ∧ b ≠ g)
   cases hgl
   have HGL : Hid (¬ (Value.slice au N cu).ownBlock = some gl) := (fun h9 => hgb gl rfl h9 : ¬ (Value.slice au N cu).ownBlock = some gl)
   have n1 : gl < wr.heap.size := World.block_lt_of_cell? wr _ e0
   have n2 : ¬ gl = wr.heap.size := by omega
   have n3 : ¬ g = wr.heap.size := by omega
   have hne : ¬ gl = g := fun e9 => by
    obtain ⟨cs9, hc9, _⟩ := hA.ids
    exact own_bk (bk := g) hOl hc9 (by decide) (by rw [← e9]; rfl)
   have hne' : ¬ g = gl := fun e => hne e.symm
   clear hgb
   clear hA hOs hOl he hf hu hOu hOu' hN hel hOd
   go_upto_region 6 with fail
   refine wp_region_held_drew (S := (fun w' => w'.cell? ⟨gl, j * 3, none⟩ = some (.int .i64 f) ∧ w'.cell? ⟨gl, j * 3 + 1, none⟩ = some (.int .i64 e.2.1) ∧ w'.cell? ⟨gl, j * 3 + 2, none⟩ = some (.int .i64 e.2.2))) (by kernel_rfl) ?_ (fun hHeld => ?_)
   ·exact ⟨e0, e1, e2⟩
   refine tk9 0 ?_ rfl (by kernel_rfl) (fun _ _ _ h => h) ⟨by rfl, ?_⟩ (by assumption) ?_; rotate_left; (focus (intro w hSw; (try dsimp only at hSw); go_simp; (try with_reducible rfl))); (try simp only [ty9, Act.put])
   refine tk9 1 ?_ rfl (by kernel_rfl) (fun _ _ _ h => h) ⟨by rfl, ?_⟩ (by assumption) ?_; rotate_left; (focus (intro w hSw; (try dsimp only at hSw); go_simp; (try with_reducible rfl))); (try simp only [ty9, Act.put])
   refine tk9 2 ?_ rfl (by kernel_rfl) (fun _ _ _ h => h) ⟨by rfl, ?_⟩ (by assumption) ?_; rotate_left; (focus (intro w hSw; (try dsimp only at hSw); go_simp; (try with_reducible rfl))); (try simp only [ty9, Act.put])
   refine tk9 3 ?_ rfl (by kernel_rfl) (fun _ _ _ h => h) ⟨by rfl, ?_⟩ (by assumption) ?_; rotate_left; (focus (intro w hSw; (try dsimp only at hSw); go_simp; (try with_reducible rfl))); (try simp only [ty9, Act.put])
   refine tk9 4 ?_ rfl (by kernel_rfl) (fun _ _ _ h => h) ⟨by rfl, ?_⟩ (by assumption) ?_; rotate_left; (focus (intro w hSw; (try dsimp only at hSw); go_simp; (try with_reducible rfl))); (try simp only [ty9, Act.put])
   refine tk9 5 ?_ rfl (by kernel_rfl) (fun _ _ _ h => h) ⟨by rfl, ?_⟩ (by assumption) ?_; rotate_left; (focus (intro w hSw; (try dsimp only at hSw); go_simp; (try with_reducible rfl))); (try simp only [ty9, Act.put])
   refine tk9 6 ?_ rfl (by kernel_rfl) (fun _ _ _ h => h) ⟨by rfl, ?_⟩ (by assumption) ?_; rotate_left; (focus (intro w hSw; (try dsimp only at hSw); go_simp; (try with_reducible rfl))); (try simp only [ty9, Act.put])
   refine tk9 7 ?_ rfl (by kernel_rfl) (fun _ _ _ h => h) ⟨by rfl, ?_⟩ (by assumption) ?_; rotate_left; (focus (intro w hSw; (try dsimp only at hSw); go_simp; (try with_reducible rfl))); (try simp only [ty9, Act.put])
   refine tk9 8 ?_ rfl (by kernel_rfl) (fun _ _ _ h => h) ⟨by rfl, ?_⟩ (by assumption) ?_; rotate_left; (focus (intro w hSw; (try dsimp only at hSw); go_simp; (try with_reducible rfl))); (try simp only [ty9, Act.put])
   refine tk9 9 ?_ rfl (by kernel_rfl) (fun _ _ _ h => h) ⟨by rfl, ?_⟩ (by assumption) ?_; rotate_left; (focus (intro w hSw; (try dsimp only at hSw); go_simp; (try with_reducible rfl))); (try simp only [ty9, Act.put])
   refine tk9 10 ?_ rfl (by kernel_rfl) (fun _ _ _ h => h) ⟨by rfl, ?_⟩ (by assumption) ?_; rotate_left; (focus (intro w hSw; (try dsimp only at hSw); go_simp; (try with_reducible rfl))); (try simp only [ty9, Act.put])
   refine tk9 11 ?_ rfl (by kernel_rfl) (fun _ _ _ h => h) ⟨by rfl, ?_⟩ (by assumption) ?_; rotate_left; (focus (intro w hSw; (try dsimp only at hSw); go_simp; (try with_reducible rfl))); (try simp only [ty9, Act.put])
   refine tk9 12 ?_ rfl (by kernel_rfl) (fun _ _ _ h => h) ⟨by rfl, ?_⟩ (by assumption) ?_; rotate_left; (focus (intro w hSw; (try dsimp only at hSw); go_simp; (try with_reducible rfl))); (try simp only [ty9, Act.put])
   refine tk9 14 ?_ rfl (by kernel_rfl) (fun _ _ _ h => h) ⟨by rfl, ?_⟩ (by assumption) ?_; rotate_left; (focus (intro w hSw; (try dsimp only at hSw); go_simp; (try with_reducible rfl))); (try simp only [ty9, Act.put])
   refine tk9 15 ?_ rfl (by kernel_rfl) (fun _ _ _ h => h) ⟨by rfl, ?_⟩ (by assumption) ?_; rotate_left; (focus (intro w hSw; (try dsimp only at hSw); go_simp; (try with_reducible rfl))); (try simp only [ty9, Act.put])
   refine tk9 16 ?_ rfl (by kernel_rfl) (fun _ _ _ h => h) ⟨by rfl, ?_⟩ (by assumption) ?_; rotate_left; (focus (intro w hSw; (try dsimp only at hSw); go_simp; (try with_reducible rfl))); (try simp only [ty9, Act.put])
   refine tk9 17 ?_ rfl (by kernel_rfl) (fun _ _ _ h => h) ⟨by rfl, ?_⟩ (by assumption) ?_; rotate_left; (focus (intro w hSw; (try dsimp only at hSw); go_simp; (try with_reducible rfl))); (try simp only [ty9, Act.put])
   refine tk9 18 ?_ rfl (by kernel_rfl) (fun _ _ _ h => h) ⟨by rfl, ?_⟩ (by assumption) ?_; rotate_left; (focus (intro w hSw; (try dsimp only at hSw); go_simp; (try with_reducible rfl))); (try simp only [ty9, Act.put])
   refine tk9 19 ?_ rfl (by kernel_rfl) (fun _ _ _ h => h) ⟨by rfl, ?_⟩ (by assumption) ?_; rotate_left; (focus (intro w hSw; (try dsimp only at hSw); go_simp; (try with_reducible rfl))); (try simp only [ty9, Act.put])
   refine tk9 20 ?_ rfl (by kernel_rfl) (fun _ _ _ h => h) ⟨by rfl, ?_⟩ (by assumption) ?_; rotate_left; (focus (intro w hSw; (try dsimp only at hSw); go_simp; (try with_reducible rfl))); (try simp only [ty9, Act.put])
   refine tk9 21 ?_ rfl (by kernel_rfl) (fun _ _ _ h => h) ⟨by rfl, ?_⟩ (by assumption) ?_; rotate_left; (focus (intro w hSw; (try dsimp only at hSw); go_simp; (try with_reducible rfl))); (try simp only [ty9, Act.put])
   refine tk9 22 ?_ rfl (by kernel_rfl) (fun _ _ _ h => h) ⟨by rfl, ?_⟩ (by assumption) ?_; rotate_left; (focus (intro w hSw; (try dsimp only at hSw); go_simp; (try with_reducible rfl))); (try simp only [ty9, Act.put])
   refine tk9 23 ?_ rfl (by kernel_rfl) (fun _ _ _ h => h) ⟨by rfl, ?_⟩ (by assumption) ?_; rotate_left; (focus (intro w hSw; (try dsimp only at hSw); go_simp; (try with_reducible rfl))); (try simp only [ty9, Act.put])
   refine tk9 24 ?_ rfl (by kernel_rfl) (fun _ _ _ h => h) ⟨by rfl, ?_⟩ (by assumption) ?_; rotate_left; (focus (intro w hSw; (try dsimp only at hSw); go_simp; (try with_reducible rfl))); (try simp only [ty9, Act.put])
   refine wpAnyH_ready (rs := [13, 25]) (by kernel_rfl) (by simp) ?_
   refine AllReadyH.cons (o := _) rfl (fun K hK => ?_) ?_
   ·go_simp
    refine hK.out _ _ ?_ (fun hHeld => ?_)
    ·((try dsimp only); go_keep)
    clear hK K
    (try simp only [ty9, Act.put])
    refine wpAnyH_ready (rs := [25]) (by kernel_rfl) (by simp) ?_
    refine AllReadyH.cons (o := _) rfl (fun K hK => ?_) ?_
    ·go_simp
     refine hK.out _ _ ?_ (fun hHeld => ?_)
     ·((try dsimp only); go_keep)
     clear hK K
     (try simp only [ty9, Act.put])
     refine wpAnyH_ready (rs := [26]) (by kernel_rfl) (by simp) ?_
     refine AllReadyH.cons (o := _) rfl (fun K hK => ?_) ?_
     ·(refine step_append_lies _ (by rfl) _ _ _ (by rfl) w.heap.size 128 i0 _ 2 16 Tryz.underlying84 hi0 hz0 hz1 hz2 rfl (by decide) (.slice au N cu) N (BSteps.C (Sy.steps (l.take j) f)) (by rfl) HD.out ⟨wr.heap.size, 0, none⟩ 1 1 [.int .i64 e.2.1, .int .i64 e.2.2] (by rfl) (by rfl) (World.news_of_block (cs := #[.int .i64 e.2.1, .int .i64 e.2.2]) (t := 128) (fr := (0, 0)) (heap_alloc_new wr.drew _)) (by simp [Value.oneCell']) Nat.one_pos hml hby hle (wr.heap.size + 1) (by simp) ?_; intro g4 k4 w4 hown4 hgrow4 hat4 hlt4; have hk4 : Kept (fun b => (Value.slice au N cu).ownBlock = some b) wr w4 := (Kept.of_below ((Below.refl _ wr).drew)).trans (grown_alloc (w := wr.drew) hgrow4); have hA4 := HA.out.1.kept hk4 HKP.out; have cu0 := hA4.cell HA.out.2.2.2.2.2.1; have cuf := hA4.free f; have e0 := kcell hk4 HGL.out e0; have e1 := kcell hk4 HGL.out e1; have e2 := kcell hk4 HGL.out e2; have H4 : Hid _ := And.intro hown4 (And.intro hk4 (And.intro hat4 hA4)); clear hown4 hgrow4 hat4 hlt4 hk4 hA4)
      refine hK.out _ _ ?_ (fun hHeld => ?_)
      ·exact ⟨e0, e1, e2⟩
      clear hK K
      (try simp only [ty9, Act.put])
      refine tk9 27 ?_ rfl (by kernel_rfl) (fun _ _ _ h => h) ⟨by rfl, ?_⟩ (by assumption) ?_; rotate_left; (focus (intro w hSw; (try dsimp only at hSw); go_simp; (try with_reducible rfl))); (try simp only [ty9, Act.put])
      refine wpAnyH_ready (rs := [28]) (by kernel_rfl) (by simp) ?_
      refine AllReadyH.cons (o := _) rfl (fun K hK => ?_) ?_
      ·go_simp
       refine hK.out _ _ ?_ (fun hHeld => ?_)
       ·((try dsimp only); go_keep)
       clear hK K
       (try simp only [ty9, Act.put])
       refine wpAnyH_done (by kernel_rfl) ?_ _
       (try go_simp)
       go_wp2_with fail
       go_roundg (L - (j + 1))
       case measure => omega
       case rel => exact out_round hlt hfn HA.out.2.1 HA.out.2.2.1 HA.out.2.2.2.1 HA.out.2.2.2.2.1 HA.out.2.2.2.2.2.1 HA.out.2.2.2.2.2.2.2 H4.out.1 H4.out.2.1 H4.out.2.2.1 H4.out.2.2.2 hne HGL.out
      exact AllReadyH.nil
     exact AllReadyH.nil
    exact AllReadyH.nil
   refine AllReadyH.cons (o := _) rfl (fun K hK => ?_) ?_
   ·go_simp
    refine hK.out _ _ ?_ (fun hHeld => ?_)
    ·((try dsimp only); go_keep)
    clear hK K
    (try simp only [ty9, Act.put])
    refine wpAnyH_ready (rs := [13]) (by kernel_rfl) (by simp) ?_
    refine AllReadyH.cons (o := _) rfl (fun K hK => ?_) ?_
    ·go_simp
     refine hK.out _ _ ?_ (fun hHeld => ?_)
     ·((try dsimp only); go_keep)
     clear hK K
     (try simp only [ty9, Act.put])
     refine wpAnyH_ready (rs := [26]) (by kernel_rfl) (by simp) ?_
     refine AllReadyH.cons (o := _) rfl (fun K hK => ?_) ?_
     ·(refine step_append_lies _ (by rfl) _ _ _ (by rfl) w.heap.size 128 i0 _ 2 16 Tryz.underlying84 hi0 hz0 hz1 hz2 rfl (by decide) (.slice au N cu) N (BSteps.C (Sy.steps (l.take j) f)) (by rfl) HD.out ⟨wr.heap.size, 0, none⟩ 1 1 [.int .i64 e.2.1, .int .i64 e.2.2] (by rfl) (by rfl) (World.news_of_block (cs := #[.int .i64 e.2.1, .int .i64 e.2.2]) (t := 128) (fr := (0, 0)) (heap_alloc_new wr.drew _)) (by simp [Value.oneCell']) Nat.one_pos hml hby hle (wr.heap.size + 1) (by simp) ?_; intro g4 k4 w4 hown4 hgrow4 hat4 hlt4; have hk4 : Kept (fun b => (Value.slice au N cu).ownBlock = some b) wr w4 := (Kept.of_below ((Below.refl _ wr).drew)).trans (grown_alloc (w := wr.drew) hgrow4); have hA4 := HA.out.1.kept hk4 HKP.out; have cu0 := hA4.cell HA.out.2.2.2.2.2.1; have cuf := hA4.free f; have e0 := kcell hk4 HGL.out e0; have e1 := kcell hk4 HGL.out e1; have e2 := kcell hk4 HGL.out e2; have H4 : Hid _ := And.intro hown4 (And.intro hk4 (And.intro hat4 hA4)); clear hown4 hgrow4 hat4 hlt4 hk4 hA4)
      refine hK.out _ _ ?_ (fun hHeld => ?_)
      ·exact ⟨e0, e1, e2⟩
      clear hK K
      (try simp only [ty9, Act.put])
      refine tk9 27 ?_ rfl (by kernel_rfl) (fun _ _ _ h => h) ⟨by rfl, ?_⟩ (by assumption) ?_; rotate_left; (focus (intro w hSw; (try dsimp only at hSw); go_simp; (try with_reducible rfl))); (try simp only [ty9, Act.put])
      refine wpAnyH_ready (rs := [28]) (by kernel_rfl) (by simp) ?_
      refine AllReadyH.cons (o := _) rfl (fun K hK => ?_) ?_
      ·go_simp
       refine hK.out _ _ ?_ (fun hHeld => ?_)
       ·((try dsimp only); go_keep)
       clear hK K
       (try simp only [ty9, Act.put])
       refine wpAnyH_done (by kernel_rfl) ?_ _
       (try go_simp)
       go_wp2_with fail
       go_roundg (L - (j + 1))
       case measure => omega
       case rel => exact out_round hlt hfn HA.out.2.1 HA.out.2.2.1 HA.out.2.2.2.1 HA.out.2.2.2.2.1 HA.out.2.2.2.2.2.1 HA.out.2.2.2.2.2.2.2 H4.out.1 H4.out.2.1 H4.out.2.2.1 H4.out.2.2.2 hne HGL.out
      exact AllReadyH.nil
     exact AllReadyH.nil
    exact AllReadyH.nil
   exact AllReadyH.nil
  ·obtain rfl : j = L := by omega
   have q1 : ¬ (j : Int) < (j : Int) := by omega
   have HA : Hid _ := And.intro hA hOs
   clear hA hOs hOl
   go_wp2_with fail
   go_ret
   refine ⟨_, rfl, us, HA.out.1, ?_⟩
   have h1 := HA.out.2
   rw [List.take_of_length_le (by have := H1.out.2.2; omega)] at h1
   exact h1
end Go.Proofs.YtplofbabfkkimaaGreatDoor
/- Contract of the document's Back: the edges turned round. -/
namespace Go.Proofs.YtplofbabfkkimaaGreatDoor
open Go.RowKit Go.Maps
attribute [local go_sem ↓] Go.wp_at_zero Go.wp_at_succ
theorem kcell' {w w' : World} {F : Nat → Prop} (hk : Kept F w w') {a : Addr} {v : Value} (hF : ¬ F a.block) (c : w.cell? a = some v) : w'.cell? a = some v := (World.cell?_of_block (a := a) (hk.block a.block (World.block_lt_of_cell? w _ c) hF)).trans c
structure BackAt (w wr : World) (n k s : Int) (v u : Value) (L : List Sy.Ed) : Prop where
 bl : Below w.heap.size w wr
 box : wr.heap[w.heap.size]? = some (.cells #[.int .i64 n, .int .i64 k, .int .i64 s, v] 24 (0, 0))
 res : wr.heap[w.heap.size + 1]? = some (.cells #[.int .i64 0, .int .i64 0, .int .i64 0, .slice none 0 0] 24 (0, 0))
 own : BEdges.Own wr w.heap.size u L
theorem back_grow {w wr w4 : World} {n k s : Int} {v : Value} {au : Option Addr} {N cu g4 k4 : Nat} {L : List Sy.Ed} (h : BackAt w wr n k s v (.slice au N cu) L) (hN : N = L.length) (z : Sy.Ed) (hown : w4.ownsRow w.heap.size 61 3 (.slice (some ⟨g4, 0, none⟩) (N + 1) k4) (N + 1) (BEdges.C L ++ [.int .i64 z.1, .int .i64 z.2.1, .int .i64 z.2.2])) (hk : Kept (fun b => (Value.slice au N cu).ownBlock = some b) wr w4) : BackAt w w4 n k s v (.slice (some ⟨g4, 0, none⟩) (N + 1) k4) (L ++ [z]) := by
 refine ⟨h.bl.trans (hk.below h.bl.size fun b hb => (h.own.lt b hb).1), (hk.block _ (t_lt h.box) (own_bk h.own h.box (by decide))).trans h.box, (hk.block _ (t_lt h.res) (own_bk h.own h.res (by decide))).trans h.res, ?_⟩
 unfold BEdges.Own
 have e1 : (L ++ [z]).length = N + 1 := by rw [List.length_append, hN]; rfl
 rw [e1, BEdges.C_app]
 exact hown
theorem back_round {w wr w4 : World} {n k s : Int} {v : Value} {au : Option Addr} {j m N cu g4 k4 : Nat} {es : List Sy.Ed} {z : Sy.Ed} (h : BackAt w wr n k s v (.slice au N cu) ((es.take j).map Sy.turn)) (hlt : j < m) (hz : es[j]? = some z) (hN : N = j) (hm : m = es.length) (hown : w4.ownsRow w.heap.size 61 3 (.slice (some ⟨g4, 0, none⟩) (N + 1) k4) (N + 1) (BEdges.C ((es.take j).map Sy.turn) ++ [.int .i64 z.2.2, .int .i64 z.2.1, .int .i64 z.1])) (hk : Kept (fun b => (Value.slice au N cu).ownBlock = some b) wr w4) :
 ∃ j1 : Nat, m - (j + 1) = m - j1 ∧ j1 ≤ m ∧ Value.int .i64 ((j : Int) + 1) = .int .i64 j1 ∧ BackAt w w4 n k s v (.slice (some ⟨g4, 0, none⟩) (N + 1) k4) ((es.take j1).map Sy.turn) := by
 have h1 := back_grow h (by rw [hN, List.length_map, List.length_take]; omega) (Sy.turn z) hown hk
 refine ⟨j + 1, rfl, hlt, rfl, ?_⟩
 rw [List.take_add_one, hz, List.map_append]
 exact h1
theorem back_fin {w wr : World} {n k s : Int} {v : Value} {ao : Option Addr} {N c : Nat} {L : List Sy.Ed} (h : BackAt w wr n k s v (.slice ao N c) L) {wf : World} (hwf : wf = (((((wr.setCell ⟨w.heap.size, 3, none⟩ (.slice ao N c)).setCell ⟨w.heap.size + 1, 0, none⟩ (.int .i64 n)).setCell ⟨w.heap.size + 1, 1, none⟩ (.int .i64 k)).setCell ⟨w.heap.size + 1, 2, none⟩ (.int .i64 s)).setCell ⟨w.heap.size + 1, 3, none⟩ (.slice ao N c))) :
 Below w.heap.size w wf ∧ wf.heap[w.heap.size + 1]? = some (.cells #[.int .i64 n, .int .i64 k, .int .i64 s, .slice ao N c] 24 (0, 0)) ∧ BEdges.Own wf w.heap.size (.slice ao N c) L := by
 subst hwf
 have nn : ¬ w.heap.size + 1 = w.heap.size := by omega
 have hgm : (wr.setCell ⟨w.heap.size, 3, none⟩ (.slice ao N c)).heap[w.heap.size + 1]? = some (.cells #[.int .i64 0, .int .i64 0, .int .i64 0, .slice none 0 0] 24 (0, 0)) := (set_other _ _ _ _ _ nn).trans h.res
 refine ⟨four_below (h.bl.setCell (Nat.le_refl _) _) (by omega) _ _ _ _, four_set hgm, trow_at h.own fun b hb => ?_⟩
 have h1 := own_bk h.own h.box (by decide)
 have h2 := own_bk h.own h.res (by decide)
 have e1 : b ≠ w.heap.size + 1 := fun e => h2 (by rw [← e]; exact hb)
 have e2 : b ≠ w.heap.size := fun e => h1 (by rw [← e]; exact hb)
 rw [set_other _ _ _ _ _ e1, set_other _ _ _ _ _ e1, set_other _ _ _ _ _ e1, set_other _ _ _ _ _ e1, set_other _ _ _ _ _ e2]
set_option linter.unusedSimpArgs false in
set_option maxRecDepth 100000 in
set_option maxHeartbeats 8000000 in
theorem refBack_any (n k s : Int) (v : Value) (es : List Sy.Ed) (w : World) (hv : HasE w v es) (hm : es.length ≤ 100000) :
 Calls Tryz.prog 101 #[sysV n k s v] w fun e w' => ∃ u, e = .returned (sysV n k s u) ∧ BEdges.Own w' w.heap.size u (es.map Sy.turn) ∧ Below w.heap.size w w' := by
 obtain ⟨i0, hi0, hz0, hz1, hz2⟩ := info_parts BEdges.Tryz.infoE
 obtain ⟨w1, hw1⟩ : ∃ w1, w1 = (w.alloc (.cells #[.int .i64 n, .int .i64 k, .int .i64 s, v] 24)).alloc (.cells #[.int .i64 0, .int .i64 0, .int .i64 0, .slice none 0 0] 24) := ⟨_, rfl⟩
 have hb1 : Below w.heap.size w w1 := by rw [hw1]; exact ((Below.refl _ _).alloc (Nat.le_refl _) _).alloc (by simp) _
 have hg : w1.heap[w.heap.size + 1]? = some (.cells #[.int .i64 0, .int .i64 0, .int .i64 0, .slice none 0 0] 24 (0, 0)) := by rw [hw1]; exact two_alloc w _ _
 have hg0 : w1.heap[w.heap.size]? = some (.cells #[.int .i64 n, .int .i64 k, .int .i64 s, v] 24 (0, 0)) := by rw [hw1, Below.heap_alloc _ _ _ (by simp)]; exact heap_alloc_new w _
 have hv0 := hv
 obtain ⟨ao, cap, rfl, _, hH⟩ := hv0
 have hB : BackAt w w1 n k s (.slice ao es.length cap) (.slice none 0 0) [] := ⟨hb1, hg0, hg, World.ownsRow_nil _ _ _ _⟩
 obtain ⟨m, hmm⟩ : ∃ m, m = es.length := ⟨_, rfl⟩
 rw [← hmm] at hB hw1 hm hH ⊢
 have H1 : Hid _ := And.intro hB (And.intro hw1 (And.intro hH hmm))
 clear hB hw1 hb1 hg hg0 hH hv hmm
 unfold sysV
 go_enter Tryz.func101, Tryz.ntmps101
 go_wp2_with fail
 rw [← H1.out.2.1]
 go_loopg [3, 4] m (fun q u jv wr => ∃ j : Nat, q = m - j ∧ j ≤ m ∧ jv = .int .i64 j ∧ BackAt w wr n k s (.slice ao m cap) u ((es.take j).map Sy.turn))
 case atStart => exact ⟨0, rfl, Nat.zero_le _, rfl, H1.out.1⟩
 case round =>
  obtain ⟨j, rfl, hj, rfl, hB⟩ := hrel
  obtain ⟨b0, b1, b2, b3⟩ := four_cells hB.box
  by_cases hlt : j < m
  ·obtain ⟨e, he⟩ : ∃ e, es[j]? = some e := ⟨es[j]'(by have := H1.out.2.2.2; omega), List.getElem?_eq_getElem _⟩
   obtain ⟨a0, ha0, c9, _, _⟩ := edge_at H1.out.2.2.1 he
   obtain ⟨a, ha, e0, e1, e2⟩ := edge_at (H1.out.2.2.1.below hB.bl) he
   obtain rfl : a0 = a := Option.some.inj (ha0.symm.trans ha)
   clear ha
   subst ha0
   have hab : (a0.add (j * 3)).block < w.heap.size := World.block_lt_of_cell? w _ c9
   obtain ⟨au, cu, hu⟩ := row_shape hB.own
   have hjl : ((es.take j).map Sy.turn).length = j := by rw [List.length_map, List.length_take]; have := H1.out.2.2.2; omega
   rw [hjl] at hu
   obtain rfl := hu
   have q0 : (0 : Int) ≤ (j : Int) := by omega
   have q1 : (j : Int) < (m : Int) := by omega
   have hml : j + 1 ≤ maxLen := by unfold maxLen; omega
   have hby : (j + 1) * 24 ≤ 140737488355328 := by omega
   have hOu : wr.ownsRow w.heap.size 61 3 (.slice au j cu) j (BEdges.C ((es.take j).map Sy.turn)) := by have h1 := hB.own; unfold BEdges.Own at h1; rw [hjl] at h1; exact h1
   have HD : Hid ((wr.drew.alloc (.cells #[.int .i64 e.2.2, .int .i64 e.2.1, .int .i64 e.1] 61)).ownsRow w.heap.size 61 3 (.slice au j cu) j (BEdges.C ((es.take j).map Sy.turn))) := (World.ownsRow.alloc (trow_at hOu fun _ _ => rfl) _ : (wr.drew.alloc (.cells #[.int .i64 e.2.2, .int .i64 e.2.1, .int .i64 e.1] 61)).ownsRow w.heap.size 61 3 (.slice au j cu) j (BEdges.C ((es.take j).map Sy.turn)))
   have hle : w.heap.size ≤ (wr.drew.alloc (.cells #[.int .i64 e.2.2, .int .i64 e.2.1, .int .i64 e.1] 61)).heap.size := by have := hB.bl.size; simp; omega
   have n1 : (a0.add (j * 3)).block < wr.heap.size := Nat.lt_of_lt_of_le hab hB.bl.size
   have n2 : ¬ (a0.add (j * 3)).block = wr.heap.size := by omega
   have n3 : w.heap.size < wr.heap.size := t_lt hB.box
   have n4 : ¬ w.heap.size = wr.heap.size := by omega
   have HF : Hid (¬ (Value.slice au j cu).ownBlock = some (a0.add (j * 3)).block ∧ ¬ (Value.slice au j cu).ownBlock = some w.heap.size) := (⟨fun h9 => by have := (hOu.lt _ h9).1; omega, own_bk hOu hB.box (by decide)⟩ : ¬ (Value.slice au j cu).ownBlock = some (a0.add (j * 3)).block ∧ ¬ (Value.slice au j cu).ownBlock = some w.heap.size)
   have HA : Hid _ := And.intro hB he
   clear hB he hOu hjl c9 hab b0 b1 b2
   go_upto_region 5 with fail
   refine wp_region_held_drew (S := (fun w' => w'.cell? ⟨w.heap.size, 3, none⟩ = some (.slice (some a0) m cap) ∧ w'.cell? (a0.add (j * 3)) = some (.int .i64 e.1) ∧ w'.cell? ⟨(a0.add (j * 3)).block, (a0.add (j * 3)).off + 1, none⟩ = some (.int .i64 e.2.1) ∧ w'.cell? ⟨(a0.add (j * 3)).block, (a0.add (j * 3)).off + 2, none⟩ = some (.int .i64 e.2.2))) (by kernel_rfl) ?_ (fun hHeld => ?_)
   ·exact ⟨b3, e0, e1, e2⟩
   refine tk9 0 ?_ rfl (by kernel_rfl) (fun _ _ _ h => h) ⟨by rfl, ?_⟩ (by assumption) ?_; rotate_left; (focus (intro w hSw; (try dsimp only at hSw); go_simp; (try with_reducible rfl))); (try simp only [ty9, Act.put])
   refine tk9 1 ?_ rfl (by kernel_rfl) (fun _ _ _ h => h) ⟨by rfl, ?_⟩ (by assumption) ?_; rotate_left; (focus (intro w hSw; (try dsimp only at hSw); go_simp; (try with_reducible rfl))); (try simp only [ty9, Act.put])
   refine tk9 2 ?_ rfl (by kernel_rfl) (fun _ _ _ h => h) ⟨by rfl, ?_⟩ (by assumption) ?_; rotate_left; (focus (intro w hSw; (try dsimp only at hSw); go_simp; (try with_reducible rfl))); (try simp only [ty9, Act.put])
   refine tk9 3 ?_ rfl (by kernel_rfl) (fun _ _ _ h => h) ⟨by rfl, ?_⟩ (by assumption) ?_; rotate_left; (focus (intro w hSw; (try dsimp only at hSw); go_simp; (try with_reducible rfl))); (try simp only [ty9, Act.put])
   refine tk9 4 ?_ rfl (by kernel_rfl) (fun _ _ _ h => h) ⟨by rfl, ?_⟩ (by assumption) ?_; rotate_left; (focus (intro w hSw; (try dsimp only at hSw); go_simp; (try with_reducible rfl))); (try simp only [ty9, Act.put])
   refine tk9 5 ?_ rfl (by kernel_rfl) (fun _ _ _ h => h) ⟨by rfl, ?_⟩ (by assumption) ?_; rotate_left; (focus (intro w hSw; (try dsimp only at hSw); go_simp; (try with_reducible rfl))); (try simp only [ty9, Act.put])
   refine tk9 6 ?_ rfl (by kernel_rfl) (fun _ _ _ h => h) ⟨by rfl, ?_⟩ (by assumption) ?_; rotate_left; (focus (intro w hSw; (try dsimp only at hSw); go_simp; (try with_reducible rfl))); (try simp only [ty9, Act.put])
   refine tk9 7 ?_ rfl (by kernel_rfl) (fun _ _ _ h => h) ⟨by rfl, ?_⟩ (by assumption) ?_; rotate_left; (focus (intro w hSw; (try dsimp only at hSw); go_simp; (try with_reducible rfl))); (try simp only [ty9, Act.put])
   refine tk9 8 ?_ rfl (by kernel_rfl) (fun _ _ _ h => h) ⟨by rfl, ?_⟩ (by assumption) ?_; rotate_left; (focus (intro w hSw; (try dsimp only at hSw); go_simp; (try with_reducible rfl))); (try simp only [ty9, Act.put])
   refine tk9 9 ?_ rfl (by kernel_rfl) (fun _ _ _ h => h) ⟨by rfl, ?_⟩ (by assumption) ?_; rotate_left; (focus (intro w hSw; (try dsimp only at hSw); go_simp; (try with_reducible rfl))); (try simp only [ty9, Act.put])
   refine tk9 10 ?_ rfl (by kernel_rfl) (fun _ _ _ h => h) ⟨by rfl, ?_⟩ (by assumption) ?_; rotate_left; (focus (intro w hSw; (try dsimp only at hSw); go_simp; (try with_reducible rfl))); (try simp only [ty9, Act.put])
   refine tk9 11 ?_ rfl (by kernel_rfl) (fun _ _ _ h => h) ⟨by rfl, ?_⟩ (by assumption) ?_; rotate_left; (focus (intro w hSw; (try dsimp only at hSw); go_simp; (try with_reducible rfl))); (try simp only [ty9, Act.put])
   refine tk9 12 ?_ rfl (by kernel_rfl) (fun _ _ _ h => h) ⟨by rfl, ?_⟩ (by assumption) ?_; rotate_left; (focus (intro w hSw; (try dsimp only at hSw); go_simp; (try with_reducible rfl))); (try simp only [ty9, Act.put])
   refine tk9 13 ?_ rfl (by kernel_rfl) (fun _ _ _ h => h) ⟨by rfl, ?_⟩ (by assumption) ?_; rotate_left; (focus (intro w hSw; (try dsimp only at hSw); go_simp; (try with_reducible rfl))); (try simp only [ty9, Act.put])
   refine tk9 14 ?_ rfl (by kernel_rfl) (fun _ _ _ h => h) ⟨by rfl, ?_⟩ (by assumption) ?_; rotate_left; (focus (intro w hSw; (try dsimp only at hSw); go_simp; (try with_reducible rfl))); (try simp only [ty9, Act.put])
   refine tk9 15 ?_ rfl (by kernel_rfl) (fun _ _ _ h => h) ⟨by rfl, ?_⟩ (by assumption) ?_; rotate_left; (focus (intro w hSw; (try dsimp only at hSw); go_simp; (try with_reducible rfl))); (try simp only [ty9, Act.put])
   refine tk9 16 ?_ rfl (by kernel_rfl) (fun _ _ _ h => h) ⟨by rfl, ?_⟩ (by assumption) ?_; rotate_left; (focus (intro w hSw; (try dsimp only at hSw); go_simp; (try with_reducible rfl))); (try simp only [ty9, Act.put])
   refine tk9 17 ?_ rfl (by kernel_rfl) (fun _ _ _ h => h) ⟨by rfl, ?_⟩ (by assumption) ?_; rotate_left; (focus (intro w hSw; (try dsimp only at hSw); go_simp; (try with_reducible rfl))); (try simp only [ty9, Act.put])
   refine tk9 18 ?_ rfl (by kernel_rfl) (fun _ _ _ h => h) ⟨by rfl, ?_⟩ (by assumption) ?_; rotate_left; (focus (intro w hSw; (try dsimp only at hSw); go_simp; (try with_reducible rfl))); (try simp only [ty9, Act.put])
   refine tk9 19 ?_ rfl (by kernel_rfl) (fun _ _ _ h => h) ⟨by rfl, ?_⟩ (by assumption) ?_; rotate_left; (focus (intro w hSw; (try dsimp only at hSw); go_simp; (try with_reducible rfl))); (try simp only [ty9, Act.put])
   refine wpAnyH_ready (rs := [20]) (by kernel_rfl) (by simp) ?_
   refine AllReadyH.cons (o := _) rfl (fun K hK => ?_) ?_
   ·go_simp
    refine hK.out _ _ ?_ (fun hHeld => ?_)
    ·((try dsimp only); go_keep)
    clear hK K
    (try simp only [ty9, Act.put])
    refine wpAnyH_ready (rs := [21]) (by kernel_rfl) (by simp) ?_
    refine AllReadyH.cons (o := _) rfl (fun K hK => ?_) ?_
    ·(refine step_append_lies _ (by rfl) _ _ _ (by rfl) w.heap.size 61 i0 _ 3 24 Tryz.underlying22 hi0 hz0 hz1 hz2 rfl (by decide) (.slice au j cu) j (BEdges.C ((es.take j).map Sy.turn)) (by rfl) HD.out ⟨wr.heap.size, 0, none⟩ 1 1 [.int .i64 e.2.2, .int .i64 e.2.1, .int .i64 e.1] (by rfl) (by rfl) (World.news_of_block (cs := #[.int .i64 e.2.2, .int .i64 e.2.1, .int .i64 e.1]) (t := 61) (fr := (0, 0)) (heap_alloc_new wr.drew _)) (by simp [Value.oneCell']) Nat.one_pos hml hby hle (wr.heap.size + 1) (by simp) ?_; intro g4 k4 w4 hown4 hgrow4 hat4 hlt4; have hk4 : Kept (fun b => (Value.slice au j cu).ownBlock = some b) wr w4 := (Kept.of_below ((Below.refl _ wr).drew)).trans (grown_alloc (w := wr.drew) hgrow4); have e0 := kcell' hk4 HF.out.1 e0; have e1 := kcell' (a := ⟨(a0.add (j * 3)).block, (a0.add (j * 3)).off + 1, none⟩) hk4 HF.out.1 e1; have e2 := kcell' (a := ⟨(a0.add (j * 3)).block, (a0.add (j * 3)).off + 2, none⟩) hk4 HF.out.1 e2; have b3 := kcell' (a := ⟨w.heap.size, 3, none⟩) hk4 HF.out.2 b3; have H4 : Hid _ := And.intro hown4 hk4; clear hown4 hgrow4 hat4 hlt4 hk4)
     refine hK.out _ _ ?_ (fun hHeld => ?_)
     ·exact ⟨b3, e0, e1, e2⟩
     clear hK K
     (try simp only [ty9, Act.put])
     refine tk9 22 ?_ rfl (by kernel_rfl) (fun _ _ _ h => h) ⟨by rfl, ?_⟩ (by assumption) ?_; rotate_left; (focus (intro w hSw; (try dsimp only at hSw); go_simp; (try with_reducible rfl))); (try simp only [ty9, Act.put])
     refine wpAnyH_done (by kernel_rfl) ?_ _
     (try go_simp)
     go_wp2_with fail
     go_roundg (m - (j + 1))
     case measure => omega
     case rel => exact back_round HA.out.1 hlt HA.out.2 rfl H1.out.2.2.2 H4.out.1 H4.out.2
    exact AllReadyH.nil
   exact AllReadyH.nil
  ·obtain rfl : j = m := by omega
   have q1 : ¬ (j : Int) < (j : Int) := by omega
   have nn : ¬ w.heap.size + 1 = w.heap.size := by omega
   have nn2 : ¬ w.heap.size = w.heap.size + 1 := by omega
   obtain ⟨y0, y1, y2, y3⟩ := four_cells hB.res
   obtain ⟨au, cu, hu⟩ := row_shape hB.own
   have hj9 : es.take j = es := List.take_of_length_le (by have := H1.out.2.2.2; omega)
   have hjl : (es.map Sy.turn).length = j := by rw [List.length_map]; exact H1.out.2.2.2.symm
   rw [hj9] at hB hu
   rw [hjl] at hu
   obtain rfl := hu
   clear hj9 hjl
   have z0 := blk_free hB.res 0
   have z1 := blk_free hB.res 1
   have z2 := blk_free hB.res 2
   have z3 := blk_free hB.res 3
   have z4 := blk_free hB.box 3
   have HA : Hid _ := hB
   clear hB
   go_wp2_with fail
   obtain ⟨h1, h2, h3⟩ := back_fin HA.out rfl
   generalize (((((wr.setCell ⟨w.heap.size, 3, none⟩ (.slice au j cu)).setCell ⟨w.heap.size + 1, 0, none⟩ (.int .i64 n)).setCell ⟨w.heap.size + 1, 1, none⟩ (.int .i64 k)).setCell ⟨w.heap.size + 1, 2, none⟩ (.int .i64 s)).setCell ⟨w.heap.size + 1, 3, none⟩ (.slice au j cu)) = wf at h1 h2 h3 ⊢
   clear y0 y1 y2 y3 z0 z1 z2 z3 z4 b0 b1 b2 b3
   obtain ⟨c0, c1, c2, c3⟩ := four_cells h2
   exact bodyPost_ret (v := .agg #[.int .i64 n, .int .i64 k, .int .i64 s, .slice au j cu]) (by simp [results, Tryz.results101, go_sem, c0, c1, c2, c3]) rfl ⟨_, rfl, h3, h1⟩
end Go.Proofs.YtplofbabfkkimaaGreatDoor
/- The reachable states: plain facts, and what stands in memory while the document's Reach works. -/
namespace Go.Proofs.YtplofbabfkkimaaGreatDoor
open Go.RowKit Go.Maps
structure RcAt (w wr : World) (go gi : Nat) (us : List Value) (n : Nat) (f : Nat → List BSteps.El) (u : Value) (zs : List Int) (bs : List Bool) : Prop where
 out : Arr 84 w wr go us
 rows : Outs wr w.heap.size us n f
 inn : Arr 4 w wr gi (bC bs)
 lst : OwnI wr w.heap.size u zs
end Go.Proofs.YtplofbabfkkimaaGreatDoor
/- Contract of the law's ends: where the steps with a label lead. -/
namespace Go.Proofs.YtplofbabfkkimaaGreatDoor
open Go.RowKit Go.Maps
attribute [local go_sem ↓] Go.wp_at_zero Go.wp_at_succ
def Sy.ends (l : List BSteps.El) (b : Int) : List Int := (l.filter fun x => x.1 == b).map (·.2)
theorem Sy.ends_take {l : List BSteps.El} {j : Nat} {x : BSteps.El} (h : l[j]? = some x) (b : Int) : Sy.ends (l.take (j + 1)) b = if x.1 = b then Sy.ends (l.take j) b ++ [x.2] else Sy.ends (l.take j) b := by
 rw [take_succ_of h]
 unfold Sy.ends
 rw [List.filter_append, List.map_append]
 by_cases e : x.1 = b <;> simp [e]
theorem Sy.ends_len (l : List BSteps.El) (b : Int) : (Sy.ends l b).length ≤ l.length := by
 unfold Sy.ends
 rw [List.length_map]
 exact List.length_filter_le _ _
end Go.Proofs.YtplofbabfkkimaaGreatDoor
/- Contracts of the program's table.ends, By and From. -/
namespace Go.Proofs.YtplofbabfkkimaaGreatDoor
open Go.RowKit Go.Maps
attribute [local go_sem ↓] Go.wp_at_zero Go.wp_at_succ
theorem Sy.str_pair {l : List Sy.Ed} (h : Sy.Str l) : l.Pairwise fun a b => Sy.lt a b = true := by
 induction l with
 | nil => exact .nil
 | cons a r ih => exact List.pairwise_cons.2 ⟨h.head, ih h.tail⟩
theorem hasS_drop {w : World} {av : Option Addr} {M cv : Nat} {zs : List BSteps.El} (h : BSteps.Has w (.slice av M cv) zs) (f c : Nat) (hM : M = zs.length) : BSteps.Has w (.slice (Option.map (fun x => x.add (f * 2)) av) (M - f) c) (zs.drop f) := by
 obtain ⟨ao, cap, he, hc⟩ := h
 injection he with e1 e2 e3
 subst e1
 refine ⟨_, c, by rw [List.length_drop, hM], fun j u hj => ?_⟩
 have hl : j < (zs.drop f).length * 2 := by have := (List.getElem?_eq_some_iff.1 hj).1; rw [BSteps.C_len] at this; exact this
 obtain ⟨z, hz⟩ : ∃ z, (zs.drop f)[j / 2]? = some z := ⟨_, List.getElem?_eq_getElem (by omega)⟩
 have h1 := BSteps.C_at _ (j / 2) z hz (j % 2) (Nat.mod_lt _ (by decide))
 rw [show j / 2 * 2 + j % 2 = j by omega, hj] at h1
 rw [List.getElem?_drop] at hz
 have h2 := BSteps.C_at _ (f + j / 2) z hz (j % 2) (Nat.mod_lt _ (by decide))
 rw [← h1, show (f + j / 2) * 2 + j % 2 = f * 2 + j by omega] at h2
 obtain ⟨a, rfl, hca⟩ := hc _ _ h2
 exact ⟨_, rfl, by rw [Addr.add_add]; exact hca⟩
theorem Sy.rowOf_rise {l : List Sy.Ed} (h : Sy.Str l) (n : Nat) (i : Int) : (Sy.rowOf n l i).Pairwise fun x y => x.1 ≤ y.1 := by
 unfold Sy.rowOf
 split
 ·unfold Sy.steps
  rw [List.pairwise_map]
  refine (((Sy.str_pair h).filter _).imp_of_mem ?_)
  intro a b ha hb hl
  have h1 : a.1 = i := by simpa using (List.mem_filter.1 ha).2
  have h2 : b.1 = i := by simpa using (List.mem_filter.1 hb).2
  rw [Sy.lt_iff] at hl
  show a.2.1 ≤ b.2.1
  omega
 ·exact .nil
theorem bel8 {w W w8 : World} (hb : Below W.heap.size W w8) (h : Below w.heap.size w W) : Below w.heap.size w w8 := h.trans (hb.mono h.size)
theorem Sy.ends_nil_of {zs : List BSteps.El} {b : Int} (h : ∀ z ∈ zs, z.1 ≠ b) : Sy.ends zs b = [] := by
 unfold Sy.ends
 rw [List.filter_eq_nil_iff.2 fun z hz => by simpa using h z hz]
 rfl
theorem Sy.ends_append (xs ys : List BSteps.El) (b : Int) : Sy.ends (xs ++ ys) b = Sy.ends xs b ++ Sy.ends ys b := by simp [Sy.ends]
theorem Sy.ends_cut {zs : List BSteps.El} {b : Int} {i j : Nat} (hs : zs.Pairwise fun x y => x.1 ≤ y.1) (hB : BinAt zs b i i) (hij : i + j ≤ zs.length) (hj : ∀ z, zs[i + j]? = some z → z.1 ≠ b) : Sy.ends zs b = Sy.ends ((zs.drop i).take j) b := by
 have e1 : zs = zs.take i ++ ((zs.drop i).take j ++ (zs.drop i).drop j) := by rw [List.take_append_drop, List.take_append_drop]
 have h1 : Sy.ends (zs.take i) b = [] := Sy.ends_nil_of fun z hz => by
  obtain ⟨k, hk, rfl⟩ := List.mem_iff_getElem.1 hz
  rw [List.length_take] at hk
  have := hB.lo k (zs[k]'(by omega)) (by omega) (List.getElem?_eq_getElem _)
  rw [List.getElem_take]
  omega
 have h2 : Sy.ends ((zs.drop i).drop j) b = [] := Sy.ends_nil_of fun z hz => by
  obtain ⟨k, hk, rfl⟩ := List.mem_iff_getElem.1 hz
  simp only [List.length_drop] at hk
  have h3 := hj (zs[i + j]'(by omega)) (List.getElem?_eq_getElem _)
  have h4 := hB.hi (i + j) (zs[i + j]'(by omega)) (by omega) (List.getElem?_eq_getElem _)
  simp only [List.getElem_drop]
  by_cases e : k = 0
  ·subst e; simpa using h3
  ·have := List.pairwise_iff_getElem.1 hs (i + j) (i + (j + k)) (by omega) (by omega) (by omega)
   omega
 conv => lhs; rw [e1]
 rw [Sy.ends_append, Sy.ends_append, h1, h2]
 simp
set_option maxRecDepth 100000 in
set_option maxHeartbeats 8000000 in
theorem tends_any (bs bb m n B : Nat) (l : List Sy.Ed) (i b : Int) (w : World) (hn : n ≤ 100000) (hl : l.length = m) (hm : m ≤ 100000) (hs : Sy.Str l) (hT : Tb w B bs bb n l) :
 Calls Tryz.prog 131 #[tabV bs bb m n, .int .i64 i, .int .i64 b] w fun r w' => ∃ u, r = .returned u ∧ OwnI w' w.heap.size u (Sy.ends (Sy.rowOf n l i) b) ∧ Below w.heap.size w w' := by
 obtain ⟨i0, hi0, hz0, hz1, hz2⟩ := info_parts Tryz.infoI4
 obtain ⟨w1, hw1⟩ : ∃ w1, w1 = w.alloc (.cells #[.slice (some ⟨bs, 0, none⟩) m m, .slice (some ⟨bb, 0, none⟩) (n + 1) (n + 1)] 111) := ⟨_, rfl⟩
 have hb1 : Below w.heap.size w w1 := by rw [hw1]; exact (Below.refl _ _).alloc (Nat.le_refl _) _
 have hg1 : w1.heap[w.heap.size]? = some (.cells #[.slice (some ⟨bs, 0, none⟩) m m, .slice (some ⟨bb, 0, none⟩) (n + 1) (n + 1)] 111 (0, 0)) := by rw [hw1]; exact heap_alloc_new w _
 have hR := row2_any bs bb m n B l i w1 hn hl (str_rows hs) (hT.below hb1)
 obtain ⟨zs, hzs⟩ : ∃ zs, zs = Sy.rowOf n l i := ⟨_, rfl⟩
 have hrise := Sy.rowOf_rise hs n i
 have hzl := rowOf_len n l i
 rw [← hzs] at hR hrise hzl ⊢
 have c0 : w1.cell? ⟨w.heap.size, 0, none⟩ = some (.slice (some ⟨bs, 0, none⟩) m m) := cell0_of hg1 rfl
 have c1 : w1.cell? ⟨w.heap.size, 1, none⟩ = some (.slice (some ⟨bb, 0, none⟩) (n + 1) (n + 1)) := cell0_of hg1 rfl
 unfold tabV at hR ⊢
 have H1 : Hid _ := And.intro hw1 (And.intro hb1 (And.intro hR (And.intro hrise (And.intro (hT.below hb1) hzl))))
 have hzm : zs.length ≤ 100000 := by omega
 have HT0 : Hid _ := hT
 clear hw1 hb1 hg1 hR hT hrise hs hzs hl hzl
 go_enter Tryz.func131, Tryz.ntmps131
 go_upto_region 1 with fail
 rw [← H1.out.1]
 go_wp2_with fail
 refine Calls.mono H1.out.2.2.1 ?_
 rintro r w2 ⟨v, rfl, hv, hcap, hb2⟩
 have hT2 := H1.out.2.2.2.2.1.below hb2
 obtain ⟨av, cv, rfl, _⟩ := hv w2 hT2
 have hBi := bin_any _ zs b w2 (hv w2 hT2) H1.out.2.2.2.1 hzm
 obtain ⟨M, hM⟩ : ∃ M, M = zs.length := ⟨_, rfl⟩
 rw [← hM] at hv hBi hzm hcap ⊢
 have hMc : M ≤ cv := by
  obtain ⟨a', k', c', he, hkc⟩ := hcap
  injection he with e1 e2 e3
  omega
 have H2 : Hid _ := And.intro hBi (And.intro hv (And.intro hT2 (And.intro (bel8 hb2 H1.out.2.1) hM)))
 clear hBi hv hT2 hb2 hM c0 c1 hcap
 go_wp2_with fail
 refine Calls.mono H2.out.1 ?_
 rintro r w3 ⟨f, fb, rfl, hfM, hBA, hb3⟩
 have hf0 : (0 : Int) ≤ (f : Int) := by omega
 have hf1 : (f : Int) ≤ (M : Int) := by omega
 have H3 : Hid _ := And.intro hBA (And.intro (H2.out.2.2.1.below hb3) (bel8 hb3 H2.out.2.2.2.1))
 clear hBA hb3
 by_cases hcf : cv = f
 ·obtain rfl : f = M := by omega
  subst hcf
  have z0 : cv - cv = 0 := Nat.sub_self _
  go_wp2_with fail
  go_loopg [10, 26] 0 (fun q uv kv wr => q = 0 ∧ kv = .int .i64 0 ∧ uv = .slice none 0 0 ∧ wr = w3)
  case atStart => exact ⟨rfl, rfl, rfl, rfl⟩
  case round =>
   obtain ⟨rfl, rfl, rfl, rfl⟩ := hrel
   go_wp2_with fail
   go_ret
   refine ⟨_, rfl, ?_, H3.out.2.2⟩
   rw [Sy.ends_cut (j := 0) H1.out.2.2.2.1 H3.out.1 (by have := H2.out.2.2.2.2; omega) (fun z hz => by have := (List.getElem?_eq_some_iff.1 hz).1; have := H2.out.2.2.2.2; omega)]
   exact World.ownsRow_nil _ _ _ _
 ·have hD := fun W (hW : Tb W B bs bb n l) => hasS_drop (H2.out.2.1 W hW) f (cv - f) H2.out.2.2.2.2
  go_wp2_with fail
  obtain ⟨R, hR⟩ : ∃ R, R = M - f := ⟨_, rfl⟩
  obtain ⟨a2, ha2⟩ : ∃ a2, a2 = Option.map (fun (x : Addr) => x.add (f * 2)) av := ⟨_, rfl⟩
  obtain ⟨c2, hc2⟩ : ∃ c2, c2 = cv - f := ⟨_, rfl⟩
  rw [← hR, ← ha2, ← hc2] at hD
  rw [← hR, ← ha2, ← hc2]
  have hR2 : f + R = M := by omega
  have H4 : Hid _ := And.intro hD hR2
  clear hD hR ha2 hc2 hR2
  have hRm : R ≤ 100000 := by have := H4.out.2; omega
  go_loopg [10, 26] R (fun q uv kv wr => ∃ j : Nat, q = R - j ∧ j ≤ R ∧ kv = .int .i64 j ∧ OwnI wr w.heap.size uv (Sy.ends ((zs.drop f).take j) b) ∧ Below w.heap.size w wr)
  case atStart => exact ⟨0, rfl, Nat.zero_le _, rfl, World.ownsRow_nil _ _ _ _, H3.out.2.2⟩
  case round =>
   obtain ⟨j, rfl, hj, rfl, hO, hb⟩ := hrel
   obtain ⟨au, cu, hu⟩ := row_shape hO
   obtain ⟨ys, hys⟩ : ∃ ys, ys = Sy.ends ((zs.drop f).take j) b := ⟨_, rfl⟩
   rw [← hys] at hO hu
   obtain ⟨N, hN⟩ : ∃ N, N = ys.length := ⟨_, rfl⟩
   rw [← hN] at hu
   subst hu
   by_cases hlt : j < R
   ·obtain ⟨x, hx⟩ : ∃ x, (zs.drop f)[j]? = some x := ⟨(zs.drop f)[j]'(by have := H4.out.2; have := H2.out.2.2.2.2; rw [List.length_drop]; omega), List.getElem?_eq_getElem _⟩
    obtain ⟨a, rfl, d0, d1⟩ := step_at (H4.out.1 wr (HT0.out.below hb)) hx
    have hst := Sy.ends_take hx b
    have hno := fun (hxb : x.1 ≠ b) => Sy.ends_cut (j := j) H1.out.2.2.2.1 H3.out.1 (by have := H2.out.2.2.2.2; have := H4.out.2; omega) (fun z hz => by rw [List.getElem?_drop] at hx; rw [hx] at hz; cases hz; exact hxb)
    obtain ⟨x1, x2⟩ := x
    simp only at d0 d1 hst hno
    obtain ⟨wb, hwb⟩ : ∃ wb, wb = wr.alloc (.cells #[.int .i64 x1, .int .i64 x2] 128) := ⟨_, rfl⟩
    have hbb : Below wr.heap.size wr wb := by rw [hwb]; exact (Below.refl _ _).alloc (Nat.le_refl _) _
    have hgb : wb.heap[wr.heap.size]? = some (.cells #[.int .i64 x1, .int .i64 x2] 128 (0, 0)) := by rw [hwb]; exact heap_alloc_new wr _
    have f0 : wb.cell? ⟨wr.heap.size, 0, none⟩ = some (.int .i64 x1) := cell0_of hgb rfl
    have f1 : wb.cell? ⟨wr.heap.size, 1, none⟩ = some (.int .i64 x2) := cell0_of hgb rfl
    have hOb : OwnI wb w.heap.size (.slice au N cu) ys := trow_at hO fun b hb => hbb.block b (hO.lt b hb).2
    have hOz : wb.ownsRow w.heap.size 3 1 (.slice au N cu) N (iC ys) := by have h1 := hOb; unfold OwnI at h1; rw [← hN] at h1; exact h1
    have hbw : Below w.heap.size w wb := hb.trans (hbb.mono hb.size)
    have hle : w.heap.size ≤ (wb.alloc (.cells #[.int .i64 x2] 3)).heap.size := by have := hbw.size; simp; omega
    have hNl : N ≤ 100000 := by have := Sy.ends_len ((zs.drop f).take j) b; rw [List.length_take, List.length_drop] at this; rw [hN, hys]; omega
    have hml : N + 1 ≤ maxLen := by unfold maxLen; omega
    have hby : (N + 1) * 8 ≤ 140737488355328 := by omega
    have q0 : (0 : Int) ≤ (j : Int) := by omega
    have q1 : (j : Int) < (R : Int) := by omega
    have HZ : Hid _ := And.intro hOz (And.intro hbw (And.intro hwb (And.intro hys (And.intro hst (And.intro hN (And.intro hOb hno))))))
    clear hO hOb hOz hbw hwb hbb hgb hys hst hN hx hb hno
    by_cases hxb : x1 = b
    ·have e1 : (x1 != b) = false := by simp [hxb]
     have HX : Hid (x1 = b) := hxb
     clear hxb
     go_upto_region 7 with fail
     rw [← HZ.out.2.2.1]
     go_wp2_with (at_builtin; refine wpList_append_own_at _ rfl _ _ 45 rfl w.heap.size 3 i0 (.int .i64 0) 1 8 Tryz.underlying45 hi0 hz0 hz1 hz2 rfl (by decide) (.slice au N cu) N (iC ys) rfl (HZ.out.1.alloc _) ⟨wb.heap.size, 0, none⟩ 1 1 [.int .i64 x2] rfl rfl (World.news_of_block (cs := #[.int .i64 x2]) (t := 3) (fr := (0, 0)) (heap_alloc_new wb _)) (by simp [Value.oneCell']) hml hby hle ?_; intro v5 w5 hO5 hg5 hnil5 hat5; have H5 : Hid _ := And.intro hO5 hg5; clear hO5 hg5 hnil5 hat5)
     go_roundg (R - (j + 1))
     case measure => omega
     case rel =>
      refine ⟨j + 1, rfl, by omega, by go_num, ?_, ?_⟩
      ·rw [HZ.out.2.2.2.2.1, if_pos HX.out, ← HZ.out.2.2.2.1]
       unfold OwnI
       rw [iC_snoc, List.length_append, ← HZ.out.2.2.2.2.2.1]
       exact H5.out.1
      ·exact HZ.out.2.1.trans ((grown_alloc H5.out.2).below HZ.out.2.1.size fun b hb => (HZ.out.1.lt b hb).1)
    ·have e1 : (x1 != b) = true := by simp [hxb]
     have HX : Hid (x1 ≠ b) := hxb
     clear hxb
     go_upto_region 7 with fail
     rw [← HZ.out.2.2.1]
     go_wp2_with fail
     go_ret
     refine ⟨_, rfl, ?_, HZ.out.2.1⟩
     rw [HZ.out.2.2.2.2.2.2.2 HX.out, ← HZ.out.2.2.2.1]
     exact HZ.out.2.2.2.2.2.2.1
   ·obtain rfl : j = R := by omega
    have q1 : ¬ (j : Int) < (j : Int) := by omega
    have HO : Hid _ := And.intro hO (And.intro hb hys)
    clear hO hb hys hN
    go_wp2_with fail
    go_ret
    refine ⟨_, rfl, ?_, HO.out.2.1⟩
    rw [Sy.ends_cut (j := j) H1.out.2.2.2.1 H3.out.1 (by have := H2.out.2.2.2.2; have := H4.out.2; omega) (fun z hz => by have := (List.getElem?_eq_some_iff.1 hz).1; have := H2.out.2.2.2.2; have := H4.out.2; omega), ← HO.out.2.2]
    exact HO.out.1
set_option maxRecDepth 100000 in
set_option maxHeartbeats 1000000 in
theorem by_any {B g bs bb cs cb n : Nat} {k s : Int} {es : List Sy.Ed} (i b : Int) (w : World) (h : Gr w B g bs bb cs cb n k s es) : Calls Tryz.prog 90 #[.pointer (some ⟨g, 0, none⟩), .int .i64 i, .int .i64 b] w fun r w' => ∃ u, r = .returned u ∧ OwnI w' w.heap.size u (Sy.ends (Sy.rowOf n (Sy.nf es) i) b) ∧ Below w.heap.size w w' := by
 obtain ⟨_, _, _, ⟨c0, c1⟩, _, _⟩ := h.cells
 have hq := Tryz.eqG g
 have hs := h.sizes
 have hR := tends_any bs bb (Sy.nf es).length n B (Sy.nf es) i b w (by omega) (rfl) (by omega) (Sy.nf_str _) h.out
 unfold tabV at hR
 have HR : Hid _ := hR
 obtain ⟨L, hL⟩ : ∃ L, L = (Sy.nf es).length := ⟨_, rfl⟩
 rw [← hL] at c0 HR
 clear h hR hL hs
 go_enter Tryz.func90, Tryz.ntmps90
 go_wp2_with fail
 refine Calls.mono HR.out ?_
 rintro r w1 ⟨u, rfl, hO, hb⟩
 have H1 : Hid _ := And.intro hO hb
 clear hO hb
 go_wp2_with fail
 go_ret
 exact ⟨_, rfl, H1.out.1, H1.out.2⟩
set_option maxRecDepth 100000 in
set_option maxHeartbeats 1000000 in
theorem from_any {B g bs bb cs cb n : Nat} {k s : Int} {es : List Sy.Ed} (i b : Int) (w : World) (h : Gr w B g bs bb cs cb n k s es) : Calls Tryz.prog 96 #[.pointer (some ⟨g, 0, none⟩), .int .i64 i, .int .i64 b] w fun r w' => ∃ u, r = .returned u ∧ OwnI w' w.heap.size u (Sy.ends (Sy.rowOf n (Sy.nf ((Sy.nf es).map Sy.turn)) i) b) ∧ Below w.heap.size w w' := by
 obtain ⟨_, _, _, _, c0, c1⟩ := h.cells
 have hq := Tryz.eqG g
 have hs := h.sizes
 have hR := tends_any cs cb (Sy.nf es).length n B (Sy.nf ((Sy.nf es).map Sy.turn)) i b w (by omega) (nf_turn_len es) (by omega) (Sy.nf_str _) h.inn
 unfold tabV at hR
 have HR : Hid _ := hR
 obtain ⟨L, hL⟩ : ∃ L, L = (Sy.nf es).length := ⟨_, rfl⟩
 rw [← hL] at c0 HR
 clear h hR hL hs
 go_enter Tryz.func96, Tryz.ntmps96
 go_wp2_with fail
 refine Calls.mono HR.out ?_
 rintro r w1 ⟨u, rfl, hO, hb⟩
 have H1 : Hid _ := And.intro hO hb
 clear hO hb
 go_wp2_with fail
 go_ret
 exact ⟨_, rfl, H1.out.1, H1.out.2⟩
end Go.Proofs.YtplofbabfkkimaaGreatDoor
/- The one form of classes: who is together, the form of the form, when two have one. Plain facts. -/
namespace Go.Proofs.YtplofbabfkkimaaGreatDoor.Sy
theorem place_lt {c : Int} {l : List Int} : place c l < l.length ↔ c ∈ l := by
 induction l with
 | nil => simp [place]
 | cons a r ih =>
   unfold place
   by_cases h : a = c
   ·simp [h]
   ·rw [if_neg h, List.length_cons, Nat.add_lt_add_iff_right, ih, List.mem_cons]
    exact ⟨fun h1 => .inr h1, fun h1 => h1.elim (fun e => absurd e.symm h) id⟩
theorem place_not {c : Int} {l : List Int} (h : c ∉ l) : place c l = l.length := by
 have h1 := place_le c l
 have h2 : ¬ place c l < l.length := fun h2 => h (place_lt.1 h2)
 omega
theorem place_at {c : Int} {l : List Int} (h : c ∈ l) : l[place c l]? = some c := by
 induction l with
 | nil => simp at h
 | cons a r ih =>
   unfold place
   by_cases h1 : a = c
   ·simp [h1]
   ·rw [if_neg h1, List.getElem?_cons_succ]
    exact ih ((List.mem_cons.1 h).elim (fun e => absurd e.symm h1) id)
theorem place_inj {a b : Int} {l : List Int} (ha : a ∈ l) (hb : b ∈ l) (h : place a l = place b l) : a = b := by
 have h1 := place_at ha
 rw [h, place_at hb] at h1
 exact (Option.some.inj h1).symm
theorem place_left {c : Int} {a : List Int} (b : List Int) (h : c ∈ a) : place c (a ++ b) = place c a := by
 induction a with
 | nil => simp at h
 | cons x r ih =>
   simp only [List.cons_append, place]
   by_cases h1 : x = c
   ·simp [h1]
   ·rw [if_neg h1, if_neg h1, ih ((List.mem_cons.1 h).elim (fun e => absurd e.symm h1) id)]
def more (c : Int) (seen : List Int) : List Int := if place c seen < seen.length then seen else seen ++ [c]
theorem more_mem (c : Int) (seen : List Int) : c ∈ more c seen := by
 unfold more
 split
 ·next h => exact place_lt.1 h
 ·exact List.mem_append_right _ (List.mem_singleton.2 rfl)
theorem more_pre (c : Int) (seen : List Int) : ∃ t, more c seen = seen ++ t := by
 unfold more
 split
 ·exact ⟨[], by simp⟩
 ·exact ⟨[c], rfl⟩
theorem more_place (c : Int) (seen : List Int) : place c (more c seen) = place c seen := by
 unfold more
 split
 ·rfl
 ·next h =>
  have h1 : c ∉ seen := fun h1 => h (place_lt.2 h1)
  rw [place_app c seen [c] (fun x hx e => h1 (by rw [← e]; exact hx)), place_not h1]
  simp [place]
theorem seenG_pre (l : List Int) : ∀ seen, ∃ t, seenG seen l = seen ++ t := by
 induction l with
 | nil => intro seen; exact ⟨[], by simp [seenG]⟩
 | cons c r ih =>
   intro seen
   obtain ⟨t, ht⟩ := ih (more c seen)
   obtain ⟨u, hu⟩ := more_pre c seen
   refine ⟨u ++ t, ?_⟩
   show seenG (more c seen) r = _
   rw [ht, hu, List.append_assoc]
theorem seenG_mem (l : List Int) : ∀ seen, ∀ z ∈ l, z ∈ seenG seen l := by
 induction l with
 | nil => intro seen z h; simp at h
 | cons c r ih =>
   intro seen z hz
   show z ∈ seenG (more c seen) r
   rcases List.mem_cons.1 hz with rfl | hz
   ·obtain ⟨t, ht⟩ := seenG_pre r (more z seen)
    rw [ht]; exact List.mem_append_left _ (more_mem z seen)
   ·exact ih _ z hz
theorem canonG_map (l : List Int) : ∀ seen, canonG seen l = l.map fun z => place z (seenG seen l) := by
 induction l with
 | nil => intro seen; rfl
 | cons c r ih =>
   intro seen
   show place c seen :: canonG (more c seen) r = place c (seenG (more c seen) r) :: r.map fun z => place z (seenG (more c seen) r)
   rw [ih]
   congr 1
   obtain ⟨t, ht⟩ := seenG_pre r (more c seen)
   rw [ht, place_left t (more_mem c seen), more_place]
theorem canon_map (l : List Int) : canon l = l.map fun z => place z (seenG [] l) := canonG_map l []
theorem place_map (f : Int → Int) (c : Int) (l : List Int) (h : ∀ x ∈ l, f x = f c → x = c) : place (f c) (l.map f) = place c l := by
 induction l with
 | nil => rfl
 | cons a r ih =>
   simp only [List.map_cons, place]
   by_cases h1 : a = c
   ·simp [h1]
   ·rw [if_neg h1, if_neg (fun e => h1 (h a List.mem_cons_self e)), ih fun x hx => h x (List.mem_cons_of_mem _ hx)]
theorem canonG_inj (f : Int → Int) (l : List Int) : ∀ seen, (∀ x ∈ seen ++ l, ∀ y ∈ seen ++ l, f x = f y → x = y) → canonG (seen.map f) (l.map f) = canonG seen l := by
 induction l with
 | nil => intro seen _; rfl
 | cons c r ih =>
   intro seen h
   have hp : place (f c) (seen.map f) = place c seen := place_map f c seen fun x hx e => h x (List.mem_append_left _ hx) c (List.mem_append_right _ List.mem_cons_self) e
   have hm : more (f c) (seen.map f) = (more c seen).map f := by
    unfold more
    rw [hp, List.length_map]
    split
    ·rfl
    ·simp
   show place (f c) (seen.map f) :: canonG (more (f c) (seen.map f)) (r.map f) = place c seen :: canonG (more c seen) r
   rw [hp, hm, ih (more c seen)]
   have hsub : ∀ x ∈ more c seen ++ r, x ∈ seen ++ c :: r := fun x hx => by
    rcases List.mem_append.1 hx with hx | hx
    ·unfold more at hx
     split at hx
     ·exact List.mem_append_left _ hx
     ·rcases List.mem_append.1 hx with hx | hx
      ·exact List.mem_append_left _ hx
      ·rw [List.mem_singleton.1 hx]; exact List.mem_append_right _ List.mem_cons_self
    ·exact List.mem_append_right _ (List.mem_cons_of_mem _ hx)
   exact fun x hx y hy e => h x (hsub x hx) y (hsub y hy) e
theorem canon_inj (f : Int → Int) (l : List Int) (h : ∀ x ∈ l, ∀ y ∈ l, f x = f y → x = y) : canon (l.map f) = canon l := canonG_inj f l [] (by simpa using h)
theorem natI_map (l : List Int) : natI (canon l) = l.map fun z => ((place z (seenG [] l) : Nat) : Int) := by
 rw [canon_map]; simp [natI]
theorem canon_idem (l : List Int) : canon (natI (canon l)) = canon l := by
 rw [natI_map]
 refine canon_inj _ l fun x hx y hy e => place_inj (seenG_mem l [] x hx) (seenG_mem l [] y hy) (by omega)
theorem canon_eq {l : List Int} {i k : Nat} {x y : Int} (hi : l[i]? = some x) (hk : l[k]? = some y) {u v : Int} (hu : (natI (canon l))[i]? = some u) (hv : (natI (canon l))[k]? = some v) : u = v ↔ x = y := by
 rw [natI_map, List.getElem?_map, hi] at hu
 rw [natI_map, List.getElem?_map, hk] at hv
 simp only [Option.map_some, Option.some.injEq] at hu hv
 subst hu; subst hv
 constructor
 ·intro e
  exact place_inj (seenG_mem l [] x (List.mem_of_getElem? hi)) (seenG_mem l [] y (List.mem_of_getElem? hk)) (by omega)
 ·rintro rfl; rfl
theorem canon_iff {a b : List Int} (hl : a.length = b.length) : canon a = canon b ↔ ∀ (i k : Nat) (x y u v : Int), a[i]? = some x → a[k]? = some y → b[i]? = some u → b[k]? = some v → (x = y ↔ u = v) := by
 constructor
 ·intro h i k x y u v hx hy hu hv
  have hil := (List.getElem?_eq_some_iff.1 hx).1
  have hkl := (List.getElem?_eq_some_iff.1 hy).1
  have hn : (natI (canon a)).length = a.length := by rw [natI_map, List.length_map]
  obtain ⟨p, hp⟩ : ∃ p, (natI (canon a))[i]? = some p := ⟨_, List.getElem?_eq_getElem (by rw [hn]; exact hil)⟩
  obtain ⟨q, hq⟩ : ∃ q, (natI (canon a))[k]? = some q := ⟨_, List.getElem?_eq_getElem (by rw [hn]; exact hkl)⟩
  exact (canon_eq hx hy hp hq).symm.trans (canon_eq hu hv (by rw [← h]; exact hp) (by rw [← h]; exact hq))
 ·intro h
  have hb : b = a.map fun z => (b[place z a]?).getD 0 := by
   apply List.ext_getElem?
   intro i
   by_cases hi : i < a.length
   ·have hx : a[i]? = some a[i] := List.getElem?_eq_getElem hi
    have hu : b[i]? = some (b[i]'(by omega)) := List.getElem?_eq_getElem _
    have hm : a[i] ∈ a := List.getElem_mem hi
    have hp := place_at hm
    have hpl : place a[i] a < a.length := place_lt.2 hm
    have hv : b[place a[i] a]? = some (b[place a[i] a]'(by omega)) := List.getElem?_eq_getElem _
    rw [List.getElem?_map, hx, hu]
    simp only [Option.map_some]
    rw [hv]
    have h2 := (h i (place a[i] a) _ _ _ _ hx hp hu hv).1 rfl
    rw [h2]; rfl
   ·rw [List.getElem?_eq_none (by omega), List.getElem?_eq_none (by rw [List.length_map]; omega)]
  rw [hb]
  refine (canon_inj _ a fun x hx y hy e => ?_).symm
  have hxl : place x a < b.length := by rw [← hl]; exact place_lt.2 hx
  have hyl : place y a < b.length := by rw [← hl]; exact place_lt.2 hy
  have hu : b[place x a]? = some b[place x a] := List.getElem?_eq_getElem hxl
  have hv : b[place y a]? = some b[place y a] := List.getElem?_eq_getElem hyl
  rw [hu, hv] at e
  exact (h _ _ _ _ _ _ (place_at hx) (place_at hy) hu hv).2 e
theorem formG_canon (l : List Int) : ∀ seen, formG seen.length (natI (canonG seen l)) = true := by
 induction l with
 | nil => intro seen; rfl
 | cons c r ih =>
   intro seen
   have h1 := ih (more c seen)
   show (decide ((0 : Int) ≤ ((place c seen : Nat) : Int) ∧ ((place c seen : Nat) : Int) ≤ (seen.length : Int)) && formG (if ((place c seen : Nat) : Int) = (seen.length : Int) then seen.length + 1 else seen.length) (natI (canonG (more c seen) r))) = true
   have h2 := place_le c seen
   rw [decide_eq_true (by omega), Bool.true_and]
   have h3 : (more c seen).length = if ((place c seen : Nat) : Int) = (seen.length : Int) then seen.length + 1 else seen.length := by
    unfold more
    by_cases e : place c seen < seen.length
    ·rw [if_pos e, if_neg (by omega)]
    ·rw [if_neg e, if_pos (by omega)]; simp
   rw [← h3]
   exact h1
end Go.Proofs.YtplofbabfkkimaaGreatDoor.Sy
/- Contracts of the program's numbered, Canon, Together and Classes. -/
namespace Go.Proofs.YtplofbabfkkimaaGreatDoor
open Go.RowKit Go.Maps
attribute [local go_sem ↓] Go.wp_at_zero Go.wp_at_succ
structure MapI (D : DataW Unit) (ns : List Int) : Prop where
 yes : ∀ (i : Nat) (z : Int), ns[i]? = some z → Maps.has D (.int .i64 z) = true ∧ D.atKey (.int .i64 z) (.lit (.int .i64 0)) = .lit (.int .i64 i)
 no : ∀ z : Int, z ∉ ns → Maps.has D (.int .i64 z) = false
 size : Maps.size D = ns.length
theorem MapI.nil : MapI (.map []) [] := ⟨fun i s h => by simp at h, fun s _ => rfl, rfl⟩
theorem ikey_inj {a b : Int} (h : Lit.int .i64 a = Lit.int .i64 b) : a = b := by injection h
theorem MapI.snoc {D : DataW Unit} {ns : List Int} (h : MapI D ns) (hD : IsMap D) (hT : Tidy D) (s : Int) (hs : s ∉ ns) : MapI (D.put (.int .i64 s) (.lit (.int .i64 ns.length))) (ns ++ [s]) := by
 refine ⟨fun i t ht => ?_, fun t ht => ?_, ?_⟩
 ·rcases Nat.lt_or_ge i ns.length with hi | hi
  ·rw [List.getElem?_append_left hi] at ht
   have hne : Lit.int .i64 t ≠ Lit.int .i64 s := fun e => hs (ikey_inj e ▸ List.mem_of_getElem? ht)
   rw [has_put_other hne, atKey_put_other hne]
   exact h.yes i t ht
  ·rw [List.getElem?_append_right hi] at ht
   have hi0 : i - ns.length = 0 := by
    have := (List.getElem?_eq_some_iff.1 ht).1
    simp at this; omega
   rw [hi0] at ht
   simp at ht
   subst ht
   have : i = ns.length := by omega
   subst this
   have hk : WideAt.IsKeyLit (.int .i64 s) := trivial
   exact ⟨has_put_same hD hk _, atKey_put_same hD hk _ _⟩
 ·have hne : Lit.int .i64 t ≠ Lit.int .i64 s := fun e => ht (by rw [ikey_inj e]; simp)
  rw [has_put_other hne]
  exact h.no t fun hm => ht (by simp [hm])
 ·rw [size_put hT, h.no s hs]
  simp [h.size]
theorem Sy.place_mem {z : Int} {l : List Int} : Sy.place z l < l.length ↔ z ∈ l := by
 induction l with
 | nil => simp [Sy.place]
 | cons a r ih =>
   unfold Sy.place
   by_cases h : a = z
   ·simp [h]
   ·have h2 : z ≠ a := fun e => h e.symm
    simp [h, h2, ← ih]
theorem Sy.place_no {z : Int} {l : List Int} (h : z ∉ l) : Sy.place z l = l.length := by
 have h1 := Sy.place_le z l
 have h2 : ¬ Sy.place z l < l.length := fun e => h (Sy.place_mem.1 e)
 omega
theorem Tryz.lawI7 : Keyed Tryz.prog 3 := int_keyed Tryz.underlying3
theorem Tryz.zeroI7 (w : World) : (zeroValue 3).run Tryz.prog w = .ok (.int .i64 0) w := by kernel_rfl
structure NumAt (w wr : World) (zs : List Int) (n i : Nat) (D : DataW Unit) (seen : List Int) : Prop where
 arr : Arr 3 w wr (w.heap.size + 1) (natC (Sy.canonG [] (zs.take i)) ++ List.replicate (n - i) (.int .i64 0))
 own : wr.ownsMap (H := Unit) Tryz.prog 3 (plainElem Tryz.prog 3) w.heap.size seen.length D
 map : MapI D seen
theorem Sy.top_canonG (l : List Int) : ∀ seen : List Int, max seen.length (Sy.top (Sy.canonG seen l)) = (Sy.seenG seen l).length := by
 induction l with
 | nil => intro seen; simp [Sy.canonG, Sy.top, Sy.seenG]
 | cons c r ih =>
   intro seen
   simp only [Sy.canonG, Sy.top, Sy.seenG]
   rw [← ih]
   have h1 := Sy.place_le c seen
   split <;> (try simp) <;> omega
theorem Sy.together_eq (zs : List Int) : Sy.together zs = (Sy.seenG [] zs).length := by
 rw [← Sy.top_canonG zs []]
 simp [Sy.together, Sy.canon]
theorem arr_mapTurn {w wr w3 : World} {gi : Nat} {vs : List Value} {bm : Nat} (h : Arr 3 w wr gi vs) (hg : wr.grownBy w3 (some bm)) (hb : w.heap.size ≤ bm) (hne : bm ≠ gi) : Arr 3 w w3 gi vs :=
 h.kept (Kept.of_grown hg) fun b e => by injection e with e; subst e; exact ⟨hb, hne⟩
theorem num_step {w w3 w4 : World} {zs : List Int} {n i k : Nat} {D2 : DataW Unit} {seen s2 : List Int} {z : Int} (hz : zs[i]? = some z) (hi : i < n) (hn : n = zs.length) (hs : seen = Sy.seenG [] (zs.take i)) (hA : Arr 3 w w3 (w.heap.size + 1) (natC (Sy.canonG [] (zs.take i)) ++ List.replicate (n - i) (.int .i64 0)))
 (hk : k = Sy.place z seen) (h4 : w4 = w3.setCell ⟨w.heap.size + 1, i, none⟩ (.int .i64 (k : Int))) (ho : w3.ownsMap (H := Unit) Tryz.prog 3 (plainElem Tryz.prog 3) w.heap.size s2.length D2) (hm : MapI D2 s2) :
 NumAt w w4 zs n (i + 1) D2 s2 := by
 subst h4
 have hC : (Sy.canonG [] (zs.take i)).length = i := by rw [Sy.canonG_len, List.length_take]; omega
 have hAs := hA.set i (.int .i64 (k : Int))
 rw [natC_step _ n i k hC hi] at hAs
 refine ⟨?_, ho.setCell (by simp) _, hm⟩
 rw [Sy.canon_step hz, ← hs, ← hk]
 exact hAs
set_option maxRecDepth 100000 in
set_option maxHeartbeats 8000000 in
theorem numbered_any (v : Value) (zs : List Int) (w : World) (hv : HasI w v zs) (hn : zs.length ≤ 100000) (hw : I64s zs) :
 Calls Tryz.prog 133 #[v] w fun e w' => ∃ u, e = .returned (.tuple #[u, .int .i64 (Sy.together zs : Nat)]) ∧ OwnI w' w.heap.size u (natI (Sy.canon zs)) ∧ Below w.heap.size w w' := by
 obtain ⟨ao, cap, rfl, hcs⟩ := hv
 obtain ⟨n, hN⟩ : ∃ n, n = zs.length := ⟨_, rfl⟩
 have HH : Hid _ := And.intro hcs (And.intro hN hw)
 rw [← hN] at hn ⊢
 clear hcs hN hw
 have hmm := @run_makeMap Tryz.prog
 have hmk := makeI n (by omega) (w.alloc (.map #[] 0))
 go_enter Tryz.func133, Tryz.ntmps133
 go_wp2_with fail
 clear hmk hmm
 go_loopg [16] n (fun q iv wr => ∃ (i : Nat) (D : DataW Unit) (seen : List Int), q = n - i ∧ i ≤ n ∧ iv = .int .i64 i ∧ seen = Sy.seenG [] (zs.take i) ∧ NumAt w wr zs n i D seen)
 case atStart =>
  refine ⟨0, .map [], [], rfl, Nat.zero_le _, rfl, by simp [Sy.seenG], ?_, ?_, MapI.nil⟩
  ·have h1 := arr_new 3 (.int .i64 0) rfl n (w.alloc (.map #[] 0))
   have h2 := h1.back ((Below.refl _ w).alloc (Nat.le_refl _) _)
   simpa [Sy.canonG, natC] using h2
  ·have := World.ownsMap_made (H := Unit) w Tryz.prog 3 (plainElem Tryz.prog 3)
   exact this.alloc _
 case round =>
  obtain ⟨i, D, seen, rfl, hi, rfl, hseen, hM⟩ := hrel
  by_cases hlt : i < n
  ·obtain ⟨z, hz⟩ : ∃ z, zs[i]? = some z := ⟨zs[i]'(by have := HH.out.2.1; omega), List.getElem?_eq_getElem _⟩
   obtain ⟨a, rfl, c0⟩ := HH.out.1 i z hz
   have cz : wr.cell? (a.add i) = some (.int .i64 z) := (hM.arr.bl.cell (World.block_lt_of_cell? w _ c0)).trans c0
   have hzw : (Lit.int .i64 z).wf = true := HH.out.2.2 z (List.mem_of_getElem? hz)
   have hkey : keyOf Tryz.prog 3 (.int .i64 z) = some (.int .i64 z) := keyOf_int_mk Tryz.underlying3 hzw
   have q0 : (0 : Int) ≤ (i : Int) := by omega
   have q1 : (i : Int) < (n : Int) := by omega
   have hsl : seen.length ≤ i := by
    have := Sy.seenG_len (zs.take i) []
    rw [← hseen, List.length_take] at this
    simp at this; omega
   have hix : (natC (Sy.canonG [] (zs.take i)) ++ List.replicate (n - i) (Value.int .i64 0))[i]? = some (.int .i64 0) := by
    rw [List.getElem?_append_right (by rw [natC_len, Sy.canonG_len, List.length_take]; omega), natC_len, Sy.canonG_len, List.length_take, List.getElem?_replicate, if_pos (by have := HH.out.2.1; omega)]
   have hst := Sy.seen_step hz
   rw [← hseen] at hst
   by_cases hin : z ∈ seen
   ·obtain ⟨hy1, hy2⟩ := hM.map.yes _ z (Sy.place_at hin)
    have cx := hM.arr.cell hix
    have cf := hM.arr.free i
    rw [if_pos (Sy.place_mem.2 hin)] at hst
    have HO : Hid (wr.ownsMap (H := Unit) Tryz.prog 3 (plainElem Tryz.prog 3) w.heap.size seen.length D) := hM.own
    have HY : Hid (D.atKey (.int .i64 z) (.lit (.int .i64 0)) = .lit (.int .i64 (Sy.place z seen : Nat))) := hy2
    have HM : Hid _ := And.intro hM (And.intro hseen (And.intro hz hst))
    clear hM hseen hz hst hy2 hix c0 hin hzw
    obtain ⟨k, hk⟩ : ∃ k, k = Sy.place z seen := ⟨_, rfl⟩
    rw [← hk] at HY
    have HK : Hid (k = Sy.place z seen) := hk
    clear hk
    go_wp2_with (at_lookup; refine wpList_lookup_own_ok_int _ rfl _ _ 203 rfl 3 3 .i64 Tryz.lawI7 Tryz.underlying203 Tryz.underlying3 (Tryz.zeroI7 _) w.heap.size seen.length D rfl HO.out _ _ rfl hkey ?_; rw [hy1]; intro c hat hwc; obtain rfl : c = (k : Int) := (by rw [HY.out] at hat; injection hat with hat; injection hat with _ hat; exact hat.symm); clear hat hwc)
    go_roundg (n - (i + 1))
    case measure => omega
    case rel =>
     exact ⟨i + 1, D, seen, rfl, by omega, by go_num, HM.out.2.2.2.symm, num_step HM.out.2.2.1 hlt HH.out.2.1 HM.out.2.1 HM.out.1.arr HK.out rfl HO.out HM.out.1.map⟩
   ·have hy1 := hM.map.no z hin
    rw [if_neg fun e => hin (Sy.place_mem.1 e)] at hst
    have HO : Hid (wr.ownsMap (H := Unit) Tryz.prog 3 (plainElem Tryz.prog 3) w.heap.size seen.length D) := hM.own
    have hml : seen.length < maxLen := by unfold maxLen; omega
    have hsz : Maps.size D = seen.length := hM.map.size
    obtain ⟨m, hm⟩ : ∃ m, m = seen.length := ⟨_, rfl⟩
    have HM : Hid _ := And.intro hM (And.intro hseen (And.intro hz (And.intro hst (And.intro hin (And.intro hix hm)))))
    rw [← hm] at HO hml hsz hsl
    have hwf : (Lit.int .i64 (m : Int)).wf = true := WalkArith.wf_i64 (by omega)
    have HS : Hid _ := hsz
    clear hM hseen hz hst hix c0 hin hzw hm hsz
    go_wp2_with (first
     | (at_lookup; refine wpList_lookup_own_ok_int _ rfl _ _ 203 rfl 3 3 .i64 Tryz.lawI7 Tryz.underlying203 Tryz.underlying3 (Tryz.zeroI7 _) w.heap.size m D rfl HO.out _ _ rfl hkey ?_; rw [hy1]; intro c hat hwc; clear hat hwc)
     | (at_len; refine wpList_len_own _ rfl _ 203 rfl 3 3 Tryz.underlying203 _ w.heap.size m D rfl HO.out ?_; rw [HS.out])
     | (at_mapUpdate; refine wpList_mapUpdate_own _ rfl _ _ _ 203 rfl 3 3 Tryz.lawI7 Tryz.underlying203 _ w.heap.size m D rfl HO.out hml _ _ _ rfl rfl hkey _ [] (plainElem_int Tryz.underlying3 hwf) ?_; intro w3 hown3 hgrow3; have hA3 := arr_mapTurn HM.out.1.arr hgrow3 (Nat.le_refl _) (by omega); have cx := hA3.cell HM.out.2.2.2.2.2.1; have cf := hA3.free i; have H3 : Hid _ := And.intro hA3 hown3; clear hA3 hown3 hgrow3))
    go_roundg (n - (i + 1))
    case measure => omega
    case rel =>
     have hm := HM.out.2.2.2.2.2.2
     have h3 := H3.out.2
     have hmp := HM.out.1.map.snoc HM.out.1.own.isMap (HM.out.1.own.tidy Tryz.lawI7) z HM.out.2.2.2.2.1
     rw [← hm] at hmp
     have el : m + 1 = (seen ++ [z]).length := by simp [hm]
     rw [el] at h3
     exact ⟨i + 1, _, seen ++ [z], rfl, by omega, by go_num, HM.out.2.2.2.1.symm, num_step HM.out.2.2.1 hlt HH.out.2.1 HM.out.2.1 H3.out.1 (by rw [Sy.place_no HM.out.2.2.2.2.1, hm]) rfl h3 hmp⟩
  ·obtain rfl : i = n := by omega
   have hsz : Maps.size D = seen.length := hM.map.size
   have HO : Hid (wr.ownsMap (H := Unit) Tryz.prog 3 (plainElem Tryz.prog 3) w.heap.size seen.length D) := hM.own
   have HM : Hid _ := And.intro hM (And.intro hseen hsz)
   obtain ⟨m, hm⟩ : ∃ m, m = seen.length := ⟨_, rfl⟩
   rw [← hm] at HO
   have HS : Hid (Maps.size D = m) := hsz.trans hm.symm
   have HN : Hid _ := hm
   clear hM hseen hsz hm
   go_wp2_with (at_len; refine wpList_len_own _ rfl _ 203 rfl 3 3 Tryz.underlying203 _ w.heap.size m D rfl HO.out ?_; rw [HS.out])
   go_ret2
   have hA := HM.out.1.arr
   have hl : i = zs.length := HH.out.2.1
   rw [hl, Nat.sub_self, List.replicate_zero, List.append_nil, List.take_length] at hA
   have how := (hA.own (by rw [natC_len, Sy.canonG_len]; unfold maxLen; omega))
   rw [natC_len, Sy.canonG_len] at how
   refine ⟨.slice (some ⟨w.heap.size + 1, 0, none⟩) zs.length zs.length, by rw [HN.out, HM.out.2.1, hl, List.take_length, ← Sy.together_eq]; rfl, ?_, HM.out.1.arr.bl⟩
   unfold OwnI
   rw [iC_nat, show (natI (Sy.canon zs)).length = zs.length by simp [natI, Sy.canon, Sy.canonG_len]]
   exact how
end Go.Proofs.YtplofbabfkkimaaGreatDoor
/- Contract of the book's SameInts. -/
namespace Go.Proofs.YtplofbabfkkimaaGreatDoor
open Go.RowKit Go.Maps
theorem take_both {α : Type} {a b : List α} {j : Nat} {x : α} (ha : a[j]? = some x) (hb : b[j]? = some x) (h : a.take j = b.take j) : a.take (j + 1) = b.take (j + 1) := by
 rw [take_succ_of ha, take_succ_of hb, h]
theorem eq_len {α : Type} {a b : List α} {n : Nat} (ha : a.length = n) (hb : b.length = n) (h : a.take n = b.take n) : a = b := by
 rw [List.take_of_length_le (by omega), List.take_of_length_le (by omega)] at h
 exact h
set_option maxRecDepth 100000 in
set_option maxHeartbeats 1000000 in
theorem sameInts_b (va vb : Value) (za zb : List Int) (w : World) (hn : za.length ≤ 1000000000000000) (hm : zb.length ≤ 1000000000000000) (hA : HasI w va za) (hB : HasI w vb zb) :
 Calls Tryz.prog 15 #[va, vb] w fun e w' => e = .returned (.bool (za == zb)) ∧ Below w.heap.size w w' := by
 obtain ⟨ao, cap, rfl, hcA⟩ := hA
 obtain ⟨ao', cap', rfl, hcB⟩ := hB
 by_cases hlen : za.length = zb.length
 ·obtain ⟨n, hN⟩ : ∃ n, n = za.length := ⟨_, rfl⟩
  have HH : Hid _ := And.intro hcA (And.intro hcB (And.intro hN (hN.trans hlen)))
  rw [← hlen, ← hN]
  rw [← hN] at hn
  clear hcA hcB hN hlen hm
  have q : ((n : Int) != (n : Int)) = false := by simp
  go_enter Tryz.func15, Tryz.ntmps15
  go_wp2
  go_loopg [5] n (fun g i wr => ∃ j m : Nat, g = n - j ∧ j ≤ n ∧ i = .int .i64 j ∧ za.take j = zb.take j ∧ wr = w.drewN m)
  case atStart => exact ⟨0, 0, rfl, Nat.zero_le _, rfl, rfl, rfl⟩
  case round =>
   obtain ⟨j, m, rfl, hj, rfl, heq, rfl⟩ := hrel
   have HQ : Hid _ := heq
   clear heq
   by_cases hlt : j < n
   ·obtain ⟨x, hx⟩ : ∃ z, za[j]? = some z := ⟨za[j]'(by have := HH.out.2.2.1; omega), List.getElem?_eq_getElem _⟩
    obtain ⟨y, hy⟩ : ∃ z, zb[j]? = some z := ⟨zb[j]'(by have := HH.out.2.2.2; omega), List.getElem?_eq_getElem _⟩
    obtain ⟨a, rfl, c0⟩ := HH.out.1 j x hx
    obtain ⟨b, rfl, d0⟩ := HH.out.2.1 j y hy
    have q0 : (0 : Int) ≤ (j : Int) := by omega
    have q1 : (j : Int) < (n : Int) := by omega
    by_cases hxy : x = y
    ·subst hxy
     have HT : Hid _ := take_both hx hy HQ.out
     clear hx hy
     go_wp2_with fail
     go_quiet (fail)
     go_wp2
     go_roundg (n - (j + 1))
     case measure => omega
     case rel => exact ⟨j + 1, _, rfl, by omega, by go_num, HT.out, by first | rfl | exact World.drewN_drewN _ _ _⟩
    ·have e1 : (x == y) = false := by simpa using hxy
     have HF : Hid ((za == zb) = false) := (by
      rw [beq_eq_false_iff_ne]
      rintro rfl
      rw [hx] at hy
      exact hxy (Option.some.inj hy) : (za == zb) = false)
     clear hx hy hxy
     go_wp2_with fail
     go_quiet (fail)
     go_wp2
     go_ret
     exact ⟨by rw [HF.out]; rfl, by first | exact below_drewN (below_drewN (Below.refl _ _) _) _ | exact below_drewN (Below.refl _ _) _⟩
   ·obtain rfl : j = n := by omega
    have q1 : ¬ (j : Int) < (j : Int) := by omega
    have HF : Hid ((za == zb) = true) := (by
     rw [beq_iff_eq]
     exact eq_len HH.out.2.2.1.symm HH.out.2.2.2.symm HQ.out : (za == zb) = true)
    go_wp2
    go_ret
    exact ⟨by rw [HF.out]; rfl, below_drewN (Below.refl _ _) _⟩
 ·have q : ((za.length : Int) != (zb.length : Int)) = true := by rw [bne_iff_ne]; omega
  have HF : Hid ((za == zb) = false) := (by rw [beq_eq_false_iff_ne]; rintro rfl; exact hlen rfl : (za == zb) = false)
  clear hcA hcB hlen
  go_enter Tryz.func15, Tryz.ntmps15
  go_wp2
  go_ret
  exact ⟨by rw [HF.out]; rfl, Below.refl _ _⟩
end Go.Proofs.YtplofbabfkkimaaGreatDoor
/- Contract of slices.Equal of numbers. -/
namespace Go.Proofs.YtplofbabfkkimaaGreatDoor
open Go.RowKit Go.Maps
end Go.Proofs.YtplofbabfkkimaaGreatDoor
/- Contracts of slices.Equal of numbers, and of the program's Canon, Together and Classes. -/
namespace Go.Proofs.YtplofbabfkkimaaGreatDoor
open Go.RowKit Go.Maps
namespace Sy
theorem natI_range_len (k : Nat) : (natI (List.range k)).length = k := by simp [natI]
theorem place_range (k : Nat) (c : Int) (h0 : 0 ≤ c) (h1 : c ≤ k) : ((place c (natI (List.range k)) : Nat) : Int) = c := by
 obtain ⟨m, rfl⟩ : ∃ m : Nat, c = (m : Int) := ⟨c.toNat, by omega⟩
 by_cases h : m < k
 ·have hm : (m : Int) ∈ natI (List.range k) := by
   unfold natI
   exact List.mem_map.2 ⟨m, List.mem_range.2 h, rfl⟩
  have h2 := place_at hm
  obtain ⟨hl, h3⟩ := List.getElem?_eq_some_iff.1 h2
  simp only [natI, List.getElem_map, List.getElem_range] at h3
  exact h3
 ·obtain rfl : m = k := by omega
  rw [place_not, natI_range_len]
  intro hm
  unfold natI at hm
  obtain ⟨x, hx, e⟩ := List.mem_map.1 hm
  have := List.mem_range.1 hx
  omega
theorem formG_own (l : List Int) : ∀ k : Nat, formG k l = true → natI (canonG (natI (List.range k)) l) = l := by
 induction l with
 | nil => intro k _; rfl
 | cons c r ih =>
   intro k h
   simp only [formG, Bool.and_eq_true, decide_eq_true_eq] at h
   obtain ⟨⟨h0, h1⟩, h2⟩ := h
   have hp := place_range k c h0 h1
   show ((place c (natI (List.range k)) : Nat) : Int) :: natI (canonG (if place c (natI (List.range k)) < (natI (List.range k)).length then natI (List.range k) else natI (List.range k) ++ [c]) r) = c :: r
   rw [hp]
   congr 1
   rw [natI_range_len]
   by_cases e : c = (k : Int)
   ·rw [if_pos e] at h2
    rw [if_neg (by omega)]
    have h3 := ih (k + 1) h2
    rw [List.range_succ] at h3
    subst e
    simpa [natI] using h3
   ·rw [if_neg e] at h2
    rw [if_pos (by omega)]
    exact ih k h2
theorem formG_iff (l : List Int) : formG 0 l = (l == natI (canon l)) := by
 cases h : formG 0 l with
 | true =>
   have h1 := formG_own l 0 h
   symm
   rw [beq_iff_eq]
   exact h1.symm
 | false =>
   symm
   rw [beq_eq_false_iff_ne]
   intro e
   have h1 := formG_canon l []
   rw [show canonG [] l = canon l from rfl, ← e] at h1
   rw [show ([] : List Int).length = 0 from rfl, h] at h1
   cases h1
end Sy
set_option maxRecDepth 100000 in
theorem pCanon : PCanon := fun v zs W hv hn hw => by
 have hC := numbered_any v zs W hv hn hw
 go_enter Tryz.func92, Tryz.ntmps92
 go_wp2_with (go_at_call 133; refine hC.mono ?_; rintro r w1 ⟨u, rfl, hO, hb⟩; have HO : Hid _ := And.intro hO hb; clear hO hb)
 go_ret
 exact ⟨u, rfl, HO.out.1, HO.out.2⟩
set_option maxRecDepth 100000 in
theorem pTogether : PTogether := fun v zs W hv hn hw => by
 have hC := numbered_any v zs W hv hn hw
 go_enter Tryz.func93, Tryz.ntmps93
 go_wp2_with (go_at_call 133; refine hC.mono ?_; rintro r w1 ⟨u, rfl, hO, hb⟩; have HO : Hid _ := And.intro hO hb; clear hO hb)
 go_ret
 exact ⟨rfl, HO.out.2⟩
end Go.Proofs.YtplofbabfkkimaaGreatDoor
