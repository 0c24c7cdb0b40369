/- Texts of this claim, joined: SgDel, SgLift0. -/
import Derived.Test.YtkiapldehlnndaaGreatDoorPart0
import Derived.Deep.LoopGhost
import Derived.Shelf.Abstract
import Derived.Laws.IdiomCopy
import Derived.Test.YtkiapldehlnndaaGreatDoorPart3
import Derived.Deep.AppendLies
/- slices.DeleteFunc of numbers by a function value that only reads. (Written by mkdel.py.) -/
namespace Go.Proofs.YtkiapldehlnndaaGreatDoor
open Go.RowKit Go.Maps
attribute [local go_sem ↓] Go.wp_at_zero Go.wp_at_succ
def Asks (f : Nat) (bd : Array Value) (P : Int → Bool) (zs : List Int) (S : World → Prop) : Prop := ∀ (z : Int) (W : World), z ∈ zs → S W → Calls Tryz.prog f (#[.int .i64 z] ++ bd) W fun r w' => r = .returned (.bool (P z)) ∧ Below W.heap.size W w'
theorem OwnI.put2 {w : World} {B g n cap : Nat} {zs : List Int} (h : OwnI w B (.slice (some ⟨g, 0, none⟩) n cap) zs) (hn : n = zs.length) (j : Nat) (u : Int) : OwnI (w.setCell ⟨g, j, none⟩ (.int .i64 u)) B (.slice (some ⟨g, 0, none⟩) n cap) (zs.set j u) := by
  subst hn
  have h1 := (World.ownsRow.stored h j (.int .i64 u)).1
  unfold OwnI
  rw [List.length_set, show iC (zs.set j u) = (iC zs).set j (.int .i64 u) by simp [iC, List.map_set]]
  exact h1
structure Left (P : Int → Bool) (zs ys : List Int) (i j : Nat) : Prop where
  len : ys.length = zs.length
  ij : i < j
  jn : j ≤ zs.length
  head : ys.take i = (zs.take j).filter fun z => !P z
  tail : ys.drop j = zs.drop j
theorem take_snoc {zs : List Int} {j : Nat} {z : Int} (h : zs[j]? = some z) : zs.take (j + 1) = zs.take j ++ [z] := by rw [List.take_add_one, h]; rfl
theorem Left.skip {P : Int → Bool} {zs ys : List Int} {i j : Nat} {z : Int} (h : Left P zs ys i j) (hz : zs[j]? = some z) (hP : P z = true) : Left P zs ys i (j + 1) := by
  have hl := (List.getElem?_eq_some_iff.1 hz).1
  refine ⟨h.len, by have := h.ij; omega, hl, ?_, ?_⟩
  · rw [take_snoc hz, List.filter_append, ← h.head]; simp [hP]
  · rw [← List.drop_drop (i := 1) (j := j), h.tail, List.drop_drop]
theorem Left.keep {P : Int → Bool} {zs ys : List Int} {i j : Nat} {z : Int} (h : Left P zs ys i j) (hz : zs[j]? = some z) (hP : P z = false) : Left P zs (ys.set i z) (i + 1) (j + 1) := by
  have hl := (List.getElem?_eq_some_iff.1 hz).1
  have hij := h.ij
  have hyl := h.len
  refine ⟨by rw [List.length_set]; exact h.len, by omega, hl, ?_, ?_⟩
  · rw [take_snoc hz, List.filter_append, ← h.head, List.take_add_one, List.getElem?_set_self (by omega), List.take_set_of_le (Nat.le_refl _)]
    simp [hP]
  · rw [List.drop_set_of_lt (by omega), ← List.drop_drop (i := 1) (j := j), h.tail, List.drop_drop]
theorem Left.at {P : Int → Bool} {zs ys : List Int} {i j : Nat} {z : Int} (h : Left P zs ys i j) (hz : zs[j]? = some z) : ys[j]? = some z := by
  have h1 : (ys.drop j)[0]? = (zs.drop j)[0]? := by rw [h.tail]
  rw [List.getElem?_drop, List.getElem?_drop] at h1
  exact h1.trans hz
theorem clear_ints {w : World} {B g n cap i : Nat} {ys : List Int} (h : OwnI w B (.slice (some ⟨g, 0, none⟩) n cap) ys) (hn : n = ys.length) (hi : i < n) :
    ∃ us, (∀ ty, (Builtin.clear_ #[28] ty #[.slice (some ⟨g, i, none⟩) (n - i) (cap - i)]).run Tryz.prog w = .ok (.tuple #[]) (w.setCells g i us)) ∧ OwnI (w.setCells g i us) B (.slice (some ⟨g, 0, none⟩) i cap) (ys.take i) ∧ Kept (fun b => b = g) w (w.setCells g i us) := by
  subst hn
  obtain ⟨us, hus⟩ : ∃ us, us = (Builtin.zeroCells (Value.int .i64 0).cells (ys.length - i)).toList := ⟨_, rfl⟩
  have hlen : us.length = ys.length - i := by rw [hus]; simp [Builtin.zeroCells, Value.cells]
  have hone : ∀ v ∈ us, v.oneCell' = true := by
    intro v hv
    rw [hus] at hv
    simp [Builtin.zeroCells, Value.cells] at hv
    obtain ⟨a, _, rfl⟩ := hv
    have e9 : a % 1 = 0 := Nat.mod_one a
    rw [e9]; rfl
  have hst := run_storeCells_cells (P := Tryz.prog) g i us 0 w (fun j hj => by
    rw [Nat.add_zero, World.ownsRow.cellAt h (i + j) (by omega)]
    rw [List.getElem?_eq_getElem (by rw [iC_length]; omega)]; rfl) (fun j hj => World.ownsRow.frozenAt h _) hone
  simp only [Nat.add_zero] at hst
  have hkept : ∀ (us : List Value) (o : Nat) (w : World), Kept (fun b => b = g) w (w.setCells g o us) := fun us => by
    induction us with
    | nil => intro o w; exact Kept.refl _ _
    | cons u r ih => intro o w; exact (Kept.setCell w g o u).trans (ih (o + 1) _)
  have hblk : ∀ (us : List Value) (o : Nat) (w : World) (cur : Array Value), i ≤ o → w.heap[g]? = some (.cells cur 3 (0, 0)) → ∃ cur', (w.setCells g o us).heap[g]? = some (.cells cur' 3 (0, 0)) ∧ cur'.size = cur.size ∧ cur'.toList.take i = cur.toList.take i := fun us => by
    induction us with
    | nil => intro o w cur _ hc; exact ⟨cur, hc, rfl, rfl⟩
    | cons u r ih =>
      intro o w cur ho hc
      obtain ⟨c2, h1, h2, h3⟩ := ih (o + 1) (w.setCell ⟨g, o, none⟩ u) _ (by omega) (heap_setCell_same w g o cur _ u hc)
      refine ⟨c2, h1, by rw [h2]; simp, ?_⟩
      rw [h3, Array.toList_setIfInBounds, List.take_set_of_le ho]
  refine ⟨us, fun ty => ?_, ?_, hkept us i w⟩
  · obtain ⟨k, hk⟩ : ∃ k, ys.length - i = k + 1 := ⟨ys.length - i - 1, by omega⟩
    rw [hk] at hus ⊢
    simp [Builtin.clear_, run_underlying Tryz.underlying28, ← hus, hst]
  · rcases h.2 with ⟨e, _⟩ | ⟨g', cap', cur, e, hB, hg, hn2, hm, hs, ht⟩
    · cases e
    · cases e
      obtain ⟨c2, h1, h2, h3⟩ := hblk us i w cur (Nat.le_refl _) hg
      have hil : (ys.take i).length = i := by rw [List.length_take]; omega
      refine ⟨by rw [iC_length], .inr ⟨g, cap, c2, by rw [hil], hB, h1, by omega, hm, by omega, ?_⟩⟩
      rw [hil, Nat.mul_one, h3]
      have h9 : (cur.toList.take (ys.length * 1)).take i = (iC ys).take i := by rw [ht]
      rw [List.take_take, Nat.mul_one, Nat.min_eq_left (by omega)] at h9
      rw [h9]
      simp [iC, List.map_take]
theorem del_bel {a b c : World} (h : Below b.heap.size b c) (k : Below a.heap.size a b) : Below a.heap.size a c := k.trans (h.mono k.size)
set_option maxRecDepth 100000 in
set_option maxHeartbeats 4000000 in
theorem indexFunc1 (f : Nat) (F : Nat → Prop) (b0 : Value) (P : Int → Bool) (v : Value) (zs : List Int) (w : World) (hv : HasI w v zs) (hn : zs.length ≤ 1000000) (hE : Enters Tryz.prog f) (hA : Asks f #[b0] P zs fun W => Kept F w W) :
    Calls Tryz.prog 164 #[v, .func (.func f) #[] #[b0]] w fun r w' => Below w.heap.size w w' ∧ ((∃ i : Nat, r = .returned (.int .i64 i) ∧ (∃ z, zs[i]? = some z ∧ P z = true) ∧ ∀ z ∈ zs.take i, P z = false) ∨ (r = .returned (.int .i64 (-1)) ∧ ∀ z ∈ zs, P z = false)) := by
  unfold Enters at hE
  obtain ⟨ao, cap, rfl, hc⟩ := hv
  obtain ⟨n, hN⟩ : ∃ n, n = zs.length := ⟨_, rfl⟩
  rw [← hN] at hn ⊢
  have H : Hid _ := And.intro hc (And.intro hA hN)
  clear hc hA hN
  go_enter Tryz.func164, Tryz.ntmps164
  go_wp2_with fail
  go_loopg [8] n (fun q iv wr => ∃ j : Nat, q = n - j ∧ j ≤ n ∧ iv = .int .i64 j ∧ Below w.heap.size w wr ∧ Hid (∀ z ∈ zs.take j, P z = false))
  case atStart => exact ⟨0, rfl, Nat.zero_le _, rfl, Below.refl _ _, (fun z hz => by simp at hz : ∀ z ∈ zs.take 0, P z = false)⟩
  case round =>
    obtain ⟨j, rfl, hj, rfl, hb, hP⟩ := hrel
    by_cases hlt : j < n
    · have q0 : (0 : Int) ≤ (j : Int) := by omega
      have q1 : (j : Int) < (n : Int) := by omega
      obtain ⟨z, hz⟩ : ∃ z, zs[j]? = some z := ⟨zs[j]'(by have := H.out.2.2; omega), List.getElem?_eq_getElem _⟩
      obtain ⟨ad, rfl, hce⟩ := H.out.1 j z hz
      have hcw := (hb.cell (World.block_lt_of_cell? w _ hce)).trans hce
      have hAs := H.out.2.1 z wr (List.mem_of_getElem? hz) (Kept.of_below hb)
      have HZ : Hid _ := And.intro hz (And.intro hb hAs)
      clear hz hb hAs hce
      cases hp : P z with
      | true =>
        have HP : Hid (P z = true) := hp
        rw [hp] at HZ
        clear hp
        go_wp2_with (go_at_fn f; refine Calls.mono HZ.out.2.2 ?_; rintro r w2 ⟨rfl, hb2⟩; have H2 : Hid _ := And.intro hb2 trivial; clear hb2)
        go_ret
        exact ⟨del_bel H2.out.1 HZ.out.2.1, .inl ⟨j, rfl, ⟨z, HZ.out.1, HP.out⟩, hP.out⟩⟩
      | false =>
        have HP : Hid (P z = false) := hp
        rw [hp] at HZ
        clear hp
        go_wp2_with (go_at_fn f; refine Calls.mono HZ.out.2.2 ?_; rintro r w2 ⟨rfl, hb2⟩; have H2 : Hid _ := And.intro hb2 trivial; clear hb2)
        go_roundg (n - (j + 1))
        case measure => omega
        case rel =>
          refine ⟨j + 1, rfl, by omega, by go_num, del_bel H2.out.1 HZ.out.2.1, (fun y hy => ?_ : ∀ y ∈ zs.take (j + 1), P y = false)⟩
          rw [take_snoc HZ.out.1] at hy
          rcases List.mem_append.1 hy with h1 | h1
          · exact hP.out y h1
          · rw [List.mem_singleton.1 h1]; exact HP.out
    · obtain rfl : j = n := by omega
      have q1 : ¬ (j : Int) < (j : Int) := by omega
      have HZ : Hid _ := And.intro hb trivial
      clear hb
      go_wp2_with fail
      go_ret
      refine ⟨HZ.out.1, .inr ⟨rfl, fun z hz => hP.out z ?_⟩⟩
      rw [H.out.2.2, List.take_length]; exact hz
set_option linter.unusedSimpArgs false in
set_option maxRecDepth 100000 in
set_option maxHeartbeats 8000000 in
theorem deleteFunc1 (f B : Nat) (b0 : Value) (P : Int → Bool) (v : Value) (zs : List Int) (w : World) (hv : OwnI w B v zs) (hn : zs.length ≤ 1000000) (hE : Enters Tryz.prog f) (hA : Asks f #[b0] P zs fun W => Kept (fun b => v.ownBlock = some b) w W) :
    Calls Tryz.prog 116 #[v, .func (.func f) #[] #[b0]] w fun r w' => ∃ v', r = .returned v' ∧ OwnI w' B v' (zs.filter fun z => !P z) ∧ v'.ownBlock = v.ownBlock ∧ Kept (fun b => v.ownBlock = some b) w w' := by
  have hI := indexFunc1 f (fun b => v.ownBlock = some b) b0 P v zs w hv.has hn hE hA
  unfold Enters at hE
  obtain ⟨n, hN⟩ : ∃ n, n = zs.length := ⟨_, rfl⟩
  obtain ⟨ao, cap, rfl⟩ := row_shape hv
  rw [← hN] at hn hI hv hA ⊢
  have H : Hid _ := And.intro hv (And.intro hA (And.intro hI (And.intro hN trivial)))
  clear hv hI hN hA
  go_enter Tryz.func116, Tryz.ntmps116
  go_upto_region 2 with (go_at_call 164; refine Calls.mono H.out.2.2.1 ?_; rintro r w1 ⟨hb1, hr1⟩; rcases hr1 with ⟨i, rfl, hz, hf⟩ | ⟨rfl, hall⟩)
  · obtain ⟨z, hz, hPz⟩ := hz
    have hil : i < n := by have := (List.getElem?_eq_some_iff.1 hz).1; have := H.out.2.2.2.1; omega
    have hO1 : OwnI w1 B (.slice ao n cap) zs := trow_at H.out.1 fun b e => hb1.block b (H.out.1.lt b e).2
    obtain ⟨g0, rfl, _⟩ := own_num hO1 hz
    obtain ⟨gs, rfl⟩ : ∃ gs, gs = g0 := ⟨_, rfl⟩
    have hL0 : Left P zs zs i (i + 1) := ⟨rfl, by omega, by have := H.out.2.2.2.1; omega, by
      rw [take_snoc hz, List.filter_append]
      have h1 : (zs.take i).filter (fun z => !P z) = zs.take i := List.filter_eq_self.2 fun y hy => by rw [hf y hy]; rfl
      rw [h1]; simp [hPz], rfl⟩
    have q9 : ((i : Int) == -1) = false := beq_eq_false_iff_ne.2 (by omega)
    have q8 : IntKind.i64.wrap ((i : Int) + 1) = (i : Int) + 1 := by rw [IntKind.wrap_i64]; omega
    have H1 : Hid _ := And.intro hO1 (And.intro hL0 (Kept.of_below (F := fun b => b = gs) hb1))
    clear hz hPz hf hO1 hL0 hb1
    go_wp2_with fail
    go_loopg [5, 6] (n - (i + 1)) (fun q iv jv wr => ∃ (i j : Nat) (ys : List Int), q = n - j ∧ iv = .int .i64 i ∧ jv = .int .i64 j ∧ OwnI wr B (.slice (some ⟨gs, 0, none⟩) n cap) ys ∧ Left P zs ys i j ∧ Kept (fun b => b = gs) w wr)
    case atStart => exact ⟨i, i + 1, zs, rfl, rfl, by go_num, H1.out.1, H1.out.2.1, H1.out.2.2⟩
    case round =>
      obtain ⟨i2, j, ys, rfl, rfl, rfl, hOw, hLf, hKp⟩ := hrel
      have hjn : j ≤ n := by have := hLf.jn; have := H.out.2.2.2.1; omega
      have hij := hLf.ij
      have hyl : n = ys.length := by rw [hLf.len]; exact H.out.2.2.2.1
      clear q9 q8
      by_cases hlt : j < n
      · have q0 : (0 : Int) ≤ (j : Int) := by omega
        have q1 : (j : Int) < (n : Int) := by omega
        have q2 : (0 : Int) ≤ (i2 : Int) := by omega
        have q3 : (i2 : Int) < (n : Int) := by omega
        obtain ⟨z, hz⟩ : ∃ z, zs[j]? = some z := ⟨zs[j]'(by have := H.out.2.2.2.1; omega), List.getElem?_eq_getElem _⟩
        have hce := hOw.cell (hLf.at hz)
        have hAs := H.out.2.1 z wr (List.mem_of_getElem? hz) (hKp.mono fun b _ e => by rw [e]; rfl)
        have HZ : Hid _ := And.intro hz (And.intro hOw (And.intro hLf (And.intro hKp (And.intro hAs hyl))))
        clear hz hOw hLf hKp hAs hyl
        cases hp : P z with
        | true =>
          have HP : Hid (P z = true) := hp
          rw [hp] at HZ
          clear hp
          go_wp2_with (go_at_fn f; refine Calls.mono HZ.out.2.2.2.2.1 ?_; rintro r w2 ⟨rfl, hb2⟩; have H2 : Hid _ := And.intro hb2 trivial; clear hb2)
          go_roundg (n - (j + 1))
          case measure => omega
          case rel => exact ⟨i2, j + 1, ys, rfl, rfl, by go_num, trow_at HZ.out.2.1 fun b e => H2.out.1.block b (HZ.out.2.1.lt b e).2, HZ.out.2.2.1.skip HZ.out.1 HP.out, HZ.out.2.2.2.1.trans (Kept.of_below H2.out.1)⟩
        | false =>
          have HP : Hid (P z = false) := hp
          rw [hp] at HZ
          clear hp
          have q4 : IntKind.i64.wrap ((i2 : Int) + 1) = (i2 : Int) + 1 := by rw [IntKind.wrap_i64]; omega
          go_wp2_with (go_at_fn f; refine Calls.mono HZ.out.2.2.2.2.1 ?_; rintro r w2 ⟨rfl, hb2⟩; have hO2 : OwnI w2 B (.slice (some ⟨gs, 0, none⟩) n cap) ys := (trow_at HZ.out.2.1 fun b e => hb2.block b (HZ.out.2.1.lt b e).2); have hc2 := hO2.cell (show ys[i2]? = some (ys[i2]'(by have := HZ.out.2.2.2.2.2; omega)) from List.getElem?_eq_getElem _); have hf2 : w2.frozen? ⟨gs, i2, none⟩ = false := (by have h9 := hO2; unfold OwnI at h9; rw [← HZ.out.2.2.2.2.2] at h9; exact h9.frozenAt i2); have H2 : Hid _ := And.intro hb2 hO2; clear hb2 hO2)
          go_roundg (n - (j + 1))
          case measure => omega
          case rel => exact ⟨i2 + 1, j + 1, ys.set i2 z, rfl, by go_num, by go_num, H2.out.2.put2 HZ.out.2.2.2.2.2 i2 z, HZ.out.2.2.1.keep HZ.out.1 HP.out, (HZ.out.2.2.2.1.trans (Kept.of_below H2.out.1)).trans (Kept.setCell _ _ _ _)⟩
      · obtain rfl : j = n := by omega
        have q1 : ¬ (j : Int) < (j : Int) := by omega
        have hcap : j ≤ cap := by
          rcases hOw.2 with ⟨e, _⟩ | ⟨_, _, _, e, _, _, h9, _⟩
          · cases e
          · cases e; omega
        obtain ⟨us, hcl, hOc, hKc⟩ := clear_ints hOw hyl (i := i2) (by omega)
        have r0 : (0 : Int) ≤ (i2 : Int) := by omega
        have r1 : (i2 : Int) ≤ (j : Int) := by omega
        have r2 : (i2 : Int) ≤ (cap : Int) := by omega
        have r3 : ¬ cap = i2 := by omega
        have HP : Hid _ := And.intro hOc (And.intro hKc (And.intro hLf hKp))
        clear hOc hKc hLf hKp hOw hyl
        go_wp2_with fail
        go_ret
        refine ⟨_, rfl, ?_, rfl, (HP.out.2.2.2.trans HP.out.2.1).mono fun b _ e => by rw [e]; rfl⟩
        have h9 := HP.out.1
        rw [HP.out.2.2.1.head, H.out.2.2.2.1, List.take_length] at h9
        exact h9
  · have q9 : True := trivial
    have H1 : Hid _ := And.intro hb1 hall
    clear hb1 hall
    go_wp2_with fail
    go_ret
    refine ⟨_, rfl, ?_, rfl, Kept.of_below H1.out.1⟩
    rw [List.filter_eq_self.2 (fun y hy => by rw [H1.out.2 y hy]; rfl)]
    have h9 : OwnI w1 B (.slice ao n cap) zs := trow_at H.out.1 fun b e => H1.out.1.block b (H.out.1.lt b e).2
    exact h9
set_option maxRecDepth 100000 in
set_option maxHeartbeats 4000000 in
theorem indexFunc3 (f : Nat) (F : Nat → Prop) (b0 b1 b2 : Value) (P : Int → Bool) (v : Value) (zs : List Int) (w : World) (hv : HasI w v zs) (hn : zs.length ≤ 1000000) (hE : Enters Tryz.prog f) (hA : Asks f #[b0, b1, b2] P zs fun W => Kept F w W) :
    Calls Tryz.prog 164 #[v, .func (.func f) #[] #[b0, b1, b2]] w fun r w' => Below w.heap.size w w' ∧ ((∃ i : Nat, r = .returned (.int .i64 i) ∧ (∃ z, zs[i]? = some z ∧ P z = true) ∧ ∀ z ∈ zs.take i, P z = false) ∨ (r = .returned (.int .i64 (-1)) ∧ ∀ z ∈ zs, P z = false)) := by
  unfold Enters at hE
  obtain ⟨ao, cap, rfl, hc⟩ := hv
  obtain ⟨n, hN⟩ : ∃ n, n = zs.length := ⟨_, rfl⟩
  rw [← hN] at hn ⊢
  have H : Hid _ := And.intro hc (And.intro hA hN)
  clear hc hA hN
  go_enter Tryz.func164, Tryz.ntmps164
  go_wp2_with fail
  go_loopg [8] n (fun q iv wr => ∃ j : Nat, q = n - j ∧ j ≤ n ∧ iv = .int .i64 j ∧ Below w.heap.size w wr ∧ Hid (∀ z ∈ zs.take j, P z = false))
  case atStart => exact ⟨0, rfl, Nat.zero_le _, rfl, Below.refl _ _, (fun z hz => by simp at hz : ∀ z ∈ zs.take 0, P z = false)⟩
  case round =>
    obtain ⟨j, rfl, hj, rfl, hb, hP⟩ := hrel
    by_cases hlt : j < n
    · have q0 : (0 : Int) ≤ (j : Int) := by omega
      have q1 : (j : Int) < (n : Int) := by omega
      obtain ⟨z, hz⟩ : ∃ z, zs[j]? = some z := ⟨zs[j]'(by have := H.out.2.2; omega), List.getElem?_eq_getElem _⟩
      obtain ⟨ad, rfl, hce⟩ := H.out.1 j z hz
      have hcw := (hb.cell (World.block_lt_of_cell? w _ hce)).trans hce
      have hAs := H.out.2.1 z wr (List.mem_of_getElem? hz) (Kept.of_below hb)
      have HZ : Hid _ := And.intro hz (And.intro hb hAs)
      clear hz hb hAs hce
      cases hp : P z with
      | true =>
        have HP : Hid (P z = true) := hp
        rw [hp] at HZ
        clear hp
        go_wp2_with (go_at_fn f; refine Calls.mono HZ.out.2.2 ?_; rintro r w2 ⟨rfl, hb2⟩; have H2 : Hid _ := And.intro hb2 trivial; clear hb2)
        go_ret
        exact ⟨del_bel H2.out.1 HZ.out.2.1, .inl ⟨j, rfl, ⟨z, HZ.out.1, HP.out⟩, hP.out⟩⟩
      | false =>
        have HP : Hid (P z = false) := hp
        rw [hp] at HZ
        clear hp
        go_wp2_with (go_at_fn f; refine Calls.mono HZ.out.2.2 ?_; rintro r w2 ⟨rfl, hb2⟩; have H2 : Hid _ := And.intro hb2 trivial; clear hb2)
        go_roundg (n - (j + 1))
        case measure => omega
        case rel =>
          refine ⟨j + 1, rfl, by omega, by go_num, del_bel H2.out.1 HZ.out.2.1, (fun y hy => ?_ : ∀ y ∈ zs.take (j + 1), P y = false)⟩
          rw [take_snoc HZ.out.1] at hy
          rcases List.mem_append.1 hy with h1 | h1
          · exact hP.out y h1
          · rw [List.mem_singleton.1 h1]; exact HP.out
    · obtain rfl : j = n := by omega
      have q1 : ¬ (j : Int) < (j : Int) := by omega
      have HZ : Hid _ := And.intro hb trivial
      clear hb
      go_wp2_with fail
      go_ret
      refine ⟨HZ.out.1, .inr ⟨rfl, fun z hz => hP.out z ?_⟩⟩
      rw [H.out.2.2, List.take_length]; exact hz
set_option linter.unusedSimpArgs false in
set_option maxRecDepth 100000 in
set_option maxHeartbeats 8000000 in
theorem deleteFunc3 (f B : Nat) (b0 b1 b2 : Value) (P : Int → Bool) (v : Value) (zs : List Int) (w : World) (hv : OwnI w B v zs) (hn : zs.length ≤ 1000000) (hE : Enters Tryz.prog f) (hA : Asks f #[b0, b1, b2] P zs fun W => Kept (fun b => v.ownBlock = some b) w W) :
    Calls Tryz.prog 116 #[v, .func (.func f) #[] #[b0, b1, b2]] w fun r w' => ∃ v', r = .returned v' ∧ OwnI w' B v' (zs.filter fun z => !P z) ∧ v'.ownBlock = v.ownBlock ∧ Kept (fun b => v.ownBlock = some b) w w' := by
  have hI := indexFunc3 f (fun b => v.ownBlock = some b) b0 b1 b2 P v zs w hv.has hn hE hA
  unfold Enters at hE
  obtain ⟨n, hN⟩ : ∃ n, n = zs.length := ⟨_, rfl⟩
  obtain ⟨ao, cap, rfl⟩ := row_shape hv
  rw [← hN] at hn hI hv hA ⊢
  have H : Hid _ := And.intro hv (And.intro hA (And.intro hI (And.intro hN trivial)))
  clear hv hI hN hA
  go_enter Tryz.func116, Tryz.ntmps116
  go_upto_region 2 with (go_at_call 164; refine Calls.mono H.out.2.2.1 ?_; rintro r w1 ⟨hb1, hr1⟩; rcases hr1 with ⟨i, rfl, hz, hf⟩ | ⟨rfl, hall⟩)
  · obtain ⟨z, hz, hPz⟩ := hz
    have hil : i < n := by have := (List.getElem?_eq_some_iff.1 hz).1; have := H.out.2.2.2.1; omega
    have hO1 : OwnI w1 B (.slice ao n cap) zs := trow_at H.out.1 fun b e => hb1.block b (H.out.1.lt b e).2
    obtain ⟨g0, rfl, _⟩ := own_num hO1 hz
    obtain ⟨gs, rfl⟩ : ∃ gs, gs = g0 := ⟨_, rfl⟩
    have hL0 : Left P zs zs i (i + 1) := ⟨rfl, by omega, by have := H.out.2.2.2.1; omega, by
      rw [take_snoc hz, List.filter_append]
      have h1 : (zs.take i).filter (fun z => !P z) = zs.take i := List.filter_eq_self.2 fun y hy => by rw [hf y hy]; rfl
      rw [h1]; simp [hPz], rfl⟩
    have q9 : ((i : Int) == -1) = false := beq_eq_false_iff_ne.2 (by omega)
    have q8 : IntKind.i64.wrap ((i : Int) + 1) = (i : Int) + 1 := by rw [IntKind.wrap_i64]; omega
    have H1 : Hid _ := And.intro hO1 (And.intro hL0 (Kept.of_below (F := fun b => b = gs) hb1))
    clear hz hPz hf hO1 hL0 hb1
    go_wp2_with fail
    go_loopg [5, 6] (n - (i + 1)) (fun q iv jv wr => ∃ (i j : Nat) (ys : List Int), q = n - j ∧ iv = .int .i64 i ∧ jv = .int .i64 j ∧ OwnI wr B (.slice (some ⟨gs, 0, none⟩) n cap) ys ∧ Left P zs ys i j ∧ Kept (fun b => b = gs) w wr)
    case atStart => exact ⟨i, i + 1, zs, rfl, rfl, by go_num, H1.out.1, H1.out.2.1, H1.out.2.2⟩
    case round =>
      obtain ⟨i2, j, ys, rfl, rfl, rfl, hOw, hLf, hKp⟩ := hrel
      have hjn : j ≤ n := by have := hLf.jn; have := H.out.2.2.2.1; omega
      have hij := hLf.ij
      have hyl : n = ys.length := by rw [hLf.len]; exact H.out.2.2.2.1
      clear q9 q8
      by_cases hlt : j < n
      · have q0 : (0 : Int) ≤ (j : Int) := by omega
        have q1 : (j : Int) < (n : Int) := by omega
        have q2 : (0 : Int) ≤ (i2 : Int) := by omega
        have q3 : (i2 : Int) < (n : Int) := by omega
        obtain ⟨z, hz⟩ : ∃ z, zs[j]? = some z := ⟨zs[j]'(by have := H.out.2.2.2.1; omega), List.getElem?_eq_getElem _⟩
        have hce := hOw.cell (hLf.at hz)
        have hAs := H.out.2.1 z wr (List.mem_of_getElem? hz) (hKp.mono fun b _ e => by rw [e]; rfl)
        have HZ : Hid _ := And.intro hz (And.intro hOw (And.intro hLf (And.intro hKp (And.intro hAs hyl))))
        clear hz hOw hLf hKp hAs hyl
        cases hp : P z with
        | true =>
          have HP : Hid (P z = true) := hp
          rw [hp] at HZ
          clear hp
          go_wp2_with (go_at_fn f; refine Calls.mono HZ.out.2.2.2.2.1 ?_; rintro r w2 ⟨rfl, hb2⟩; have H2 : Hid _ := And.intro hb2 trivial; clear hb2)
          go_roundg (n - (j + 1))
          case measure => omega
          case rel => exact ⟨i2, j + 1, ys, rfl, rfl, by go_num, trow_at HZ.out.2.1 fun b e => H2.out.1.block b (HZ.out.2.1.lt b e).2, HZ.out.2.2.1.skip HZ.out.1 HP.out, HZ.out.2.2.2.1.trans (Kept.of_below H2.out.1)⟩
        | false =>
          have HP : Hid (P z = false) := hp
          rw [hp] at HZ
          clear hp
          have q4 : IntKind.i64.wrap ((i2 : Int) + 1) = (i2 : Int) + 1 := by rw [IntKind.wrap_i64]; omega
          go_wp2_with (go_at_fn f; refine Calls.mono HZ.out.2.2.2.2.1 ?_; rintro r w2 ⟨rfl, hb2⟩; have hO2 : OwnI w2 B (.slice (some ⟨gs, 0, none⟩) n cap) ys := (trow_at HZ.out.2.1 fun b e => hb2.block b (HZ.out.2.1.lt b e).2); have hc2 := hO2.cell (show ys[i2]? = some (ys[i2]'(by have := HZ.out.2.2.2.2.2; omega)) from List.getElem?_eq_getElem _); have hf2 : w2.frozen? ⟨gs, i2, none⟩ = false := (by have h9 := hO2; unfold OwnI at h9; rw [← HZ.out.2.2.2.2.2] at h9; exact h9.frozenAt i2); have H2 : Hid _ := And.intro hb2 hO2; clear hb2 hO2)
          go_roundg (n - (j + 1))
          case measure => omega
          case rel => exact ⟨i2 + 1, j + 1, ys.set i2 z, rfl, by go_num, by go_num, H2.out.2.put2 HZ.out.2.2.2.2.2 i2 z, HZ.out.2.2.1.keep HZ.out.1 HP.out, (HZ.out.2.2.2.1.trans (Kept.of_below H2.out.1)).trans (Kept.setCell _ _ _ _)⟩
      · obtain rfl : j = n := by omega
        have q1 : ¬ (j : Int) < (j : Int) := by omega
        have hcap : j ≤ cap := by
          rcases hOw.2 with ⟨e, _⟩ | ⟨_, _, _, e, _, _, h9, _⟩
          · cases e
          · cases e; omega
        obtain ⟨us, hcl, hOc, hKc⟩ := clear_ints hOw hyl (i := i2) (by omega)
        have r0 : (0 : Int) ≤ (i2 : Int) := by omega
        have r1 : (i2 : Int) ≤ (j : Int) := by omega
        have r2 : (i2 : Int) ≤ (cap : Int) := by omega
        have r3 : ¬ cap = i2 := by omega
        have HP : Hid _ := And.intro hOc (And.intro hKc (And.intro hLf hKp))
        clear hOc hKc hLf hKp hOw hyl
        go_wp2_with fail
        go_ret
        refine ⟨_, rfl, ?_, rfl, (HP.out.2.2.2.trans HP.out.2.1).mono fun b _ e => by rw [e]; rfl⟩
        have h9 := HP.out.1
        rw [HP.out.2.2.1.head, H.out.2.2.2.1, List.take_length] at h9
        exact h9
  · have q9 : True := trivial
    have H1 : Hid _ := And.intro hb1 hall
    clear hb1 hall
    go_wp2_with fail
    go_ret
    refine ⟨_, rfl, ?_, rfl, Kept.of_below H1.out.1⟩
    rw [List.filter_eq_self.2 (fun y hy => by rw [H1.out.2 y hy]; rfl)]
    have h9 : OwnI w1 B (.slice ao n cap) zs := trow_at H.out.1 fun b e => H1.out.1.block b (H.out.1.lt b e).2
    exact h9
end Go.Proofs.YtkiapldehlnndaaGreatDoor
/- strong: what a run in memory is behind one more heap; the functions that lift and take hand to slices.DeleteFunc. -/
namespace Go.Proofs.YtkiapldehlnndaaGreatDoor
open Go.RowKit Go.Maps
attribute [local go_sem ↓] Go.wp_at_zero Go.wp_at_succ
theorem RnM.snocHeap {w w1 w2 : World} {B r g p mb k : Nat} {x : Rv} {vb vh' : Value} {zs : List Int} (h : RnM w B r g p mb x) (hb : Below w.heap.size w w1) (hq : Que w1 B vb zs) (hf : ∀ b, vb.ownBlock = some b → w.heap.size ≤ b) (hk : Kept (fun b => x.vh.ownBlock = some b) w1 w2) (hrow : w2.ownsRow B 149 2 vh' (x.ks.length + 1) (hpC x.H x.ks ++ [vb, .int .i64 (k : Int)])) (hat : vh'.ownBlock = x.vh.ownBlock ∨ ∀ b, vh'.ownBlock = some b → w1.heap.size ≤ b) (ha : At0 vb) :
    RnM (w2.setCell ⟨r, 2, none⟩ vh') B r g p mb { x with vh := vh', H := x.H ++ [(vb, zs)], ks := x.ks ++ [k] } := by
  have h1 := h.below hb
  have hq1 := h.q.snoc hb hq hf
  have hvbf : ∀ b, Foot (x.L ++ [(vb, zs)]) b → b ≠ r ∧ x.vh.ownBlock ≠ some b := fun b hb2 => by
    rcases foot_snoc hb2 with h2 | h2
    · exact ⟨fun e => h.r_foot (.inr (by rw [← e]; exact h2)), fun e => h.heap_list e h2⟩
    · have h3 := hf b h2
      exact ⟨fun e => by have := t_lt h.box; omega, fun e => by have := (h.hp.lt b e).2; omega⟩
  have hnr : ∀ b, vh'.ownBlock = some b → b ≠ r := fun b hb2 e => by
    rcases hat with h2 | h2
    · exact h.r_foot (.inl (by rw [← h2, ← e]; exact hb2))
    · have := h2 b hb2; have := t_lt h1.box; omega
  have hbx : w2.heap[r]? = w1.heap[r]? := hk.block r (t_lt h1.box) fun e => h.r_foot (.inl e)
  refine ⟨box_put (hbx.trans h1.box) vh', ?_, by rw [List.length_append, List.length_append, h.len]; rfl, ?_, h.up, fun z hz => (List.mem_append.1 hz).elim (h.fl z) fun e => by rw [List.mem_singleton.1 e]; exact ha⟩
  · have h2 : World.ownsRow w2 B 149 2 vh' (x.ks ++ [k]).length (hpC (x.H ++ [(vb, zs)]) (x.ks ++ [k])) := by
      rw [List.length_append, hpC_snoc x.H x.ks (vb, zs) k h.len]
      exact hrow
    exact own_up h2 (Kept.setCell w2 r 2 vh') fun b hb2 e => hnr b hb2 e
  · have h2 := (hq1.kept hk fun b hb2 => (hvbf b hb2).2).setBox (r := r) (k := 2) (fun b hb2 => (hvbf b hb2).1) vh'
    exact h2
theorem RnM.setOw {w : World} {B r g p mb gz oz n cap : Nat} {x : Rv} (h : RnM w B r g p mb x) (hv : x.vo = .slice (some ⟨gz, oz, none⟩) n cap) {i : Nat} (hi : i < x.ow.length) (z : Int) : RnM (w.setCell ⟨gz, oz + i, none⟩ (.int .i64 z)) B r g p mb { x with ow := x.ow.set i z } := by
  have hf : Foot x.L gz := ⟨(x.vo, x.ow), by simp [Rv.L], by rw [hv]; rfl⟩
  have hr : r ≠ gz := fun e => h.r_foot (.inr (by rw [e]; exact hf))
  have hk := Kept.setCell w gz (oz + i) (.int .i64 z)
  refine ⟨(hk.block r (t_lt h.box) hr).trans h.box, own_up h.hp hk fun b hb e => h.heap_list hb (by rw [e]; exact hf), h.len, ?_, h.up, h.fl⟩
  have h1 := h.q.setAt (k := 0) (zs := x.ow) (by rw [← hv]; rfl) hi z
  rw [← hv] at h1
  exact h1
theorem Que.one {w : World} {B b : Nat} {z : Int} (hB : B ≤ b) (h : w.heap[b]? = some (.cells #[.int .i64 z] 3 (0, 0))) : Que w B (.slice (some ⟨b, 0, none⟩) 1 1) [z] := .inr ⟨b, 0, 1, _, rfl, hB, h, Nat.le_refl _, by decide, .inl rfl, rfl⟩
theorem grew_snoc {w w1 w2 : World} {r : Nat} {x : Rv} {vb vh' : Value} {zs : List Int} {ks : List Nat} (hb : Below w.heap.size w w1) (hf : ∀ b, vb.ownBlock = some b → w.heap.size ≤ b) (hk : Kept (fun b => x.vh.ownBlock = some b) w1 w2) (hat : vh'.ownBlock = x.vh.ownBlock ∨ ∀ b, vh'.ownBlock = some b → w1.heap.size ≤ b) :
    Grew w (w2.setCell ⟨r, 2, none⟩ vh') r x { x with vh := vh', H := x.H ++ [(vb, zs)], ks := ks } := by
  refine ⟨((Kept.of_below hb).trans (hk.mono fun b _ e => .inr (.inl e))).trans ((Kept.setCell w2 r 2 vh').mono fun b _ e => .inl e), fun b h => ?_⟩
  rcases h with h | h
  · rcases hat with h2 | h2
    · exact .inl (.inl (by rw [← h2]; exact h))
    · exact .inr (Nat.le_trans hb.size (h2 b h))
  · rcases foot_snoc (L := x.L) (z := (vb, zs)) h with h2 | h2
    · exact .inl (.inr h2)
    · exact .inr (hf b h2)
theorem lift_kp {w w' : World} {a b c gh n k : Nat} {ca cb cc : Nat} {x y z : Value} (hk : Kept (fun i => (Value.slice (some ⟨gh, 0, none⟩) n k).ownBlock = some i) w w') (h1 : a ≠ gh) (h2 : b ≠ gh) (h3 : c ≠ gh) (h : w.cell? ⟨a, ca, none⟩ = some x ∧ w.cell? ⟨b, cb, none⟩ = some y ∧ w.cell? ⟨c, cc, none⟩ = some z) : w'.cell? ⟨a, ca, none⟩ = some x ∧ w'.cell? ⟨b, cb, none⟩ = some y ∧ w'.cell? ⟨c, cc, none⟩ = some z := by
  have hc : ∀ (i o : Nat) (v : Value), i ≠ gh → w.cell? ⟨i, o, none⟩ = some v → w'.cell? ⟨i, o, none⟩ = some v := fun i o v hi hv => (World.cell?_of_block (a := ⟨i, o, none⟩) (hk.block i (World.block_lt_of_cell? w _ hv) (fun e => hi (by cases e; rfl)))).trans hv
  exact ⟨hc _ _ _ h1 h.1, hc _ _ _ h2 h.2.1, hc _ _ _ h3 h.2.2⟩
theorem lift_st {w : World} {r b c cb cc : Nat} {x y z u : Value} (h2 : r ≠ b) (h3 : c ≠ r) (h : w.cell? ⟨r, 4, none⟩ = some x ∧ w.cell? ⟨b, cb, none⟩ = some y ∧ w.cell? ⟨c, cc, none⟩ = some z) : (w.setCell ⟨r, 2, none⟩ u).cell? ⟨r, 4, none⟩ = some x ∧ (w.setCell ⟨r, 2, none⟩ u).cell? ⟨b, cb, none⟩ = some y ∧ (w.setCell ⟨r, 2, none⟩ u).cell? ⟨c, cc, none⟩ = some z := by
  refine ⟨?_, (World.cell?_of_block (a := ⟨b, cb, none⟩) (set_other _ _ _ _ _ (fun e => h2 e.symm))).trans h.2.1, (World.cell?_of_block (a := ⟨c, cc, none⟩) (set_other _ _ _ _ _ h3)).trans h.2.2⟩
  exact (World.cell?_setCell_other w ⟨r, 2, none⟩ ⟨r, 4, none⟩ u (fun e => by injection e with _ e; cases e)).trans h.1
theorem Que.cellAt {w : World} {B g off n cap : Nat} {zs : List Int} (h : Que w B (.slice (some ⟨g, off, none⟩) n cap) zs) {i : Nat} {z : Int} (hi : zs[i]? = some z) : w.cell? ⟨g, off + i, none⟩ = some (.int .i64 z) ∧ w.frozen? ⟨g, off + i, none⟩ = false := by
  obtain ⟨g', off', cap', e, _, h1, h2⟩ := h.cell hi
  cases e
  exact ⟨h1, h2⟩
theorem kcell2 {w w' : World} {b o : Nat} {u v : Value} (hk : Kept (fun b => u.ownBlock = some b) w w') (hne : u.ownBlock ≠ some b) (c : w.cell? ⟨b, o, none⟩ = some v) : w'.cell? ⟨b, o, none⟩ = some v := (World.cell?_of_block (a := ⟨b, o, none⟩) (hk.block b (World.block_lt_of_cell? w _ c) hne)).trans c
set_option maxHeartbeats 1000000 in
theorem lift1_asks (bb bl : Nat) (zs : List Int) (v : Value) (w : World) (hc : w.cell? ⟨bb, 0, none⟩ = some (.int .i64 bl)) (hne : v.ownBlock ≠ some bb) : Asks 160 #[.pointer (some ⟨bb, 0, none⟩)] (fun z => z == (bl : Int)) zs fun W => Kept (fun b => v.ownBlock = some b) w W := fun z W _ hk => by
  have c0 := kcell2 hk hne hc
  clear hc hne hk
  show Calls Tryz.prog 160 #[.int .i64 z, .pointer (some ⟨bb, 0, none⟩)] W _
  go_enter Tryz.func160, Tryz.ntmps160
  go_wp2
  go_ret
  exact ⟨rfl, Below.refl _ _⟩
end Go.Proofs.YtkiapldehlnndaaGreatDoor
