/- Texts of this claim, joined: SyReaP, SyReach0, SyReach, SyCut0, SyTab0, SyCanon, SyForms, SyProg. -/
import Derived.Test.YtmfcfiiggmkbpaaDoorPart5
import Derived.Test.YtmfcfiiggmkbpaaDoorPart0
import Derived.Deep.QuietTactic
import Derived.BigQuiet
import Derived.Test.YtmfcfiiggmkbpaaDoorPart1
/- The reachable states: plain facts, and marks and lists in memory. -/
namespace Go.Proofs.YtmfcfiiggmkbpaaDoor
open Go.RowKit Go.Maps
namespace Sy
/-- The states that are reachable from s. -/
inductive Rea (es : List Ed) (s : Int) : Int → Prop
  | start : Rea es s s
  | step (e : Ed) : e ∈ es → Rea es s e.1 → Rea es s e.2.2
theorem Rea.congr {es fs : List Ed} {s : Int} (h : ∀ e, e ∈ es → e ∈ fs) {p : Int} (hp : Rea es s p) : Rea fs s p := by
  induction hp with
  | start => exact .start
  | step e he _ ih => exact .step e (h e he) ih
/-- What the search has: the list, the marks; the first i of the list are done. -/
structure RInv (es : List Ed) (s : Int) (n : Nat) (zs : List Int) (bs : List Bool) (i : Nat) : Prop where
  len : bs.length = n
  iff : ∀ p : Nat, bs[p]? = some true ↔ (p : Int) ∈ zs
  rng : ∀ z ∈ zs, 0 ≤ z ∧ z < (n : Int)
  cnt : zs.length = bs.count true
  rea : ∀ z ∈ zs, Rea es s z
  st : s ∈ zs
  done : ∀ (j : Nat) (z : Int), j < i → zs[j]? = some z → ∀ e ∈ es, e.1 = z → e.2.2 ∈ zs
theorem RInv.short {es : List Ed} {s : Int} {n : Nat} {zs : List Int} {bs : List Bool} {i : Nat} (h : RInv es s n zs bs i) : zs.length ≤ n := by
  rw [h.cnt, ← h.len]; exact List.count_le_length
theorem RInv.begin (es : List Ed) (s : Int) (n : Nat) {t : Nat} (hs : s = (t : Int)) (ht : t < n) : RInv es s n [s] ((List.replicate n false).set t true) 0 := by
  refine ⟨by simp, fun p => ?_, fun z hz => ?_, ?_, fun z hz => ?_, by simp, fun j z hj => by omega⟩
  · rw [List.getElem?_set]
    simp only [List.length_replicate, ht, if_true, List.getElem?_replicate, List.mem_singleton, hs]
    by_cases e : t = p
    · subst e; simp
    · rw [if_neg e]
      have e' : ¬ (p : Int) = (t : Int) := by omega
      simp only [e', iff_false]
      split <;> simp
  · rw [List.mem_singleton.1 hz, hs]; omega
  · rw [List.count_set (by simpa using ht)]
    simp [List.count_replicate]
  · rw [List.mem_singleton.1 hz]; exact .start
theorem RInv.push {es : List Ed} {s : Int} {n : Nat} {zs : List Int} {bs : List Bool} {i : Nat} (h : RInv es s n zs bs i) {q : Nat} (hq : q < n) (hb : bs[q]? = some false) (hr : Rea es s (q : Int)) (hi : i ≤ zs.length) : RInv es s n (zs ++ [(q : Int)]) (bs.set q true) i := by
  have hql : q < bs.length := by rw [h.len]; exact hq
  refine ⟨by rw [List.length_set]; exact h.len, fun p => ?_, fun z hz => ?_, ?_, fun z hz => ?_, List.mem_append_left _ h.st, fun j z hj hz e he h1 => ?_⟩
  · rw [List.getElem?_set, List.mem_append, ← h.iff p]
    by_cases e : q = p
    · subst e; simp [hql]
    · rw [if_neg e]
      have e' : ¬ (p : Int) = (q : Int) := by omega
      simp [e']
  · rcases List.mem_append.1 hz with hz | hz
    · exact h.rng z hz
    · rw [List.mem_singleton.1 hz]; omega
  · have e1 : bs[q] = false := by rw [List.getElem?_eq_getElem hql] at hb; exact Option.some.inj hb
    rw [List.count_set hql, List.length_append, h.cnt, e1]
    simp
  · rcases List.mem_append.1 hz with hz | hz
    · exact h.rea z hz
    · rw [List.mem_singleton.1 hz]; exact hr
  · have hjl : j < zs.length := by omega
    rw [List.getElem?_append_left hjl] at hz
    exact List.mem_append_left _ (h.done j z hj hz e he h1)
theorem RInv.next {es : List Ed} {s : Int} {n : Nat} {zs : List Int} {bs : List Bool} {i : Nat} (h : RInv es s n zs bs i) {z : Int} (hz : zs[i]? = some z) (hd : ∀ e ∈ es, e.1 = z → e.2.2 ∈ zs) : RInv es s n zs bs (i + 1) :=
  ⟨h.len, h.iff, h.rng, h.cnt, h.rea, h.st, fun j x hj hx => by
    by_cases e : j = i
    · subst e; rw [hz] at hx; cases hx; exact hd
    · exact h.done j x (by omega) hx⟩
theorem RInv.all {es : List Ed} {s : Int} {n : Nat} {zs : List Int} {bs : List Bool} (h : RInv es s n zs bs zs.length) (p : Nat) : bs[p]? = some true ↔ Rea es s p := by
  rw [h.iff]
  refine ⟨h.rea _, fun hp => ?_⟩
  have key : ∀ x, Rea es s x → x ∈ zs := fun x hx => by
    induction hx with
    | start => exact h.st
    | step e he _ ih =>
      obtain ⟨j, hj, e1⟩ := List.mem_iff_getElem.1 ih
      exact h.done j e.1 hj (by rw [List.getElem?_eq_getElem hj, e1]) e he rfl
  exact key _ hp
theorem steps_mem {es : List Ed} {i a b : Int} : (a, b) ∈ steps es i ↔ (i, a, b) ∈ es := by
  unfold steps
  rw [List.mem_map]
  constructor
  · rintro ⟨e, he, h1⟩
    obtain ⟨h2, h3⟩ := List.mem_filter.1 he
    have e1 : e.1 = i := by simpa using h3
    cases h1
    rw [← e1]
    exact h2
  · intro h
    exact ⟨(i, a, b), List.mem_filter.2 ⟨h, by simp⟩, rfl⟩
end Sy
/-- Marks as cells. -/
def bC (bs : List Bool) : List Value := bs.map Value.bool
theorem bC_set (bs : List Bool) (i : Nat) (b : Bool) : (bC bs).set i (.bool b) = bC (bs.set i b) := by simp [bC, List.map_set]
theorem bC_at {bs : List Bool} {i : Nat} {b : Bool} (h : bs[i]? = some b) : (bC bs)[i]? = some (.bool b) := by simp [bC, h]
theorem bC_rep (n : Nat) : List.replicate n (Value.bool false) = bC (List.replicate n false) := by simp [bC]
/-- A step of a row of one's own, a number of such a list. -/
theorem own_step {w : World} {B : Nat} {ao : Option Addr} {n cap : Nat} {zs : List BSteps.El} (h : BSteps.Own w B (.slice ao n cap) zs) {j : Nat} {z : BSteps.El} (hz : zs[j]? = some z) :
    ∃ g, ao = some ⟨g, 0, none⟩ ∧ w.cell? ⟨g, j * 2, none⟩ = some (.int .i64 z.1) ∧ w.cell? ⟨g, j * 2 + 1, none⟩ = some (.int .i64 z.2) := by
  have hlt := (List.getElem?_eq_some_iff.1 hz).1
  obtain ⟨g, c, hf, _, _⟩ := World.ownsRow.form h (by omega)
  injection hf with e1 e2 e3
  subst e1
  obtain ⟨ao', cap', hv, hc⟩ := BSteps.Own.has h
  injection hv with f1 f2 f3
  subst f1
  obtain ⟨a0, g0, c0⟩ := hc (j * 2 + 0) _ ((BSteps.C_at zs j z hz 0 (by decide)).trans rfl)
  obtain ⟨a1, g1, c1⟩ := hc (j * 2 + 1) _ ((BSteps.C_at zs j z hz 1 (by decide)).trans rfl)
  cases g0; cases g1
  rw [addz] at c0 c1
  exact ⟨g, rfl, c0, c1⟩
theorem own_num {w : World} {B : Nat} {ao : Option Addr} {n cap : Nat} {zs : List Int} (h : OwnI w B (.slice ao n cap) zs) {j : Nat} {z : Int} (hz : zs[j]? = some z) : ∃ g, ao = some ⟨g, 0, none⟩ ∧ w.cell? ⟨g, j, none⟩ = some (.int .i64 z) := by
  have hlt := (List.getElem?_eq_some_iff.1 hz).1
  obtain ⟨g, c, hf, _, _⟩ := World.ownsRow.form h (by omega)
  injection hf with e1 e2 e3
  subst e1
  exact ⟨g, rfl, h.cell hz⟩
theorem step_at {w : World} {ao : Option Addr} {n cap : Nat} {zs : List BSteps.El} (h : BSteps.Has w (.slice ao n cap) zs) {j : Nat} {z : BSteps.El} (hz : zs[j]? = some z) :
    ∃ a, ao = some a ∧ w.cell? (a.add (j * 2)) = some (.int .i64 z.1) ∧ w.cell? ⟨(a.add (j * 2)).block, (a.add (j * 2)).off + 1, none⟩ = some (.int .i64 z.2) := by
  obtain ⟨ao', cap', hv, hc⟩ := h
  injection hv with e1 e2 e3
  subst e1
  obtain ⟨a, rfl, c0⟩ := hc (j * 2 + 0) _ ((BSteps.C_at zs j z hz 0 (by decide)).trans rfl)
  obtain ⟨a1, e1, c1⟩ := hc (j * 2 + 1) _ ((BSteps.C_at zs j z hz 1 (by decide)).trans rfl)
  cases e1
  refine ⟨a, rfl, by simpa using c0, ?_⟩
  rw [← BSteps.add_q] at c1
  exact c1
end Go.Proofs.YtmfcfiiggmkbpaaDoor
/- The reachable states: plain facts, and what stands in memory while the document's Reach works. -/
namespace Go.Proofs.YtmfcfiiggmkbpaaDoor
open Go.RowKit Go.Maps
/-- The rows of all states, the marks, the list of those that are found. -/
structure RcAt (w wr : World) (go gi : Nat) (us : List Value) (n : Nat) (f : Nat → List BSteps.El) (u : Value) (zs : List Int) (bs : List Bool) : Prop where
  out : Arr 27 w wr go us
  rows : Outs wr w.heap.size us n f
  inn : Arr 4 w wr gi (bC bs)
  lst : OwnI wr w.heap.size u zs
theorem RcAt.below {w wr w' : World} {go gi : Nat} {us : List Value} {n : Nat} {f : Nat → List BSteps.El} {u : Value} {zs : List Int} {bs : List Bool} (h : RcAt w wr go gi us n f u zs bs) (hb : Below wr.heap.size wr w') : RcAt w w' go gi us n f u zs bs :=
  ⟨h.out.below hb, h.rows.below hb, h.inn.below hb, trow_at h.lst fun b hb' => hb.block b (h.lst.lt b hb').2⟩
theorem RcAt.row_ne {w wr : World} {go gi : Nat} {us : List Value} {n : Nat} {f : Nat → List BSteps.El} {u : Value} {zs : List Int} {bs : List Bool} (h : RcAt w wr go gi us n f u zs bs) {j : Nat} {x : Value} (hx : us[j]? = some x) : BSteps.Own wr w.heap.size x (f j) := by
  obtain ⟨x', h1, h2⟩ := h.rows.row j (by have := (List.getElem?_eq_some_iff.1 hx).1; rw [h.rows.len] at this; exact this)
  rw [hx] at h1; cases h1
  exact h2
theorem RcAt.mark {w wr : World} {go gi : Nat} {us : List Value} {n : Nat} {f : Nat → List BSteps.El} {u : Value} {zs : List Int} {bs : List Bool} (h : RcAt w wr go gi us n f u zs bs) (q : Nat) : RcAt w (wr.setCell ⟨gi, q, none⟩ (.bool true)) go gi us n f u zs (bs.set q true) := by
  obtain ⟨cs, hc, _⟩ := h.inn.ids
  obtain ⟨co, hco, _⟩ := h.out.ids
  have hk := Kept.setCell wr gi q (.bool true)
  refine ⟨h.out.kept hk fun b hb => ⟨by rw [hb]; exact h.inn.gu, fun e => ?_⟩, h.rows.kept hk fun j x hx b hb e => ?_, by rw [← bC_set]; exact h.inn.set q _, own_up h.lst hk fun b hb e => ?_⟩
  · subst e
    rw [hb, hc] at hco
    exact absurd hco (by simp)
  · exact own_bk (h.row_ne hx) hc (by decide) (by rw [← e]; exact hb)
  · exact own_bk h.lst hc (by decide) (by rw [← e]; exact hb)
theorem RcAt.push {w wr w2 : World} {go gi : Nat} {us : List Value} {n : Nat} {f : Nat → List BSteps.El} {u u2 : Value} {zs : List Int} {bs : List Bool} (h : RcAt w wr go gi us n f u zs bs) {q : Int} {N : Nat} (hN : N = zs.length) (hown : w2.ownsRow w.heap.size 3 1 u2 (N + 1) (iC zs ++ [.int .i64 q])) (hk : Kept (fun b => u.ownBlock = some b) wr w2) : RcAt w w2 go gi us n f u2 (zs ++ [q]) bs := by
  obtain ⟨cs, hc, _⟩ := h.inn.ids
  obtain ⟨co, hco, _⟩ := h.out.ids
  refine ⟨h.out.kept hk fun b hb => ⟨(h.lst.lt b hb).1, fun e => own_bk h.lst hco (by decide) (by rw [← e]; exact hb)⟩, h.rows.kept hk fun j x hx b hb e => own_ne (h.row_ne hx) h.lst (by decide) b hb e, h.inn.kept hk fun b hb => ⟨(h.lst.lt b hb).1, fun e => own_bk h.lst hc (by decide) (by rw [← e]; exact hb)⟩, ?_⟩
  unfold OwnI
  rw [iC_snoc, List.length_append, ← hN]
  exact hown
/-- An older beginning. -/
theorem Outs.base {w : World} {B B' : Nat} {us : List Value} {n : Nat} {f : Nat → List BSteps.El} (h : Outs w B us n f) (hb : B' ≤ B) : Outs w B' us n f :=
  ⟨h.len, fun i hi => by obtain ⟨u, h1, h2⟩ := h.row i hi; exact ⟨u, h1, row_base h2 hb⟩, h.ap⟩
end Go.Proofs.YtmfcfiiggmkbpaaDoor
/- Contract of the document's Reach: which states are reachable. -/
namespace Go.Proofs.YtmfcfiiggmkbpaaDoor
open Go.RowKit Go.Maps
attribute [local go_sem ↓] Go.wp_at_zero Go.wp_at_succ
set_option maxRecDepth 100000 in
set_option maxHeartbeats 4000000 in
theorem refReach_any (n : Nat) (k s : Int) (v : Value) (es : List Sy.Ed) (w : World) (hn : n ≤ 1000000) (hv : HasE w v es) (hm : es.length ≤ 100000) (hr : ∀ e ∈ es, (0 ≤ e.1 ∧ e.1 < (n : Int)) ∧ 0 ≤ e.2.2 ∧ e.2.2 < (n : Int)) (hs : 0 < n → 0 ≤ s ∧ s < (n : Int)) :
    Calls Tryd.prog 32 #[sysV n k s v] w fun e w' => ∃ g bs, e = .returned (.slice (some ⟨g, 0, none⟩) n n) ∧ Arr 4 w w' g (bC bs) ∧ bs.length = n ∧ ∀ p : Nat, p < n → (bs[p]? = some true ↔ Sy.Rea es s p) := by
  obtain ⟨i0, hi0, hz0, hz1, hz2⟩ := info_parts Tryd.infoI4
  obtain ⟨w0, hw0⟩ : ∃ w0, w0 = w.alloc (.cells #[.int .i64 n, .int .i64 k, .int .i64 s, v] 24) := ⟨_, rfl⟩
  have hb0 : Below w.heap.size w w0 := by rw [hw0]; exact (Below.refl _ _).alloc (Nat.le_refl _) _
  have hs0 : w0.heap.size = w.heap.size + 1 := by rw [hw0]; simp
  have hg0 : w0.heap[w.heap.size]? = some (.cells #[.int .i64 n, .int .i64 k, .int .i64 s, v] 24 (0, 0)) := by rw [hw0]; exact heap_alloc_new w _
  have hA0 := arr_new 4 (.bool false) rfl n w0
  have hmk := makeB n hn w0
  obtain ⟨w1, hw1⟩ : ∃ w1, w1 = w0.alloc (.cells (madeV (.bool false) n) 4) := ⟨_, rfl⟩
  rw [← hw1] at hA0 hmk
  rw [bC_rep] at hA0
  have hO := refOut_any n k s v es w1 hn ((hv.below hb0).below hA0.bl) hm fun e he => (hr e he).1
  have hg1 := (hA0.bl.block _ (t_lt hg0)).trans hg0
  obtain ⟨x0, x1, x2, x3⟩ := four_cells hg0
  obtain ⟨y0, y1, y2, y3⟩ := four_cells hg1
  have hA1 : Arr 4 w w1 w0.heap.size (bC (List.replicate n false)) := hA0.back hb0
  obtain ⟨gi, hgi⟩ : ∃ gi, gi = w0.heap.size := ⟨_, rfl⟩
  have hlt0 : w.heap.size < gi := by omega
  rw [← hgi] at hA1 hmk
  have H0 : Hid _ := And.intro hO (And.intro hA1 (And.intro hw0 (And.intro hw1 hg1)))
  have HR : Hid _ := hr
  have HS : Hid _ := hs
  have hv0 := hv
  obtain ⟨ao, cap, rfl, _⟩ := hv0
  obtain ⟨m, hmm⟩ : ∃ m, m = es.length := ⟨_, rfl⟩
  rw [← hmm] at H0 x3 y3 ⊢
  unfold sysV at H0 ⊢
  clear hO hA1 hw0 hw1 hg1 hA0 hb0 hg0 hr hs hv hgi hs0 hmm
  go_enter Tryd.func32, Tryd.ntmps32
  go_upto_region 1 with fail
  rw [← H0.out.2.2.1]
  by_cases h0 : n = 0
  · have z1 : ((n : Int) == 0) = true := by simp [h0]
    have HZ : Hid (n = 0) := h0
    clear h0
    go_wp2_with fail
    go_ret
    exact ⟨_, _, rfl, H0.out.2.1, by simp, fun p hp => by have := HZ.out; omega⟩
  · have z1 : ((n : Int) == 0) = false := by simp; omega
    have z2 : ¬ (n : Int) = 0 := by omega
    go_upto_region 4 with fail
    go_wp2_with fail
    refine Calls.mono H0.out.1 ?_
    rintro e w2 ⟨go, us, rfl, hAo, hOs⟩
    obtain ⟨hs1, hs2⟩ := HS.out (by omega)
    obtain ⟨t, ht⟩ : ∃ t : Nat, s = (t : Int) := ⟨s.toNat, by omega⟩
    have htn : t < n := by omega
    subst ht
    have hA2 : Arr 4 w w2 gi (bC (List.replicate n false)) := H0.out.2.1.below hAo.bl
    have hg2 := (hAo.bl.block _ (t_lt H0.out.2.2.2.2)).trans H0.out.2.2.2.2
    obtain ⟨b0, b1, b2, b3⟩ := four_cells hg2
    have hbx := t_lt hg2
    have hgl := hA2.lt
    have hq0 : ¬ gi = w2.heap.size := by omega
    have hq1 : ¬ w.heap.size = w2.heap.size := by omega
    have cg := hA2.cell (i := t) (x := .bool false) (bC_at (by rw [List.getElem?_replicate, if_pos htn]))
    have cf := hA2.free t
    have p0 : (0 : Int) ≤ (t : Int) := by omega
    have p1 : (t : Int) < (n : Int) := by omega
    have hR0 : RcAt w ((w2.setCell ⟨gi, t, none⟩ (.bool true)).alloc (.cells #[.int .i64 t] 3)) go gi us n (fun i => Sy.steps (Sy.nf es) i) (.slice (some ⟨w2.heap.size, 0, none⟩) 1 1) [(t : Int)] ((List.replicate n false).set t true) := by
      have h1 : RcAt w w2 go gi us n (fun i => Sy.steps (Sy.nf es) i) (.slice none 0 0) [] (List.replicate n false) := ⟨hAo.back H0.out.2.1.bl, hOs.base H0.out.2.1.bl.size, hA2, World.ownsRow_nil _ _ _ _⟩
      have h3 := (h1.mark t).below (w' := (w2.setCell ⟨gi, t, none⟩ (.bool true)).alloc (.cells #[.int .i64 t] 3)) ((Below.refl _ _).alloc (Nat.le_refl _) _)
      have h4 := heap_alloc_new (w2.setCell ⟨gi, t, none⟩ (.bool true)) (.cells #[.int .i64 t] 3)
      have h5 : (w2.setCell ⟨gi, t, none⟩ (.bool true)).heap.size = w2.heap.size := by simp
      rw [h5] at h4
      exact ⟨h3.out, h3.rows, h3.inn, rfl, .inr ⟨w2.heap.size, 1, #[.int .i64 t], rfl, by omega, h4, Nat.le_refl _, by unfold maxLen; omega, rfl, rfl⟩⟩
    have HH : Hid _ := And.intro hR0 (Sy.RInv.begin es (t : Int) n rfl htn)
    clear hR0 hAo hOs hA2 hg2 x0 x1 x2 x3 y0 y1 y2 y3 hmk hs1 hs2
    go_wp2_with fail
    go_loopg [5, 6] n (fun q u iv wr => ∃ (i : Nat) (zs : List Int) (bs : List Bool), q = n - i ∧ i ≤ zs.length ∧ iv = .int .i64 i ∧ RcAt w wr go gi us n (fun i => Sy.steps (Sy.nf es) i) u zs bs ∧ Sy.RInv es t n zs bs i)
    case atStart => exact ⟨0, _, _, rfl, Nat.zero_le _, rfl, HH.out.1, HH.out.2⟩
    case round =>
      obtain ⟨i, zs, bs, rfl, hi, rfl, hC, hI⟩ := hrel
      obtain ⟨wq, rfl⟩ : ∃ wq, wq = wr := ⟨_, rfl⟩
      have hzn := hI.short
      obtain ⟨N, hN⟩ : ∃ N, N = zs.length := ⟨_, rfl⟩
      obtain ⟨au, cu, hu⟩ := row_shape hC.lst
      rw [← hN] at hu hi hzn
      obtain rfl := hu
      clear b0 b1 b2 b3 cg cf hbx hgl hq0 hq1 HH
      by_cases hlt : i < N
      · obtain ⟨z, hz⟩ : ∃ z, zs[i]? = some z := ⟨zs[i]'(by omega), List.getElem?_eq_getElem _⟩
        obtain ⟨ga, rfl, cz⟩ := own_num hC.lst hz
        have hzr := hI.rng z (List.mem_of_getElem? hz)
        obtain ⟨p, rfl⟩ : ∃ p : Nat, z = (p : Int) := ⟨z.toNat, by omega⟩
        have hpn : p < n := by omega
        obtain ⟨up, hup, hOp⟩ := hC.rows.row p hpn
        obtain ⟨ar, cr, rfl⟩ := row_shape hOp
        obtain ⟨M, hM⟩ : ∃ M, M = (Sy.steps (Sy.nf es) p).length := ⟨_, rfl⟩
        have hMl : M ≤ 100000 := by have := Sy.steps_len (Sy.nf es) p; have := Sy.nf_len es; omega
        have co := hC.out.cell hup
        rw [← hM] at co
        have q0 : (0 : Int) ≤ (i : Int) := by omega
        have q1 : (i : Int) < (N : Int) := by omega
        have q2 : (0 : Int) ≤ (p : Int) := by omega
        have q3 : (p : Int) < (n : Int) := by omega
        have HI : Hid _ := And.intro hC (And.intro hI (And.intro hz (And.intro hup (And.intro hN hM))))
        clear hC hI hz hup hOp hN hM hzr
        go_wp2_with fail
        go_loopg [5, 8] M (fun q u kv wr => ∃ (k : Nat) (zs : List Int) (bs : List Bool), q = M - k ∧ k ≤ M ∧ kv = .int .i64 k ∧ RcAt w wr go gi us n (fun i => Sy.steps (Sy.nf es) i) u zs bs ∧ Sy.RInv es t n zs bs i ∧ i < zs.length ∧ zs[i]? = some (p : Int) ∧ ∀ x ∈ (Sy.steps (Sy.nf es) p).take k, x.2 ∈ zs)
        case atStart => exact ⟨0, zs, bs, rfl, Nat.zero_le _, rfl, HI.out.1, HI.out.2.1, by have := HI.out.2.2.2.2.1; omega, HI.out.2.2.1, fun x hx => by simp at hx⟩
        case round =>
          obtain ⟨k2, ys, ds, rfl, hk, rfl, hC, hJ, hil, hyp, hall⟩ := hrel
          obtain ⟨wp, rfl⟩ : ∃ wp, wp = wr := ⟨_, rfl⟩
          obtain ⟨N2, hN2⟩ : ∃ N2, N2 = ys.length := ⟨_, rfl⟩
          have hyn := hJ.short
          obtain ⟨av, cv, hv2⟩ := row_shape hC.lst
          rw [← hN2] at hv2 hil hyn
          obtain rfl := hv2
          by_cases hkm : k2 < M
          · obtain ⟨x, hx⟩ : ∃ x, (Sy.steps (Sy.nf es) p)[k2]? = some x := ⟨(Sy.steps (Sy.nf es) p)[k2]'(by have := HI.out.2.2.2.2.2; omega), List.getElem?_eq_getElem _⟩
            have hrow := hC.row_ne HI.out.2.2.2.1
            obtain ⟨gr, rfl, d0, d1⟩ := own_step hrow hx
            have hxe : ((p : Int), x.1, x.2) ∈ es := (Sy.nf_mem es _).1 (Sy.steps_mem.1 (List.mem_of_getElem? hx))
            have hxr : 0 ≤ x.2 ∧ x.2 < (n : Int) := (HR.out _ hxe).2
            obtain ⟨q, hq⟩ : ∃ q : Nat, x.2 = (q : Int) := ⟨x.2.toNat, by omega⟩
            have hqn : q < n := by omega
            rw [hq] at d1
            obtain ⟨b, hb⟩ : ∃ b, ds[q]? = some b := ⟨ds[q]'(by rw [hJ.len]; exact hqn), List.getElem?_eq_getElem _⟩
            have cb := hC.inn.cell (bC_at hb)
            have cf := hC.inn.free q
            have k0 : (0 : Int) ≤ (k2 : Int) := by omega
            have k1 : (k2 : Int) < (M : Int) := by omega
            have k3 : (0 : Int) ≤ (q : Int) := by omega
            have k4 : (q : Int) < (n : Int) := by omega
            cases b with
            | true =>
              have HJ : Hid _ := And.intro hC (And.intro hJ (And.intro hyp (And.intro hall (And.intro hx (And.intro hq (And.intro hb hN2))))))
              clear hC hJ hyp hall hx hq hb hN2 hrow hxe hxr
              go_wp2_with fail
              go_roundg (M - (k2 + 1))
              case measure => omega
              case rel =>
                exact ⟨k2 + 1, ys, ds, rfl, by omega, by go_num, HJ.out.1, HJ.out.2.1, by have := HJ.out.2.2.2.2.2.2.2; omega, HJ.out.2.2.1, fun y hy => by
                  rw [take_succ_of HJ.out.2.2.2.2.1] at hy
                  rcases List.mem_append.1 hy with hy | hy
                  · exact HJ.out.2.2.2.1 y hy
                  · rw [List.mem_singleton.1 hy, HJ.out.2.2.2.2.2.1]; exact (HJ.out.2.1.iff q).1 HJ.out.2.2.2.2.2.2.1⟩
            | false =>
              have hne : ¬ gr = gi := fun e9 => by
                obtain ⟨cs9, hc9, _⟩ := hC.inn.ids
                exact own_bk (bk := gi) hrow hc9 (by decide) (by rw [← e9]; rfl)
              have hne' : ¬ gi = gr := fun e => hne e.symm
              obtain ⟨wz, hwz⟩ : ∃ wz, wz = wp.setCell ⟨gi, q, none⟩ (.bool true) := ⟨_, rfl⟩
              have hCz : RcAt w wz go gi us n (fun i => Sy.steps (Sy.nf es) i) (.slice av N2 cv) ys (ds.set q true) := by rw [hwz]; exact hC.mark q
              have dz : wz.cell? ⟨gr, k2 * 2 + 1, none⟩ = some (.int .i64 q) := by rw [hwz]; exact kcell (Kept.setCell wp gi q _) hne d1
              have hOz : wz.ownsRow w.heap.size 3 1 (.slice av N2 cv) N2 (iC ys) := by have h1 := hCz.lst; unfold OwnI at h1; rw [← hN2] at h1; exact h1
              have hle : w.heap.size ≤ (wz.alloc (.cells #[.int .i64 q] 3)).heap.size := by have := hCz.inn.bl.size; simp; omega
              have hml : N2 + 1 ≤ maxLen := by unfold maxLen; omega
              have hby : (N2 + 1) * 8 ≤ 140737488355328 := by omega
              have hpush := hJ.push hqn hb (by rw [← hq]; exact Sy.Rea.step _ hxe (hJ.rea _ (List.mem_of_getElem? hyp))) (by omega)
              have HZ : Hid _ := And.intro hCz (And.intro hOz hwz)
              have HJ : Hid _ := And.intro hpush (And.intro hyp (And.intro hall (And.intro hx (And.intro hq hN2))))
              clear hC hJ hyp hall hx hq hb hN2 hrow hxe hxr hCz hOz hwz hpush
              go_upto_region 16 with fail
              rw [← HZ.out.2.2]
              go_wp2_with (at_builtin; refine wpList_append_own_at _ rfl _ _ 28 rfl w.heap.size 3 i0 (.int .i64 0) 1 8 Tryd.underlying28 hi0 hz0 hz1 hz2 rfl (by decide) (.slice av N2 cv) N2 (iC ys) rfl (HZ.out.2.1.alloc _) ⟨wz.heap.size, 0, none⟩ 1 1 [.int .i64 q] rfl rfl (World.news_of_block (cs := #[.int .i64 q]) (t := 3) (fr := (0, 0)) (heap_alloc_new wz _)) (by simp [Value.oneCell']) hml hby hle ?_; intro v2 w4 hown2 hgrow2 hnil2 hat2; have H2 : Hid _ := And.intro hown2 hgrow2; clear hown2 hgrow2 hnil2 hat2)
              go_roundg (M - (k2 + 1))
              case measure => omega
              case rel =>
                have hlen := HJ.out.2.2.2.2.2
                refine ⟨k2 + 1, ys ++ [(q : Int)], ds.set q true, rfl, by omega, by go_num, HZ.out.1.push hlen H2.out.1 (grown_alloc H2.out.2), HJ.out.1, by rw [List.length_append]; omega, by rw [List.getElem?_append_left (by omega)]; exact HJ.out.2.1, fun y hy => ?_⟩
                rw [take_succ_of HJ.out.2.2.2.1] at hy
                rcases List.mem_append.1 hy with hy | hy
                · exact List.mem_append_left _ (HJ.out.2.2.1 y hy)
                · rw [List.mem_singleton.1 hy, HJ.out.2.2.2.2.1]; exact List.mem_append_right _ (List.mem_singleton.2 rfl)
          · obtain rfl : k2 = M := by omega
            have k1 : ¬ (k2 : Int) < (k2 : Int) := by omega
            have hI2 := hJ.next hyp fun e he h1 => by
              have h2 : (e.2.1, e.2.2) ∈ Sy.steps (Sy.nf es) p := Sy.steps_mem.2 ((Sy.nf_mem es _).2 (by rw [← h1]; exact he))
              exact hall _ (by rw [List.take_of_length_le (by have := HI.out.2.2.2.2.2; omega)]; exact h2)
            have HJ : Hid _ := And.intro hC (And.intro hI2 hN2)
            clear hC hJ hI2 hyp hall hN2
            go_wp2_with fail
            go_roundg (n - (i + 1))
            case measure => omega
            case rel => exact ⟨i + 1, ys, ds, rfl, by have := HJ.out.2.2; omega, by go_num, HJ.out.1, HJ.out.2.1⟩
      · obtain rfl : i = N := by omega
        have q1 : ¬ (i : Int) < (i : Int) := by omega
        have HI : Hid _ := And.intro hC (And.intro hI hN)
        clear hC hI hN
        go_wp2_with fail
        go_ret
        refine ⟨_, rfl, bs, HI.out.1.inn, HI.out.2.1.len, fun p _ => ?_⟩
        have h1 := HI.out.2.1
        rw [HI.out.2.2] at h1
        exact h1.all p
end Go.Proofs.YtmfcfiiggmkbpaaDoor
/- The cut of a system: the numbers of the states that stay, plain facts, and what stands in memory while the document's Cut works. -/
namespace Go.Proofs.YtmfcfiiggmkbpaaDoor
open Go.RowKit Go.Maps
namespace Sy
/-- Of each mark its number among those that are set, or -1. -/
def ranksG : Nat → List Bool → List Int
  | _, [] => []
  | c, true :: r => (c : Int) :: ranksG (c + 1) r
  | c, false :: r => -1 :: ranksG c r
def ranks (bs : List Bool) : List Int := ranksG 0 bs
theorem ranksG_len (bs : List Bool) : ∀ c, (ranksG c bs).length = bs.length := by
  induction bs with
  | nil => intro c; rfl
  | cons b r ih => intro c; cases b <;> simp [ranksG, ih]
theorem ranks_len (bs : List Bool) : (ranks bs).length = bs.length := ranksG_len bs 0
theorem ranksG_snoc (bs : List Bool) (b : Bool) : ∀ c, ranksG c (bs ++ [b]) = ranksG c bs ++ [if b = true then ((c + bs.count true : Nat) : Int) else -1] := by
  induction bs with
  | nil => intro c; cases b <;> simp [ranksG]
  | cons x r ih =>
    intro c
    cases x with
    | true => simp only [List.cons_append, ranksG, ih, List.count_cons_self]; rw [show c + 1 + r.count true = c + (r.count true + 1) by omega]
    | false => simp only [List.cons_append, ranksG, ih]; rw [List.count_cons_of_ne (by decide)]
theorem ranks_take {bs : List Bool} {i : Nat} {b : Bool} (h : bs[i]? = some b) : ranks (bs.take (i + 1)) = ranks (bs.take i) ++ [if b = true then (((bs.take i).count true : Nat) : Int) else -1] := by
  rw [take_succ_of h]
  unfold ranks
  rw [ranksG_snoc, Nat.zero_add]
theorem count_take {bs : List Bool} {i : Nat} {b : Bool} (h : bs[i]? = some b) : (bs.take (i + 1)).count true = (bs.take i).count true + if b = true then 1 else 0 := by
  rw [take_succ_of h, List.count_append]
  cases b <;> simp
/-- The number of a state. -/
def rk (bs : List Bool) (i : Int) : Int := ((ranks bs)[i.toNat]?).getD 0
theorem rk_at {bs : List Bool} {i : Nat} (h : i < bs.length) : (ranks bs)[i]? = some (rk bs (i : Int)) := by
  unfold rk
  rw [Int.toNat_natCast, List.getElem?_eq_getElem (by rw [ranks_len]; exact h)]
  rfl
/-- The edges that stay. -/
def cutE (bs : List Bool) (es : List Ed) : List Ed := (es.filter fun e => (bs[e.1.toNat]?).getD false).map fun e => (rk bs e.1, e.2.1, rk bs e.2.2)
theorem cutE_take {bs : List Bool} {es : List Ed} {j : Nat} {e : Ed} (h : es[j]? = some e) : cutE bs (es.take (j + 1)) = if (bs[e.1.toNat]?).getD false = true then cutE bs (es.take j) ++ [(rk bs e.1, e.2.1, rk bs e.2.2)] else cutE bs (es.take j) := by
  rw [take_succ_of h]
  unfold cutE
  rw [List.filter_append, List.map_append]
  by_cases g : (bs[e.1.toNat]?).getD false = true <;> simp [g]
theorem cutE_len (bs : List Bool) (es : List Ed) : (cutE bs es).length ≤ es.length := by
  unfold cutE
  rw [List.length_map]
  exact List.length_filter_le _ _
end Sy
theorem iC_rank_step {C : List Int} {n i : Nat} (k : Int) (hC : C.length = i) (hi : i < n) : (iC C ++ List.replicate (n - i) (Value.int .i64 0)).set i (.int .i64 k) = iC (C ++ [k]) ++ List.replicate (n - (i + 1)) (Value.int .i64 0) := by
  have e : n - i = (n - (i + 1)) + 1 := by omega
  have hl : (iC C).length = i := by rw [iC_length, hC, Nat.mul_one]
  rw [List.set_append_right _ _ (by rw [hl]; omega), hl, Nat.sub_self, e, List.replicate_succ, List.set_cons_zero, iC_snoc]
  simp
end Go.Proofs.YtmfcfiiggmkbpaaDoor
/- Plain facts on rows of edges in order: how many come ahead of a row, and where a row stands. -/
namespace Go.Proofs.YtmfcfiiggmkbpaaDoor.Sy
/-- How many stand in rows ahead of this one. -/
def cnt (l : List Ed) (r : Int) : Nat := (l.filter fun e => decide (e.1 < r)).length
/-- Rows that do not fall. -/
def Rows (l : List Ed) : Prop := l.Pairwise fun a b => a.1 ≤ b.1
theorem cnt_le (l : List Ed) (r : Int) : cnt l r ≤ l.length := List.length_filter_le _ _
theorem cnt_all {l : List Ed} {r : Int} (h : ∀ e ∈ l, e.1 < r) : cnt l r = l.length := by
  unfold cnt
  rw [List.filter_eq_self.2 fun e he => by simpa using h e he]
theorem cnt_none {l : List Ed} {r : Int} (h : ∀ e ∈ l, ¬ e.1 < r) : cnt l r = 0 := by
  unfold cnt
  rw [List.filter_eq_nil_iff.2 fun e he => by simpa using h e he]
  rfl
theorem cnt_cons (e : Ed) (l : List Ed) (r : Int) : cnt (e :: l) r = (if e.1 < r then 1 else 0) + cnt l r := by
  unfold cnt
  rw [List.filter_cons]
  by_cases h : e.1 < r
  · simp [h]; omega
  · simp [h]
theorem cnt_snoc (l : List Ed) (e : Ed) (r : Int) : cnt (l ++ [e]) r = cnt l r + if e.1 < r then 1 else 0 := by
  unfold cnt
  rw [List.filter_append, List.length_append]
  by_cases h : e.1 < r <;> simp [h]
theorem cnt_mono (l : List Ed) (r : Int) : cnt l r ≤ cnt l (r + 1) := by
  induction l with
  | nil => simp [cnt]
  | cons e t ih =>
    rw [cnt_cons, cnt_cons]
    by_cases h : e.1 < r
    · have h2 : e.1 < r + 1 := by omega
      simp [h, h2]; exact ih
    · by_cases h2 : e.1 < r + 1 <;> simp [h, h2] <;> omega
/-- A row is a piece of the list. -/
theorem row_piece {l : List Ed} (h : Rows l) (i : Int) : l.filter (fun e => e.1 == i) = (l.drop (cnt l i)).take (cnt l (i + 1) - cnt l i) := by
  induction l with
  | nil => simp
  | cons e r ih =>
    obtain ⟨h1, h2⟩ := List.pairwise_cons.1 h
    have ih := ih h2
    rw [cnt_cons, cnt_cons]
    by_cases c1 : e.1 < i
    · have c2 : e.1 < i + 1 := by omega
      have c3 : (e.1 == i) = false := by simp; omega
      rw [List.filter_cons, c3, if_pos c1, if_pos c2, Nat.add_comm 1 (cnt r i), List.drop_succ_cons]
      have e1 : 1 + cnt r (i + 1) - (cnt r i + 1) = cnt r (i + 1) - cnt r i := by omega
      rw [e1]
      simpa using ih
    · have hz : cnt r i = 0 := cnt_none fun x hx => by have := h1 x hx; omega
      by_cases c2 : e.1 = i
      · have c3 : (e.1 == i) = true := by simp [c2]
        have c4 : e.1 < i + 1 := by omega
        rw [List.filter_cons, c3, if_neg c1, if_pos c4, hz]
        rw [hz] at ih
        simp only [List.drop_zero, Nat.sub_zero, if_true] at ih ⊢
        rw [ih, Nat.add_comm 1]
        simp
      · have c3 : (e.1 == i) = false := by simpa using c2
        have c4 : ¬ e.1 < i + 1 := by omega
        have hz2 : cnt r (i + 1) = 0 := cnt_none fun x hx => by have := h1 x hx; omega
        rw [List.filter_cons, c3, if_neg c1, if_neg c4, hz, hz2]
        rw [hz, hz2] at ih
        simpa using ih
/-- Behind which place the last one of a row stands; 0, if there is none. -/
def lastOf (l : List Ed) (r : Int) : Nat := (l.foldl (fun (p : Nat × Nat) e => (p.1 + 1, if e.1 = r then p.1 + 1 else p.2)) (0, 0)).2
theorem last_fst (r : Int) (l : List Ed) : ∀ p : Nat × Nat, (l.foldl (fun (p : Nat × Nat) (e : Ed) => (p.1 + 1, if e.1 = r then p.1 + 1 else p.2)) p).1 = p.1 + l.length := by
  induction l with
  | nil => intro p; rfl
  | cons e t ih => intro p; rw [List.foldl_cons, ih]; simp; omega
theorem last_snoc (l : List Ed) (e : Ed) (r : Int) : lastOf (l ++ [e]) r = if e.1 = r then l.length + 1 else lastOf l r := by
  unfold lastOf
  rw [List.foldl_append]
  simp only [List.foldl_cons, List.foldl_nil, last_fst, Nat.zero_add]
theorem last_none {l : List Ed} {r : Int} (h : ∀ e ∈ l, e.1 ≠ r) : ∀ i, i ≤ l.length → lastOf (l.take i) r = 0 := by
  intro i
  induction i with
  | zero => intro _; rfl
  | succ i ih =>
    intro hi
    obtain ⟨x, hx⟩ : ∃ x, l[i]? = some x := ⟨l[i], List.getElem?_eq_getElem _⟩
    rw [take_succ_of hx, last_snoc, if_neg (h x (List.mem_of_getElem? hx))]
    exact ih (by omega)
theorem rows_take {l : List Ed} (h : Rows l) {i : Nat} {x : Ed} (hx : l[i]? = some x) : ∀ e ∈ l.take i, e.1 ≤ x.1 := fun e he => by
  obtain ⟨j, hj, rfl⟩ := List.mem_take_iff_getElem.1 he
  obtain ⟨hi, rfl⟩ := List.getElem?_eq_some_iff.1 hx
  exact List.pairwise_iff_getElem.1 h j i (by omega) hi (by omega)
theorem cnt_last {l : List Ed} (h : Rows l) (r : Int) : ∀ i, i ≤ l.length → cnt (l.take i) (r + 1) = max (lastOf (l.take i) r) (cnt (l.take i) r) := by
  intro i
  induction i with
  | zero => intro _; simp [cnt, lastOf]
  | succ i ih =>
    intro hi
    obtain ⟨x, hx⟩ : ∃ x, l[i]? = some x := ⟨l[i], List.getElem?_eq_getElem _⟩
    have hle := rows_take h hx
    have hlen : (l.take i).length = i := by rw [List.length_take]; omega
    rw [take_succ_of hx, cnt_snoc, cnt_snoc, last_snoc, hlen]
    by_cases c1 : x.1 = r
    · have e1 : cnt (l.take i) (r + 1) = i := by rw [cnt_all fun e he => by have := hle e he; omega]; exact hlen
      have e2 := cnt_le (l.take i) r
      rw [hlen] at e2
      rw [e1, if_pos (by omega), if_pos c1, if_neg (by omega)]
      omega
    · by_cases c2 : x.1 < r
      · have e1 : cnt (l.take i) (r + 1) = i := by rw [cnt_all fun e he => by have := hle e he; omega]; exact hlen
        have e2 : cnt (l.take i) r = i := by rw [cnt_all fun e he => by have := hle e he; omega]; exact hlen
        have e3 := last_none (l := l.take i) (r := r) (fun e he => by have := hle e he; omega) i (by rw [hlen]; exact Nat.le_refl _)
        rw [List.take_take, Nat.min_self] at e3
        rw [e1, e2, e3, if_pos (by omega), if_neg c1, if_pos c2]
        omega
      · rw [if_neg (by omega), if_neg c1, if_neg c2]
        exact ih (by omega)
/-- The bounds behind the first loop, and while the second one runs: states below st have theirs. -/
def mixL (n : Nat) (l : List Ed) (st : Nat) : List Int := (List.range (n + 1)).map fun (r : Nat) => if r ≤ st then ((cnt l (r : Int) : Nat) : Int) else ((lastOf l ((r : Int) - 1) : Nat) : Int)
def bndL (n : Nat) (l : List Ed) : List Int := (List.range (n + 1)).map fun (r : Nat) => if r = 0 then 0 else ((lastOf l ((r : Int) - 1) : Nat) : Int)
def bounds (n : Nat) (l : List Ed) : List Int := (List.range (n + 1)).map fun (r : Nat) => ((cnt l (r : Int) : Nat) : Int)
theorem bnd_zero (n : Nat) : bndL n [] = List.replicate (n + 1) 0 := by
  unfold bndL
  rw [List.eq_replicate_iff]
  refine ⟨by simp, fun b hb => ?_⟩
  obtain ⟨r, _, rfl⟩ := List.mem_map.1 hb
  split <;> simp [lastOf]
theorem bnd_step {l : List Ed} {n i : Nat} {x : Ed} (hx : l[i]? = some x) {q : Nat} (hq : x.1 = (q : Int)) : (bndL n (l.take i)).set (q + 1) ((i : Int) + 1) = bndL n (l.take (i + 1)) := by
  have hlen : (l.take i).length = i := by rw [List.length_take]; have := (List.getElem?_eq_some_iff.1 hx).1; omega
  apply List.ext_getElem?
  intro r
  rw [List.getElem?_set]
  unfold bndL
  simp only [List.length_map, List.length_range, List.getElem?_map]
  by_cases hr : r < n + 1
  · rw [List.getElem?_range hr, take_succ_of hx]
    simp only [Option.map_some, last_snoc, hlen, hq]
    by_cases e : q + 1 = r
    · subst e
      rw [if_pos rfl, if_pos hr, if_neg (by omega), if_pos (by omega)]
      rfl
    · rw [if_neg e]
      by_cases e0 : r = 0
      · rw [if_pos e0, if_pos e0]
      · rw [if_neg e0, if_neg e0, if_neg (by omega)]
  · rw [List.getElem?_eq_none (by simp; omega)]
    by_cases e : q + 1 = r
    · rw [if_pos e, if_neg (by omega)]; rfl
    · rw [if_neg e]; rfl
theorem mix_zero {n : Nat} {l : List Ed} (h : ∀ e ∈ l, 0 ≤ e.1) : mixL n l 0 = bndL n l := by
  unfold mixL bndL
  apply List.map_congr_left
  intro r _
  by_cases e : r = 0
  · subst e
    simp only [Nat.le_refl, if_true]
    rw [cnt_none fun x hx => by have := h x hx; omega]
    rfl
  · rw [if_neg (by omega), if_neg e]
theorem mix_full (n : Nat) (l : List Ed) : mixL n l n = bounds n l := by
  unfold mixL bounds
  apply List.map_congr_left
  intro r hr
  have := List.mem_range.1 hr
  rw [if_pos (by omega)]
theorem mix_at {n st r : Nat} {l : List Ed} (hr : r ≤ n) : (mixL n l st)[r]? = some (if r ≤ st then ((cnt l (r : Int) : Nat) : Int) else ((lastOf l ((r : Int) - 1) : Nat) : Int)) := by
  unfold mixL
  rw [List.getElem?_map, List.getElem?_range (by omega)]
  rfl
theorem bounds_at {n r : Nat} {l : List Ed} (hr : r ≤ n) : (bounds n l)[r]? = some ((cnt l (r : Int) : Nat) : Int) := by
  unfold bounds
  rw [List.getElem?_map, List.getElem?_range (by omega)]
  rfl
theorem mix_step {n st : Nat} {l : List Ed} (h : Rows l) : (mixL n l st).set (st + 1) (((max (lastOf l (st : Int)) (cnt l (st : Int)) : Nat)) : Int) = mixL n l (st + 1) := by
  have hc := cnt_last h (st : Int) l.length (Nat.le_refl _)
  rw [List.take_length] at hc
  apply List.ext_getElem?
  intro r
  rw [List.getElem?_set]
  unfold mixL
  simp only [List.length_map, List.length_range, List.getElem?_map]
  by_cases hr : r < n + 1
  · rw [List.getElem?_range hr]
    simp only [Option.map_some]
    by_cases e : st + 1 = r
    · subst e
      rw [if_pos rfl, if_pos hr, if_pos (Nat.le_refl _), ← hc]
      rfl
    · rw [if_neg e]
      by_cases e2 : r ≤ st
      · rw [if_pos e2, if_pos (by omega)]
      · rw [if_neg e2, if_neg (by omega)]
  · rw [List.getElem?_eq_none (by simp; omega)]
    by_cases e : st + 1 = r
    · rw [if_pos e, if_neg (by omega)]; rfl
    · rw [if_neg e]; rfl
end Go.Proofs.YtmfcfiiggmkbpaaDoor.Sy
/- Contracts of the document's Canon, Together and Classes. -/
namespace Go.Proofs.YtmfcfiiggmkbpaaDoor
open Go.RowKit Go.Maps
attribute [local go_sem ↓] Go.wp_at_zero Go.wp_at_succ
namespace Sy
theorem canonG_bound (l : List Int) : ∀ seen k, k ∈ canonG seen l → k < (seenG seen l).length := by
  induction l with
  | nil => intro seen k h; simp [canonG] at h
  | cons c r ih =>
    intro seen k h
    simp only [canonG, List.mem_cons] at h
    simp only [seenG]
    have hmono : ∀ (m : List Int) (s : List Int), s.length ≤ (seenG s m).length := fun m => by
      induction m with
      | nil => intro s; simp [seenG]
      | cons d q ih2 =>
        intro s
        simp only [seenG]
        have := ih2 (if place d s < s.length then s else s ++ [d])
        have h2 : s.length ≤ (if place d s < s.length then s else s ++ [d]).length := by split <;> simp
        omega
    rcases h with rfl | h
    · have h1 := hmono r (if place c seen < seen.length then seen else seen ++ [c])
      have h2 : place c seen < (if place c seen < seen.length then seen else seen ++ [c]).length := by
        have h3 := place_le c seen
        split
        · assumption
        · simp; omega
      omega
    · exact ih _ k h
theorem place_app (c : Int) (a b : List Int) (h : ∀ x ∈ a, x ≠ c) : place c (a ++ b) = a.length + place c b := by
  induction a with
  | nil => simp
  | cons x r ih =>
    have hx := h x List.mem_cons_self
    simp only [List.cons_append, place, if_neg hx, List.length_cons]
    rw [ih fun y hy => h y (List.mem_cons_of_mem _ hy)]
    omega
theorem canon_step {zs : List Int} {i : Nat} {z : Int} (h : zs[i]? = some z) : canonG [] (zs.take (i + 1)) = canonG [] (zs.take i) ++ [place z (seenG [] (zs.take i))] := by
  obtain ⟨hl, rfl⟩ := List.getElem?_eq_some_iff.1 h
  rw [List.take_succ_eq_append_getElem hl, canonG_app]
  rfl
theorem seen_step {zs : List Int} {i : Nat} {z : Int} (h : zs[i]? = some z) : seenG [] (zs.take (i + 1)) = if place z (seenG [] (zs.take i)) < (seenG [] (zs.take i)).length then seenG [] (zs.take i) else seenG [] (zs.take i) ++ [z] := by
  obtain ⟨hl, rfl⟩ := List.getElem?_eq_some_iff.1 h
  rw [List.take_succ_eq_append_getElem hl, seenG_app]
  rfl
end Sy
/-- Numbers as cells. -/
def natC (l : List Nat) : List Value := l.map fun (k : Nat) => Value.int .i64 (k : Int)
theorem natC_len (l : List Nat) : (natC l).length = l.length := by simp [natC]
def natI (l : List Nat) : List Int := l.map fun (k : Nat) => (k : Int)
theorem iC_nat (l : List Nat) : iC (natI l) = natC l := by simp [iC, natI, natC]
theorem natC_step (C : List Nat) (n i k : Nat) (hC : C.length = i) (hi : i < n) : (natC C ++ List.replicate (n - i) (Value.int .i64 0)).set i (.int .i64 (k : Int)) = natC (C ++ [k]) ++ List.replicate (n - (i + 1)) (Value.int .i64 0) := by
  have e : n - i = (n - (i + 1)) + 1 := by omega
  rw [List.set_append_right _ _ (by rw [natC_len]; omega), natC_len, hC, Nat.sub_self, e, List.replicate_succ, List.set_cons_zero]
  simp [natC]
end Go.Proofs.YtmfcfiiggmkbpaaDoor
/- Contracts of the document's Together and Classes. -/
namespace Go.Proofs.YtmfcfiiggmkbpaaDoor
open Go.RowKit Go.Maps
attribute [local go_sem ↓] Go.wp_at_zero Go.wp_at_succ
theorem Sy.top_snoc (l : List Nat) (k : Nat) : Sy.top (l ++ [k]) = max (Sy.top l) (k + 1) := by
  induction l with
  | nil => simp [Sy.top]
  | cons a r ih => simp only [List.cons_append, Sy.top, ih]; omega
theorem Sy.top_le (l : List Nat) (m : Nat) (h : ∀ k ∈ l, k < m) : Sy.top l ≤ m := by
  induction l with
  | nil => simp [Sy.top]
  | cons a r ih =>
    have h1 := h a List.mem_cons_self
    have h2 := ih fun k hk => h k (List.mem_cons_of_mem _ hk)
    simp only [Sy.top]; omega
theorem Sy.canon_lt (zs : List Int) : ∀ k ∈ Sy.canon zs, k < zs.length := fun k hk => by
  have h1 := Sy.canonG_bound zs [] k hk
  have h2 := Sy.seenG_len zs []
  simp at h2; omega
/-- Are there as many as states, in their one form? -/
def Sy.classes (n : Int) (zs : List Int) : Bool := decide ((zs.length : Int) = n) && Sy.formG 0 zs
end Go.Proofs.YtmfcfiiggmkbpaaDoor
/- What the program's functions of chapter 7 answer: the contracts that the laws lean on. -/
namespace Go.Proofs.YtmfcfiiggmkbpaaDoor
open Go.RowKit Go.Maps
/-- Numbers that are ints. -/
def I64s (zs : List Int) : Prop := ∀ z ∈ zs, (Lit.int .i64 z).wf = true
/-- What the program's functions answer. -/
def PAlive (w : World) : Prop := ∀ W, Below w.heap.size w W → Calls Tryd.prog 7 #[] W fun r w' => r = .returned (.bool true) ∧ Below W.heap.size W w'
theorem rg_b {w2 W : World} {P : Prop} (h : P ∧ Hid (Below w2.heap.size w2 W)) : Below w2.heap.size w2 W := h.2.out
theorem rg_up4 {w2 wa wb : World} {a0 a1 a2 a3 : Addr} {x0 x1 x2 x3 : Value} (hb : Below wa.heap.size wa wb) (h : (wa.cell? a0 = some x0 ∧ wa.cell? a1 = some x1 ∧ wa.cell? a2 = some x2 ∧ wa.cell? a3 = some x3) ∧ Hid (Below w2.heap.size w2 wa)) : (wb.cell? a0 = some x0 ∧ wb.cell? a1 = some x1 ∧ wb.cell? a2 = some x2 ∧ wb.cell? a3 = some x3) ∧ Hid (Below w2.heap.size w2 wb) :=
  have up : ∀ {a : Addr} {x : Value}, wa.cell? a = some x → wb.cell? a = some x := fun c => (hb.cell (World.block_lt_of_cell? wa _ c)).trans c
  ⟨⟨up h.1.1, up h.1.2.1, up h.1.2.2.1, up h.1.2.2.2⟩, (h.2.out.trans (hb.mono h.2.out.size) : Below w2.heap.size w2 wb)⟩
end Go.Proofs.YtmfcfiiggmkbpaaDoor
