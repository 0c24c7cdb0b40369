/- Texts of this claim, joined: SgNm0, SgNamed, ErLaid, SgLaid, SyLent, SyArgI, SyArg. -/
import Derived.Test.YtkiapldehlnndabGreatDoorPart15
import Derived.Deep.AppendLies
import Derived.BigQuiet
import Derived.Test.YtkiapldehlnndabGreatDoorRows
import Derived.Test.YtkiapldehlnndabGreatDoorPart0
import Derived.Test.YtkiapldehlnndabGreatDoorPart4
import Derived.ProofKit
import Derived.LaidMore
import Derived.Stop.LaidErr
import Derived.OpenShut
import Derived.Test.YtkiapldehlnndabGreatDoorPart2
import Derived.Lib.SmallJoins
import Derived.Deep.Slices
/- StrongNamed: plain facts of states numbered in another order. -/
namespace Go.Proofs.YtkiapldehlnndabGreatDoor
open Go.RowKit Go.Maps
namespace Sg
open Ro
def fN (m K p : Nat) : Nat := (p + K) % m
def nmE (m K : Nat) (e : Sy.Ed) : Sy.Ed := ((e.1 + (K : Int)).tmod (m : Int), e.2.1, (e.2.2 + (K : Int)).tmod (m : Int))
theorem tmod_fN (m K p : Nat) : ((p : Int) + (K : Int)).tmod (m : Int) = (fN m K p : Int) := by
  rw [← Int.natCast_add]
  exact (Int.ofNat_tmod _ _).symm
theorem fN_lt {m K p : Nat} (h : 0 < m) : fN m K p < m := Nat.mod_lt _ h
theorem fN_eq {m K p : Nat} (hp : p < m) (hK : K < m) : fN m K p = if p + K < m then p + K else p + K - m := by
  unfold fN
  by_cases h : p + K < m
  · rw [if_pos h, Nat.mod_eq_of_lt h]
  · rw [if_neg h, Nat.mod_eq_sub_mod (by omega), Nat.mod_eq_of_lt (by omega)]
theorem fN_inj {m K p q : Nat} (hp : p < m) (hq : q < m) (hK : K < m) (h : fN m K p = fN m K q) : p = q := by
  rw [fN_eq hp hK, fN_eq hq hK] at h
  split at h <;> split at h <;> omega
theorem right_named {m K : Nat} {k s : Int} {es : List Sy.Ed} (hm : 0 < m) (h : Sy.right m k s es = true) : Sy.right m k ((s + (K : Int)).tmod (m : Int)) (es.map (nmE m K)) = true := by
  have hp := right_parts h
  have hs := hp.2.2.2.2.1 (by omega)
  have hb : ∀ z : Int, 0 ≤ z → 0 ≤ (z + (K : Int)).tmod (m : Int) ∧ (z + (K : Int)).tmod (m : Int) < (m : Int) := fun z hz => ⟨Int.tmod_nonneg _ (by omega), Int.tmod_lt_of_pos _ (by omega)⟩
  unfold Sy.right at h ⊢
  rw [Bool.and_eq_true, Bool.and_eq_true] at h ⊢
  refine ⟨⟨?_, decide_eq_true ⟨fun hz => by omega, fun _ => hb s hs.1⟩⟩, ?_⟩
  · rw [List.length_map]
    exact h.1.1
  · rw [List.all_eq_true]
    intro x hx
    obtain ⟨e, he, rfl⟩ := List.mem_map.1 hx
    have h3 := hp.2.2.2.2.2 e he
    have h4 := hb e.1 h3.1
    have h5 := hb e.2.2 h3.2.2.1
    exact decide_eq_true ⟨h4.1, h4.2, h5.1, h5.2, h3.2.2.2.2⟩
theorem row_named {m K : Nat} {k s : Int} {es : List Sy.Ed} (hK : K < m) (h : Sy.right m k s es = true) {p : Nat} (hp : p < m) (b t : Int) : (b, t) ∈ Sy.rowOf m (Sy.nf (es.map (nmE m K))) (fN m K p : Int) ↔ ∃ t0 : Nat, t0 < m ∧ (b, (t0 : Int)) ∈ Sy.rowOf m (Sy.nf es) (p : Int) ∧ t = (fN m K t0 : Int) := by
  have hf := fN_lt (K := K) (p := p) (show 0 < m by omega)
  rw [row_mem (by omega : 0 ≤ (fN m K p : Int) ∧ (fN m K p : Int) < (m : Int))]
  constructor
  · intro hm
    obtain ⟨e, he, heq⟩ := List.mem_map.1 hm
    have h3 := (right_parts h).2.2.2.2.2 e he
    obtain ⟨x, y, z⟩ := e
    simp only at h3
    obtain ⟨x', rfl⟩ : ∃ x' : Nat, x = (x' : Int) := ⟨x.toNat, by omega⟩
    obtain ⟨z', rfl⟩ : ∃ z' : Nat, z = (z' : Int) := ⟨z.toNat, by omega⟩
    simp only [nmE, tmod_fN, Prod.mk.injEq] at heq
    obtain ⟨e1, e2, e3⟩ := heq
    obtain rfl : x' = p := fN_inj (by omega) hp hK (by omega)
    refine ⟨z', by omega, ?_, e3.symm⟩
    rw [row_mem (by omega : 0 ≤ (x' : Int) ∧ (x' : Int) < (m : Int)), ← e2]
    exact he
  · rintro ⟨t0, ht0, hm, rfl⟩
    rw [row_mem (by omega : 0 ≤ (p : Int) ∧ (p : Int) < (m : Int))] at hm
    refine List.mem_map.2 ⟨_, hm, ?_⟩
    simp only [nmE, tmod_fN]
theorem last_named {m K R R' : Nat} {k s : Int} {es : List Sy.Ed} (hm : m ≤ 1000) (hK : K < m) (h : Sy.right m k s es = true) (hR : Last m (fun i => Sy.rowOf m (Sy.nf es) (i : Int)) R) (hR' : Last m (fun i => Sy.rowOf m (Sy.nf (es.map (nmE m K))) (i : Int)) R') {p q u v x y : Nat} (hp : p < m) (hq : q < m)
    (hu : (rnd m (fun i => Sy.rowOf m (Sy.nf es) (i : Int)) R)[p]? = some u) (hv : (rnd m (fun i => Sy.rowOf m (Sy.nf es) (i : Int)) R)[q]? = some v) (hx : (rnd m (fun i => Sy.rowOf m (Sy.nf (es.map (nmE m K))) (i : Int)) R')[fN m K p]? = some x) (hy : (rnd m (fun i => Sy.rowOf m (Sy.nf (es.map (nmE m K))) (i : Int)) R')[fN m K q]? = some y) : u = v ↔ x = y := by
  rw [← rnd_stay hR R'] at hu hv
  rw [← rnd_stay hR' R, Nat.add_comm] at hx hy
  refine rnd_named (f := fN m K) hm (fun p _ => fN_lt (by omega)) (fun p hp z hz => ?_) (fun p hp b t => row_named hK h hp b t) (R + R') p q u v x y hp hq hu hv hx hy
  have h1 := (row_mem (by omega : 0 ≤ (p : Int) ∧ (p : Int) < (m : Int))).1 hz
  have h3 := (right_parts h).2.2.2.2.2 _ h1
  exact ⟨h3.2.2.1, h3.2.2.2.1⟩
theorem nm_snoc (m K : Nat) {es : List Sy.Ed} {i : Nat} {e : Sy.Ed} (h : es[i]? = some e) : (es.take (i + 1)).map (nmE m K) = (es.take i).map (nmE m K) ++ [nmE m K e] := by
  rw [take_succ_of h, List.map_append]
  rfl
end Sg
structure NmAt (w w1 w2 wr : World) (m kk : Nat) (s st : Int) (ao : Option Addr) (L cap : Nat) (es : List Sy.Ed) (K i : Nat) : Prop where
  u : ∃ u, wr.heap[w1.heap.size]? = some (.cells #[.int .i64 m, .int .i64 kk, .int .i64 st, u] 24 (0, 0)) ∧ BEdges.Own wr w2.heap.size u ((es.take i).map (Sg.nmE m K))
  b : wr.heap[w.heap.size]? = some (.cells #[.int .i64 m, .int .i64 kk, .int .i64 s, .slice ao L cap] 24 (0, 0))
  bl : Below w1.heap.size w1 wr
  sz : w2.heap.size ≤ wr.heap.size
theorem NmAt.grow {w w1 w2 w5 w6 : World} {m kk : Nat} {s st : Int} {ao : Option Addr} {L cap : Nat} {es : List Sy.Ed} {K i : Nat} {au a6 : Option Addr} {N cu k6 : Nat} {e : Sy.Ed} (hS : w5.heap[w.heap.size]? = some (.cells #[.int .i64 m, .int .i64 kk, .int .i64 s, .slice ao L cap] 24 (0, 0))) (hT : w5.heap[w1.heap.size]? = some (.cells #[.int .i64 m, .int .i64 kk, .int .i64 st, .slice au N cu] 24 (0, 0))) (hO : BEdges.Own w5 w2.heap.size (.slice au N cu) ((es.take i).map (Sg.nmE m K))) (hbl : Below w1.heap.size w1 w5) (hsz : w2.heap.size ≤ w5.heap.size) (hw : w.heap.size < w1.heap.size) (hw2 : w1.heap.size < w2.heap.size) (he : es[i]? = some e) (hN : N = ((es.take i).map (Sg.nmE m K)).length)
    (hO6 : w6.ownsRow w2.heap.size 33 3 (.slice a6 (N + 1) k6) (N + 1) (BEdges.C ((es.take i).map (Sg.nmE m K)) ++ BEdges.enc (Sg.nmE m K e))) (hk : Kept (fun b => (Value.slice au N cu).ownBlock = some b) w5 w6) : NmAt w w1 w2 (w6.setCell ⟨w1.heap.size, 3, none⟩ (.slice a6 (N + 1) k6)) m kk s st ao L cap es K (i + 1) := by
  have hlo : ∀ b, (Value.slice au N cu).ownBlock = some b → w2.heap.size ≤ b := fun b hb => (World.ownsRow.lt hO b hb).1
  have h1 := (hk.block _ (t_lt hT) (fun hb => by have := hlo _ hb; omega)).trans hT
  have h2 := (hk.block _ (t_lt hS) (fun hb => by have := hlo _ hb; omega)).trans hS
  have h3 := heap_setCell_same w6 w1.heap.size 3 _ _ (.slice a6 (N + 1) k6) h1
  have hb6 : Below w1.heap.size w1 w6 := hbl.trans (hk.below hbl.size fun b hb => by have := hlo b hb; omega)
  refine ⟨⟨_, h3, ?_⟩, (set_other _ _ _ _ _ (by omega)).trans h2, hb6.setCell (Nat.le_refl _) _, ?_⟩
  · have h4 : w6.ownsRow w2.heap.size 33 3 (.slice a6 (N + 1) k6) ((es.take (i + 1)).map (Sg.nmE m K)).length (BEdges.C ((es.take (i + 1)).map (Sg.nmE m K))) := by
      rw [Sg.nm_snoc m K he, BEdges.C_snoc, List.length_append, ← hN]
      exact hO6
    exact trow_at h4 fun b hb => set_other _ _ _ _ _ (by have := (h4.lt b hb).1; omega)
  · have := hk.size
    have h5 : (w6.setCell ⟨w1.heap.size, 3, none⟩ (.slice a6 (N + 1) k6)).heap.size = w6.heap.size := by simp
    omega
end Go.Proofs.YtkiapldehlnndabGreatDoor
/- StrongNamed as a call. (Written by mknamed.py.) -/
namespace Go.Proofs.YtkiapldehlnndabGreatDoor
open Go.RowKit Go.Maps
attribute [local go_sem ↓] Go.wp_at_zero Go.wp_at_succ
theorem cellN9 {w w' : World} {ao : Option Addr} {n cap : Nat} {zs : List Nat} (h : HasI w (.slice ao n cap) (natI zs)) (hb : Below w.heap.size w w') {i : Nat} {z : Nat} (hz : zs[i]? = some z) : ∃ a, ao = some a ∧ w'.cell? (a.add i) = some (.int .i64 (z : Int)) := by
  obtain ⟨ao', cap', hv, hc⟩ := h
  injection hv with e1 e2 e3
  subst e1
  obtain ⟨a, h1, h2⟩ := hc i (z : Int) (by unfold natI; rw [List.getElem?_map, hz]; rfl)
  exact ⟨a, h1, (hb.cell (World.block_lt_of_cell? w _ h2)).trans h2⟩
theorem tmod_i64 {a b : Int} (ha : -9223372036854775808 ≤ a ∧ a ≤ 9223372036854775807) : -9223372036854775808 ≤ a.tmod b ∧ a.tmod b ≤ 9223372036854775807 := by
  have h1 : (a.tmod b).natAbs ≤ a.natAbs := by rw [Int.natAbs_tmod]; exact Nat.mod_le _ _
  obtain ⟨t, ht⟩ : ∃ t, t = a.tmod b := ⟨_, rfl⟩
  rw [← ht] at h1 ⊢
  rcases Int.le_total 0 a with h | h
  · have h2 := Int.tmod_nonneg b h
    rw [← ht] at h2
    omega
  · have h2 : t ≤ 0 := by
      rw [ht, ← Int.neg_neg a, Int.neg_tmod]
      have := Int.tmod_nonneg b (show 0 ≤ -a by omega)
      omega
    omega
set_option maxRecDepth 100000 in
set_option maxHeartbeats 4000000 in
theorem lawNamed_out (n k s : Int) (v : Value) (es : List Sy.Ed) (by_ : Int) (w : World) (hA : PAl9 w) (hv : HasE w v es) (hlen : (80 < n ∨ 600 < es.length) ∨ n = 0) :
    Calls Tryz.prog 3 #[sysV n k s v, .int .i64 by_] w fun r w' => r = .returned (.bool true) ∧ Below w.heap.size w w' := by
  obtain ⟨ao, cap, rfl, hcap, hH⟩ := hv
  obtain ⟨L, hL⟩ : ∃ L, L = es.length := ⟨_, rfl⟩
  rw [← hL] at hcap hlen ⊢
  obtain ⟨w1, hw1⟩ : ∃ w1, w1 = w.alloc (.cells #[.int .i64 n, .int .i64 k, .int .i64 s, .slice ao L cap] 24) := ⟨_, rfl⟩
  have hb1 : Below w.heap.size w w1 := by rw [hw1]; exact (Below.refl _ _).alloc (Nat.le_refl _) _
  have hg1 : w1.heap[w.heap.size]? = some (.cells #[.int .i64 n, .int .i64 k, .int .i64 s, .slice ao L cap] 24 (0, 0)) := by rw [hw1]; exact heap_alloc_new w _
  obtain ⟨x0, x1, x2, x3⟩ := four_cellsB hg1
  by_cases hsm : 80 < n ∨ 600 < L
  · have hSm := small_out n k s ao L cap w1 hsm
    unfold sysV at hSm ⊢
    have H1 : Hid _ := And.intro hw1 (And.intro hb1 (And.intro hSm hA))
    clear hA hH hcap hL hw1 hb1 hg1 hSm hlen hsm
    go_enter Tryz.func3, Tryz.ntmps3
    go_upto_region 1 with fail
    rw [← H1.out.1]
    go_wp2_with fail
    refine Calls.mono H1.out.2.2.1 ?_
    rintro r w2 ⟨rfl, hb2⟩
    have H2 : Hid _ := bel8 hb2 H1.out.2.1
    clear hb2 x0 x1 x2 x3
    go_wp2_with fail
    refine Calls.mono (H1.out.2.2.2 _ H2.out) ?_
    rintro r w3 ⟨rfl, hb3⟩
    have H3 : Hid _ := bel8 hb3 H2.out
    clear hb3
    go_wp2_with fail
    go_ret
    exact ⟨rfl, H3.out⟩
  · have hSm := small_in n k s ao L cap w1 (by omega) (by omega)
    unfold sysV at hSm ⊢
    have H1 : Hid _ := And.intro hw1 (And.intro hb1 (And.intro hSm (And.intro hA hg1)))
    have q2 : (n == 0) = true := by simp; omega
    clear hA hH hcap hL hw1 hb1 hg1 hSm hlen hsm
    go_enter Tryz.func3, Tryz.ntmps3
    go_upto_region 1 with fail
    rw [← H1.out.1]
    go_wp2_with fail
    refine Calls.mono H1.out.2.2.1 ?_
    rintro r w2 ⟨rfl, hb2⟩
    have H2 : Hid _ := And.intro (bel8 hb2 H1.out.2.1) (bup hb2 H1.out.2.2.2.2)
    clear hb2 x0 x1 x2 x3
    obtain ⟨x0, x1, x2, x3⟩ := four_cellsB H2.out.2
    go_wp2_with fail
    refine Calls.mono (H1.out.2.2.2.1 _ H2.out.1) ?_
    rintro r w3 ⟨rfl, hb3⟩
    have H3 : Hid _ := bel8 hb3 H2.out.1
    clear hb3
    go_wp2_with fail
    go_ret
    exact ⟨rfl, H3.out⟩
set_option maxRecDepth 100000 in
set_option maxHeartbeats 4000000 in
theorem lawNamed_bad (hS : SortOk 1000000) (n k s : Int) (v : Value) (es : List Sy.Ed) (by_ : Int) (aS aC a1 a3 : Addr) (w : World) (hA : PAl9 w) (hE : EnvS w aS aC a1 a3) (hv : HasE w v es) (hn : n ≤ 80) (hlen : es.length ≤ 600) (hn0 : n ≠ 0) (hby : -9223372036854775808 ≤ by_ ∧ by_ ≤ 9223372036854775807) (hq : Sy.right n k s es = false) :
    Calls Tryz.prog 3 #[sysV n k s v, .int .i64 by_] w fun r w' => r = .returned (.bool true) ∧ Below w.heap.size w w' := by
  obtain ⟨ao, cap, rfl, hcap, hH⟩ := hv
  obtain ⟨L, hL⟩ : ∃ L, L = es.length := ⟨_, rfl⟩
  obtain ⟨wA, hwA⟩ : ∃ wA, wA = w.alloc (.cells #[.int .i64 n, .int .i64 k, .int .i64 s, .slice ao L cap] 24) := ⟨_, rfl⟩
  have hbA : Below w.heap.size w wA := by rw [hwA]; exact (Below.refl _ _).alloc (Nat.le_refl _) _
  have hgA : wA.heap[w.heap.size]? = some (.cells #[.int .i64 n, .int .i64 k, .int .i64 s, .slice ao L cap] 24 (0, 0)) := by rw [hwA]; exact heap_alloc_new w _
  have hSm := small_in n k s ao L cap wA (by omega) (by omega)
  have hCl := fun W (hb : Below wA.heap.size wA W) => sclasses_bad hS n k s _ es aS W ((hE.below hbA).below hb).sy ((hH.below hbA).below hb) (by omega) hq
  rw [← hL] at hCl hlen ⊢
  unfold sysV at hCl hSm ⊢
  have HA : Hid _ := And.intro hwA (And.intro hbA (And.intro hgA (And.intro hSm (And.intro hCl hA))))
  obtain ⟨s0, s1, s2, s3⟩ := four_cellsB hgA
  have q1 : ((n : Int) == 0) = false := by simp; omega
  have q3 : ¬ (n : Int) = 0 := by omega
  obtain ⟨md, hmd⟩ : ∃ md, md = by_.tmod (n : Int) := ⟨_, rfl⟩
  have m3 : IntKind.i64.wrap md = md := by rw [hmd, IntKind.wrap_i64]; have := tmod_i64 (b := n) hby; omega
  have m4 : by_.tmod (n : Int) = md := hmd.symm
  clear hA hE hH hcap hL hwA hbA hgA hq hCl hSm hmd
  go_enter Tryz.func3, Tryz.ntmps3
  go_upto_region 1 with fail
  rw [← HA.out.1]
  go_wp2_with fail
  refine Calls.mono HA.out.2.2.2.1 ?_
  rintro r wB ⟨rfl, hbB⟩
  have HB : Hid _ := And.intro hbB (bup hbB HA.out.2.2.1)
  clear hbB s0 s1 s2 s3
  obtain ⟨s0, s1, s2, s3⟩ := four_cellsB HB.out.2
  go_upto_if 29 with fail
  go_cut [5] (fun s5 wx => (∃ z, s5 = .int .i64 z) ∧ wx = wB)
  case first =>
    by_cases hneg : md < 0
    · go_wp2_with fail
      go_meet
      exact ⟨⟨_, rfl⟩, rfl⟩
    · go_wp2_with fail
      go_meet
      exact ⟨⟨_, rfl⟩, rfl⟩
  case rest =>
    obtain ⟨⟨K, rfl⟩, hwc⟩ := hcut
    obtain rfl := hwc.symm
    clear hwc
    go_wp2_with fail
    refine Calls.mono (HA.out.2.2.2.2.1 _ HB.out.1) ?_
    rintro r w3 ⟨b, rfl, hC3, hb3⟩
    have H3 : Hid _ := bel8 hb3 (bel8 HB.out.1 HA.out.2.1)
    clear hC3 hb3 s0 s1 s2 s3
    go_wp2_with fail
    refine Calls.mono (HA.out.2.2.2.2.2 _ H3.out) ?_
    rintro r w4 ⟨rfl, hb4⟩
    have H4 : Hid _ := bel8 hb4 H3.out
    clear hb4
    go_wp2_with fail
    go_ret
    exact ⟨rfl, H4.out⟩
set_option maxRecDepth 100000 in
set_option maxHeartbeats 16000000 in
set_option linter.unusedSimpArgs false in
theorem lawNamed_ok (hS : SortOk 1000000) (m kk : Nat) (s : Int) (v : Value) (es : List Sy.Ed) (by_ : Int) (aS aC a1 a3 : Addr) (w : World) (hA : PAl9 w) (hE : EnvS w aS aC a1 a3) (hv : HasE w v es) (hn : m ≤ 80) (hlen : es.length ≤ 600) (hm0 : 0 < m) (hq : Sy.right m kk s es = true) :
    Calls Tryz.prog 3 #[sysV m kk s v, .int .i64 by_] w fun r w' => r = .returned (.bool true) ∧ Below w.heap.size w w' := by
  obtain ⟨i0, hi0, hz0, hz1, hz2⟩ := info_parts BEdges.Tryz.infoE
  obtain ⟨ao, cap, rfl, hcap, hH⟩ := hv
  obtain ⟨L, hL⟩ : ∃ L, L = es.length := ⟨_, rfl⟩
  rw [← hL] at hcap hlen ⊢
  have HV : Hid (BEdges.Has w (.slice ao L cap) es ∧ L = es.length ∧ PAl9 w ∧ EnvS w aS aC a1 a3 ∧ Sy.right m kk s es = true) := (by rw [hL]; exact ⟨hH, rfl, hA, hE, hq⟩ : BEdges.Has w (.slice ao L cap) es ∧ L = es.length ∧ PAl9 w ∧ EnvS w aS aC a1 a3 ∧ Sy.right m kk s es = true)
  obtain ⟨wA, hwA⟩ : ∃ wA, wA = w.alloc (.cells #[.int .i64 m, .int .i64 kk, .int .i64 s, .slice ao L cap] 24) := ⟨_, rfl⟩
  have hbA : Below w.heap.size w wA := by rw [hwA]; exact (Below.refl _ _).alloc (Nat.le_refl _) _
  have hgA : wA.heap[w.heap.size]? = some (.cells #[.int .i64 m, .int .i64 kk, .int .i64 s, .slice ao L cap] 24 (0, 0)) := by rw [hwA]; exact heap_alloc_new w _
  have hSm := small_in m kk s ao L cap wA (by omega) (by omega)
  have hsr := (right_parts hq).2.2.2.2.1 (by omega)
  have hCl := fun W (hb : Below wA.heap.size wA W) => sclasses_ok hS m kk s (.slice ao L cap) es aS W ((hE.below hbA).below hb).sy ((HV.out.1.below hbA).below hb) (by omega) hq
  unfold sysV at hCl hSm ⊢
  have HA : Hid _ := And.intro hwA (And.intro hbA (And.intro hgA (And.intro hSm (And.intro hCl hsr))))
  obtain ⟨s0, s1, s2, s3⟩ := four_cellsB hgA
  have q1 : ((m : Int) == 0) = false := by simp; omega
  have q3 : ¬ (m : Int) = 0 := by omega
  have q4 : ¬ m = 0 := by omega
  obtain ⟨md, hmd⟩ : ∃ md, md = by_.tmod (m : Int) := ⟨_, rfl⟩
  have m3 : IntKind.i64.wrap md = md := by rw [hmd, IntKind.wrap_i64]; have := Int.lt_tmod_of_pos by_ (show (0 : Int) < m by omega); have h9 := Int.tmod_lt_of_pos by_ (show (0 : Int) < m by omega); omega
  have m4 : by_.tmod (m : Int) = md := hmd.symm
  have m1 : -(m : Int) < md := by rw [hmd]; have := Int.lt_tmod_of_pos by_ (show (0 : Int) < m by omega); omega
  have m2 : md < (m : Int) := by rw [hmd]; exact Int.tmod_lt_of_pos by_ (by omega)
  have m5 : IntKind.i64.wrap (md + (m : Int)) = md + (m : Int) := by rw [IntKind.wrap_i64]; omega
  clear hA hE hH hL hwA hbA hgA hmd hq hCl hSm hsr
  go_enter Tryz.func3, Tryz.ntmps3
  go_upto_region 1 with fail
  rw [← HA.out.1]
  go_wp2_with fail
  refine Calls.mono HA.out.2.2.2.1 ?_
  rintro r wB ⟨rfl, hbB⟩
  have HB : Hid _ := And.intro hbB (bup hbB HA.out.2.2.1)
  clear hbB s0 s1 s2 s3
  obtain ⟨s0, s1, s2, s3⟩ := four_cellsB HB.out.2
  go_upto_if 29 with fail
  go_cut [5] (fun s5 wx => ∃ K : Nat, s5 = .int .i64 K ∧ K < m ∧ wx = wB)
  case first =>
    by_cases hneg : md < 0
    · go_wp2_with fail
      go_meet
      exact ⟨(md + m).toNat, by rw [Int.toNat_of_nonneg (by omega)], by omega, rfl⟩
    · go_wp2_with fail
      go_meet
      exact ⟨md.toNat, by rw [Int.toNat_of_nonneg (by omega)], by omega, rfl⟩
  case rest =>
    obtain ⟨K, rfl, hK, hwc⟩ := hcut
    obtain rfl := hwc.symm
    clear hwc m1 m2 m3 m4 m5
    go_wp2_with fail
    refine Calls.mono (HA.out.2.2.2.2.1 _ HB.out.1) ?_
    rintro r w1 ⟨uc, R, rfl, hR, hOc, hb1⟩
    have hcn : (natI (Ro.rnd m (fun i => Sy.rowOf m (Sy.nf es) (i : Int)) R)).length = m := by simp [natI, Ro.rnd_len]
    obtain ⟨ac, cc, huc⟩ := row_shape hOc
    rw [hcn] at huc
    subst huc
    have HW1 : Hid _ := And.intro (bel8 hb1 (bel8 HB.out.1 HA.out.2.1)) (And.intro (bup hb1 HB.out.2) (And.intro hR hOc.has))
    clear hb1 hR hOc hcn s0 s1 s2 s3
    obtain ⟨s0, s1, s2, s3⟩ := four_cellsB HW1.out.2.1
    obtain ⟨st, hst⟩ : ∃ st, st = (s + (K : Int)).tmod (m : Int) := ⟨_, rfl⟩
    have t1 : 0 ≤ st := by rw [hst]; exact Int.tmod_nonneg _ (by have := HA.out.2.2.2.2.2; omega)
    have t2 : st < (m : Int) := by rw [hst]; exact Int.tmod_lt_of_pos _ (by omega)
    have t5 : (s + (K : Int)).tmod (m : Int) = st := hst.symm
    have t6 : IntKind.i64.wrap (s + (K : Int)) = s + (K : Int) := by rw [IntKind.wrap_i64]; have := HA.out.2.2.2.2.2; omega
    have t7 : IntKind.i64.wrap st = st := by rw [IntKind.wrap_i64]; omega
    have HST : Hid _ := And.intro hst (And.intro t1 t2)
    clear hst t1 t2
    obtain ⟨w0, hw0⟩ : ∃ w0, w0 = w1.alloc (.cells #[.int .i64 m, .int .i64 kk, .int .i64 s, .slice ao L cap] 24) := ⟨_, rfl⟩
    have hb0 : Below w1.heap.size w1 w0 := by rw [hw0]; exact (Below.refl _ _).alloc (Nat.le_refl _) _
    have hgT0 : w0.heap[w1.heap.size]? = some (.cells #[.int .i64 m, .int .i64 kk, .int .i64 s, .slice ao L cap] 24 (0, 0)) := by rw [hw0]; exact heap_alloc_new w1 _
    have H0 : Hid _ := And.intro hw0 (And.intro hb0 hgT0)
    have f0 := cell_up s0 hb0
    have f2 := cell_up s2 hb0
    have g2 : w0.cell? ⟨w1.heap.size, 2, none⟩ = some (.int .i64 s) := cell0_of hgT0 rfl
    have gf2 := blk_free hgT0 2
    clear hw0 hb0 hgT0
    go_upto_region 10 with fail
    rw [← H0.out.1]
    obtain ⟨wS, hwS⟩ : ∃ wS, wS = w0.setCell ⟨w1.heap.size, 2, none⟩ (.int .i64 st) := ⟨_, rfl⟩
    have hbS : Below w1.heap.size w1 wS := by rw [hwS]; exact H0.out.2.1.setCell (Nat.le_refl _) _
    have hgS : wS.heap[w1.heap.size]? = some (.cells #[.int .i64 m, .int .i64 kk, .int .i64 st, .slice ao L cap] 24 (0, 0)) := by rw [hwS]; exact heap_setCell_same w0 w1.heap.size 2 _ _ (.int .i64 st) H0.out.2.2
    have HS9 : Hid _ := And.intro hwS (And.intro hbS hgS)
    have g3 : wS.cell? ⟨w1.heap.size, 3, none⟩ = some (.slice ao L cap) := cell0_of hgS rfl
    have gf3 := blk_free hgS 3
    clear hwS hbS hgS
    go_upto_region 11 with fail
    rw [← HS9.out.1]
    go_upto_region 12 with fail
    obtain ⟨w2, hw2⟩ : ∃ w2, w2 = wS.setCell ⟨w1.heap.size, 3, none⟩ (.slice none 0 0) := ⟨_, rfl⟩
    rw [← hw2]
    have hb2 : Below w1.heap.size w1 w2 := by rw [hw2]; exact HS9.out.2.1.setCell (Nat.le_refl _) _
    have hgT : w2.heap[w1.heap.size]? = some (.cells #[.int .i64 m, .int .i64 kk, .int .i64 st, .slice none 0 0] 24 (0, 0)) := by rw [hw2]; exact heap_setCell_same wS w1.heap.size 3 _ _ (.slice none 0 0) HS9.out.2.2
    clear f0 f2 g2 gf2 g3 gf3
    have hN0 : NmAt w w1 w2 w2 m kk s st ao L cap es K 0 := ⟨⟨_, hgT, by rw [List.take_zero]; exact World.ownsRow_nil _ _ _ _⟩, bup hb2 HW1.out.2.1, hb2, Nat.le_refl _⟩
    have HW2 : Hid _ := And.intro hb2 (And.intro hN0 (And.intro (bup hb2 HW1.out.2.1) (And.intro (t_lt HW1.out.2.1) (And.intro (t_lt hgT) trivial))))
    clear hw2 hb2 hgT hN0 s0 s1 s2 s3 t5 t6 t7
    obtain ⟨s0, s1, s2, s3⟩ := four_cellsB HW2.out.2.2.1
    go_wp2_with fail
    clear s0 s1 s2 s3
    go_loopg [55] L (fun q iv wr => ∃ i : Nat, q = L - i ∧ i ≤ L ∧ iv = .int .i64 i ∧ NmAt w w1 w2 wr m kk s st ao L cap es K i)
    case atStart => exact ⟨0, rfl, Nat.zero_le _, rfl, HW2.out.2.1⟩
    case round =>
      obtain ⟨i, rfl, hi, rfl, hN⟩ := hrel
      by_cases hil : i < L
      · obtain ⟨⟨x1, x2, x3⟩, hx⟩ : ∃ x, es[i]? = some x := ⟨es[i]'(by have := HV.out.2.1; omega), List.getElem?_eq_getElem _⟩
        have hxr := (right_parts HV.out.2.2.2.2).2.2.2.2.2 _ (List.mem_of_getElem? hx)
        simp only at hxr
        obtain ⟨a, rfl, c0, c1, c2⟩ := edge_at (HV.out.1.below (bel8 hN.bl HW1.out.1)) hx
        simp only at c0 c1 c2
        obtain ⟨w5, hw5⟩ : ∃ w5, w5 = wr.alloc (.cells #[.int .i64 x1, .int .i64 x2, .int .i64 x3] 33) := ⟨_, rfl⟩
        have hb5 : Below wr.heap.size wr w5 := by rw [hw5]; exact (Below.refl _ _).alloc (Nat.le_refl _) _
        have hg5 : w5.heap[wr.heap.size]? = some (.cells #[.int .i64 x1, .int .i64 x2, .int .i64 x3] 33 (0, 0)) := by rw [hw5]; exact heap_alloc_new wr _
        have e0 : w5.cell? ⟨wr.heap.size, 0, none⟩ = some (.int .i64 x1) := cell0_of hg5 rfl
        have e1 : w5.cell? ⟨wr.heap.size, 1, none⟩ = some (.int .i64 x2) := cell0_of hg5 rfl
        have e2 : w5.cell? ⟨wr.heap.size, 2, none⟩ = some (.int .i64 x3) := cell0_of hg5 rfl
        obtain ⟨u, hT, hO⟩ := hN.u
        obtain ⟨au, cu, hu⟩ := row_shape hO
        obtain ⟨N, hNl⟩ : ∃ N, N = ((es.take i).map (Sg.nmE m K)).length := ⟨_, rfl⟩
        rw [← hNl] at hu
        subst hu
        have hT5 := bup hb5 hT
        have hS5 := bup hb5 hN.b
        have hO5 : BEdges.Own w5 w2.heap.size (.slice au N cu) ((es.take i).map (Sg.nmE m K)) := trow_at hO fun b hb => hb5.block b (hO.lt b hb).2
        have hOw : w5.ownsRow w2.heap.size 33 3 (.slice au N cu) N (BEdges.C ((es.take i).map (Sg.nmE m K))) := by have h1 := hO5; unfold BEdges.Own at h1; rw [← hNl] at h1; exact h1
        obtain ⟨_, _, _, t3⟩ := four_cellsB hT5
        have tf := blk_free hT5 3
        obtain ⟨s0, _, _, _⟩ := four_cellsB hS5
        have hNn : N ≤ 600 := by rw [hNl, List.length_map, List.length_take]; omega
        have hml : N + 1 ≤ maxLen := by unfold maxLen; omega
        have hby : (N + 1) * 24 ≤ 140737488355328 := by omega
        obtain ⟨fa, hfa⟩ : ∃ fa, fa = (x1 + (K : Int)).tmod (m : Int) := ⟨_, rfl⟩
        obtain ⟨fb, hfb⟩ : ∃ fb, fb = (x3 + (K : Int)).tmod (m : Int) := ⟨_, rfl⟩
        have r1 : (x1 + (K : Int)).tmod (m : Int) = fa := hfa.symm
        have r2 : (x3 + (K : Int)).tmod (m : Int) = fb := hfb.symm
        have r3 : IntKind.i64.wrap (x1 + (K : Int)) = x1 + (K : Int) := by rw [IntKind.wrap_i64]; omega
        have r4 : IntKind.i64.wrap (x3 + (K : Int)) = x3 + (K : Int) := by rw [IntKind.wrap_i64]; omega
        have r5 : IntKind.i64.wrap fa = fa := by
          have h1 := Int.tmod_lt_of_pos (x1 + (K : Int)) (show (0 : Int) < m by omega)
          have h2 := Int.tmod_nonneg (m : Int) (show 0 ≤ x1 + (K : Int) by omega)
          rw [← hfa] at h1 h2
          rw [IntKind.wrap_i64]; omega
        have r6 : IntKind.i64.wrap fb = fb := by
          have h1 := Int.tmod_lt_of_pos (x3 + (K : Int)) (show (0 : Int) < m by omega)
          have h2 := Int.tmod_nonneg (m : Int) (show 0 ≤ x3 + (K : Int) by omega)
          rw [← hfb] at h1 h2
          rw [IntKind.wrap_i64]; omega
        have henc : BEdges.enc (Sg.nmE m K (x1, x2, x3)) = [.int .i64 fa, .int .i64 x2, .int .i64 fb] := by rw [hfa, hfb]; rfl
        have HD : Hid ((w5.drew.alloc (.cells #[.int .i64 fa, .int .i64 x2, .int .i64 fb] 33)).ownsRow w2.heap.size 33 3 (.slice au N cu) N (BEdges.C ((es.take i).map (Sg.nmE m K)))) := (World.ownsRow.alloc (trow_at hOw fun _ _ => rfl) _ : (w5.drew.alloc (.cells #[.int .i64 fa, .int .i64 x2, .int .i64 fb] 33)).ownsRow w2.heap.size 33 3 (.slice au N cu) N (BEdges.C ((es.take i).map (Sg.nmE m K))))
        have hsz5 := hN.sz
        have hs5 := hb5.size
        have hle : w2.heap.size ≤ (w5.drew.alloc (.cells #[.int .i64 fa, .int .i64 x2, .int .i64 fb] 33)).heap.size := by simp; omega
        have HG : Hid (¬ (Value.slice au N cu).ownBlock = some wr.heap.size ∧ ¬ (Value.slice au N cu).ownBlock = some w.heap.size ∧ ¬ (Value.slice au N cu).ownBlock = some w1.heap.size) := (⟨fun h => by have h1 := (hO.lt _ h).2; omega, own_bk hOw hS5 (by decide), own_bk hOw hT5 (by decide)⟩ : ¬ (Value.slice au N cu).ownBlock = some wr.heap.size ∧ ¬ (Value.slice au N cu).ownBlock = some w.heap.size ∧ ¬ (Value.slice au N cu).ownBlock = some w1.heap.size)
        have g1 := HW2.out.2.2.2.1
        have g2 := HW2.out.2.2.2.2.1
        have g3 : wr.heap.size < w5.heap.size := t_lt hg5
        have n1 : ¬ w1.heap.size = wr.heap.size := by omega
        have n2 : ¬ w1.heap.size = w.heap.size := by omega
        have n3 : ¬ wr.heap.size = w1.heap.size := by omega
        have n4 : ¬ w.heap.size = w1.heap.size := by omega
        have n5 : ¬ wr.heap.size = w5.heap.size := by omega
        have n6 : ¬ w.heap.size = w5.heap.size := by omega
        have n7 : ¬ w1.heap.size = w5.heap.size := by omega
        have m5 : wr.heap.size < w5.heap.size := by omega
        have m6 : w.heap.size < w5.heap.size := by omega
        have m7 : w1.heap.size < w5.heap.size := by omega
        have HA : Hid _ := And.intro hS5 (And.intro hT5 (And.intro hO5 (And.intro (bel8 hb5 hN.bl) (And.intro (Nat.le_trans hsz5 hs5) (And.intro hx (And.intro hNl henc))))))
        have HW5 : Hid _ := hw5
        have q9 : (i : Int) < (L : Int) := by omega
        have q8 : (0 : Int) ≤ (i : Int) := by omega
        clear hN hT hO hT5 hS5 hO5 hOw hNl henc hb5 hg5 hw5 hfa hfb hxr hx hNn g1 g2 g3 hsz5 hs5
        go_upto_region 15 with fail
        rw [← HW5.out]
        refine wp_region_held_drew (S := (fun w' => w'.cell? ⟨wr.heap.size, 0, none⟩ = some (.int .i64 x1) ∧ w'.cell? ⟨wr.heap.size, 1, none⟩ = some (.int .i64 x2) ∧ w'.cell? ⟨wr.heap.size, 2, none⟩ = some (.int .i64 x3) ∧ w'.cell? ⟨w.heap.size, 0, none⟩ = some (.int .i64 m))) (by kernel_rfl) ?_ (fun hHeld => ?_)
        · exact ⟨e0, e1, e2, s0⟩
        refine wpAnyH_take (i := 0) (oi := _) (v := ?_) rfl (by kernel_rfl) (by kernel_rfl) (by kernel_rfl) (fun _ _ _ h => h) (Or.inl ⟨by rfl, ?_⟩) (by assumption) ?_; rotate_left; (focus (intro w hSw; (try dsimp only at hSw); go_simp; (try with_reducible rfl))); (try simp only [Act.put, List.setIfInBounds_toArray, List.set_cons_zero, List.set_cons_succ])
        refine wpAnyH_take (i := 2) (oi := _) (v := ?_) rfl (by kernel_rfl) (by kernel_rfl) (by kernel_rfl) (fun _ _ _ h => h) (Or.inl ⟨by rfl, ?_⟩) (by assumption) ?_; rotate_left; (focus (intro w hSw; (try dsimp only at hSw); go_simp; (try with_reducible rfl))); (try simp only [Act.put, List.setIfInBounds_toArray, List.set_cons_zero, List.set_cons_succ])
        refine wpAnyH_take (i := 3) (oi := _) (v := ?_) rfl (by kernel_rfl) (by kernel_rfl) (by kernel_rfl) (fun _ _ _ h => h) (Or.inl ⟨by rfl, ?_⟩) (by assumption) ?_; rotate_left; (focus (intro w hSw; (try dsimp only at hSw); go_simp; (try with_reducible rfl))); (try simp only [Act.put, List.setIfInBounds_toArray, List.set_cons_zero, List.set_cons_succ])
        refine wpAnyH_take (i := 4) (oi := _) (v := ?_) rfl (by kernel_rfl) (by kernel_rfl) (by kernel_rfl) (fun _ _ _ h => h) (Or.inl ⟨by rfl, ?_⟩) (by assumption) ?_; rotate_left; (focus (intro w hSw; (try dsimp only at hSw); go_simp; (try with_reducible rfl))); (try simp only [Act.put, List.setIfInBounds_toArray, List.set_cons_zero, List.set_cons_succ])
        refine wpAnyH_take (i := 5) (oi := _) (v := ?_) rfl (by kernel_rfl) (by kernel_rfl) (by kernel_rfl) (fun _ _ _ h => h) (Or.inl ⟨by rfl, ?_⟩) (by assumption) ?_; rotate_left; (focus (intro w hSw; (try dsimp only at hSw); go_simp; (try with_reducible rfl))); (try simp only [Act.put, List.setIfInBounds_toArray, List.set_cons_zero, List.set_cons_succ])
        refine wpAnyH_take (i := 6) (oi := _) (v := ?_) rfl (by kernel_rfl) (by kernel_rfl) (by kernel_rfl) (fun _ _ _ h => h) (Or.inl ⟨by rfl, ?_⟩) (by assumption) ?_; rotate_left; (focus (intro w hSw; (try dsimp only at hSw); go_simp; (try with_reducible rfl))); (try simp only [Act.put, List.setIfInBounds_toArray, List.set_cons_zero, List.set_cons_succ])
        refine wpAnyH_take (i := 7) (oi := _) (v := ?_) rfl (by kernel_rfl) (by kernel_rfl) (by kernel_rfl) (fun _ _ _ h => h) (Or.inl ⟨by rfl, ?_⟩) (by assumption) ?_; rotate_left; (focus (intro w hSw; (try dsimp only at hSw); go_simp; (try with_reducible rfl))); (try simp only [Act.put, List.setIfInBounds_toArray, List.set_cons_zero, List.set_cons_succ])
        refine wpAnyH_take (i := 8) (oi := _) (v := ?_) rfl (by kernel_rfl) (by kernel_rfl) (by kernel_rfl) (fun _ _ _ h => h) (Or.inl ⟨by rfl, ?_⟩) (by assumption) ?_; rotate_left; (focus (intro w hSw; (try dsimp only at hSw); go_simp; (try with_reducible rfl))); (try simp only [Act.put, List.setIfInBounds_toArray, List.set_cons_zero, List.set_cons_succ])
        refine wpAnyH_take (i := 9) (oi := _) (v := ?_) rfl (by kernel_rfl) (by kernel_rfl) (by kernel_rfl) (fun _ _ _ h => h) (Or.inl ⟨by rfl, ?_⟩) (by assumption) ?_; rotate_left; (focus (intro w hSw; (try dsimp only at hSw); go_simp; (try with_reducible rfl))); (try simp only [Act.put, List.setIfInBounds_toArray, List.set_cons_zero, List.set_cons_succ])
        refine wpAnyH_take (i := 10) (oi := _) (v := ?_) rfl (by kernel_rfl) (by kernel_rfl) (by kernel_rfl) (fun _ _ _ h => h) (Or.inl ⟨by rfl, ?_⟩) (by assumption) ?_; rotate_left; (focus (intro w hSw; (try dsimp only at hSw); go_simp; (try with_reducible rfl))); (try simp only [Act.put, List.setIfInBounds_toArray, List.set_cons_zero, List.set_cons_succ])
        refine wpAnyH_take (i := 11) (oi := _) (v := ?_) rfl (by kernel_rfl) (by kernel_rfl) (by kernel_rfl) (fun _ _ _ h => h) (Or.inl ⟨by rfl, ?_⟩) (by assumption) ?_; rotate_left; (focus (intro w hSw; (try dsimp only at hSw); go_simp; (try with_reducible rfl))); (try simp only [Act.put, List.setIfInBounds_toArray, List.set_cons_zero, List.set_cons_succ])
        refine wpAnyH_take (i := 12) (oi := _) (v := ?_) rfl (by kernel_rfl) (by kernel_rfl) (by kernel_rfl) (fun _ _ _ h => h) (Or.inl ⟨by rfl, ?_⟩) (by assumption) ?_; rotate_left; (focus (intro w hSw; (try dsimp only at hSw); go_simp; (try with_reducible rfl))); (try simp only [Act.put, List.setIfInBounds_toArray, List.set_cons_zero, List.set_cons_succ])
        refine wpAnyH_take (i := 13) (oi := _) (v := ?_) rfl (by kernel_rfl) (by kernel_rfl) (by kernel_rfl) (fun _ _ _ h => h) (Or.inl ⟨by rfl, ?_⟩) (by assumption) ?_; rotate_left; (focus (intro w hSw; (try dsimp only at hSw); go_simp; (try with_reducible rfl))); (try simp only [Act.put, List.setIfInBounds_toArray, List.set_cons_zero, List.set_cons_succ])
        refine wpAnyH_take (i := 14) (oi := _) (v := ?_) rfl (by kernel_rfl) (by kernel_rfl) (by kernel_rfl) (fun _ _ _ h => h) (Or.inl ⟨by rfl, ?_⟩) (by assumption) ?_; rotate_left; (focus (intro w hSw; (try dsimp only at hSw); go_simp; (try with_reducible rfl))); (try simp only [Act.put, List.setIfInBounds_toArray, List.set_cons_zero, List.set_cons_succ])
        refine wpAnyH_take (i := 15) (oi := _) (v := ?_) rfl (by kernel_rfl) (by kernel_rfl) (by kernel_rfl) (fun _ _ _ h => h) (Or.inl ⟨by rfl, ?_⟩) (by assumption) ?_; rotate_left; (focus (intro w hSw; (try dsimp only at hSw); go_simp; (try with_reducible rfl))); (try simp only [Act.put, List.setIfInBounds_toArray, List.set_cons_zero, List.set_cons_succ])
        refine wpAnyH_take (i := 16) (oi := _) (v := ?_) rfl (by kernel_rfl) (by kernel_rfl) (by kernel_rfl) (fun _ _ _ h => h) (Or.inl ⟨by rfl, ?_⟩) (by assumption) ?_; rotate_left; (focus (intro w hSw; (try dsimp only at hSw); go_simp; (try with_reducible rfl))); (try simp only [Act.put, List.setIfInBounds_toArray, List.set_cons_zero, List.set_cons_succ])
        refine wpAnyH_take (i := 17) (oi := _) (v := ?_) rfl (by kernel_rfl) (by kernel_rfl) (by kernel_rfl) (fun _ _ _ h => h) (Or.inl ⟨by rfl, ?_⟩) (by assumption) ?_; rotate_left; (focus (intro w hSw; (try dsimp only at hSw); go_simp; (try with_reducible rfl))); (try simp only [Act.put, List.setIfInBounds_toArray, List.set_cons_zero, List.set_cons_succ])
        refine wpAnyH_take (i := 18) (oi := _) (v := ?_) rfl (by kernel_rfl) (by kernel_rfl) (by kernel_rfl) (fun _ _ _ h => h) (Or.inl ⟨by rfl, ?_⟩) (by assumption) ?_; rotate_left; (focus (intro w hSw; (try dsimp only at hSw); go_simp; (try with_reducible rfl))); (try simp only [Act.put, List.setIfInBounds_toArray, List.set_cons_zero, List.set_cons_succ])
        refine wpAnyH_ready (rs := [1, 19]) (by kernel_rfl) (by simp) ?_
        refine AllReadyH.cons (o := _) rfl (fun Ky hKy => ?_) ?_
        · go_simp
          refine hKy.out _ _ ?_ (fun hHeld => ?_)
          · ((try dsimp only); go_keep)
          clear hKy Ky
          (try simp only [Act.put, List.setIfInBounds_toArray, List.set_cons_zero, List.set_cons_succ])
          refine wpAnyH_ready (rs := [19]) (by kernel_rfl) (by simp) ?_
          refine AllReadyH.cons (o := _) rfl (fun Ky hKy => ?_) ?_
          · go_simp
            refine hKy.out _ _ ?_ (fun hHeld => ?_)
            · ((try dsimp only); go_keep)
            clear hKy Ky
            (try simp only [Act.put, List.setIfInBounds_toArray, List.set_cons_zero, List.set_cons_succ])
            refine wpAnyH_ready (rs := [20]) (by kernel_rfl) (by simp) ?_
            refine AllReadyH.cons (o := _) rfl (fun Ky hKy => ?_) ?_
            · (refine step_append_lies _ (by rfl) _ _ _ (by rfl) w2.heap.size 33 i0 _ 3 24 Tryz.underlying22 hi0 hz0 hz1 hz2 rfl (by decide) (.slice au N cu) N (BEdges.C ((es.take i).map (Sg.nmE m K))) (by rfl) HD.out ⟨w5.heap.size, 0, none⟩ 1 1 [.int .i64 fa, .int .i64 x2, .int .i64 fb] (by rfl) (by rfl) (World.news_of_block (cs := #[.int .i64 fa, .int .i64 x2, .int .i64 fb]) (t := 33) (fr := (0, 0)) (heap_alloc_new w5.drew _)) (by simp [Value.oneCell']) Nat.one_pos hml hby hle (w5.heap.size + 1) (by simp) ?_; intro g4 k4 w4 hown4 hgrow4 hat4 hlt4; have hk4 : Kept (fun b => (Value.slice au N cu).ownBlock = some b) w5 w4 := (Kept.of_below ((Below.refl _ w5).drew)).trans (grown_alloc (w := w5.drew) hgrow4); have e0 := kcell3 hk4 HG.out.1 e0; have e1 := kcell3 hk4 HG.out.1 e1; have e2 := kcell3 hk4 HG.out.1 e2; have s0 := kcell3 hk4 HG.out.2.1 s0; have t3 := kcell3 hk4 HG.out.2.2 t3; have tf := blk_free ((hk4.block _ (t_lt HA.out.2.1) HG.out.2.2).trans HA.out.2.1) 3; have H4 : Hid _ := And.intro hown4 hk4; clear hown4 hgrow4 hat4 hlt4 hk4)
              refine hKy.out _ _ ?_ (fun hHeld => ?_)
              · exact ⟨e0, e1, e2, s0⟩
              clear hKy Ky
              (try simp only [Act.put, List.setIfInBounds_toArray, List.set_cons_zero, List.set_cons_succ])
              refine wpAnyH_take (i := 21) (oi := _) (v := ?_) rfl (by kernel_rfl) (by kernel_rfl) (by kernel_rfl) (fun _ _ _ h => h) (Or.inl ⟨by rfl, ?_⟩) (by assumption) ?_; rotate_left; (focus (intro w hSw; (try dsimp only at hSw); go_simp; (try with_reducible rfl))); (try simp only [Act.put, List.setIfInBounds_toArray, List.set_cons_zero, List.set_cons_succ])
              refine wpAnyH_ready (rs := [22]) (by kernel_rfl) (by simp) ?_
              refine AllReadyH.cons (o := _) rfl (fun Ky hKy => ?_) ?_
              · go_simp
                refine hKy.out _ _ ?_ (fun hHeld => ?_)
                · ((try dsimp only); go_keep)
                clear hKy Ky
                (try simp only [Act.put, List.setIfInBounds_toArray, List.set_cons_zero, List.set_cons_succ])
                refine wpAnyH_done (by kernel_rfl) ?_ _
                (try go_simp)
                go_wp2_with fail
                go_roundg (L - (i + 1))
                case measure => omega
                case rel => exact ⟨i + 1, rfl, by omega, by go_num, NmAt.grow HA.out.1 HA.out.2.1 HA.out.2.2.1 HA.out.2.2.2.1 HA.out.2.2.2.2.1 HW2.out.2.2.2.1 HW2.out.2.2.2.2.1 HA.out.2.2.2.2.2.1 HA.out.2.2.2.2.2.2.1 (by rw [HA.out.2.2.2.2.2.2.2]; exact H4.out.1) H4.out.2⟩
              exact AllReadyH.nil
            exact AllReadyH.nil
          exact AllReadyH.nil
        refine AllReadyH.cons (o := _) rfl (fun Ky hKy => ?_) ?_
        · go_simp
          refine hKy.out _ _ ?_ (fun hHeld => ?_)
          · ((try dsimp only); go_keep)
          clear hKy Ky
          (try simp only [Act.put, List.setIfInBounds_toArray, List.set_cons_zero, List.set_cons_succ])
          refine wpAnyH_ready (rs := [1]) (by kernel_rfl) (by simp) ?_
          refine AllReadyH.cons (o := _) rfl (fun Ky hKy => ?_) ?_
          · go_simp
            refine hKy.out _ _ ?_ (fun hHeld => ?_)
            · ((try dsimp only); go_keep)
            clear hKy Ky
            (try simp only [Act.put, List.setIfInBounds_toArray, List.set_cons_zero, List.set_cons_succ])
            refine wpAnyH_ready (rs := [20]) (by kernel_rfl) (by simp) ?_
            refine AllReadyH.cons (o := _) rfl (fun Ky hKy => ?_) ?_
            · (refine step_append_lies _ (by rfl) _ _ _ (by rfl) w2.heap.size 33 i0 _ 3 24 Tryz.underlying22 hi0 hz0 hz1 hz2 rfl (by decide) (.slice au N cu) N (BEdges.C ((es.take i).map (Sg.nmE m K))) (by rfl) HD.out ⟨w5.heap.size, 0, none⟩ 1 1 [.int .i64 fa, .int .i64 x2, .int .i64 fb] (by rfl) (by rfl) (World.news_of_block (cs := #[.int .i64 fa, .int .i64 x2, .int .i64 fb]) (t := 33) (fr := (0, 0)) (heap_alloc_new w5.drew _)) (by simp [Value.oneCell']) Nat.one_pos hml hby hle (w5.heap.size + 1) (by simp) ?_; intro g4 k4 w4 hown4 hgrow4 hat4 hlt4; have hk4 : Kept (fun b => (Value.slice au N cu).ownBlock = some b) w5 w4 := (Kept.of_below ((Below.refl _ w5).drew)).trans (grown_alloc (w := w5.drew) hgrow4); have e0 := kcell3 hk4 HG.out.1 e0; have e1 := kcell3 hk4 HG.out.1 e1; have e2 := kcell3 hk4 HG.out.1 e2; have s0 := kcell3 hk4 HG.out.2.1 s0; have t3 := kcell3 hk4 HG.out.2.2 t3; have tf := blk_free ((hk4.block _ (t_lt HA.out.2.1) HG.out.2.2).trans HA.out.2.1) 3; have H4 : Hid _ := And.intro hown4 hk4; clear hown4 hgrow4 hat4 hlt4 hk4)
              refine hKy.out _ _ ?_ (fun hHeld => ?_)
              · exact ⟨e0, e1, e2, s0⟩
              clear hKy Ky
              (try simp only [Act.put, List.setIfInBounds_toArray, List.set_cons_zero, List.set_cons_succ])
              refine wpAnyH_take (i := 21) (oi := _) (v := ?_) rfl (by kernel_rfl) (by kernel_rfl) (by kernel_rfl) (fun _ _ _ h => h) (Or.inl ⟨by rfl, ?_⟩) (by assumption) ?_; rotate_left; (focus (intro w hSw; (try dsimp only at hSw); go_simp; (try with_reducible rfl))); (try simp only [Act.put, List.setIfInBounds_toArray, List.set_cons_zero, List.set_cons_succ])
              refine wpAnyH_ready (rs := [22]) (by kernel_rfl) (by simp) ?_
              refine AllReadyH.cons (o := _) rfl (fun Ky hKy => ?_) ?_
              · go_simp
                refine hKy.out _ _ ?_ (fun hHeld => ?_)
                · ((try dsimp only); go_keep)
                clear hKy Ky
                (try simp only [Act.put, List.setIfInBounds_toArray, List.set_cons_zero, List.set_cons_succ])
                refine wpAnyH_done (by kernel_rfl) ?_ _
                (try go_simp)
                go_wp2_with fail
                go_roundg (L - (i + 1))
                case measure => omega
                case rel => exact ⟨i + 1, rfl, by omega, by go_num, NmAt.grow HA.out.1 HA.out.2.1 HA.out.2.2.1 HA.out.2.2.2.1 HA.out.2.2.2.2.1 HW2.out.2.2.2.1 HW2.out.2.2.2.2.1 HA.out.2.2.2.2.2.1 HA.out.2.2.2.2.2.2.1 (by rw [HA.out.2.2.2.2.2.2.2]; exact H4.out.1) H4.out.2⟩
              exact AllReadyH.nil
            exact AllReadyH.nil
          exact AllReadyH.nil
        exact AllReadyH.nil
      · obtain rfl : i = L := by omega
        have q9 : ¬ (i : Int) < (i : Int) := by omega
        have hall : es.take i = es := List.take_of_length_le (by have := HV.out.2.1; omega)
        obtain ⟨u, hT, hO⟩ := hN.u
        rw [hall] at hO
        have hrt : Sy.right m kk st (es.map (Sg.nmE m K)) = true := by rw [HST.out.1]; exact Sg.right_named (by omega) HV.out.2.2.2.2
        have hle := fun R' (hR' : Ro.Last m (fun i => Sy.rowOf m (Sy.nf (es.map (Sg.nmE m K))) (i : Int)) R') p q u v x y (hp : p < m) (hq : q < m) h1 h2 h3 h4 => Sg.last_named (K := K) (p := p) (q := q) (u := u) (v := v) (x := x) (y := y) (by omega) hK HV.out.2.2.2.2 HW1.out.2.2.1 hR' hp hq h1 h2 h3 h4
        obtain ⟨au, cu, hu⟩ := row_shape hO
        obtain ⟨N, hNl⟩ : ∃ N, N = (es.map (Sg.nmE m K)).length := ⟨_, rfl⟩
        rw [← hNl] at hu
        subst hu
        obtain ⟨r0, r1, r2, r3⟩ := four_cellsB hT
        have hCt := sclasses_ok hS m kk st (.slice au N cu) (es.map (Sg.nmE m K)) aS wr (HV.out.2.2.2.1.below (bel8 hN.bl HW1.out.1)).sy (BEdges.Own.has hO) (by have := HV.out.2.1; simp; omega) hrt
        unfold sysV at hCt
        have HC : Hid _ := And.intro hCt (And.intro hN.bl (And.intro hN.b hle))
        clear hT hO hN hNl hCt hle hrt hall
        go_wp2_with fail
        refine Calls.mono HC.out.1 ?_
        rintro r w5 ⟨ud, R', rfl, hR', hOd, hb5⟩
        have hdn : (natI (Ro.rnd m (fun i => Sy.rowOf m (Sy.nf (es.map (Sg.nmE m K))) (i : Int)) R')).length = m := by simp [natI, Ro.rnd_len]
        obtain ⟨ad, cd, hud⟩ := row_shape hOd
        rw [hdn] at hud
        subst hud
        have hb15 := bel8 hb5 HC.out.2.1
        have H5 : Hid _ := And.intro hb15 (And.intro hOd.has (And.intro (HW1.out.2.2.2.below hb15) (And.intro (bup hb5 HC.out.2.2.1) (fun p q u v x y hp hq h1 h2 h3 h4 => HC.out.2.2.2 R' hR' p q u v x y hp hq h1 h2 h3 h4))))
        clear hR' hOd hb5 hdn r0 r1 r2 r3 hb15
        obtain ⟨s0, s1, s2, s3⟩ := four_cellsB H5.out.2.2.2.1
        have q7 : ((m : Int) != (m : Int)) = false := by simp
        go_wp2_with fail
        clear s0 s1 s2 s3
        go_loopg [13] m (fun q9 iv wr => ∃ p : Nat, q9 = m - p ∧ p ≤ m ∧ iv = .int .i64 p ∧ Below w5.heap.size w5 wr)
        case atStart => exact ⟨0, rfl, Nat.zero_le _, rfl, Below.refl _ _⟩
        case round =>
          obtain ⟨p, rfl, hp, rfl, hbp⟩ := hrel
          obtain ⟨w9, rfl⟩ : ∃ w9, w9 = wr := ⟨_, rfl⟩
          have s0 : w9.cell? ⟨w.heap.size, 0, none⟩ = some (.int .i64 m) := (four_cellsB (bup hbp H5.out.2.2.2.1)).1
          by_cases hpm : p < m
          · have u1 : (p : Int) < (m : Int) := by omega
            have HP : Hid _ := hbp
            clear hbp
            go_wp2_with fail
            clear s0
            go_loopg [14] p (fun q9 iv wr => ∃ q : Nat, q9 = p - q ∧ q ≤ p ∧ iv = .int .i64 q ∧ Below w5.heap.size w5 wr)
            case atStart => exact ⟨0, rfl, Nat.zero_le _, rfl, HP.out⟩
            case round =>
              obtain ⟨q, rfl, hqp, rfl, hbq⟩ := hrel
              obtain ⟨w8, rfl⟩ : ∃ w8, w8 = wr := ⟨_, rfl⟩
              by_cases hq2 : q < p
              · have s0 : w8.cell? ⟨w.heap.size, 0, none⟩ = some (.int .i64 m) := (four_cellsB (bup hbq H5.out.2.2.2.1)).1
                have hfp := Sg.fN_lt (K := K) (p := p) hm0
                have hfq := Sg.fN_lt (K := K) (p := q) hm0
                have hgt : ∀ (es' : List Sy.Ed) (R0 j : Nat), j < m → ∃ y, (Ro.rnd m (fun i => Sy.rowOf m (Sy.nf es') (i : Int)) R0)[j]? = some y := fun es' R0 j hj => ⟨_, List.getElem?_eq_getElem (by rw [Ro.rnd_len]; exact hj)⟩
                obtain ⟨cp, hcp⟩ := hgt es R p hpm
                obtain ⟨cq, hcq⟩ := hgt es R q (by omega)
                obtain ⟨dp, hdp⟩ := hgt (es.map (Sg.nmE m K)) R' (Sg.fN m K p) hfp
                obtain ⟨dq, hdq⟩ := hgt (es.map (Sg.nmE m K)) R' (Sg.fN m K q) hfq
                have hiff := H5.out.2.2.2.2 p q cp cq dp dq hpm (by omega) hcp hcq hdp hdq
                obtain ⟨b1, hb1, k1⟩ := cellN9 H5.out.2.2.1 hbq hcp
                obtain ⟨b2, hb2, k2⟩ := cellN9 H5.out.2.2.1 hbq hcq
                obtain ⟨b3, hb3, k3⟩ := cellN9 H5.out.2.1 hbq hdp
                obtain ⟨b4, hb4, k4⟩ := cellN9 H5.out.2.1 hbq hdq
                subst hb1
                obtain rfl : b1 = b2 := Option.some.inj hb2
                subst hb3
                obtain rfl : b3 = b4 := Option.some.inj hb4
                obtain ⟨fp, hfpe⟩ : ∃ fp, fp = Sg.fN m K p := ⟨_, rfl⟩
                obtain ⟨fq, hfqe⟩ : ∃ fq, fq = Sg.fN m K q := ⟨_, rfl⟩
                rw [← hfpe] at k3 hfp
                rw [← hfqe] at k4 hfq
                have v1 : ((p : Int) + (K : Int)).tmod (m : Int) = (fp : Int) := by rw [hfpe]; exact Sg.tmod_fN m K p
                have v2 : ((q : Int) + (K : Int)).tmod (m : Int) = (fq : Int) := by rw [hfqe]; exact Sg.tmod_fN m K q
                have v3 : IntKind.i64.wrap ((p : Int) + (K : Int)) = (p : Int) + (K : Int) := by rw [IntKind.wrap_i64]; omega
                have v4 : IntKind.i64.wrap ((q : Int) + (K : Int)) = (q : Int) + (K : Int) := by rw [IntKind.wrap_i64]; omega
                have v5 : IntKind.i64.wrap (fp : Int) = (fp : Int) := by rw [IntKind.wrap_i64]; omega
                have v6 : IntKind.i64.wrap (fq : Int) = (fq : Int) := by rw [IntKind.wrap_i64]; omega
                have p0 : (0 : Int) ≤ (p : Int) := by omega
                have p1 : (q : Int) < (p : Int) := by omega
                have p2 : (0 : Int) ≤ (q : Int) := by omega
                have p3 : (q : Int) < (m : Int) := by omega
                have p4 : (0 : Int) ≤ (fp : Int) := by omega
                have p5 : (fp : Int) < (m : Int) := by omega
                have p6 : (0 : Int) ≤ (fq : Int) := by omega
                have p7 : (fq : Int) < (m : Int) := by omega
                have HQ : Hid _ := hbq
                clear hbq hcp hcq hdp hdq hb2 hb4 hfpe hfqe hgt
                by_cases hce : cp = cq
                · have hde := hiff.1 hce
                  have n1 : ((cp : Int) == (cq : Int)) = true := by simp [hce]
                  have n2 : ((dp : Int) == (dq : Int)) = true := by simp [hde]
                  have n3 : (cp == cq) = true := by simp [hce]
                  have n4 : (dp == dq) = true := by simp [hde]
                  clear hce hde hiff
                  go_wp2_with fail
                  go_quiet (fail)
                  go_wp2_with fail
                  go_roundg (p - (q + 1))
                  case measure => omega
                  case rel => exact ⟨q + 1, rfl, by omega, by go_num, below_drewN HQ.out _⟩
                · have hde := fun h => hce (hiff.2 h)
                  have n1 : ((cp : Int) == (cq : Int)) = false := by simp; omega
                  have n2 : ((dp : Int) == (dq : Int)) = false := by simp; omega
                  have n3 : (cp == cq) = false := by simpa using hce
                  have n4 : (dp == dq) = false := by simpa using hde
                  clear hce hde hiff
                  go_wp2_with fail
                  go_quiet (fail)
                  go_wp2_with fail
                  go_roundg (p - (q + 1))
                  case measure => omega
                  case rel => exact ⟨q + 1, rfl, by omega, by go_num, below_drewN HQ.out _⟩
              · obtain rfl : q = p := by omega
                have p1 : ¬ (q : Int) < (q : Int) := by omega
                have HQ : Hid _ := hbq
                clear hbq
                go_wp2_with fail
                go_roundg (m - (q + 1))
                case measure => omega
                case rel => exact ⟨q + 1, rfl, by omega, by go_num, HQ.out⟩
          · obtain rfl : p = m := by omega
            have u1 : ¬ (p : Int) < (p : Int) := by omega
            have HP : Hid _ := hbp
            clear hbp
            go_wp2_with fail
            refine Calls.mono (HV.out.2.2.1 _ (bel8 (bel8 HP.out H5.out.1) HW1.out.1)) ?_
            rintro r w6 ⟨rfl, hb6⟩
            have H6 : Hid _ := bel8 hb6 (bel8 (bel8 HP.out H5.out.1) HW1.out.1)
            clear hb6
            go_wp2_with fail
            go_ret
            exact ⟨rfl, H6.out⟩
theorem lawNamed_any (hS : SortOk 1000000) (n k s : Int) (v : Value) (es : List Sy.Ed) (by_ : Int) (aS aC a1 a3 : Addr) (w : World) (hby : -9223372036854775808 ≤ by_ ∧ by_ ≤ 9223372036854775807) (hE : EnvS w aS aC a1 a3) (hv : HasE w v es) :
    Calls Tryz.prog 3 #[sysV n k s v, .int .i64 by_] w fun r w' => r = .returned (.bool true) ∧ Below w.heap.size w w' := by
  have hA := pAl9 hS aS aC a1 a3 w hE
  by_cases h1 : (80 < n ∨ 600 < es.length) ∨ n = 0
  · exact lawNamed_out n k s v es by_ w hA hv h1
  · cases hq : Sy.right n k s es with
    | false => exact lawNamed_bad hS n k s v es by_ aS aC a1 a3 w hA hE hv (by omega) (by omega) (by omega) hby hq
    | true =>
      have hp := right_parts hq
      obtain ⟨m, rfl⟩ : ∃ m : Nat, n = (m : Int) := ⟨n.toNat, by omega⟩
      obtain ⟨kk, rfl⟩ : ∃ m : Nat, k = (m : Int) := ⟨k.toNat, by omega⟩
      exact lawNamed_ok hS m kk s v es by_ aS aC a1 a3 w hA hE hv (by omega) (by omega) (by omega) hq
end Go.Proofs.YtkiapldehlnndabGreatDoor
/- What the listed package variables give: api's errors lie in memory, each at an address of its own, whichever are listed. (Written by mker.py.) -/
namespace Go.Proofs.YtkiapldehlnndabGreatDoor
open Go.ChangeShapes Go.WideShapes Go.ChangeAt Go.WideMaps Go.WideElems Go.RowKit
theorem Tryz.own : ownKnob Tryz.prog.godebug = none := by kernel_rfl
theorem Tryz.laidOut : laidOutB Tryz.prog = true := by kernel_rfl
theorem Tryz.cellsE : Tryz.prog.cellsOf 240 = 1 := by kernel_rfl
theorem Tryz.cellsS : Tryz.prog.cellsOf 9 = 1 := by kernel_rfl
set_option maxRecDepth 100000 in
theorem Tryz.star : "*" ++ "errors.errorString" = "*errors.errorString" := by decide
set_option maxRecDepth 100000 in
theorem Tryz.rowE (u : TypeId) (h : Tryz.prog.typeName? 3 u = some "*errors.errorString") : u = 220 :=
  typeName_ptr_named (nm := "errors.errorString") (by rw [Tryz.star]; kernel_rfl) (by kernel_rfl) (by decide) u (by rw [Tryz.star]; exact h)
set_option maxRecDepth 100000 in
theorem laid_step {W : World} {n : String} {g : Nat} {text : List UInt8} {r : List (String × DataW Unit)} {ps : List MemPlace} (hg : Tryz.prog.globalNamed n = some g) (ht : (Tryz.prog.globals[g]?).map (·.type) = some 29)
    (h : DataW.LaidVars Tryz.prog W ((n, .iface "*errors.errorString" (.ptr (.agg [.lit (.string text)]))) :: r) ps)
    (hrows : ∀ b off, MemPlace.cell b off ∈ ps → (∃ c t, W.heap[b]? = some (.cells c t (0, 0))) ∧ ∀ u v, W.cell? ⟨b, off, none⟩ = some (.iface u v) → Value.okWide Tryz.prog W .any 0 u v) :
    ∃ a q, Sent W g a ∧ DataW.LaidVars Tryz.prog W r q ∧ ps = MemPlace.cell g 0 :: MemPlace.cell a.block a.off :: q := by
  obtain ⟨g0, t0, cs0, f0, p0, q0, hg0, ht0, hv0, hd0, hr, e0⟩ := h
  obtain rfl := Option.some.inj (hg.symm.trans hg0)
  obtain rfl := Option.some.inj (ht.symm.trans ht0)
  subst e0
  obtain ⟨l0⟩ := cs0
  have ok0 : ∀ u v, l0 = [.iface u v] → Value.okWide Tryz.prog W .any 0 u v := fun u v e => by
    subst e
    exact (hrows g 0 (by simp [MemPlace.row])).2 u v (by simpa using World.var?_cell hg0 hv0 0)
  obtain ⟨a0, s0, rfl, hc0, hs0, hz0, rfl⟩ := errorString_of_trod Tryz.underlying29 Tryz.rowE Tryz.underlying220 Tryz.underlying240 rfl rfl Tryz.underlying9 Tryz.cellsE Tryz.cellsS hd0 ok0
  refine ⟨a0, q0, ⟨by simpa using World.var?_cell hg0 hv0 0, (hrows a0.block a0.off (by simp [MemPlace.row])).1⟩, hr, ?_⟩
  simp [MemPlace.row]
abbrev LE : Type := String × Nat × List UInt8
def leV (x : LE) : String × DataW Unit := (x.1, .iface "*errors.errorString" (.ptr (.agg [.lit (.string x.2.2)])))
theorem laid_list {W : World} {r : List (String × DataW Unit)} : ∀ (xs : List LE) (ps : List MemPlace), (∀ x ∈ xs, Tryz.prog.globalNamed x.1 = some x.2.1 ∧ (Tryz.prog.globals[x.2.1]?).map (·.type) = some 29) →
    DataW.LaidVars Tryz.prog W (xs.map leV ++ r) ps → (∀ b off, MemPlace.cell b off ∈ ps → (∃ c t, W.heap[b]? = some (.cells c t (0, 0))) ∧ ∀ u v, W.cell? ⟨b, off, none⟩ = some (.iface u v) → Value.okWide Tryz.prog W .any 0 u v) →
    ∃ ads : List Addr, ads.length = xs.length ∧ (∀ (i : Nat) (x : LE) (a : Addr), xs[i]? = some x → ads[i]? = some a → Sent W x.2.1 a) ∧ (∀ a ∈ ads, MemPlace.cell a.block a.off ∈ ps) ∧ (ps.Nodup → ads.Pairwise (· ≠ ·))
  | [], ps, _, _, _ => ⟨[], rfl, fun i x a h => by simp at h, fun a h => by simp at h, fun _ => List.Pairwise.nil⟩
  | x :: xs, ps, hx, h, hr => by
    obtain ⟨a, q, hs, hq, rfl⟩ := laid_step (hx x List.mem_cons_self).1 (hx x List.mem_cons_self).2 h hr
    obtain ⟨ads, h1, h2, h3, h4⟩ := laid_list xs q (fun y hy => hx y (List.mem_cons_of_mem _ hy)) hq (fun b off hb => hr b off (List.mem_cons_of_mem _ (List.mem_cons_of_mem _ hb)))
    refine ⟨a :: ads, by simp [h1], fun i y b hy hb => ?_, fun b hb => ?_, fun hn => ?_⟩
    · cases i with
      | zero => simp at hy hb; subst hy; subst hb; exact hs
      | succ i => exact h2 i y b (by simpa using hy) (by simpa using hb)
    · rcases List.mem_cons.1 hb with rfl | hb
      · exact List.mem_cons_of_mem _ List.mem_cons_self
      · exact List.mem_cons_of_mem _ (List.mem_cons_of_mem _ (h3 b hb))
    · have hn2 := (List.nodup_cons.1 hn).2
      have hn3 := List.nodup_cons.1 hn2
      exact List.Pairwise.cons (fun b hb e => hn3.1 (by rw [e]; exact h3 b hb)) (h4 hn3.2)
end Go.Proofs.YtkiapldehlnndabGreatDoor
/- What the listed package variables give strong's statements: four errors and the handle that errors.As asks. -/
namespace Go.Proofs.YtkiapldehlnndabGreatDoor
open Go.ChangeShapes Go.WideShapes Go.ChangeAt Go.WideMaps Go.WideElems Go.RowKit
theorem Tryz.et : Tryz.prog.globalNamed "errors.errorType" = some 19 := by kernel_rfl
theorem Tryz.rt : (Tryz.prog.cutTypes.find? (·.1 == "internal/reflectlite.rtype")).map (·.2) = some 105 := by kernel_rfl
theorem Tryz.oneRow : ((List.range Tryz.prog.types.size).filter fun t => Tryz.prog.rowNamed t [101, 114, 114, 111, 114]) = [29] := by kernel_rfl
set_option maxRecDepth 100000 in
theorem handle_of {W : World} (h : handlesMet Tryz.prog [("errors.errorType", Rows.laid_errors_errorType)] W) : W.cell? ⟨19, 0, none⟩ = some (.iface 105 (.agg #[.pointer (some ⟨23, 29, none⟩)])) := by
  obtain ⟨name, u, ty, e1, e2, e3, e4, e5⟩ := h _ (List.mem_singleton.2 rfl)
  have en : name = [101, 114, 114, 111, 114] := (Option.some.inj e1).symm
  subst en
  obtain rfl := Option.some.inj (Tryz.rt.symm.trans e2)
  have hm : ty ∈ (List.range Tryz.prog.types.size).filter fun t => Tryz.prog.rowNamed t [101, 114, 114, 111, 114] := List.mem_filter.2 ⟨List.mem_range.2 e3, e4⟩
  rw [Tryz.oneRow] at hm
  obtain rfl := List.mem_singleton.1 hm
  have hh : typeHandle Tryz.prog 29 = .pointer (some ⟨23, 29, none⟩) := by kernel_rfl
  rw [hh] at e5
  simpa using World.var?_cell Tryz.et e5 0
theorem four_of {W : World} {x1 x3 x14 x15 : List UInt8} {r : List (String × DataW Unit)} (h : laidMet Tryz.prog (("semblance/api.ErrArg", .iface "*errors.errorString" (.ptr (.agg [.lit (.string x1)]))) :: ("semblance/api.ErrIndex", .iface "*errors.errorString" (.ptr (.agg [.lit (.string x3)]))) :: ("semblance/api.ErrSystem", .iface "*errors.errorString" (.ptr (.agg [.lit (.string x14)]))) :: ("semblance/api.ErrClasses", .iface "*errors.errorString" (.ptr (.agg [.lit (.string x15)]))) :: r) W) : ∃ a1 a3 aS aC, Sent W 2 a1 ∧ Sent W 4 a3 ∧ Sent W 0 aS ∧ Sent W 1 aC := by
  obtain ⟨ps, h0, hnd, r0⟩ := h
  obtain ⟨ads, h1, h2, _, _⟩ := laid_list [("semblance/api.ErrArg", 2, x1), ("semblance/api.ErrIndex", 4, x3), ("semblance/api.ErrSystem", 0, x14), ("semblance/api.ErrClasses", 1, x15)] ps (fun x hx => by
    simp only [List.mem_cons, List.not_mem_nil, or_false] at hx
    rcases hx with rfl | rfl | rfl | rfl
    · exact ⟨by kernel_rfl, by kernel_rfl⟩
    · exact ⟨by kernel_rfl, by kernel_rfl⟩
    · exact ⟨by kernel_rfl, by kernel_rfl⟩
    · exact ⟨by kernel_rfl, by kernel_rfl⟩) h0 r0
  have at' : ∀ i, i < 4 → ∃ a, ads[i]? = some a := fun i hi => ⟨_, List.getElem?_eq_getElem (by rw [h1]; exact hi)⟩
  obtain ⟨a, ha⟩ := at' 0 (by decide)
  obtain ⟨b, hb⟩ := at' 1 (by decide)
  obtain ⟨c, hc⟩ := at' 2 (by decide)
  obtain ⟨d, hd⟩ := at' 3 (by decide)
  exact ⟨a, b, c, d, h2 0 _ a rfl ha, h2 1 _ b rfl hb, h2 2 _ c rfl hc, h2 3 _ d rfl hd⟩
theorem envS_of {W : World} {x1 x3 x14 x15 : List UInt8} {r : List (String × DataW Unit)} (h : laidMet Tryz.prog (("semblance/api.ErrArg", .iface "*errors.errorString" (.ptr (.agg [.lit (.string x1)]))) :: ("semblance/api.ErrIndex", .iface "*errors.errorString" (.ptr (.agg [.lit (.string x3)]))) :: ("semblance/api.ErrSystem", .iface "*errors.errorString" (.ptr (.agg [.lit (.string x14)]))) :: ("semblance/api.ErrClasses", .iface "*errors.errorString" (.ptr (.agg [.lit (.string x15)]))) :: r) W ∧ handlesMet Tryz.prog [("errors.errorType", Rows.laid_errors_errorType)] W) : ∃ aS aC a1 a3, EnvS W aS aC a1 a3 := by
  obtain ⟨a1, a3, aS, aC, h1, h3, hs, hc⟩ := four_of h.1
  exact ⟨aS, aC, a1, a3, hs, hc, h1, h3, handle_of h.2⟩
end Go.Proofs.YtkiapldehlnndabGreatDoor
/- Contracts of the book's SameSystem, Lent and Stays. -/
namespace Go.Proofs.YtkiapldehlnndabGreatDoor
open Go.RowKit Go.Maps
attribute [local go_sem ↓] Go.wp_at_zero Go.wp_at_succ
def mk3 : List Sy.Ed := [(-7, 0, 0), (-7, 1, 0), (-7, 2, 0)]
def LentE (w : World) (B : Nat) (u : Value) (es : List Sy.Ed) : Prop := ∃ g cap, u = .slice (some ⟨g, 0, none⟩) es.length cap ∧ es.length + 3 ≤ cap ∧ BEdges.Own w B (.slice (some ⟨g, 0, none⟩) (es.length + 3) cap) (es ++ mk3)
end Go.Proofs.YtkiapldehlnndabGreatDoor
/- A list of numbers that came in, as a plain list. -/
namespace Go.Proofs.YtkiapldehlnndabGreatDoor
open Go.ChangeShapes Go.WideShapes Go.ChangeAt Go.WideMaps Go.WideElems Go.RowKit
theorem Tryz.cIntE : Tryz.prog.cellsOf 3 = 1 := by kernel_rfl
end Go.Proofs.YtkiapldehlnndabGreatDoor
/- A list of edges, and a system, that came in, out of their reading. -/
namespace Go.Proofs.YtkiapldehlnndabGreatDoor
open Go.ChangeShapes Go.WideShapes Go.ChangeAt Go.WideMaps Go.WideElems Go.RowKit
theorem Tryz.cEdge : Tryz.prog.cellsOf 33 = 3 := by kernel_rfl
theorem Tryz.cSys : Tryz.prog.cellsOf 24 = 4 := by kernel_rfl
theorem ed_choose {n : Nat} {p : Nat → Sy.Ed → Prop} (h : ∀ i, i < n → ∃ x, p i x) : ∃ f : Nat → Sy.Ed, ∀ i, i < n → p i (f i) := by
  classical
  refine ⟨fun i => if hi : i < n then Classical.choose (h i hi) else (0, 0, 0), fun i hi => ?_⟩
  simp only [hi, dif_pos]
  exact Classical.choose_spec (h i hi)
set_option maxRecDepth 100000 in
theorem edge_in {H : Type} {enc : TypeId × Value → H} {W : World} {fuel i : Nat} {a : Addr} {cs : List Value} {x : DataW H × List MemPlace} (hc : W.cells? 0 (a.add (i * 3)) 3 = some cs) (h : DataW.trod enc Tryz.prog W 0 (fun _ => true) true fuel 33 cs = some x) :
    ∃ z : Sy.Ed, ∀ q u, (BEdges.enc z)[q]? = some u → W.cell? (a.add (i * 3 + q)) = some u := by
  obtain ⟨_, hlen, hcell⟩ := World.cells?_some hc
  obtain ⟨xs, k, hk, _, _, hxl, hf⟩ := DataW.trod_struct Tryz.underlying33 h
  match xs, hxl, cs, hlen with
  | [y0, y1, y2], _, [v0, v1, v2], _ =>
    have g0 := hf 0 _ rfl
    have g1 := hf 1 _ rfl
    have g2 := hf 2 _ rfl
    simp [Tryz.cIntE] at g0 g1 g2
    obtain ⟨z0, e0, _⟩ := DataW.trod_int Tryz.underlying3 g0
    obtain ⟨z1, e1, _⟩ := DataW.trod_int Tryz.underlying3 g1
    obtain ⟨z2, e2, _⟩ := DataW.trod_int Tryz.underlying3 g2
    obtain rfl : v0 = .int .i64 z0 := by simpa using e0
    obtain rfl : v1 = .int .i64 z1 := by simpa using e1
    obtain rfl : v2 = .int .i64 z2 := by simpa using e2
    have c0 := hcell 0 (by omega)
    have c1 := hcell 1 (by omega)
    have c2 := hcell 2 (by omega)
    rw [Go.Deep.add_add] at c0 c1 c2
    refine ⟨(z0, z1, z2), fun q u hq => ?_⟩
    match q, hq with
    | 0, hq => cases hq; simpa using c0
    | 1, hq => cases hq; simpa using c1
    | 2, hq => cases hq; simpa using c2
    | q + 3, hq => simp [BEdges.enc] at hq
set_option maxRecDepth 100000 in
theorem edges_in {H : Type} {enc : TypeId × Value → H} {W : World} {fuel : Nat} {v : Value} {x : DataW H × List MemPlace} (h : DataW.trod enc Tryz.prog W 0 (fun _ => true) true fuel 22 [v] = some x) : ∃ es, HasE W v es ∧ es.length ≤ maxLen := by
  rcases Go.Deep.open_slice Tryz.underlying22 h with ⟨hc, _⟩ | ⟨a, len, cap, m, n, D, Pl, hc, _, hl, hm, hmm, _, hx⟩
  · obtain rfl : v = .slice none 0 0 := by injection hc
    exact ⟨[], ⟨none, 0, rfl, Nat.le_refl _, none, 0, rfl, fun i s h => by simp [BEdges.C] at h⟩, by simp⟩
  · obtain rfl : v = .slice (some a) len cap := by injection hc
    have hm' : m = cap := by simpa using hmm
    rw [Tryz.cEdge] at hx
    have each : ∀ i, i < len → ∃ z : Sy.Ed, ∀ q u, (BEdges.enc z)[q]? = some u → W.cell? (a.add (i * 3 + q)) = some u := fun i hi => by
      obtain ⟨cs, h1, h2⟩ := hx i (by omega)
      exact edge_in h1 h2
    obtain ⟨f, hf'⟩ := ed_choose each
    have hL : ((List.range len).map f).length = len := by simp
    refine ⟨(List.range len).map f, ⟨some a, cap, by rw [hL], by rw [hL]; omega, some a, cap, by rw [hL], fun j u hj => ⟨a, rfl, ?_⟩⟩, by rw [hL]; omega⟩
    have hj3 : j < len * 3 := by have := (List.getElem?_eq_some_iff.1 hj).1; rw [BEdges.C_len, hL] at this; exact this
    have hi : j / 3 < len := by omega
    have hz : ((List.range len).map f)[j / 3]? = some (f (j / 3)) := by rw [List.getElem?_map, List.getElem?_range hi]; rfl
    have h9 := BEdges.C_at _ _ _ hz (j % 3) (Nat.mod_lt _ (by decide))
    have e9 : j / 3 * 3 + j % 3 = j := by omega
    rw [e9, hj] at h9
    have h8 := hf' (j / 3) hi (j % 3) u h9.symm
    rw [e9] at h8
    exact h8
set_option maxRecDepth 100000 in
theorem has_sys {H : Type} {enc : TypeId × Value → H} {W : World} {base : Nat} {v : Value} {d : DataW H} {ps : List MemPlace} (hok : Value.okWide Tryz.prog W .any base 24 v) (h : DataW.Trod enc Tryz.prog W 0 (fun _ => true) true 24 v d ps) :
    ∃ (n k s : Int) (u : Value) (es : List Sy.Ed), v = sysV n k s u ∧ HasE W u es ∧ es.length ≤ maxLen := by
  obtain ⟨v0, v1, v2, v3, y0, y1, y2, y3, f, rfl, _, _, t0, t1, t2, t3⟩ := Go.Joins.open_agg4 Tryz.underlying24 (by kernel_rfl) Tryz.cSys hok h
  obtain ⟨z0, e0, _⟩ := DataW.trod_int Tryz.underlying3 t0
  obtain ⟨z1, e1, _⟩ := DataW.trod_int Tryz.underlying3 t1
  obtain ⟨z2, e2, _⟩ := DataW.trod_int Tryz.underlying3 t2
  obtain rfl : v0 = .int .i64 z0 := by simpa using e0
  obtain rfl : v1 = .int .i64 z1 := by simpa using e1
  obtain rfl : v2 = .int .i64 z2 := by simpa using e2
  obtain ⟨es, h1, h2⟩ := edges_in t3
  exact ⟨z0, z1, z2, v3, es, rfl, h1, h2⟩
end Go.Proofs.YtkiapldehlnndabGreatDoor
