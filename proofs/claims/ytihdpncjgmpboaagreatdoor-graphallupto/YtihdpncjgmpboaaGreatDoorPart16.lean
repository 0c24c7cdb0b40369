/- Texts of this claim, joined: SyCls, SyGAll, SoPiv. -/
import Derived.Test.YtihdpncjgmpboaaGreatDoorPart15
import Derived.Test.YtihdpncjgmpboaaGreatDoorPart0
import Derived.Test.YtihdpncjgmpboaaGreatDoorPart6
import Derived.Test.YtihdpncjgmpboaaGreatDoorPart11
import Derived.Test.YtihdpncjgmpboaaGreatDoorPart12
import Derived.Test.YtihdpncjgmpboaaGreatDoorPart13
import Derived.Test.YtihdpncjgmpboaaGreatDoorPart10
import Derived.Test.YtihdpncjgmpboaaGreatDoorPart8
import Derived.Deep.RegionHeld3
/- Contracts of slices.Equal of numbers, and of the program's Canon, Together and Classes. -/
namespace Go.Proofs.YtihdpncjgmpboaaGreatDoor
open Go.RowKit Go.Maps
namespace Sy
theorem natI_range_len (k : Nat) : (natI (List.range k)).length = k := by simp [natI]
theorem place_range (k : Nat) (c : Int) (h0 : 0 ≤ c) (h1 : c ≤ k) : ((place c (natI (List.range k)) : Nat) : Int) = c := by
  obtain ⟨m, rfl⟩ : ∃ m : Nat, c = (m : Int) := ⟨c.toNat, by omega⟩
  by_cases h : m < k
  · have hm : (m : Int) ∈ natI (List.range k) := by
      unfold natI
      exact List.mem_map.2 ⟨m, List.mem_range.2 h, rfl⟩
    have h2 := place_at hm
    obtain ⟨hl, h3⟩ := List.getElem?_eq_some_iff.1 h2
    simp only [natI, List.getElem_map, List.getElem_range] at h3
    exact h3
  · obtain rfl : m = k := by omega
    rw [place_not, natI_range_len]
    intro hm
    unfold natI at hm
    obtain ⟨x, hx, e⟩ := List.mem_map.1 hm
    have := List.mem_range.1 hx
    omega
theorem formG_own (l : List Int) : ∀ k : Nat, formG k l = true → natI (canonG (natI (List.range k)) l) = l := by
  induction l with
  | nil => intro k _; rfl
  | cons c r ih =>
    intro k h
    simp only [formG, Bool.and_eq_true, decide_eq_true_eq] at h
    obtain ⟨⟨h0, h1⟩, h2⟩ := h
    have hp := place_range k c h0 h1
    show ((place c (natI (List.range k)) : Nat) : Int) :: natI (canonG (if place c (natI (List.range k)) < (natI (List.range k)).length then natI (List.range k) else natI (List.range k) ++ [c]) r) = c :: r
    rw [hp]
    congr 1
    rw [natI_range_len]
    by_cases e : c = (k : Int)
    · rw [if_pos e] at h2
      rw [if_neg (by omega)]
      have h3 := ih (k + 1) h2
      rw [List.range_succ] at h3
      subst e
      simpa [natI] using h3
    · rw [if_neg e] at h2
      rw [if_pos (by omega)]
      exact ih k h2
theorem formG_iff (l : List Int) : formG 0 l = (l == natI (canon l)) := by
  cases h : formG 0 l with
  | true =>
    have h1 := formG_own l 0 h
    symm
    rw [beq_iff_eq]
    exact h1.symm
  | false =>
    symm
    rw [beq_eq_false_iff_ne]
    intro e
    have h1 := formG_canon l []
    rw [show canonG [] l = canon l from rfl, ← e] at h1
    rw [show ([] : List Int).length = 0 from rfl, h] at h1
    cases h1
end Sy
set_option maxRecDepth 100000 in
theorem pCanon : PCanon := fun v zs W hv hn hw => by
  have hC := numbered_any v zs W hv hn hw
  go_enter Tryz.func17, Tryz.ntmps17
  go_wp2_with (go_at_call 37; refine hC.mono ?_; rintro r w1 ⟨u, rfl, hO, hb⟩; have HO : Hid _ := And.intro hO hb; clear hO hb)
  go_ret
  exact ⟨u, rfl, HO.out.1, HO.out.2⟩
end Go.Proofs.YtihdpncjgmpboaaGreatDoor
/- GraphAll as a call: for every system the statement answers true. -/
namespace Go.Proofs.YtihdpncjgmpboaaGreatDoor
open Go.RowKit Go.Maps
attribute [local go_sem ↓] Go.wp_at_zero Go.wp_at_succ
theorem bel6 {w W w8 : World} (hb : Below W.heap.size W w8) (h : Below w.heap.size w W) : Below w.heap.size w w8 := h.trans (hb.mono h.size)
theorem res_up6 {W w8 : World} {b : Nat} {o : Obj} (hb : Below W.heap.size W w8) (h : W.heap[b]? = some o) : w8.heap[b]? = some o := (hb.block b (t_lt h)).trans h
/-- A book whose lists lie anywhere in what was made since. -/
def Bk3 (wB wr : World) : Prop := WISE.E wB wr (fun b => b < wr.heap.size) (fun b => b < wr.heap.size) (fun b => b < wr.heap.size)
theorem Bk3.bw {wB wr : World} (h : Bk3 wB wr) : Below wB.heap.size wB wr := WISE.E.bw h
theorem Bk3.new (wB : World) : Bk3 wB (wB.alloc (.cells WISE.bookZ 44)) := (WISE.new wB).mono (fun _ _ h => h.elim) (fun _ _ h => h.elim) (fun _ _ h => h.elim)
theorem Bk3.below {wB wr w1 : World} (h : Bk3 wB wr) (hb : Below wr.heap.size wr w1) : Bk3 wB w1 := (WISE.E.below h hb).mono (fun _ hl _ => hl) (fun _ hl _ => hl) (fun _ hl _ => hl)
theorem Bk3.ints {wB wr w1 : World} (h : Bk3 wB wr) (hb : Below wr.heap.size wr w1) {v : Value} {zs : List Int} (hO : OwnI w1 wr.heap.size v zs) (hsz : zs.length ≤ 1000000) :
    Calls Tryz.prog 9 #[.pointer (some ⟨wB.heap.size, 0, none⟩), v] w1 fun r w2 => r = .returned (.tuple #[]) ∧ Bk3 wB w2 ∧ WISE.Fr w1 w2 := by
  refine ((WISE.E.below h hb).addInts v zs wr.heap.size hO (Bk3.bw h).size (fun b hb => by have := (hO.lt b hb).1; omega) hsz).mono ?_
  rintro r w2 ⟨rfl, hE, hF⟩
  exact ⟨rfl, hE.mono (fun _ hl _ => hl) (fun _ hl _ => hl) (fun _ hl _ => hl), hF⟩
theorem Bk3.steps {wB wr w1 : World} (h : Bk3 wB wr) (hb : Below wr.heap.size wr w1) {v : Value} {zs : List BSteps.El} (hO : BSteps.Own w1 wr.heap.size v zs) (hsz : zs.length ≤ 1000000) :
    Calls Tryz.prog 6 #[.pointer (some ⟨wB.heap.size, 0, none⟩), v] w1 fun r w2 => r = .returned (.tuple #[]) ∧ Bk3 wB w2 ∧ WISE.Fr w1 w2 := by
  refine ((WISE.E.below h hb).addSteps v zs wr.heap.size hO (Bk3.bw h).size (fun b hb => by have := (hO.lt b hb).1; omega) hsz).mono ?_
  rintro r w2 ⟨rfl, hE, hF⟩
  exact ⟨rfl, hE.mono (fun _ hl _ => hl) (fun _ hl _ => hl) (fun _ hl _ => hl), hF⟩
theorem Bk3.edges {wB wr w1 : World} (h : Bk3 wB wr) (hb : Below wr.heap.size wr w1) {v : Value} {zs : List BEdges.El} (hO : BEdges.Own w1 wr.heap.size v zs) (hsz : zs.length ≤ 1000000) :
    Calls Tryz.prog 12 #[.pointer (some ⟨wB.heap.size, 0, none⟩), v] w1 fun r w2 => r = .returned (.tuple #[]) ∧ Bk3 wB w2 ∧ WISE.Fr w1 w2 := by
  refine ((WISE.E.below h hb).addEdges v zs wr.heap.size hO (Bk3.bw h).size (fun b hb => by have := (hO.lt b hb).1; omega) hsz).mono ?_
  rintro r w2 ⟨rfl, hE, hF⟩
  exact ⟨rfl, hE.mono (fun _ hl _ => hl) (fun _ hl _ => hl) (fun _ hl _ => hl), hF⟩
theorem Bk3.apart {wB wr : World} (h : Bk3 wB wr) : Calls Tryz.prog 18 #[.pointer (some ⟨wB.heap.size, 0, none⟩)] wr fun r w' => r = .returned (.bool true) ∧ Below wB.heap.size wB w' := WISE.E.apart h
theorem i64_wf {z : Int} (h1 : -9223372036854775808 ≤ z) (h2 : z ≤ 9223372036854775807) : (Lit.int .i64 z).wf = true := by
  simp [Lit.wf, IntKind.min, IntKind.max, IntKind.bits, IntKind.signed]
  omega
theorem ends_le (l : List BSteps.El) (b : Int) : (Sy.ends l b).length ≤ l.length := by
  unfold Sy.ends
  rw [List.length_map]
  exact List.length_filter_le _ _
theorem cutE_le (ms : List Bool) (l : List Sy.Ed) : (Sy.cutE ms l).length ≤ l.length := by
  unfold Sy.cutE
  rw [List.length_map]
  exact List.length_filter_le _ _
theorem marked_le (ms : List Bool) : (Sy.marked ms).length ≤ ms.length := by
  unfold Sy.marked
  rw [List.length_map]
  exact Nat.le_trans (List.length_filter_le _ _) (by simp)
theorem nfs_le {es : List Sy.Ed} {M : Nat} (h : es.length ≤ M) : (Sy.nf es).length ≤ M ∧ (Sy.nf ((Sy.nf es).map Sy.turn)).length ≤ M := by
  have h1 := Sy.nf_len es
  have h2 := Sy.nf_len ((Sy.nf es).map Sy.turn)
  rw [List.length_map] at h2
  omega
theorem ranksG_lt (bs : List Bool) : ∀ c z, z ∈ Sy.ranksG c bs → -1 ≤ z ∧ z < (c : Int) + bs.length := by
  induction bs with
  | nil => intro c z h; simp [Sy.ranksG] at h
  | cons b r ih =>
    intro c z h
    cases b with
    | true =>
      rcases List.mem_cons.1 h with rfl | h
      · simp; omega
      · have := ih (c + 1) z h; simp at this ⊢; omega
    | false =>
      rcases List.mem_cons.1 h with rfl | h
      · simp; omega
      · have := ih c z h; simp at this ⊢; omega
set_option maxRecDepth 100000 in
set_option maxHeartbeats 2000000 in
theorem lawGAll_out (n k s : Int) (v : Value) (es : List Sy.Ed) (w : World) (hA : PAlive w) (hv : HasE w v es) (hout : 300 < es.length ∨ 40 < n) :
    Calls Tryz.prog 3 #[sysV n k s v] w fun r w' => r = .returned (.bool true) ∧ Below w.heap.size w w' := by
  have hvs := hv
  obtain ⟨ao, cap, rfl, hcap, hH⟩ := hvs
  obtain ⟨L, hL⟩ : ∃ L, L = es.length := ⟨_, rfl⟩
  obtain ⟨w1, hw1⟩ : ∃ w1, w1 = w.alloc (.cells #[.int .i64 n, .int .i64 k, .int .i64 s, .slice ao L cap] 24) := ⟨_, rfl⟩
  have hb1 : Below w.heap.size w w1 := by rw [hw1]; exact (Below.refl _ _).alloc (Nat.le_refl _) _
  have hg1 : w1.heap[w.heap.size]? = some (.cells #[.int .i64 n, .int .i64 k, .int .i64 s, .slice ao L cap] 24 (0, 0)) := by rw [hw1]; exact heap_alloc_new w _
  rw [← hL] at hout ⊢
  unfold sysV
  have H1 : Hid _ := And.intro hw1 (And.intro hb1 hA)
  obtain ⟨x0, x1, x2, x3⟩ := four_cells hg1
  clear hA hv hH hcap hL hw1 hb1 hg1
  by_cases h3 : 300 < L
  · have q1 : decide ((300 : Int) < (L : Int)) = true := decide_eq_true (by omega)
    have q2 : decide (300 < L) = true := decide_eq_true h3
    clear hout h3
    go_enter Tryz.func3, Tryz.ntmps3
    go_upto_region 1 with fail
    rw [← H1.out.1]
    go_wp2_with fail
    refine Calls.mono (H1.out.2.2 _ H1.out.2.1) ?_
    rintro r w3 ⟨rfl, hb3⟩
    have H3 : Hid (Below w.heap.size w w3) := bel6 hb3 H1.out.2.1
    clear hb3
    go_wp2_with fail
    go_ret
    exact ⟨rfl, H3.out⟩
  · have q1 : decide ((300 : Int) < (L : Int)) = false := decide_eq_false (by omega)
    have q2 : decide (300 < L) = false := decide_eq_false h3
    have q3 : decide ((40 : Int) < n) = true := decide_eq_true (by omega)
    clear hout h3
    go_enter Tryz.func3, Tryz.ntmps3
    go_upto_region 1 with fail
    rw [← H1.out.1]
    go_wp2_with fail
    refine Calls.mono (H1.out.2.2 _ H1.out.2.1) ?_
    rintro r w3 ⟨rfl, hb3⟩
    have H3 : Hid (Below w.heap.size w w3) := bel6 hb3 H1.out.2.1
    clear hb3
    go_wp2_with fail
    go_ret
    exact ⟨rfl, H3.out⟩
set_option maxRecDepth 100000 in
set_option maxHeartbeats 2000000 in
theorem lawGAll_bad (hS : SortOk 1000000) (n k s : Int) (v : Value) (es : List Sy.Ed) (a : Addr) (w : World) (hA : PAlive w) (hE : Sent w 0 a) (hv : HasE w v es) (hlen : es.length ≤ 300) (hn : n ≤ 40) (hq : Sy.right n k s es = false) :
    Calls Tryz.prog 3 #[sysV n k s v] w fun r w' => r = .returned (.bool true) ∧ Below w.heap.size w w' := by
  have hvs := hv
  obtain ⟨ao, cap, rfl, hcap, hH⟩ := hvs
  obtain ⟨L, hL⟩ : ∃ L, L = es.length := ⟨_, rfl⟩
  obtain ⟨w1, hw1⟩ : ∃ w1, w1 = w.alloc (.cells #[.int .i64 n, .int .i64 k, .int .i64 s, .slice ao L cap] 24) := ⟨_, rfl⟩
  have hb1 : Below w.heap.size w w1 := by rw [hw1]; exact (Below.refl _ _).alloc (Nat.le_refl _) _
  have hg1 : w1.heap[w.heap.size]? = some (.cells #[.int .i64 n, .int .i64 k, .int .i64 s, .slice ao L cap] 24 (0, 0)) := by rw [hw1]; exact heap_alloc_new w _
  have hN := new_bad hS n k s _ es a w1 (hE.below hb1) (hH.below hb1) (by omega) (by omega) hq
  rw [← hL] at hN hlen ⊢
  unfold sysV at hN ⊢
  have H1 : Hid _ := And.intro hw1 (And.intro hb1 (And.intro hN hA))
  obtain ⟨x0, x1, x2, x3⟩ := four_cells hg1
  have q1 : decide ((300 : Int) < (L : Int)) = false := decide_eq_false (by omega)
  have q2 : decide (300 < L) = false := decide_eq_false (by omega)
  have q3 : decide ((40 : Int) < n) = false := decide_eq_false (by omega)
  clear hA hE hv hH hcap hL hw1 hb1 hg1 hN hq hlen hn
  go_enter Tryz.func3, Tryz.ntmps3
  go_upto_region 1 with fail
  rw [← H1.out.1]
  go_wp2_with fail
  refine Calls.mono H1.out.2.2.1 ?_
  rintro r w2 ⟨x, rfl, hC, hb2⟩
  obtain ⟨T, u, rfl⟩ := hC.iface
  have H2 : Hid _ := bel6 hb2 H1.out.2.1
  clear hC hb2
  go_wp2_with fail
  refine Calls.mono (H1.out.2.2.2 _ H2.out) ?_
  rintro r w3 ⟨rfl, hb3⟩
  have H3 : Hid (Below w.heap.size w w3) := bel6 hb3 H2.out
  clear hb3
  go_wp2_with fail
  go_ret
  exact ⟨rfl, H3.out⟩
set_option linter.unusedSimpArgs false in
set_option maxRecDepth 100000 in
set_option maxHeartbeats 16000000 in
theorem lawGAll_in (hS : SortOk 1000000) (m : Nat) (k s : Int) (v : Value) (es : List Sy.Ed) (a : Addr) (w : World) (hA : PAlive w) (hE : Sent w 0 a) (hv : HasE w v es) (hlen : es.length ≤ 300) (hm : m ≤ 40) (hq : Sy.right m k s es = true) :
    Calls Tryz.prog 3 #[sysV m k s v] w fun r w' => r = .returned (.bool true) ∧ Below w.heap.size w w' := by
  have hvs := hv
  obtain ⟨ao, cap, rfl, hcap, hH⟩ := hvs
  obtain ⟨L, hL⟩ : ∃ L, L = es.length := ⟨_, rfl⟩
  obtain ⟨w1, hw1⟩ : ∃ w1, w1 = w.alloc (.cells #[.int .i64 m, .int .i64 k, .int .i64 s, .slice ao L cap] 24) := ⟨_, rfl⟩
  have hb1 : Below w.heap.size w w1 := by rw [hw1]; exact (Below.refl _ _).alloc (Nat.le_refl _) _
  have hg1 : w1.heap[w.heap.size]? = some (.cells #[.int .i64 m, .int .i64 k, .int .i64 s, .slice ao L cap] 24 (0, 0)) := by rw [hw1]; exact heap_alloc_new w _
  have hN := new_ok hS m k s _ es a w1 (hE.below hb1) (hH.below hb1) (by omega) (by omega) hq
  have hNm : ∀ W, Below w.heap.size w W → Calls Tryz.prog 16 #[sysV m k s (.slice ao es.length cap)] W fun r w' => ∃ x u, r = .returned (.tuple #[sysV m k s u, x]) ∧ BEdges.Own w' W.heap.size u (Sy.nf es) ∧ Below W.heap.size W w' := fun W hb => (normal_any hS m k s _ es a W (hE.below hb) (hH.below hb) (by omega) (by omega)).mono fun r w' ⟨x, u, h1, _, h3, h4⟩ => ⟨x, u, by rw [hq] at h1; exact h1, h3 hq, h4⟩
  have hDo := fun W (hb : Below w.heap.size w W) => refOut_any m k s _ es W (by omega) (hv.below hb) (by omega) (fun e he => by have := (right_parts hq).2.2.2.2.2 e he; omega)
  have hDs := fun W (hb : Below w.heap.size w W) => refSorted_any _ es W (hv.below hb) (by omega)
  unfold SortedAt at hDs
  have hnf := nfs_le hlen
  have hk := (right_parts hq).2.1
  rw [← hL] at hN hNm hDo hDs ⊢
  unfold sysV at hN hNm hDo ⊢
  have q1 : decide ((300 : Int) < (L : Int)) = false := decide_eq_false (by omega)
  have q2 : decide (300 < L) = false := decide_eq_false (by omega)
  have q3 : decide ((40 : Int) < (m : Int)) = false := decide_eq_false (by omega)
  have q4 : decide (40 < m) = false := decide_eq_false (by omega)
  have H1 : Hid _ := And.intro hw1 (And.intro hb1 (And.intro hN (And.intro hA (And.intro hg1 (And.intro hNm (And.intro hDo (And.intro hDs (And.intro hnf hk))))))))
  obtain ⟨x0, x1, x2, x3⟩ := four_cells hg1
  clear hA hE hv hH hcap hL hw1 hb1 hg1 hN hq hlen hNm hDo hDs hnf hk
  go_enter Tryz.func3, Tryz.ntmps3
  go_upto_region 1 with fail
  rw [← H1.out.1]
  go_wp2_with fail
  refine Calls.mono H1.out.2.2.1 ?_
  rintro r wB ⟨g, bs, bb, cs, cb, m', hm', rfl, hGr, hb2⟩
  obtain rfl : m = m' := by omega
  have hgs := res_up6 hb2 H1.out.2.2.2.2.1
  have H2 : Hid _ := And.intro hGr (And.intro (bel6 hb2 H1.out.2.1) hgs)
  clear hGr hb2 hm' hgs x0 x1 x2 x3 q1 q2 q3 q4
  go_upto_region 7 with fail
  have hw3' : wB.alloc (.cells #[.slice none 0 0, .slice none 0 0, .slice none 0 0, .slice none 0 0, .slice none 0 0, .slice none 0 0, .slice none 0 0, .slice none 0 0, .slice none 0 0, .slice none 0 0, .slice none 0 0, .slice none 0 0, .slice none 0 0, .slice none 0 0, .slice none 0 0, .slice none 0 0, .slice none 0 0, .slice none 0 0, .slice none 0 0, .slice none 0 0, .slice none 0 0, .slice none 0 0] 44) = wB.alloc (.cells WISE.bookZ 44) := rfl
  rw [hw3']
  have hE3 := Bk3.new wB
  obtain ⟨w3, hw3⟩ : ∃ w3, w3 = wB.alloc (.cells WISE.bookZ 44) := ⟨_, rfl⟩
  rw [← hw3] at hE3 ⊢
  have H3 : Hid (Bk3 wB w3) := hE3
  clear hE3 hw3 hw3'
  go_wp2_with fail
  go_loopg [6] 2 (fun z kv wr => ∃ j : Nat, z = 2 - j ∧ j ≤ 2 ∧ kv = .int .i64 j ∧ Bk3 wB wr)
  case atStart => exact ⟨0, rfl, by omega, rfl, H3.out⟩
  case round =>
    obtain ⟨j, rfl, hj, rfl, hB⟩ := hrel
    by_cases hlt : j < 2
    · have q1 : (j : Int) < 2 := by omega
      obtain ⟨wa, hwa⟩ : ∃ wa, wa = wr := ⟨_, rfl⟩
      rw [← hwa] at hB ⊢
      have HB : Hid (Bk3 wB wa) := hB
      clear hB hwa
      go_wp2_with fail
      go_loopg [7] m (fun z iv wr => ∃ i : Nat, z = m - i ∧ i ≤ m ∧ iv = .int .i64 i ∧ Bk3 wB wr)
      case atStart => exact ⟨0, rfl, Nat.zero_le _, rfl, HB.out⟩
      case round =>
        obtain ⟨i, rfl, hi, rfl, hB⟩ := hrel
        obtain ⟨x0, x1, x2, x3⟩ := four_cells ((hB.bw.block _ (t_lt H2.out.2.2)).trans H2.out.2.2)
        by_cases hlt2 : i < m
        · have q2 : (i : Int) < (m : Int) := by omega
          have B7 : Hid (Bk3 wB wr) := hB
          clear hB
          go_wp2_with fail
          refine Calls.mono (out_any (i : Int) wr (H2.out.1.below B7.out.bw)) ?_
          rintro r w8a ⟨u8, rfl, hO, hb⟩
          have B8a : Hid _ := And.intro hO hb
          clear hO hb
          go_wp2_with fail
          refine Calls.mono (B7.out.steps B8a.out.2 B8a.out.1 (by have := rowOf_len m (Sy.nf es) (i : Int); have := H1.out.2.2.2.2.2.2.2.2.1.1; omega)) ?_
          rintro r w8 ⟨rfl, hB, _⟩
          have B8 : Hid (Bk3 wB w8) := hB
          clear hB
          go_wp2_with fail
          refine Calls.mono (in_any (i : Int) w8 (H2.out.1.below B8.out.bw)) ?_
          rintro r w9a ⟨u9, rfl, hO, hb⟩
          have B9a : Hid _ := And.intro hO hb
          clear hO hb
          go_wp2_with fail
          refine Calls.mono (B8.out.steps B9a.out.2 B9a.out.1 (by have := rowOf_len m (Sy.nf ((Sy.nf es).map Sy.turn)) (i : Int); have := H1.out.2.2.2.2.2.2.2.2.1.2; omega)) ?_
          rintro r w9 ⟨rfl, hB, _⟩
          have B9 : Hid (Bk3 wB w9) := hB
          clear hB
          obtain ⟨wb, hwb⟩ : ∃ wb, wb = w9 := ⟨_, rfl⟩
          rw [← hwb] at B9 ⊢
          clear hwb x0 x1 x2 x3
          obtain ⟨x0, x1, x2, x3⟩ := four_cells ((B9.out.bw.block _ (t_lt H2.out.2.2)).trans H2.out.2.2)
          go_wp2_with fail
          go_loopg [8] 3 (fun z xv wr => ∃ x : Nat, z = 3 - x ∧ x ≤ 3 ∧ xv = .int .i64 x ∧ Bk3 wB wr)
          case atStart => exact ⟨0, rfl, Nat.zero_le _, rfl, B9.out⟩
          case round =>
            obtain ⟨x, rfl, hx, rfl, hB⟩ := hrel
            clear x0 x1 x2 x3
            obtain ⟨x0, x1, x2, x3⟩ := four_cells ((hB.bw.block _ (t_lt H2.out.2.2)).trans H2.out.2.2)
            have HC : Hid (Bk3 wB wr) := hB
            clear hB
            by_cases hx3 : (x : Int) < k ∧ x < 3
            · have q3 : decide ((x : Int) < k) = true := decide_eq_true hx3.1
              have q4 : decide ((x : Int) < 3) = true := decide_eq_true (by omega)
              have q5 : decide (x < 3) = true := decide_eq_true (by omega)
              have HX : Hid _ := hx3
              clear hx3
              go_wp2_with fail
              refine Calls.mono (by_any (i : Int) (x : Int) wr (H2.out.1.below HC.out.bw)) ?_
              rintro r w7a ⟨u7, rfl, hO, hb⟩
              have B7'a : Hid _ := And.intro hO hb
              clear hO hb
              go_wp2_with fail
              refine Calls.mono (HC.out.ints B7'a.out.2 B7'a.out.1 (by have := ends_le (Sy.rowOf m (Sy.nf es) (i : Int)) (x : Int); have := rowOf_len m (Sy.nf es) (i : Int); have := H1.out.2.2.2.2.2.2.2.2.1.1; omega)) ?_
              rintro r w7 ⟨rfl, hB, _⟩
              have B7' : Hid (Bk3 wB w7) := hB
              clear hB
              go_wp2_with fail
              refine Calls.mono (from_any (i : Int) (x : Int) w7 (H2.out.1.below B7'.out.bw)) ?_
              rintro r w8'a ⟨u8', rfl, hO, hb⟩
              have B8a : Hid _ := And.intro hO hb
              clear hO hb
              go_wp2_with fail
              refine Calls.mono (B7'.out.ints B8a.out.2 B8a.out.1 (by have := ends_le (Sy.rowOf m (Sy.nf ((Sy.nf es).map Sy.turn)) (i : Int)) (x : Int); have := rowOf_len m (Sy.nf ((Sy.nf es).map Sy.turn)) (i : Int); have := H1.out.2.2.2.2.2.2.2.2.1.2; omega)) ?_
              rintro r w8' ⟨rfl, hB, _⟩
              have B8 : Hid (Bk3 wB w8') := hB
              clear hB
              go_wp2_with fail
              go_roundg (3 - (x + 1))
              case measure => have := HX.out.2; omega
              case rel => exact ⟨x + 1, rfl, by have := HX.out.2; omega, by go_num, B8.out⟩
            · by_cases hxk : (x : Int) < k
              · have q3 : decide ((x : Int) < k) = true := decide_eq_true hxk
                have q4 : decide ((x : Int) < 3) = false := decide_eq_false (by omega)
                have q5 : decide (x < 3) = false := decide_eq_false (by omega)
                clear hx3 hxk
                go_wp2_with fail
                go_roundg (m - (i + 1))
                case measure => omega
                case rel => exact ⟨i + 1, rfl, by omega, by go_num, HC.out⟩
              · have q3 : decide ((x : Int) < k) = false := decide_eq_false hxk
                clear hx3 hxk
                go_wp2_with fail
                go_roundg (m - (i + 1))
                case measure => omega
                case rel => exact ⟨i + 1, rfl, by omega, by go_num, HC.out⟩
        · have q2 : ¬ (i : Int) < (m : Int) := by omega
          have B0 : Hid (Bk3 wB wr) := hB
          clear hB
          go_wp2_with fail
          refine Calls.mono (edges_any wr (H2.out.1.below B0.out.bw)) ?_
          rintro r w1'a ⟨u1, rfl, hO, hb⟩
          have B1a : Hid _ := And.intro hO hb
          clear hO hb
          go_wp2_with fail
          refine Calls.mono (B0.out.edges B1a.out.2 B1a.out.1 (by have := H1.out.2.2.2.2.2.2.2.2.1.1; omega)) ?_
          rintro r w1' ⟨rfl, hB, _⟩
          have B1 : Hid (Bk3 wB w1') := hB
          clear hB
          go_wp2_with fail
          refine Calls.mono (reach_any _ (H2.out.1.below B1.out.bw)) ?_
          rintro r w2a ⟨u2, ms, rfl, hO, hml, _, hb⟩
          have B2a : Hid _ := And.intro hO (And.intro hb hml)
          clear hO hb hml
          go_wp2_with fail
          refine Calls.mono (B1.out.ints B2a.out.2.1 B2a.out.1 (by have := marked_le ms; have := B2a.out.2.2; omega)) ?_
          rintro r w2 ⟨rfl, hB, _⟩
          have B2 : Hid (Bk3 wB w2) := hB
          clear hB
          go_wp2_with fail
          refine Calls.mono (cut_any _ (H2.out.1.below B2.out.bw)) ?_
          rintro r w3a ⟨mc, uc, va, rfl, hml, _, hOu, hOa, hb⟩
          obtain ⟨ua, un, ucap, rfl⟩ : ∃ a n c, uc = .slice a n c := by
            rcases hOu.2 with ⟨rfl, _⟩ | ⟨g9, c9, _, rfl, _⟩
            · exact ⟨_, _, _, rfl⟩
            · exact ⟨_, _, _, rfl⟩
          have B3a : Hid _ := And.intro hOu (And.intro hOa (And.intro hb hml))
          clear hOu hOa hb hml
          unfold sysV
          go_upto_region 23 with fail
          obtain ⟨w4, hw4⟩ : ∃ w4, w4 = w3a.alloc (.cells #[.int .i64 ((mc.count true : Nat) : Int), .int .i64 k, .int .i64 (Sy.startOf m mc s), .slice ua un ucap] 24) := ⟨_, rfl⟩
          have hb4 : Below w3a.heap.size w3a w4 := by rw [hw4]; exact (Below.refl _ _).alloc (Nat.le_refl _) _
          have hg4 : w4.heap[w3a.heap.size]? = some (.cells #[.int .i64 ((mc.count true : Nat) : Int), .int .i64 k, .int .i64 (Sy.startOf m mc s), .slice ua un ucap] 24 (0, 0)) := by rw [hw4]; exact heap_alloc_new w3a _
          rw [← hw4]
          have hO4 := trow_at (w' := w4) B3a.out.1 fun b e => hb4.block b (B3a.out.1.lt b e).2
          have hA4 := trow_at (w' := w4) B3a.out.2.1 fun b e => hb4.block b (B3a.out.2.1.lt b e).2
          have H4 : Hid _ := And.intro (bel6 hb4 B3a.out.2.2.1) (And.intro hO4 (And.intro hA4 hg4))
          obtain ⟨y0, y1, y2, y3⟩ := four_cells hg4
          clear hb4 hg4 hO4 hA4 hw4
          go_wp2_with fail
          refine Calls.mono ((WISE.E.below B2.out H4.out.1).addEdges (.slice ua un ucap) (Sy.cutE mc (Sy.nf es)) w2.heap.size H4.out.2.1 B2.out.bw.size (fun b hb => by have := (H4.out.2.1.lt b hb).1; omega) (by have := cutE_le mc (Sy.nf es); have := H1.out.2.2.2.2.2.2.2.2.1.1; omega)) ?_
          rintro r w5 ⟨rfl, hE5, hF5⟩
          have hA5 := hF5.ownInts H4.out.2.2.1
          have B5 : Hid _ := And.intro hE5 hA5
          clear hE5 hF5 hA5 y0 y1 y2 y3
          have hrl : (Sy.ranks mc).length = m := by unfold Sy.ranks; rw [Sy.ranksG_len]; exact B3a.out.2.2.2
          go_wp2_with fail
          refine Calls.mono (WISE.E.addInts B5.out.1 va (Sy.ranks mc) w2.heap.size B5.out.2 B2.out.bw.size (fun b hb => by have := (World.ownsRow.lt B5.out.2 b hb).1; omega) (by omega)) ?_
          rintro r w6 ⟨rfl, hE6, hF6⟩
          have hB6 : Bk3 wB w6 := hE6.mono (fun _ hl _ => hl) (fun _ hl _ => hl) (fun _ hl _ => hl)
          have B6 : Hid _ := And.intro hB6 (And.intro (hF6.ownInts B5.out.2) (bel6 hB6.bw H2.out.2.1))
          obtain ⟨x0, x1, x2, x3⟩ := four_cells ((hB6.bw.block _ (t_lt H2.out.2.2)).trans H2.out.2.2)
          clear hE6 hF6 hB6
          go_wp2_with fail
          refine Calls.mono (H1.out.2.2.2.2.2.1 _ B6.out.2.2) ?_
          rintro r w7 ⟨xn, tn, rfl, hOn, hb⟩
          obtain ⟨ta, tl, tc, rfl⟩ : ∃ a n c, tn = .slice a n c := by
            rcases hOn.2 with ⟨rfl, _⟩ | ⟨g9, c9, _, rfl, _⟩
            · exact ⟨_, _, _, rfl⟩
            · exact ⟨_, _, _, rfl⟩
          have B7 : Hid _ := And.intro hOn hb
          clear hOn hb x0 x1 x2 x3
          go_upto_region 26 with fail
          obtain ⟨w8, hw8⟩ : ∃ w8, w8 = w7.alloc (.cells #[.int .i64 m, .int .i64 k, .int .i64 s, .slice ta tl tc] 24) := ⟨_, rfl⟩
          have hb8 : Below w7.heap.size w7 w8 := by rw [hw8]; exact (Below.refl _ _).alloc (Nat.le_refl _) _
          have hg8 : w8.heap[w7.heap.size]? = some (.cells #[.int .i64 m, .int .i64 k, .int .i64 s, .slice ta tl tc] 24 (0, 0)) := by rw [hw8]; exact heap_alloc_new w7 _
          rw [← hw8]
          have hO8 := trow_at (w' := w8) B7.out.1 fun b e => hb8.block b (B7.out.1.lt b e).2
          have hb68 := bel6 hb8 B7.out.2
          have H8 : Hid _ := And.intro hb68 (And.intro hO8 (trow_at (w' := w8) B6.out.2.1 fun b e => hb68.block b (World.ownsRow.lt B6.out.2.1 b e).2))
          obtain ⟨y0, y1, y2, y3⟩ := four_cells hg8
          clear hb8 hg8 hO8 hb68 hw8
          go_wp2_with fail
          refine Calls.mono (B6.out.1.edges H8.out.1 H8.out.2.1 (by have := H1.out.2.2.2.2.2.2.2.2.1.1; omega)) ?_
          rintro r w9 ⟨rfl, hB, hF⟩
          have hA9 : OwnI w9 w2.heap.size va (Sy.ranks mc) := hF.ownInts H8.out.2.2
          have hCn := pCanon va (Sy.ranks mc) w9 hA9.has (by omega) (fun z hz => by have := ranksG_lt mc 0 z hz; have := B3a.out.2.2.2; exact i64_wf (by omega) (by omega))
          have B9 : Hid _ := And.intro hB hCn
          clear hB hF hA9 hCn y0 y1 y2 y3
          go_wp2_with fail
          refine Calls.mono B9.out.2 ?_
          rintro r w10 ⟨uk, rfl, hOk, hb⟩
          have B10 : Hid _ := And.intro hOk hb
          clear hOk hb
          go_wp2_with fail
          refine Calls.mono (B9.out.1.ints B10.out.2 B10.out.1 (by simp [natI, Sy.canon, Sy.canonG_len]; omega)) ?_
          rintro r w11 ⟨rfl, hB, _⟩
          have B11 : Hid (Bk3 wB w11) := hB
          clear hB
          go_wp2_with fail
          go_roundg (2 - (j + 1))
          case measure => omega
          case rel => exact ⟨j + 1, rfl, by omega, by go_num, B11.out⟩
    · have q1 : ¬ (j : Int) < 2 := by omega
      have HB : Hid (Bk3 wB wr) := hB
      clear hB
      go_wp2_with fail
      refine Calls.mono HB.out.apart ?_
      rintro r w4 ⟨rfl, hb4⟩
      have H4 : Hid _ := And.intro hb4 (bel6 hb4 H2.out.2.1)
      obtain ⟨x0, x1, x2, x3⟩ := four_cells ((hb4.block _ (t_lt H2.out.2.2)).trans H2.out.2.2)
      clear hb4
      go_wp2_with fail
      refine Calls.mono (H1.out.2.2.2.2.2.2.1 _ H4.out.2) ?_
      rintro r w5 ⟨go, us, rfl, hAr, hOu⟩
      have H5 : Hid _ := And.intro hAr (And.intro hOu (bel6 hAr.bl H4.out.1))
      clear hAr hOu x0 x1 x2 x3
      go_wp2_with fail
      go_loopg [14] m (fun z iv wr => ∃ i : Nat, z = m - i ∧ i ≤ m ∧ iv = .int .i64 i ∧ Below w5.heap.size w5 wr)
      case atStart => exact ⟨0, rfl, Nat.zero_le _, rfl, Below.refl _ _⟩
      case round =>
        obtain ⟨i, rfl, hi, rfl, hb⟩ := hrel
        have hbB := bel6 hb H5.out.2.2
        obtain ⟨x0, x1, x2, x3⟩ := four_cells ((hbB.block _ (t_lt H2.out.2.2)).trans H2.out.2.2)
        by_cases hlt2 : i < m
        · have q2 : (i : Int) < (m : Int) := by omega
          have q3 : (0 : Int) ≤ (i : Int) := by omega
          obtain ⟨u, hu, hOu⟩ := H5.out.2.1.row i hlt2
          have c0 := cell_up (H5.out.1.cell hu) hb
          have hOut := out_any (i : Int) wr.drew (H2.out.1.below (bel6 ((Below.refl _ wr).drew) hbB))
          have e1 : Sy.rowOf m (Sy.nf es) (i : Int) = Sy.steps (Sy.nf es) (i : Int) := by unfold Sy.rowOf; rw [if_pos ⟨by omega, by omega⟩]
          rw [e1] at hOut
          have hul : (Sy.steps (Sy.nf es) (i : Int)).length ≤ 1000 := by have := Sy.steps_len (Sy.nf es) (i : Int); have := H1.out.2.2.2.2.2.2.2.2.1.1; omega
          have hOw : BSteps.Own wr w4.heap.size u (Sy.steps (Sy.nf es) (i : Int)) := trow_at hOu fun b e => hb.block b (hOu.lt b e).2
          have H6 : Hid _ := And.intro hOut (And.intro hOw.has (And.intro hb hul))
          clear hu hOu hOw hOut e1 hul hb hbB
          go_upto_region 34 with fail
          refine wp_region_held_drew (S := (fun w' => w'.cell? ⟨go, i, none⟩ = some u)) (by kernel_rfl) ?_ (fun hHeld => ?_)
          · exact c0
          refine wpAnyH_take (i := 0) (oi := _) (v := ?_) rfl (by kernel_rfl) (by kernel_rfl) (by kernel_rfl) (fun _ _ _ h => h) (Or.inl ⟨by rfl, ?_⟩) (by assumption) ?_
          rotate_left
          · (intro w hSw; (try dsimp only at hSw); go_simp; (try with_reducible rfl))
          (try simp only [List.getElem_toArray, List.getElem_cons_succ, List.getElem_cons_zero, Act.put, List.setIfInBounds_toArray, List.set_cons_zero, List.set_cons_succ])
          refine wpAnyH_take (i := 1) (oi := _) (v := ?_) rfl (by kernel_rfl) (by kernel_rfl) (by kernel_rfl) (fun _ _ _ h => h) (Or.inl ⟨by rfl, ?_⟩) (by assumption) ?_
          rotate_left
          · (intro w hSw; (try dsimp only at hSw); go_simp; (try with_reducible rfl))
          (try simp only [List.getElem_toArray, List.getElem_cons_succ, List.getElem_cons_zero, Act.put, List.setIfInBounds_toArray, List.set_cons_zero, List.set_cons_succ])
          refine wpAnyH_take (i := 3) (oi := _) (v := ?_) rfl (by kernel_rfl) (by kernel_rfl) (by kernel_rfl) (fun _ _ _ h => h) (Or.inl ⟨by rfl, ?_⟩) (by assumption) ?_
          rotate_left
          · (intro w hSw; (try dsimp only at hSw); go_simp; (try with_reducible rfl))
          (try simp only [List.getElem_toArray, List.getElem_cons_succ, List.getElem_cons_zero, Act.put, List.setIfInBounds_toArray, List.set_cons_zero, List.set_cons_succ])
          refine wpAnyH_take (i := 4) (oi := _) (v := ?_) rfl (by kernel_rfl) (by kernel_rfl) (by kernel_rfl) (fun _ _ _ h => h) (Or.inl ⟨by rfl, ?_⟩) (by assumption) ?_
          rotate_left
          · (intro w hSw; (try dsimp only at hSw); go_simp; (try with_reducible rfl))
          (try simp only [List.getElem_toArray, List.getElem_cons_succ, List.getElem_cons_zero, Act.put, List.setIfInBounds_toArray, List.set_cons_zero, List.set_cons_succ])
          refine wpAnyH_take (i := 5) (oi := _) (v := ?_) rfl (by kernel_rfl) (by kernel_rfl) (by kernel_rfl) (fun _ _ _ h => h) (Or.inl ⟨by rfl, ?_⟩) (by assumption) ?_
          rotate_left
          · (intro w hSw; (try dsimp only at hSw); go_simp; (try with_reducible rfl))
          (try simp only [List.getElem_toArray, List.getElem_cons_succ, List.getElem_cons_zero, Act.put, List.setIfInBounds_toArray, List.set_cons_zero, List.set_cons_succ])
          refine wpAnyH_take (i := 6) (oi := _) (v := ?_) rfl (by kernel_rfl) (by kernel_rfl) (by kernel_rfl) (fun _ _ _ h => h) (Or.inl ⟨by rfl, ?_⟩) (by assumption) ?_
          rotate_left
          · (intro w hSw; (try dsimp only at hSw); go_simp; (try with_reducible rfl))
          (try simp only [List.getElem_toArray, List.getElem_cons_succ, List.getElem_cons_zero, Act.put, List.setIfInBounds_toArray, List.set_cons_zero, List.set_cons_succ])
          refine wpAnyH_ready (rs := [2]) (by kernel_rfl) (by simp) ?_
          refine AllReadyH.cons (o := _) rfl (fun K hK => ?_) ?_
          · (go_simp; go_at_call 7; refine Calls.mono H6.out.1 ?_; rintro r w6 ⟨u6, rfl, hO6, hb6⟩; have hb66 := bel6 hb6 ((Below.refl _ wr).drew); have hSm := fun W (hb : Below w6.heap.size w6 W) => BSteps.same_b u6 u _ W (by have := H6.out.2.2.2; omega) (BSteps.Has.below hO6.has hb) ((BSteps.Has.below (BSteps.Has.below H6.out.2.1 hb66) hb)); have H7 : Hid _ := And.intro hSm hb66; clear hO6 hb6 hSm hb66)
            (try go_wp2_with fail)
            refine hK.out _ _ ?_ (fun hHeld => ?_)
            · exact cell_up c0 H7.out.2
            clear hK K
            (try simp only [List.getElem_toArray, List.getElem_cons_succ, List.getElem_cons_zero, Act.put, List.setIfInBounds_toArray, List.set_cons_zero, List.set_cons_succ])
            refine wpAnyH_ready (rs := [7]) (by kernel_rfl) (by simp) ?_
            refine AllReadyH.cons (o := _) rfl (fun K hK => ?_) ?_
            · (go_simp; go_at_call 20; refine Calls.mono (H7.out.1 _ (Below.refl _ _)) ?_; rintro r w8 ⟨rfl, hb8⟩; have H8 : Hid _ := bel6 hb8 H7.out.2; clear hb8)
              (try go_wp2_with fail)
              refine hK.out _ _ ?_ (fun hHeld => ?_)
              · exact cell_up c0 H8.out
              clear hK K
              (try simp only [List.getElem_toArray, List.getElem_cons_succ, List.getElem_cons_zero, Act.put, List.setIfInBounds_toArray, List.set_cons_zero, List.set_cons_succ])
              refine wpAnyH_take (i := 8) (oi := _) (v := ?_) rfl (by kernel_rfl) (by kernel_rfl) (by kernel_rfl) (fun _ _ _ h => h) (Or.inl ⟨by rfl, ?_⟩) (by assumption) ?_
              rotate_left
              · (intro w hSw; (try dsimp only at hSw); go_simp; (try with_reducible rfl))
              (try simp only [List.getElem_toArray, List.getElem_cons_succ, List.getElem_cons_zero, Act.put, List.setIfInBounds_toArray, List.set_cons_zero, List.set_cons_succ])
              refine wpAnyH_done (by kernel_rfl) ?_ _
              (try go_simp)
              go_wp2_with fail
              go_roundg (m - (i + 1))
              case measure => omega
              case rel => exact ⟨i + 1, rfl, by omega, by go_num, bel6 H8.out H6.out.2.2.1⟩
            exact AllReadyH.nil
          exact AllReadyH.nil
        · have q2 : ¬ (i : Int) < (m : Int) := by omega
          have hAl := H1.out.2.2.2.1 wr.drew (bel6 ((Below.refl _ wr).drew) (bel6 hbB H2.out.2.1))
          have H6 : Hid _ := And.intro hb (And.intro hbB hAl)
          clear hb hbB hAl
          go_upto_region 36 with fail
          refine wp_region_held_drew (S := (fun w' => w'.cell? ⟨w.heap.size, 3, none⟩ = some (.slice ao L cap))) (by kernel_rfl) ?_ (fun hHeld => ?_)
          · exact x3
          refine wpAnyH_ready (rs := [0]) (by kernel_rfl) (by simp) ?_
          refine AllReadyH.cons (o := _) rfl (fun K hK => ?_) ?_
          · (go_simp; go_at_call 4; refine Calls.mono H6.out.2.2 ?_; rintro r w7 ⟨rfl, hb7'⟩; have hb7 := bel6 hb7' ((Below.refl _ wr).drew); have hE7 := edges_any w7 (H2.out.1.below (bel6 hb7 H6.out.2.1)); have H7 : Hid _ := And.intro hb7 (And.intro hE7 (bel6 (bel6 hb7 H6.out.2.1) H2.out.2.1)); clear hb7 hb7' hE7)
            (try go_wp2_with fail)
            refine hK.out _ _ ?_ (fun hHeld => ?_)
            · exact cell_up x3 H7.out.1
            clear hK K
            (try simp only [List.getElem_toArray, List.getElem_cons_succ, List.getElem_cons_zero, Act.put, List.setIfInBounds_toArray, List.set_cons_zero, List.set_cons_succ])
            refine wpAnyH_take (i := 1) (oi := _) (v := ?_) rfl (by kernel_rfl) (by kernel_rfl) (by kernel_rfl) (fun _ _ _ h => h) (Or.inl ⟨by rfl, ?_⟩) (by assumption) ?_
            rotate_left
            · (intro w hSw; (try dsimp only at hSw); go_simp; (try with_reducible rfl))
            (try simp only [List.getElem_toArray, List.getElem_cons_succ, List.getElem_cons_zero, Act.put, List.setIfInBounds_toArray, List.set_cons_zero, List.set_cons_succ])
            refine wpAnyH_take (i := 2) (oi := _) (v := ?_) rfl (by kernel_rfl) (by kernel_rfl) (by kernel_rfl) (fun _ _ _ h => h) (Or.inl ⟨by rfl, ?_⟩) (by assumption) ?_
            rotate_left
            · (intro w hSw; (try dsimp only at hSw); go_simp; (try with_reducible rfl))
            (try simp only [List.getElem_toArray, List.getElem_cons_succ, List.getElem_cons_zero, Act.put, List.setIfInBounds_toArray, List.set_cons_zero, List.set_cons_succ])
            refine wpAnyH_take (i := 4) (oi := _) (v := ?_) rfl (by kernel_rfl) (by kernel_rfl) (by kernel_rfl) (fun _ _ _ h => h) (Or.inl ⟨by rfl, ?_⟩) (by assumption) ?_
            rotate_left
            · (intro w hSw; (try dsimp only at hSw); go_simp; (try with_reducible rfl))
            (try simp only [List.getElem_toArray, List.getElem_cons_succ, List.getElem_cons_zero, Act.put, List.setIfInBounds_toArray, List.set_cons_zero, List.set_cons_succ])
            refine wpAnyH_take (i := 5) (oi := _) (v := ?_) rfl (by kernel_rfl) (by kernel_rfl) (by kernel_rfl) (fun _ _ _ h => h) (Or.inl ⟨by rfl, ?_⟩) (by assumption) ?_
            rotate_left
            · (intro w hSw; (try dsimp only at hSw); go_simp; (try with_reducible rfl))
            (try simp only [List.getElem_toArray, List.getElem_cons_succ, List.getElem_cons_zero, Act.put, List.setIfInBounds_toArray, List.set_cons_zero, List.set_cons_succ])
            refine wpAnyH_ready (rs := [3]) (by kernel_rfl) (by simp) ?_
            refine AllReadyH.cons (o := _) rfl (fun K hK => ?_) ?_
            · (go_simp; go_at_call 13; refine Calls.mono H7.out.2.1 ?_; rintro r w8 ⟨u8, rfl, hO8, hb8⟩; have hS8 := H1.out.2.2.2.2.2.2.2.1 w8 (bel6 hb8 H7.out.2.2); have H8 : Hid _ := And.intro hO8 (And.intro (bel6 hb8 H7.out.2.2) (And.intro hS8 (bel6 hb8 H7.out.1))); clear hO8 hb8 hS8)
              (try go_wp2_with fail)
              refine hK.out _ _ ?_ (fun hHeld => ?_)
              · exact cell_up x3 H8.out.2.2.2
              clear hK K
              (try simp only [List.getElem_toArray, List.getElem_cons_succ, List.getElem_cons_zero, Act.put, List.setIfInBounds_toArray, List.set_cons_zero, List.set_cons_succ])
              refine wpAnyH_ready (rs := [6]) (by kernel_rfl) (by simp) ?_
              refine AllReadyH.cons (o := _) rfl (fun K hK => ?_) ?_
              · (go_simp; go_at_call 22; refine Calls.mono H8.out.2.2.1 ?_; rintro r w9 ⟨u9, rfl, hO9, hb9⟩; have hSm := BEdges.same_b u8 u9 _ w9 (by have := H1.out.2.2.2.2.2.2.2.2.1.1; omega) (BEdges.Has.below H8.out.1.has hb9) hO9.has; have H9 : Hid _ := And.intro hSm (And.intro (bel6 hb9 H8.out.2.1) (bel6 hb9 H8.out.2.2.2)); clear hO9 hb9 hSm)
                (try go_wp2_with fail)
                refine hK.out _ _ ?_ (fun hHeld => ?_)
                · exact cell_up x3 H9.out.2.2
                clear hK K
                (try simp only [List.getElem_toArray, List.getElem_cons_succ, List.getElem_cons_zero, Act.put, List.setIfInBounds_toArray, List.set_cons_zero, List.set_cons_succ])
                refine wpAnyH_ready (rs := [7]) (by kernel_rfl) (by simp) ?_
                refine AllReadyH.cons (o := _) rfl (fun K hK => ?_) ?_
                · (go_simp; go_at_call 21; refine Calls.mono H9.out.1 ?_; rintro r w10 ⟨rfl, hb10⟩; have H10 : Hid _ := And.intro (bel6 hb10 H9.out.2.1) (bel6 hb10 H9.out.2.2); clear hb10)
                  (try go_wp2_with fail)
                  refine hK.out _ _ ?_ (fun hHeld => ?_)
                  · exact cell_up x3 H10.out.2
                  clear hK K
                  (try simp only [List.getElem_toArray, List.getElem_cons_succ, List.getElem_cons_zero, Act.put, List.setIfInBounds_toArray, List.set_cons_zero, List.set_cons_succ])
                  refine wpAnyH_take (i := 8) (oi := _) (v := ?_) rfl (by kernel_rfl) (by kernel_rfl) (by kernel_rfl) (fun _ _ _ h => h) (Or.inl ⟨by rfl, ?_⟩) (by assumption) ?_
                  rotate_left
                  · (intro w hSw; (try dsimp only at hSw); go_simp; (try with_reducible rfl))
                  (try simp only [List.getElem_toArray, List.getElem_cons_succ, List.getElem_cons_zero, Act.put, List.setIfInBounds_toArray, List.set_cons_zero, List.set_cons_succ])
                  refine wpAnyH_take (i := 9) (oi := _) (v := ?_) rfl (by kernel_rfl) (by kernel_rfl) (by kernel_rfl) (fun _ _ _ h => h) (Or.inl ⟨by rfl, ?_⟩) (by assumption) ?_
                  rotate_left
                  · (intro w hSw; (try dsimp only at hSw); go_simp; (try with_reducible rfl))
                  (try simp only [List.getElem_toArray, List.getElem_cons_succ, List.getElem_cons_zero, Act.put, List.setIfInBounds_toArray, List.set_cons_zero, List.set_cons_succ])
                  refine wpAnyH_done (by kernel_rfl) ?_ _
                  (try go_simp)
                  go_wp2_with fail
                  go_ret
                  exact ⟨rfl, H10.out.1⟩
                exact AllReadyH.nil
              exact AllReadyH.nil
            exact AllReadyH.nil
          exact AllReadyH.nil
theorem lawGAll_any (hS : SortOk 1000000) (n k s : Int) (v : Value) (es : List Sy.Ed) (a : Addr) (w : World) (hE : Sent w 0 a) (hv : HasE w v es) :
    Calls Tryz.prog 3 #[sysV n k s v] w fun r w' => r = .returned (.bool true) ∧ Below w.heap.size w w' := by
  have hA := pAlive a w hE
  by_cases hout : 300 < es.length ∨ 40 < n
  · exact lawGAll_out n k s v es w hA hv hout
  · cases hq : Sy.right n k s es with
    | false => exact lawGAll_bad hS n k s v es a w hA hE hv (by omega) (by omega) hq
    | true =>
      obtain ⟨m, rfl⟩ : ∃ m : Nat, n = (m : Int) := ⟨n.toNat, by have := (right_parts hq).1; omega⟩
      exact lawGAll_in hS m k s v es a w hA hE hv (by omega) (by omega) hq
end Go.Proofs.YtihdpncjgmpboaaGreatDoor
/- Contracts of slices' order2, median, medianAdjacent and choosePivot of edges by a view's comparison. (Written by mkpiv.py.) -/
namespace Go.Proofs.YtihdpncjgmpboaaGreatDoor
open Go.RowKit Go.Maps
attribute [local go_sem ↓] Go.wp_at_zero Go.wp_at_succ
/-- The row, and a counter in a block of its own. -/
structure CnE (w0 wr : World) (g : Nat) (d : Array Sy.Ed) (rest : List Value) (c s : Nat) : Prop where
  row : RowE w0 wr g d rest
  cell : wr.heap[c]? = some (.cells #[.int .i64 s] 3 (0, 0))
  up : w0.heap.size ≤ c
theorem CnE.below {w0 wr w' : World} {g : Nat} {d : Array Sy.Ed} {rest : List Value} {c s : Nat} (h : CnE w0 wr g d rest c s) (hb : Below wr.heap.size wr w') : CnE w0 w' g d rest c s := ⟨h.row.below hb, (hb.block _ (t_lt h.cell)).trans h.cell, h.up⟩
theorem CnE.bump {w0 wr : World} {g : Nat} {d : Array Sy.Ed} {rest : List Value} {c s : Nat} (h : CnE w0 wr g d rest c s) (t : Nat) : CnE w0 (wr.setCell ⟨c, 0, none⟩ (.int .i64 t)) g d rest c t := by
  have hne : c ≠ g := fun e => by
    obtain ⟨cs, hc, _⟩ := h.row.ids
    have h1 := h.cell
    rw [e, hc] at h1
    injection h1 with h1
    injection h1 with _ h1
    exact absurd h1 (by decide)
  exact ⟨Arr.kept h.row (Kept.setCell _ _ _ _) fun b e => by subst e; exact ⟨h.up, hne⟩, heap_setCell_same _ _ 0 _ _ _ h.cell, h.up⟩
set_option maxRecDepth 100000 in
set_option maxHeartbeats 4000000 in
theorem order2_any (f : Nat) (vw : Sy.Ed → Sy.Ed) (hV : ViewAt f vw) (g cap a b c0 s : Nat) (d : Array Sy.Ed) (rest : List Value) (w0 w : World) (hR : CnE w0 w g d rest c0 s) (ha : a < d.size) (hb : b < d.size) (hs : s ≤ 1000000) :
    Calls Tryz.prog 151 #[.slice (some ⟨g, 0, none⟩) d.size cap, .int .i64 a, .int .i64 b, .pointer (some ⟨c0, 0, none⟩), cmpV f] w fun r w' => r = .returned (.tuple #[.int .i64 (Sort.order2 (ltV vw) d a b s).1, .int .i64 (Sort.order2 (ltV vw) d a b s).2.1]) ∧ CnE w0 w' g d rest c0 (Sort.order2 (ltV vw) d a b s).2.2 := by
  obtain ⟨n, hn⟩ : ∃ n, n = d.size := ⟨_, rfl⟩
  have HR : Hid _ := And.intro hR (And.intro hn hV)
  rw [← hn] at ha hb ⊢
  unfold cmpV Sort.order2
  have he := enter_cmp
  obtain ⟨x0, x1, x2⟩ := hR.row.cells (j := b) (by omega)
  obtain ⟨y0, y1, y2⟩ := hR.row.cells (j := a) (by omega)
  have hcm := fun W => compare_any f vw HR.out.2.2 (d[b]!) (d[a]!) W
  unfold edV at hcm
  have hlt2 := cmpV_neg vw (d[b]!) (d[a]!)
  obtain ⟨xe, hxe⟩ : ∃ xe, xe = d[b]! := ⟨_, rfl⟩
  obtain ⟨ye, hye⟩ : ∃ ye, ye = d[a]! := ⟨_, rfl⟩
  rw [← hxe] at x0 x1 x2 hcm hlt2
  rw [← hye] at y0 y1 y2 hcm hlt2
  have HE : Hid _ := And.intro hxe hye
  clear hxe hye
  obtain ⟨xa, xb, xc⟩ := xe
  obtain ⟨ya, yb, yc⟩ := ye
  generalize cmpE (vw (xa, xb, xc)) (vw (ya, yb, yc)) = c at hcm hlt2
  have HC : Hid _ := hcm
  have HL : Hid _ := hlt2
  clear hcm hlt2
  simp only at x0 x1 x2 y0 y1 y2
  clear hR hn hV
  have p0 : (0 : Int) ≤ (b : Int) := by omega
  have p1 : (b : Int) < (n : Int) := by omega
  have p2 : (0 : Int) ≤ (a : Int) := by omega
  have p3 : (a : Int) < (n : Int) := by omega
  by_cases hc : c < 0
  · have p6 : decide (c < 0) = true := decide_eq_true hc
    rw [if_pos (by rw [← HE.out.1, ← HE.out.2]; exact HL.out.1 hc)]
    go_enter Tryz.func151, Tryz.ntmps151
    go_upto_region 1 with fail
    go_region_held3 (fun w' => ((w'.cell? ⟨g, b * 3, none⟩ = some (.int .i64 xa) ∧ w'.cell? ⟨g, b * 3 + 1, none⟩ = some (.int .i64 xb) ∧ w'.cell? ⟨g, b * 3 + 2, none⟩ = some (.int .i64 xc)) ∧ (w'.cell? ⟨g, a * 3, none⟩ = some (.int .i64 ya) ∧ w'.cell? ⟨g, a * 3 + 1, none⟩ = some (.int .i64 yb) ∧ w'.cell? ⟨g, a * 3 + 2, none⟩ = some (.int .i64 yc))) ∧ Hid (Below w.heap.size w w')) (first | exact rg_up6 hb3 (by assumption) | exact ⟨⟨⟨x0, x1, x2⟩, ⟨y0, y1, y2⟩⟩, ((Below.refl _ _).drew : Below w.heap.size w w.drew)⟩ | go_keep)
      ((first
        | (go_at_fn 85; refine (HC.out _).mono ?_; rintro r w3 ⟨rfl, hb3⟩)
        | fail))
    have hbq : Below w.heap.size w w3 := rg_b (by assumption)
    clear x0 x1 x2 y0 y1 y2 hb3 HC
    rename_i hS3
    clear hS3
    have hR3 := HR.out.1.below hbq
    have k0 : w3.cell? ⟨c0, 0, none⟩ = some (.int .i64 s) := cell0_of hR3.cell rfl
    have k1 := blk_free hR3.cell 0
    have p8 : IntKind.i64.wrap ((s : Int) + 1) = (s : Int) + 1 := by rw [IntKind.wrap_i64]; omega
    have H3 : Hid _ := hR3
    clear hR3 hbq
    go_wp2_with fail
    go_ret2
    exact ⟨rfl, H3.out.bump (s + 1)⟩
  · have p6 : decide (c < 0) = false := decide_eq_false hc
    rw [if_neg (by rw [← HE.out.1, ← HE.out.2]; intro h; exact hc (HL.out.2 h))]
    go_enter Tryz.func151, Tryz.ntmps151
    go_upto_region 1 with fail
    go_region_held3 (fun w' => ((w'.cell? ⟨g, b * 3, none⟩ = some (.int .i64 xa) ∧ w'.cell? ⟨g, b * 3 + 1, none⟩ = some (.int .i64 xb) ∧ w'.cell? ⟨g, b * 3 + 2, none⟩ = some (.int .i64 xc)) ∧ (w'.cell? ⟨g, a * 3, none⟩ = some (.int .i64 ya) ∧ w'.cell? ⟨g, a * 3 + 1, none⟩ = some (.int .i64 yb) ∧ w'.cell? ⟨g, a * 3 + 2, none⟩ = some (.int .i64 yc))) ∧ Hid (Below w.heap.size w w')) (first | exact rg_up6 hb3 (by assumption) | exact ⟨⟨⟨x0, x1, x2⟩, ⟨y0, y1, y2⟩⟩, ((Below.refl _ _).drew : Below w.heap.size w w.drew)⟩ | go_keep)
      ((first
        | (go_at_fn 85; refine (HC.out _).mono ?_; rintro r w3 ⟨rfl, hb3⟩)
        | fail))
    have hbq : Below w.heap.size w w3 := rg_b (by assumption)
    clear x0 x1 x2 y0 y1 y2 hb3 HC
    rename_i hS3
    clear hS3
    have H3 : Hid _ := HR.out.1.below hbq
    clear hbq
    go_wp2_with fail
    go_ret2
    exact ⟨rfl, H3.out⟩
theorem o2_lt {lt : Sy.Ed → Sy.Ed → Bool} {d : Array Sy.Ed} {a b s n : Nat} (ha : a < n) (hb : b < n) : (Sort.order2 lt d a b s).1 < n ∧ (Sort.order2 lt d a b s).2.1 < n ∧ (Sort.order2 lt d a b s).2.2 ≤ s + 1 := by
  unfold Sort.order2
  split <;> simp [ha, hb]
set_option maxRecDepth 100000 in
set_option maxHeartbeats 4000000 in
theorem median_any (f : Nat) (vw : Sy.Ed → Sy.Ed) (hV : ViewAt f vw) (g cap a b c c0 s : Nat) (d : Array Sy.Ed) (rest : List Value) (w0 w : World) (hR : CnE w0 w g d rest c0 s) (ha : a < d.size) (hb : b < d.size) (hc : c < d.size) (hs : s + 3 ≤ 1000000) :
    Calls Tryz.prog 149 #[.slice (some ⟨g, 0, none⟩) d.size cap, .int .i64 a, .int .i64 b, .int .i64 c, .pointer (some ⟨c0, 0, none⟩), cmpV f] w fun r w' => r = .returned (.int .i64 (Sort.median (ltV vw) d a b c s).1) ∧ CnE w0 w' g d rest c0 (Sort.median (ltV vw) d a b c s).2 := by
  have h1 := order2_any f vw hV g cap a b c0 s d rest w0 w hR ha hb (by omega)
  obtain ⟨l1, l2, l3⟩ := o2_lt (lt := ltV vw) (d := d) (s := s) ha hb
  unfold Sort.median
  generalize Sort.order2 (ltV vw) d a b s = r1 at h1 l1 l2 l3 ⊢
  obtain ⟨a1, b1, s1⟩ := r1
  simp only at h1 l1 l2 l3 ⊢
  have h2 := fun W (h : CnE w0 W g d rest c0 s1) => order2_any f vw hV g cap b1 c c0 s1 d rest w0 W h l2 hc (by omega)
  obtain ⟨l4, l5, l6⟩ := o2_lt (lt := ltV vw) (d := d) (s := s1) l2 hc
  generalize Sort.order2 (ltV vw) d b1 c s1 = r2 at h2 l4 l5 l6 ⊢
  obtain ⟨b2, c2, s2⟩ := r2
  simp only at h2 l4 l5 l6 ⊢
  have h3 := fun W (h : CnE w0 W g d rest c0 s2) => order2_any f vw hV g cap a1 b2 c0 s2 d rest w0 W h l1 l4 (by omega)
  generalize Sort.order2 (ltV vw) d a1 b2 s2 = r3 at h3 ⊢
  obtain ⟨a3, b3, s3⟩ := r3
  simp only at h3 ⊢
  have HH : Hid _ := And.intro h1 (And.intro h2 h3)
  unfold cmpV at HH ⊢
  clear h1 h2 h3 hR hV l1 l2 l3 l4 l5 l6
  go_enter Tryz.func149, Tryz.ntmps149
  go_wp2_with fail
  refine Calls.mono HH.out.1 ?_
  rintro r w1 ⟨rfl, hR1⟩
  go_wp2_with fail
  refine Calls.mono (HH.out.2.1 _ hR1) ?_
  rintro r w2 ⟨rfl, hR2⟩
  go_wp2_with fail
  refine Calls.mono (HH.out.2.2 _ hR2) ?_
  rintro r w3 ⟨rfl, hR3⟩
  go_wp2_with fail
  go_ret
  exact ⟨rfl, hR3⟩
set_option maxRecDepth 100000 in
set_option maxHeartbeats 4000000 in
theorem medianAdj_any (f : Nat) (vw : Sy.Ed → Sy.Ed) (hV : ViewAt f vw) (g cap a c0 s : Nat) (d : Array Sy.Ed) (rest : List Value) (w0 w : World) (hR : CnE w0 w g d rest c0 s) (ha : 1 ≤ a) (hb : a + 1 < d.size) (hsz : d.size ≤ 1000000) (hs : s + 3 ≤ 1000000) :
    Calls Tryz.prog 148 #[.slice (some ⟨g, 0, none⟩) d.size cap, .int .i64 a, .pointer (some ⟨c0, 0, none⟩), cmpV f] w fun r w' => r = .returned (.int .i64 (Sort.medianAdjacent (ltV vw) d a s).1) ∧ CnE w0 w' g d rest c0 (Sort.medianAdjacent (ltV vw) d a s).2 := by
  obtain ⟨p, rfl⟩ : ∃ p, a = p + 1 := ⟨a - 1, by omega⟩
  have h1 := median_any f vw hV g cap p (p + 1) (p + 1 + 1) c0 s d rest w0 w hR (by omega) (by omega) (by omega) hs
  unfold Sort.medianAdjacent
  rw [Nat.add_sub_cancel]
  generalize Sort.median (ltV vw) d p (p + 1) (p + 1 + 1) s = r1 at h1 ⊢
  obtain ⟨m1, s1⟩ := r1
  have e1 : IntKind.i64.wrap (((p + 1 : Nat) : Int) - 1) = (p : Int) := by rw [IntKind.wrap_i64]; omega
  have e2 : IntKind.i64.wrap (((p + 1 : Nat) : Int) + 1) = ((p + 1 + 1 : Nat) : Int) := by rw [IntKind.wrap_i64]; omega
  have HH : Hid _ := h1
  unfold cmpV at HH ⊢
  clear h1 hR hV
  go_enter Tryz.func148, Tryz.ntmps148
  go_wp2_with fail
  have HH2 := HH.out
  simp only [Int.natCast_add, Int.natCast_one] at HH2 ⊢
  refine Calls.mono HH2 ?_
  rintro r w1 ⟨rfl, hR1⟩
  go_wp2_with fail
  go_ret
  exact ⟨rfl, hR1⟩
end Go.Proofs.YtihdpncjgmpboaaGreatDoor
