/- Texts of this claim, joined: RoRank2, RoDRank, RoAlive, RoLawRank, RoLawAll, ErLaid, RoLaid. -/
import Derived.Test.YtpmanmoljlhogaaGreatDoorPart13
import Derived.Test.YtpmanmoljlhogaaGreatDoorPart11
import Derived.Test.YtpmanmoljlhogaaGreatDoorPart9
import Derived.Test.YtpmanmoljlhogaaGreatDoorRows
import Derived.Test.YtpmanmoljlhogaaGreatDoorPart7
import Derived.Test.YtpmanmoljlhogaaGreatDoorErCode
import Derived.ProofKit
import Derived.LaidMore
import Derived.Stop.LaidErr
import Derived.Test.YtpmanmoljlhogaaGreatDoorPart5
import Derived.Lib.LaidTab
/- Contract of the program's Rank. -/
namespace Go.Proofs.YtpmanmoljlhogaaGreatDoor
open Go.RowKit Go.Maps
attribute [local go_sem ↓] Go.wp_at_zero Go.wp_at_succ
theorem Tryz.eqNilErr5 (v : Value) (w : World) : (binOp BinOp.eql 46 .nilIface (.iface 305 v)).run Tryz.prog w = .ok (.bool false) w := by kernel_rfl
theorem is_nil5 (v : Value) (w : World) : Calls Tryz.prog 83 #[.nilIface, .iface 305 v] w fun e w' => e = .returned (.bool false) ∧ w' = w := by
  have hq := Tryz.eqNilErr5 v
  go_enter Tryz.func83, Tryz.ntmps83
  go_wp2
  go_ret
  exact ⟨rfl, rfl⟩
/-- The two errors that Rank of right systems and states asks for. -/
structure ErR (w : World) (e : Nat → Addr) : Prop where
  s14 : 14 ≤ 19 → Sent w 14 (e 14)
  s18 : 18 ≤ 19 → Sent w 0 (e 18)
theorem ErR.below {w w' : World} {e : Nat → Addr} (h : ErR w e) (hb : Below w.heap.size w w') : ErR w' e := ⟨fun hm => (h.s14 hm).below hb, fun hm => (h.s18 hm).below hb⟩
theorem Er.toR {w : World} {e : Nat → Addr} (h : Er 19 w e) : ErR w e := ⟨h.s14, h.s18⟩
theorem rankG_first {m : Nat} {out : Nat → List Ro.St} {p q : Nat} {j : Nat} : ∀ (f k : Nat), k ≤ j → j < k + f → (Ro.rnd m out j)[p]? ≠ (Ro.rnd m out j)[q]? → (∀ i, i < j → (Ro.rnd m out i)[p]? = (Ro.rnd m out i)[q]?) → Ro.rankG m out p q k f = (j : Int)
  | 0, k, h1, h2, _, _ => by omega
  | f + 1, k, h1, h2, h3, h4 => by
    unfold Ro.rankG
    rcases Nat.lt_or_ge k j with h | h
    · rw [if_pos (h4 k h)]
      exact rankG_first f (k + 1) (by omega) (by omega) h3 h4
    · obtain rfl : k = j := by omega
      rw [if_neg h3]
theorem rankG_none {m : Nat} {out : Nat → List Ro.St} {p q : Nat} : ∀ (f k : Nat), (∀ i, k ≤ i → i < k + f → (Ro.rnd m out i)[p]? = (Ro.rnd m out i)[q]?) → Ro.rankG m out p q k f = -1
  | 0, k, _ => rfl
  | f + 1, k, h => by
    unfold Ro.rankG
    rw [if_pos (h k (by omega) (by omega))]
    exact rankG_none f (k + 1) fun i h1 h2 => h i (by omega) (by omega)
set_option maxRecDepth 100000 in
set_option maxHeartbeats 4000000 in
theorem rank_ok (hS : SortOk 1000000) (m p q : Nat) (k s : Int) (v : Value) (es : List Sy.Ed) (e : Nat → Addr) (w : World) (hE : ErR w e) (hP : Pow w) (hv : BEdges.Has w v es) (hm : es.length ≤ 100000) (hq : Sy.right m k s es = true) (hp : p < m) (hq2 : q < m) :
    Calls Tryz.prog 17 #[sysV m k s v, .int .i64 p, .int .i64 q] w fun r w' => ∃ R, Ro.Last m (outOf m es) R ∧ r = .returned (.tuple #[.int .i64 (Ro.rank m (outOf m es) R p q), .nilIface]) ∧ Below w.heap.size w w' := by
  have hv0 := hv
  obtain ⟨ao, cap, rfl, _⟩ := hv0
  obtain ⟨L, hL⟩ : ∃ L, L = es.length := ⟨_, rfl⟩
  obtain ⟨w1, hw1⟩ : ∃ w1, w1 = w.alloc (.cells #[.int .i64 m, .int .i64 k, .int .i64 s, .slice ao L cap] 24) := ⟨_, rfl⟩
  have hb1 : Below w.heap.size w w1 := by rw [hw1]; exact (Below.refl _ _).alloc (Nat.le_refl _) _
  have hg1 : w1.heap[w.heap.size]? = some (.cells #[.int .i64 m, .int .i64 k, .int .i64 s, .slice ao L cap] 24 (0, 0)) := by rw [hw1]; exact heap_alloc_new w _
  have hE1 := hE.below hb1
  have hN := parting_ok hS m p q k s _ es (e 14) (e 18) w1 (hE1.s14 (by decide)) (hE1.s18 (by decide)) (hP.below hb1) (hv.below hb1) hm hq hp hq2
  rw [← hL] at hN ⊢
  unfold sysV at hN ⊢
  have H1 : Hid _ := And.intro hw1 (And.intro hb1 (And.intro hN hE))
  obtain ⟨x0, x1, x2, x3⟩ := four_cells hg1
  clear hE hE1 hP hv hm hq hw1 hb1 hg1 hN hL
  go_enter Tryz.func17, Tryz.ntmps17
  go_upto_region 1 with fail
  rw [← H1.out.1]
  go_wp2_with fail
  refine Calls.mono H1.out.2.2.1 ?_
  rintro r w2 ⟨R, hR, hb2, (⟨j, hj, rfl, hne, hall⟩ | ⟨rfl, hall⟩)⟩
  · have hb02 := bel6 hb2 H1.out.2.1
    have hs := (H1.out.2.2.2.below hb02).s18 (by decide)
    have hg := hs.1
    have H2 : Hid _ := And.intro hb02 (And.intro hR (rankG_first (R + 1) 0 (Nat.zero_le _) (by omega) hne hall))
    clear hb2 hR hne hall hb02 hs x0 x1 x2 x3
    go_wp2_with fail
    refine Calls.mono (is_nil5 _ _) ?_
    rintro r w3 ⟨rfl, hw⟩; obtain rfl := hw.symm; clear hw
    go_wp2_with fail
    go_ret2
    refine ⟨R, H2.out.2.1, ?_, H2.out.1⟩
    unfold Ro.rank
    rw [H2.out.2.2]
    rfl
  · have hb02 := bel6 hb2 H1.out.2.1
    have hs := (H1.out.2.2.2.below hb02).s18 (by decide)
    obtain ⟨hg, ca, ta, hba⟩ := hs
    have hI := is_chain (.iface 305 (.pointer (some (e 18)))) [] 0 0 (e 18) (e 18) ca ca ta ta w2 rfl hba hba
    rw [decide_eq_true rfl] at hI
    have H2 : Hid _ := And.intro hb02 (And.intro hR (And.intro hI (rankG_none (m := m) (out := outOf m es) (p := p) (q := q) (R + 1) 0 fun i _ hi => hall i (by omega))))
    clear hb2 hR hall hb02 hba hI x0 x1 x2 x3
    go_wp2_with fail
    refine Calls.mono H2.out.2.2.1 ?_
    rintro r w3 ⟨rfl, hw⟩; obtain rfl := hw.symm; clear hw
    go_wp2_with fail
    go_ret2
    refine ⟨R, H2.out.2.1, ?_, H2.out.1⟩
    unfold Ro.rank
    rw [H2.out.2.2.2]
    rfl
theorem rank_err (k : Nat) (T : TypeId) (u : Value) (ls : List ByteArray) (e : Nat → Addr) (w : World) (hE : Er 19 w e) (hk : 1 ≤ k ∧ k < 18) (hC : Chain w 0 0 (e k) ls (.iface T u)) (hks : ∃ G, Sent w G (e k)) :
    Calls Tryz.prog 83 #[.iface T u, .iface 305 (.pointer (some (e 18)))] w fun r w' => r = .returned (.bool false) ∧ w' = w := by
  obtain ⟨G, _, ca, ta, hba⟩ := hks
  obtain ⟨_, cb, tb, hbb⟩ := hE.s18 (by decide)
  have hI := is_chain (.iface T u) ls 0 0 (e k) (e 18) ca cb ta tb w hC hba hbb
  rw [decide_eq_false (fun h => hE.ne k 18 hk.1 hk.2 (by decide) h.symm)] at hI
  exact hI
set_option maxRecDepth 100000 in
set_option maxHeartbeats 4000000 in
theorem rank_bad (hS : SortOk 1000000) (n k s p q : Int) (v : Value) (es : List Sy.Ed) (e : Nat → Addr) (w : World) (hE : Er 19 w e) (hv : BEdges.Has w v es) (hm : es.length ≤ 100000) (hq : Sy.right n k s es = false) :
    Calls Tryz.prog 17 #[sysV n k s v, .int .i64 p, .int .i64 q] w fun r w' => ∃ b, r = .returned (.tuple #[.int .i64 0, .iface 76 (.pointer (some ⟨b, 0, none⟩))]) ∧ Chain w' 0 0 (e 14) [rndB, sysB] (.iface 76 (.pointer (some ⟨b, 0, none⟩))) ∧ Below w.heap.size w w' := by
  have hv0 := hv
  obtain ⟨ao, cap, rfl, _⟩ := hv0
  obtain ⟨L, hL⟩ : ∃ L, L = es.length := ⟨_, rfl⟩
  obtain ⟨w1, hw1⟩ : ∃ w1, w1 = w.alloc (.cells #[.int .i64 n, .int .i64 k, .int .i64 s, .slice ao L cap] 24) := ⟨_, rfl⟩
  have hb1 : Below w.heap.size w w1 := by rw [hw1]; exact (Below.refl _ _).alloc (Nat.le_refl _) _
  have hg1 : w1.heap[w.heap.size]? = some (.cells #[.int .i64 n, .int .i64 k, .int .i64 s, .slice ao L cap] 24 (0, 0)) := by rw [hw1]; exact heap_alloc_new w _
  have hN := parting_bad hS n k s p q _ es (e 14) w1 ((hE.below hb1).s14 (by decide)) (hv.below hb1) hm hq
  rw [← hL] at hN ⊢
  unfold sysV at hN ⊢
  have H1 : Hid _ := And.intro hw1 (And.intro hb1 (And.intro hN hE))
  obtain ⟨x0, x1, x2, x3⟩ := four_cells hg1
  clear hE hv hm hq hw1 hb1 hg1 hN hL
  go_enter Tryz.func17, Tryz.ntmps17
  go_upto_region 1 with fail
  rw [← H1.out.1]
  go_wp2_with fail
  refine Calls.mono H1.out.2.2.1 ?_
  rintro r w2 ⟨T, u, rfl, hC, hb2⟩
  have hE2 := H1.out.2.2.2.below (bel6 hb2 H1.out.2.1)
  have hI := rank_err 14 T u _ e w2 hE2 (by decide) hC ⟨_, hE2.s14 (by decide)⟩
  have hFt := rfault_any T u w2 (e 14) _ hC
  have hg := (hE2.s18 (by decide)).1
  have H2 : Hid _ := And.intro hFt (And.intro (bel6 hb2 H1.out.2.1) hI)
  clear hC hb2 hFt hE2 hI x0 x1 x2 x3
  go_wp2_with fail
  refine Calls.mono H2.out.2.2 ?_
  rintro r w3 ⟨rfl, hw⟩; obtain rfl := hw.symm; clear hw
  go_wp2_with fail
  refine Calls.mono H2.out.1 ?_
  rintro r w4 ⟨b, rfl, hC4, hb4⟩
  have H4 : Hid _ := And.intro hC4 (bel6 hb4 H2.out.2.1)
  clear hC4 hb4
  go_wp2_with fail
  go_ret2
  exact ⟨_, rfl, H4.out.1, H4.out.2⟩
set_option maxRecDepth 100000 in
set_option maxHeartbeats 4000000 in
theorem rank_idx (hS : SortOk 1000000) (m : Nat) (k s p q : Int) (v : Value) (es : List Sy.Ed) (e : Nat → Addr) (w : World) (hE : Er 19 w e) (hv : BEdges.Has w v es) (hm : es.length ≤ 100000) (hq : Sy.right m k s es = true) (hno : min p q < 0 ∨ (m : Int) ≤ max p q) :
    Calls Tryz.prog 17 #[sysV m k s v, .int .i64 p, .int .i64 q] w fun r w' => ∃ b, r = .returned (.tuple #[.int .i64 0, .iface 76 (.pointer (some ⟨b, 0, none⟩))]) ∧ Chain w' 0 0 (e 3) [rndB] (.iface 76 (.pointer (some ⟨b, 0, none⟩))) ∧ Below w.heap.size w w' := by
  have hv0 := hv
  obtain ⟨ao, cap, rfl, _⟩ := hv0
  obtain ⟨L, hL⟩ : ∃ L, L = es.length := ⟨_, rfl⟩
  obtain ⟨w1, hw1⟩ : ∃ w1, w1 = w.alloc (.cells #[.int .i64 m, .int .i64 k, .int .i64 s, .slice ao L cap] 24) := ⟨_, rfl⟩
  have hb1 : Below w.heap.size w w1 := by rw [hw1]; exact (Below.refl _ _).alloc (Nat.le_refl _) _
  have hg1 : w1.heap[w.heap.size]? = some (.cells #[.int .i64 m, .int .i64 k, .int .i64 s, .slice ao L cap] 24 (0, 0)) := by rw [hw1]; exact heap_alloc_new w _
  have hN := parting_idx hS m k s p q _ es (e 14) (e 3) w1 ((hE.below hb1).s14 (by decide)) ((hE.below hb1).s3 (by decide)) (hv.below hb1) hm hq hno
  rw [← hL] at hN ⊢
  unfold sysV at hN ⊢
  have H1 : Hid _ := And.intro hw1 (And.intro hb1 (And.intro hN hE))
  obtain ⟨x0, x1, x2, x3⟩ := four_cells hg1
  clear hE hv hm hq hw1 hb1 hg1 hN hL hno
  go_enter Tryz.func17, Tryz.ntmps17
  go_upto_region 1 with fail
  rw [← H1.out.1]
  go_wp2_with fail
  refine Calls.mono H1.out.2.2.1 ?_
  rintro r w2 ⟨rfl, hb2⟩
  have hE2 := H1.out.2.2.2.below (bel6 hb2 H1.out.2.1)
  have hC : Chain w2 0 0 (e 3) [] (.iface 305 (.pointer (some (e 3)))) := rfl
  have hI := rank_err 3 _ _ _ e w2 hE2 (by decide) hC ⟨_, hE2.s3 (by decide)⟩
  have hFt := rfault_any _ _ w2 (e 3) _ hC
  have hg := (hE2.s18 (by decide)).1
  have H2 : Hid _ := And.intro hFt (And.intro (bel6 hb2 H1.out.2.1) hI)
  clear hC hb2 hFt hE2 hI x0 x1 x2 x3
  go_wp2_with fail
  refine Calls.mono H2.out.2.2 ?_
  rintro r w3 ⟨rfl, hw⟩; obtain rfl := hw.symm; clear hw
  go_wp2_with fail
  refine Calls.mono H2.out.1 ?_
  rintro r w4 ⟨b, rfl, hC4, hb4⟩
  have H4 : Hid _ := And.intro hC4 (bel6 hb4 H2.out.2.1)
  clear hC4 hb4
  go_wp2_with fail
  go_ret2
  exact ⟨_, rfl, H4.out.1, H4.out.2⟩
end Go.Proofs.YtpmanmoljlhogaaGreatDoor
/- Contract of the document's Rank. -/
namespace Go.Proofs.YtpmanmoljlhogaaGreatDoor
open Go.RowKit Go.Maps
attribute [local go_sem ↓] Go.wp_at_zero Go.wp_at_succ
theorem OwnRs.cell {W : World} {B m g n cap : Nat} {xs : List Rd} (h : OwnRs W B m (.slice (some ⟨g, 0, none⟩) n cap) xs) {j : Nat} {x : Rd} (hj : xs[j]? = some x) : W.cell? ⟨g, j, none⟩ = some (hdr m x) := by
  have hn : n = xs.length := by
    rcases h.2 with ⟨h1, _⟩ | ⟨g', cap', cur, h1, _⟩
    · cases h1
    · injection h1
  subst hn
  have h1 : W.ownsRow B 57 1 (.slice (some ⟨g, 0, none⟩) xs.length cap) xs.length (xs.map (hdr m)) := h
  rw [h1.cellAt j (by have := (List.getElem?_eq_some_iff.1 hj).1; omega)]
  simp [hj]
set_option maxRecDepth 100000 in
set_option maxHeartbeats 4000000 in
theorem docRank_any (m p q R : Nat) (out : Nat → List Ro.St) (u : Value) (xs : List Rd) (B B' : Nat) (w : World) (hm : m ≤ 1000) (hR : Ro.Last m out R) (hx : xs.length = R + 1) (hO : OwnRs w B m u xs) (hW : RwAt w B' m out xs) (hp : p < m) (hq : q < m) :
    Calls Tryz.prog 19 #[u, .int .i64 p, .int .i64 q] w fun r w' => r = .returned (.int .i64 (Ro.rank m out R p q)) ∧ Below w.heap.size w w' := by
  obtain ⟨g, cap, rfl⟩ := ownsRow_succ (show w.ownsRow B 57 1 u (R + 1) (xs.map (hdr m)) by rw [← hx]; exact hO)
  have hRm := hR.lt
  have hR1 : R ≤ 1000 := by omega
  have HH : Hid _ := And.intro hO (And.intro hW hx)
  clear hO hW hx hR hRm
  go_enter Tryz.func19, Tryz.ntmps19
  go_wp2_with fail
  go_loopg [7] (R + 1) (fun c kv wr => ∃ (k d : Nat), c = R + 1 - k ∧ k ≤ R + 1 ∧ kv = .int .i64 k ∧ wr = w.drewN d ∧ ∀ i, i < k → (Ro.rnd m out i)[p]? = (Ro.rnd m out i)[q]?)
  case atStart => exact ⟨0, 0, rfl, Nat.zero_le _, rfl, rfl, fun i hi => by omega⟩
  case round =>
    obtain ⟨k, d, rfl, hk, rfl, rfl, hall⟩ := hrel
    have HA : Hid (∀ i, i < k → (Ro.rnd m out i)[p]? = (Ro.rnd m out i)[q]?) := hall
    clear hall
    by_cases hlt : k < R + 1
    · obtain ⟨⟨n0, b⟩, hxk⟩ : ∃ x, xs[k]? = some x := ⟨xs[k]'(by have := HH.out.2.2; omega), List.getElem?_eq_getElem _⟩
      have c1 := HH.out.1.cell hxk
      unfold hdr at c1
      obtain ⟨_, _, cs, hcs, hcl⟩ := HH.out.2.1.row k _ hxk
      simp only at hcs c1
      have hl := Ro.rnd_len m out k
      obtain ⟨cp, hcp⟩ : ∃ cp, (Ro.rnd m out k)[p]? = some cp := ⟨_, List.getElem?_eq_getElem (by omega)⟩
      obtain ⟨cq, hcq⟩ : ∃ cq, (Ro.rnd m out k)[q]? = some cq := ⟨_, List.getElem?_eq_getElem (by omega)⟩
      have c2 : w.cell? ⟨b, p, none⟩ = some (.int .i64 cp) := cell0_of hcs (by rw [← Array.getElem?_toList, hcl]; simp [natC, hcp])
      have c3 : w.cell? ⟨b, q, none⟩ = some (.int .i64 cq) := cell0_of hcs (by rw [← Array.getElem?_toList, hcl]; simp [natC, hcq])
      have q0 : (0 : Int) ≤ (k : Int) := by omega
      have q1 : (k : Int) < ((R + 1 : Nat) : Int) := by omega
      have q1' : (k : Int) < (R : Int) + 1 := by omega
      have q2 : (0 : Int) ≤ (p : Int) := by omega
      have q3 : (p : Int) < (m : Int) := by omega
      have q4 : (0 : Int) ≤ (q : Int) := by omega
      have q5 : (q : Int) < (m : Int) := by omega
      have HK : Hid _ := And.intro hcp hcq
      clear hcp hcq hcs hcl hl hxk
      by_cases hne : cp = cq
      · have n1 : ((cp : Int) != (cq : Int)) = false := by simp [hne]
        have HN : Hid _ := hne
        clear hne
        go_wp2_with fail
        go_quiet (fail)
        rename Nat => nq
        rw [World.drewN_drewN]
        go_wp2_with fail
        go_roundg (R + 1 - (k + 1))
        case measure => omega
        case rel => exact ⟨k + 1, _, rfl, by omega, by go_num, rfl, fun i hi => by
          rcases Nat.lt_or_ge i k with h1 | h1
          · exact HA.out i h1
          · obtain rfl : i = k := by omega
            rw [HK.out.1, HK.out.2, HN.out]⟩
      · have n1 : ((cp : Int) != (cq : Int)) = true := by simp; omega
        have HN : Hid _ := hne
        clear hne
        go_wp2_with fail
        go_quiet (fail)
        go_wp2_with fail
        go_ret
        refine ⟨?_, by first | exact below_drewN (below_drewN (Below.refl _ _) _) _ | exact below_drewN (Below.refl _ _) _⟩
        unfold Ro.rank
        rw [rankG_first (j := k) (R + 1) 0 (Nat.zero_le _) (by omega) (by rw [HK.out.1, HK.out.2]; exact fun e => HN.out (Option.some.inj e)) HA.out]
        rfl
    · obtain rfl : k = R + 1 := by omega
      have q1 : ¬ ((R + 1 : Nat) : Int) < ((R + 1 : Nat) : Int) := by omega
      go_wp2_with fail
      go_ret
      refine ⟨?_, below_drewN (Below.refl _ _) _⟩
      unfold Ro.rank
      rw [rankG_none (R + 1) 0 fun i _ hi => HA.out i (by omega)]
      rfl
end Go.Proofs.YtpmanmoljlhogaaGreatDoor
/- Contract of the law's alive of chapter 10: first calls whose answers the document fixes. -/
namespace Go.Proofs.YtpmanmoljlhogaaGreatDoor
open Go.RowKit Go.Maps
attribute [local go_sem ↓] Go.wp_at_zero Go.wp_at_succ
def esT : List Sy.Ed := [(0, 1, 1), (1, 1, 2), (3, 1, 2)]
theorem esT_right : Sy.right ((4 : Nat) : Int) 2 0 esT = true := by decide
theorem esT_last : Ro.Last 4 (outOf 4 esT) 2 := by
  refine ⟨by decide, fun j hj => ?_⟩
  match j, hj with
  | 0, _ => decide
  | 1, _ => decide
theorem esT_rank : Ro.rank 4 (outOf 4 esT) 2 0 1 = 2 := by decide
theorem esT_has (w : World) : BEdges.Has (w.alloc (.cells #[.int .i64 0, .int .i64 1, .int .i64 1, .int .i64 1, .int .i64 1, .int .i64 2, .int .i64 3, .int .i64 1, .int .i64 2] 66)) (.slice (some ⟨w.heap.size, 0, none⟩) 3 3) esT := by
  refine ⟨some ⟨w.heap.size, 0, none⟩, 3, rfl, fun j u hj => ⟨_, rfl, ?_⟩⟩
  rw [addz]
  refine cell0_of (heap_alloc_new w _) ?_
  rw [← Array.getElem?_toList]
  exact hj
def PAl (w : World) : Prop := ∀ W, Below w.heap.size w W → Calls Tryz.prog 9 #[] W fun r w' => r = .returned (.bool true) ∧ Below W.heap.size W w'
set_option maxRecDepth 100000 in
set_option maxHeartbeats 4000000 in
theorem pAl (hS : SortOk 1000000) (e : Nat → Addr) (w : World) (hE0 : ErR w e) (hP0 : Pow w) : PAl w := fun W hb => by
  have hE := hE0.below hb
  have hP := hP0.below hb
  clear hE0 hP0 hb
  obtain ⟨w1, hw1⟩ : ∃ w1, w1 = W.alloc (.cells #[.int .i64 0, .int .i64 1, .int .i64 1, .int .i64 1, .int .i64 1, .int .i64 2, .int .i64 3, .int .i64 1, .int .i64 2] 66) := ⟨_, rfl⟩
  have hb1 : Below W.heap.size W w1 := by rw [hw1]; exact (Below.refl _ _).alloc (Nat.le_refl _) _
  have hv := esT_has W
  rw [← hw1] at hv
  obtain ⟨w2, hw2⟩ : ∃ w2, w2 = w1.alloc (.cells #[.int .i64 4, .int .i64 2, .int .i64 0, .slice (some ⟨W.heap.size, 0, none⟩) 3 3] 24) := ⟨_, rfl⟩
  have hb2 : Below w1.heap.size w1 w2 := by rw [hw2]; exact (Below.refl _ _).alloc (Nat.le_refl _) _
  have hg2 : w2.heap[w1.heap.size]? = some (.cells #[.int .i64 4, .int .i64 2, .int .i64 0, .slice (some ⟨W.heap.size, 0, none⟩) 3 3] 24 (0, 0)) := by rw [hw2]; exact heap_alloc_new w1 _
  have hbW := bel6 hb2 hb1
  have hAll := all_ok hS 4 2 0 (.slice (some ⟨W.heap.size, 0, none⟩) 3 3) esT (e 14) w2 ((hE.below hbW).s14 (by decide)) (hP.below hbW) (hv.below hb2) (by decide) esT_right
  unfold sysV at hAll
  have hsz : w1.heap.size = W.heap.size + 1 := by rw [hw1]; simp
  have H1 : Hid _ := And.intro hw2 (And.intro hw1 (And.intro hg2 (And.intro hAll (And.intro hbW (And.intro hE (And.intro hP (hv.below hb2)))))))
  obtain ⟨x0, x1, x2, x3⟩ := four_cells hg2
  clear hw1 hb1 hv hw2 hb2 hg2 hbW hAll hE hP
  go_enter Tryz.func9, Tryz.ntmps9
  go_upto_region 2 with fail
  rw [← H1.out.2.1, ← H1.out.1]
  rw [hsz] at x0 x1 x2 x3
  go_wp2_with fail
  refine Calls.mono H1.out.2.2.2.1 ?_
  rintro r w3 ⟨u3, xs, R, rfl, hR, hxl, hO3, hRw, hb3⟩
  obtain rfl : R = 2 := hR.unique esT_last
  obtain ⟨a3, c3, hu3⟩ := row_shape hO3
  rw [hxl] at hu3
  subst hu3
  have hbW3 := bel6 hb3 H1.out.2.2.2.2.1
  have hRk := rank_ok hS 4 0 1 2 0 (.slice (some ⟨W.heap.size, 0, none⟩) 3 3) esT e w3 (H1.out.2.2.2.2.2.1.below hbW3) (H1.out.2.2.2.2.2.2.1.below hbW3) (H1.out.2.2.2.2.2.2.2.below hb3) (by decide) esT_right (by decide) (by decide)
  unfold sysV at hRk
  have hg3 := res_up6 hb3 H1.out.2.2.1
  rw [hsz] at hg3
  have H3 : Hid _ := And.intro hRk hbW3
  clear x0 x1 x2 x3 hR hxl hO3 hRw hb3 hbW3 hRk
  obtain ⟨x0, x1, x2, x3⟩ := four_cells hg3
  clear hg3
  go_wp2_with fail
  refine Calls.mono H3.out.1 ?_
  rintro r w4 ⟨R, hR, rfl, hb4⟩
  obtain rfl : R = 2 := hR.unique esT_last
  rw [esT_rank]
  have H4 : Hid _ := bel6 hb4 H3.out.2
  clear hR hb4 x0 x1 x2 x3
  go_wp2_with fail
  go_ret
  exact ⟨rfl, H4.out⟩
end Go.Proofs.YtpmanmoljlhogaaGreatDoor
/- RoundsRank as a call: for every system and all states the statement answers true. -/
namespace Go.Proofs.YtpmanmoljlhogaaGreatDoor
open Go.RowKit Go.Maps
attribute [local go_sem ↓] Go.wp_at_zero Go.wp_at_succ
theorem box_new (w : World) (a0 a1 a2 a3 : Value) (t : TypeId) : Below w.heap.size w (w.alloc (.cells #[a0, a1, a2, a3] t)) := (Below.refl _ _).alloc (Nat.le_refl _) _
set_option maxRecDepth 100000 in
set_option maxHeartbeats 4000000 in
theorem lawRank_out (n k s p q : Int) (v : Value) (es : List Sy.Ed) (w : World) (hA : PAl w) (hv : HasE w v es) (hli : lightB n es.length (Sy.right n k s es) = false) :
    Calls Tryz.prog 4 #[sysV n k s v, .int .i64 p, .int .i64 q] w fun r w' => r = .returned (.bool true) ∧ Below w.heap.size w w' := by
  have hvs := hv
  obtain ⟨ao, cap, rfl, hcap, hH⟩ := hvs
  obtain ⟨L, hL⟩ : ∃ L, L = es.length := ⟨_, rfl⟩
  obtain ⟨w1, hw1⟩ : ∃ w1, w1 = w.alloc (.cells #[.int .i64 n, .int .i64 k, .int .i64 s, .slice ao L cap] 24) := ⟨_, rfl⟩
  have hb1 : Below w.heap.size w w1 := by rw [hw1]; exact (Below.refl _ _).alloc (Nat.le_refl _) _
  have hg1 : w1.heap[w.heap.size]? = some (.cells #[.int .i64 n, .int .i64 k, .int .i64 s, .slice ao L cap] 24 (0, 0)) := by rw [hw1]; exact heap_alloc_new w _
  have hLt := light_any n k s _ es w1 (hH.below hb1)
  rw [hli] at hLt
  rw [← hL] at hLt ⊢
  unfold sysV at hLt ⊢
  have H1 : Hid _ := And.intro hw1 (And.intro hb1 (And.intro hLt hA))
  obtain ⟨x0, x1, x2, x3⟩ := four_cells hg1
  clear hA hv hH hcap hL hw1 hb1 hg1 hLt hli
  go_enter Tryz.func4, Tryz.ntmps4
  go_upto_region 1 with fail
  rw [← H1.out.1]
  go_wp2_with fail
  refine Calls.mono H1.out.2.2.1 ?_
  rintro r w2 ⟨rfl, hb2⟩
  have H2 : Hid (Below w.heap.size w w2) := bel6 hb2 H1.out.2.1
  clear hb2
  go_wp2_with fail
  refine Calls.mono (H1.out.2.2.2 _ H2.out) ?_
  rintro r w3 ⟨rfl, hb3⟩
  have H3 : Hid (Below w.heap.size w w3) := bel6 hb3 H2.out
  clear hb3
  go_wp2_with fail
  go_ret
  exact ⟨rfl, H3.out⟩
set_option maxRecDepth 100000 in
set_option maxHeartbeats 8000000 in
theorem lawRank_bad (hS : SortOk 1000000) (n k s p q : Int) (v : Value) (es : List Sy.Ed) (e : Nat → Addr) (w : World) (hA : PAl w) (hE : Er 19 w e) (hv : HasE w v es) (hlen : es.length ≤ 11000) (hq : Sy.right n k s es = false) (hli : lightB n es.length (Sy.right n k s es) = true)  :
    Calls Tryz.prog 4 #[sysV n k s v, .int .i64 p, .int .i64 q] w fun r w' => r = .returned (.bool true) ∧ Below w.heap.size w w' := by
  have hvs := hv
  obtain ⟨ao, cap, rfl, hcap, hH⟩ := hvs
  obtain ⟨L, hL⟩ : ∃ L, L = es.length := ⟨_, rfl⟩
  obtain ⟨w1, hw1⟩ : ∃ w1, w1 = w.alloc (.cells #[.int .i64 n, .int .i64 k, .int .i64 s, .slice ao L cap] 24) := ⟨_, rfl⟩
  have hb1 : Below w.heap.size w w1 := by rw [hw1]; exact (Below.refl _ _).alloc (Nat.le_refl _) _
  have hg1 : w1.heap[w.heap.size]? = some (.cells #[.int .i64 n, .int .i64 k, .int .i64 s, .slice ao L cap] 24 (0, 0)) := by rw [hw1]; exact heap_alloc_new w _
  have hLt := light_any n k s _ es w1 (hH.below hb1)
  rw [hli] at hLt
  have hRk := fun W (hb : Below w1.heap.size w1 W) => rank_bad hS n k s p q _ es e W ((hE.below hb1).below hb) ((hH.below hb1).below hb) (by omega) hq
  have hHd := fun W (hb : Below w1.heap.size w1 W) => handed_rnd n k s _ es W ((hH.below hb1).below hb)
  rw [hq] at hHd
  rw [← hL] at hLt hRk hHd ⊢
  unfold sysV at hLt hRk hHd ⊢
  have H1 : Hid _ := And.intro hw1 (And.intro hb1 (And.intro hLt (And.intro hA (And.intro hRk (And.intro hHd (And.intro hE hg1))))))
  obtain ⟨x0, x1, x2, x3⟩ := four_cells hg1
  clear hA hE hv hH hcap hL hw1 hb1 hg1 hLt hRk hHd hli hq hlen
  go_enter Tryz.func4, Tryz.ntmps4
  go_upto_region 1 with fail
  rw [← H1.out.1]
  go_wp2_with fail
  refine Calls.mono H1.out.2.2.1 ?_
  rintro r w2 ⟨rfl, hb2⟩
  clear x0 x1 x2 x3
  obtain ⟨x0, x1, x2, x3⟩ := four_cells (res_up6 hb2 H1.out.2.2.2.2.2.2.2)
  have H2 : Hid (Below w1.heap.size w1 w2) := hb2
  clear hb2
  go_wp2_with fail
  refine Calls.mono (H1.out.2.2.2.2.1 _ H2.out) ?_
  rintro r w3 ⟨bx, rfl, hC3, hb3⟩
  have HC : Hid _ := And.intro hC3 trivial
  clear hC3
  have hb13 := bel6 hb3 H2.out
  clear x0 x1 x2 x3
  obtain ⟨x0, x1, x2, x3⟩ := four_cells (res_up6 hb13 H1.out.2.2.2.2.2.2.2)
  have H3 : Hid (Below w1.heap.size w1 w3) := hb13
  clear hb3 hb13
  go_wp2_with fail
  refine Calls.mono (H1.out.2.2.2.2.2.1 _ H3.out) ?_
  rintro r w4 ⟨rfl, hb4⟩
  have hb14 := bel6 hb4 H3.out
  rw [show hndV false = .agg #[.int .i64 14, .int .i64 0, .int .i64 0, .string rndB2] from rfl]
  have H4 : Hid _ := And.intro hb4 hb14
  clear hb4 hb14 x0 x1 x2 x3
  go_upto_region 5 with fail
  obtain ⟨w5, hw5⟩ : ∃ w5, w5 = w4.alloc (.cells #[.int .i64 14, .int .i64 0, .int .i64 0, .string rndB2] 42) := ⟨_, rfl⟩
  have hb5 : Below w4.heap.size w4 w5 := by rw [hw5]; exact box_new _ _ _ _ _ _
  have hg5 : w5.heap[w4.heap.size]? = some (.cells #[.int .i64 14, .int .i64 0, .int .i64 0, .string rndB2] 42 (0, 0)) := by rw [hw5]; exact heap_alloc_new w4 _
  rw [← hw5]
  obtain ⟨y0, y1, y2, y3⟩ := four_cells hg5
  obtain ⟨x0, x1, x2, x3⟩ := four_cells (res_up6 (bel6 hb5 H4.out.2) H1.out.2.2.2.2.2.2.2)
  have H5 : Hid _ := And.intro (bel6 hb5 H4.out.2) (And.intro (bel6 hb5 H4.out.1) hg5)
  clear hb5 hg5 hw5
  go_wp2_with fail
  refine Calls.mono (H1.out.2.2.2.1 _ (bel6 H5.out.1 H1.out.2.1)) ?_
  rintro r w6 ⟨rfl, hb6⟩
  have hb16 := bel6 hb6 H5.out.1
  have hT := told_chain 14 (by decide) (by decide) (by decide) _ _ 0 0 e w6 ((H1.out.2.2.2.2.2.2.1.below H1.out.2.1).below hb16) (HC.out.1.below (bel6 hb6 H5.out.2.1)) (by decide) (by decide)
  rw [rnd_join2] at hT
  clear x0 x1 x2 x3 y0 y1 y2 y3
  obtain ⟨y0, y1, y2, y3⟩ := four_cells (res_up6 hb6 H5.out.2.2)
  have H6 : Hid _ := And.intro hT hb16
  clear hT hb6 hb16
  go_wp2_with fail
  refine Calls.mono H6.out.1 ?_
  rintro r w7 ⟨rfl, hb7⟩
  have H7 : Hid (Below w.heap.size w w7) := bel6 (bel6 hb7 H6.out.2) H1.out.2.1
  clear hb7
  go_wp2_with fail
  go_ret
  exact ⟨rfl, H7.out⟩
set_option maxRecDepth 100000 in
set_option maxHeartbeats 8000000 in
theorem lawRank_idx (hS : SortOk 1000000) (m : Nat) (k s p q : Int) (v : Value) (es : List Sy.Ed) (e : Nat → Addr) (w : World) (hA : PAl w) (hE : Er 19 w e) (hv : HasE w v es) (hlen : es.length ≤ 11000) (hq : Sy.right m k s es = true) (hli : lightB m es.length (Sy.right m k s es) = true) (hno : min p q < 0 ∨ (m : Int) ≤ max p q) :
    Calls Tryz.prog 4 #[sysV m k s v, .int .i64 p, .int .i64 q] w fun r w' => r = .returned (.bool true) ∧ Below w.heap.size w w' := by
  have hvs := hv
  obtain ⟨ao, cap, rfl, hcap, hH⟩ := hvs
  obtain ⟨L, hL⟩ : ∃ L, L = es.length := ⟨_, rfl⟩
  obtain ⟨w1, hw1⟩ : ∃ w1, w1 = w.alloc (.cells #[.int .i64 m, .int .i64 k, .int .i64 s, .slice ao L cap] 24) := ⟨_, rfl⟩
  have hb1 : Below w.heap.size w w1 := by rw [hw1]; exact (Below.refl _ _).alloc (Nat.le_refl _) _
  have hg1 : w1.heap[w.heap.size]? = some (.cells #[.int .i64 m, .int .i64 k, .int .i64 s, .slice ao L cap] 24 (0, 0)) := by rw [hw1]; exact heap_alloc_new w _
  have hLt := light_any m k s _ es w1 (hH.below hb1)
  rw [hli] at hLt
  have hRk := fun W (hb : Below w1.heap.size w1 W) => rank_idx hS m k s p q _ es e W ((hE.below hb1).below hb) ((hH.below hb1).below hb) (by omega) hq hno
  have hHd := fun W (hb : Below w1.heap.size w1 W) => handed_rnd m k s _ es W ((hH.below hb1).below hb)
  rw [hq] at hHd
  rw [← hL] at hLt hRk hHd ⊢
  unfold sysV at hLt hRk hHd ⊢
  have H1 : Hid _ := And.intro hw1 (And.intro hb1 (And.intro hLt (And.intro hA (And.intro hRk (And.intro hHd (And.intro hE hg1))))))
  obtain ⟨x0, x1, x2, x3⟩ := four_cells hg1
  clear hA hE hv hH hcap hL hw1 hb1 hg1 hLt hRk hHd hli hq hlen
  go_enter Tryz.func4, Tryz.ntmps4
  go_upto_region 1 with fail
  rw [← H1.out.1]
  go_wp2_with fail
  refine Calls.mono H1.out.2.2.1 ?_
  rintro r w2 ⟨rfl, hb2⟩
  clear x0 x1 x2 x3
  obtain ⟨x0, x1, x2, x3⟩ := four_cells (res_up6 hb2 H1.out.2.2.2.2.2.2.2)
  have H2 : Hid (Below w1.heap.size w1 w2) := hb2
  clear hb2
  go_wp2_with fail
  refine Calls.mono (H1.out.2.2.2.2.1 _ H2.out) ?_
  rintro r w3 ⟨bx, rfl, hC3, hb3⟩
  have HC : Hid _ := And.intro hC3 trivial
  clear hC3
  have hb13 := bel6 hb3 H2.out
  clear x0 x1 x2 x3
  obtain ⟨x0, x1, x2, x3⟩ := four_cells (res_up6 hb13 H1.out.2.2.2.2.2.2.2)
  have H3 : Hid (Below w1.heap.size w1 w3) := hb13
  clear hb3 hb13
  go_wp2_with fail
  refine Calls.mono (H1.out.2.2.2.2.2.1 _ H3.out) ?_
  rintro r w4 ⟨rfl, hb4⟩
  have hb14 := bel6 hb4 H3.out
  rw [show hndV true = .agg #[.int .i64 0, .int .i64 0, .int .i64 0, .string ⟨#[]⟩] from rfl]
  have H4 : Hid _ := And.intro hb4 hb14
  clear hb4 hb14 x0 x1 x2 x3
  go_upto_region 5 with fail
  obtain ⟨w5, hw5⟩ : ∃ w5, w5 = w4.alloc (.cells #[.int .i64 0, .int .i64 0, .int .i64 0, .string ⟨#[]⟩] 42) := ⟨_, rfl⟩
  have hb5 : Below w4.heap.size w4 w5 := by rw [hw5]; exact box_new _ _ _ _ _ _
  have hg5 : w5.heap[w4.heap.size]? = some (.cells #[.int .i64 0, .int .i64 0, .int .i64 0, .string ⟨#[]⟩] 42 (0, 0)) := by rw [hw5]; exact heap_alloc_new w4 _
  rw [← hw5]
  obtain ⟨y0, y1, y2, y3⟩ := four_cells hg5
  obtain ⟨x0, x1, x2, x3⟩ := four_cells (res_up6 (bel6 hb5 H4.out.2) H1.out.2.2.2.2.2.2.2)
  have H5 : Hid _ := And.intro (bel6 hb5 H4.out.2) (And.intro (bel6 hb5 H4.out.1) hg5)
  clear hb5 hg5 hw5
  have z0 := blk_free H5.out.2.2 0
  have z1 := blk_free H5.out.2.2 1
  have z2 := blk_free H5.out.2.2 2
  have z3 := blk_free H5.out.2.2 3
  have hno2 : p < 0 ∨ (0 ≤ p ∧ (m : Int) ≤ p) ∨ (0 ≤ p ∧ p < (m : Int) ∧ q < 0) ∨ (0 ≤ p ∧ p < (m : Int) ∧ 0 ≤ q ∧ (m : Int) ≤ q) := by omega
  clear hno
  rcases hno2 with h1 | ⟨h1, h2⟩ | ⟨h1, h2, h3⟩ | ⟨h1, h2, h3, h4⟩
  · have g1 : decide (p < 0) = true := decide_eq_true h1
    clear h1
    go_wp2_with fail
    refine Calls.mono (badRnd 3 w5) ?_
    rintro r w8 ⟨rfl, hb8⟩
    have hg8 := res_up6 hb8 H5.out.2.2
    clear x0 x1 x2 x3 y0 y1 y2 y3 z0 z1 z2 z3
    have z0 := blk_free hg8 0
    have z1 := blk_free hg8 1
    have z2 := blk_free hg8 2
    have z3 := blk_free hg8 3
    obtain ⟨y0, y1, y2, y3⟩ := four_cells hg8
    have H8 : Hid _ := And.intro hb8 hg8
    clear hb8 hg8
    go_upto_region 7 with fail
    have hg9 := four_set (a0 := .int .i64 3) (a1 := .int .i64 0) (a2 := .int .i64 0) (a3 := .string rndB1) H8.out.2
    have hb9 := four_below (bel6 H8.out.1 H5.out.2.1) (b := w4.heap.size) H4.out.1.size (.int .i64 3) (.int .i64 0) (.int .i64 0) (.string rndB1)
    generalize ((((w8.setCell ⟨w4.heap.size, 0, none⟩ (.int .i64 3)).setCell ⟨w4.heap.size, 1, none⟩ (.int .i64 0)).setCell ⟨w4.heap.size, 2, none⟩ (.int .i64 0)).setCell ⟨w4.heap.size, 3, none⟩ (.string rndB1)) = w9 at hg9 hb9 ⊢
    clear y0 y1 y2 y3 z0 z1 z2 z3
    obtain ⟨y0, y1, y2, y3⟩ := four_cells hg9
    obtain ⟨x0, x1, x2, x3⟩ := four_cells (res_up6 (bel6 hb9 H3.out) H1.out.2.2.2.2.2.2.2)
    have H9 : Hid _ := And.intro hb9 hg9
    clear hb9 hg9
    go_wp2_with fail
    refine Calls.mono (H1.out.2.2.2.1 _ (bel6 (bel6 H9.out.1 H3.out) H1.out.2.1)) ?_
    rintro r w6 ⟨rfl, hb6⟩
    have hb16 := bel6 hb6 (bel6 H9.out.1 H3.out)
    have hT := told_chain 3 (by decide) (by decide) (by decide) _ _ 0 0 e w6 ((H1.out.2.2.2.2.2.2.1.below H1.out.2.1).below hb16) (HC.out.1.below (bel6 hb6 H9.out.1)) (by decide) (by decide)
    rw [rnd_join1] at hT
    clear x0 x1 x2 x3 y0 y1 y2 y3
    obtain ⟨y0, y1, y2, y3⟩ := four_cells (res_up6 hb6 H9.out.2)
    have H6 : Hid _ := And.intro hT hb16
    clear hT hb6 hb16
    go_wp2_with fail
    refine Calls.mono H6.out.1 ?_
    rintro r w7 ⟨rfl, hb7⟩
    have H7 : Hid (Below w.heap.size w w7) := bel6 (bel6 hb7 H6.out.2) H1.out.2.1
    clear hb7
    go_wp2_with fail
    go_ret
    exact ⟨rfl, H7.out⟩
  · have g1 : decide (p < 0) = false := decide_eq_false (by omega)
    have g2 : decide ((m : Int) ≤ p) = true := decide_eq_true h2
    clear h1 h2
    go_wp2_with fail
    refine Calls.mono (badRnd 3 w5) ?_
    rintro r w8 ⟨rfl, hb8⟩
    have hg8 := res_up6 hb8 H5.out.2.2
    clear x0 x1 x2 x3 y0 y1 y2 y3 z0 z1 z2 z3
    have z0 := blk_free hg8 0
    have z1 := blk_free hg8 1
    have z2 := blk_free hg8 2
    have z3 := blk_free hg8 3
    obtain ⟨y0, y1, y2, y3⟩ := four_cells hg8
    have H8 : Hid _ := And.intro hb8 hg8
    clear hb8 hg8
    go_upto_region 7 with fail
    have hg9 := four_set (a0 := .int .i64 3) (a1 := .int .i64 0) (a2 := .int .i64 0) (a3 := .string rndB1) H8.out.2
    have hb9 := four_below (bel6 H8.out.1 H5.out.2.1) (b := w4.heap.size) H4.out.1.size (.int .i64 3) (.int .i64 0) (.int .i64 0) (.string rndB1)
    generalize ((((w8.setCell ⟨w4.heap.size, 0, none⟩ (.int .i64 3)).setCell ⟨w4.heap.size, 1, none⟩ (.int .i64 0)).setCell ⟨w4.heap.size, 2, none⟩ (.int .i64 0)).setCell ⟨w4.heap.size, 3, none⟩ (.string rndB1)) = w9 at hg9 hb9 ⊢
    clear y0 y1 y2 y3 z0 z1 z2 z3
    obtain ⟨y0, y1, y2, y3⟩ := four_cells hg9
    obtain ⟨x0, x1, x2, x3⟩ := four_cells (res_up6 (bel6 hb9 H3.out) H1.out.2.2.2.2.2.2.2)
    have H9 : Hid _ := And.intro hb9 hg9
    clear hb9 hg9
    go_wp2_with fail
    refine Calls.mono (H1.out.2.2.2.1 _ (bel6 (bel6 H9.out.1 H3.out) H1.out.2.1)) ?_
    rintro r w6 ⟨rfl, hb6⟩
    have hb16 := bel6 hb6 (bel6 H9.out.1 H3.out)
    have hT := told_chain 3 (by decide) (by decide) (by decide) _ _ 0 0 e w6 ((H1.out.2.2.2.2.2.2.1.below H1.out.2.1).below hb16) (HC.out.1.below (bel6 hb6 H9.out.1)) (by decide) (by decide)
    rw [rnd_join1] at hT
    clear x0 x1 x2 x3 y0 y1 y2 y3
    obtain ⟨y0, y1, y2, y3⟩ := four_cells (res_up6 hb6 H9.out.2)
    have H6 : Hid _ := And.intro hT hb16
    clear hT hb6 hb16
    go_wp2_with fail
    refine Calls.mono H6.out.1 ?_
    rintro r w7 ⟨rfl, hb7⟩
    have H7 : Hid (Below w.heap.size w w7) := bel6 (bel6 hb7 H6.out.2) H1.out.2.1
    clear hb7
    go_wp2_with fail
    go_ret
    exact ⟨rfl, H7.out⟩
  · have g1 : decide (p < 0) = false := decide_eq_false (by omega)
    have g2 : decide ((m : Int) ≤ p) = false := decide_eq_false (by omega)
    have g3 : decide (q < 0) = true := decide_eq_true h3
    clear h1 h2 h3
    go_wp2_with fail
    refine Calls.mono (badRnd 3 w5) ?_
    rintro r w8 ⟨rfl, hb8⟩
    have hg8 := res_up6 hb8 H5.out.2.2
    clear x0 x1 x2 x3 y0 y1 y2 y3 z0 z1 z2 z3
    have z0 := blk_free hg8 0
    have z1 := blk_free hg8 1
    have z2 := blk_free hg8 2
    have z3 := blk_free hg8 3
    obtain ⟨y0, y1, y2, y3⟩ := four_cells hg8
    have H8 : Hid _ := And.intro hb8 hg8
    clear hb8 hg8
    go_upto_region 7 with fail
    have hg9 := four_set (a0 := .int .i64 3) (a1 := .int .i64 0) (a2 := .int .i64 0) (a3 := .string rndB1) H8.out.2
    have hb9 := four_below (bel6 H8.out.1 H5.out.2.1) (b := w4.heap.size) H4.out.1.size (.int .i64 3) (.int .i64 0) (.int .i64 0) (.string rndB1)
    generalize ((((w8.setCell ⟨w4.heap.size, 0, none⟩ (.int .i64 3)).setCell ⟨w4.heap.size, 1, none⟩ (.int .i64 0)).setCell ⟨w4.heap.size, 2, none⟩ (.int .i64 0)).setCell ⟨w4.heap.size, 3, none⟩ (.string rndB1)) = w9 at hg9 hb9 ⊢
    clear y0 y1 y2 y3 z0 z1 z2 z3
    obtain ⟨y0, y1, y2, y3⟩ := four_cells hg9
    obtain ⟨x0, x1, x2, x3⟩ := four_cells (res_up6 (bel6 hb9 H3.out) H1.out.2.2.2.2.2.2.2)
    have H9 : Hid _ := And.intro hb9 hg9
    clear hb9 hg9
    go_wp2_with fail
    refine Calls.mono (H1.out.2.2.2.1 _ (bel6 (bel6 H9.out.1 H3.out) H1.out.2.1)) ?_
    rintro r w6 ⟨rfl, hb6⟩
    have hb16 := bel6 hb6 (bel6 H9.out.1 H3.out)
    have hT := told_chain 3 (by decide) (by decide) (by decide) _ _ 0 0 e w6 ((H1.out.2.2.2.2.2.2.1.below H1.out.2.1).below hb16) (HC.out.1.below (bel6 hb6 H9.out.1)) (by decide) (by decide)
    rw [rnd_join1] at hT
    clear x0 x1 x2 x3 y0 y1 y2 y3
    obtain ⟨y0, y1, y2, y3⟩ := four_cells (res_up6 hb6 H9.out.2)
    have H6 : Hid _ := And.intro hT hb16
    clear hT hb6 hb16
    go_wp2_with fail
    refine Calls.mono H6.out.1 ?_
    rintro r w7 ⟨rfl, hb7⟩
    have H7 : Hid (Below w.heap.size w w7) := bel6 (bel6 hb7 H6.out.2) H1.out.2.1
    clear hb7
    go_wp2_with fail
    go_ret
    exact ⟨rfl, H7.out⟩
  · have g1 : decide (p < 0) = false := decide_eq_false (by omega)
    have g2 : decide ((m : Int) ≤ p) = false := decide_eq_false (by omega)
    have g3 : decide (q < 0) = false := decide_eq_false (by omega)
    have g4 : decide ((m : Int) ≤ q) = true := decide_eq_true h4
    clear h1 h2 h3 h4
    go_wp2_with fail
    refine Calls.mono (badRnd 3 w5) ?_
    rintro r w8 ⟨rfl, hb8⟩
    have hg8 := res_up6 hb8 H5.out.2.2
    clear x0 x1 x2 x3 y0 y1 y2 y3 z0 z1 z2 z3
    have z0 := blk_free hg8 0
    have z1 := blk_free hg8 1
    have z2 := blk_free hg8 2
    have z3 := blk_free hg8 3
    obtain ⟨y0, y1, y2, y3⟩ := four_cells hg8
    have H8 : Hid _ := And.intro hb8 hg8
    clear hb8 hg8
    go_upto_region 7 with fail
    have hg9 := four_set (a0 := .int .i64 3) (a1 := .int .i64 0) (a2 := .int .i64 0) (a3 := .string rndB1) H8.out.2
    have hb9 := four_below (bel6 H8.out.1 H5.out.2.1) (b := w4.heap.size) H4.out.1.size (.int .i64 3) (.int .i64 0) (.int .i64 0) (.string rndB1)
    generalize ((((w8.setCell ⟨w4.heap.size, 0, none⟩ (.int .i64 3)).setCell ⟨w4.heap.size, 1, none⟩ (.int .i64 0)).setCell ⟨w4.heap.size, 2, none⟩ (.int .i64 0)).setCell ⟨w4.heap.size, 3, none⟩ (.string rndB1)) = w9 at hg9 hb9 ⊢
    clear y0 y1 y2 y3 z0 z1 z2 z3
    obtain ⟨y0, y1, y2, y3⟩ := four_cells hg9
    obtain ⟨x0, x1, x2, x3⟩ := four_cells (res_up6 (bel6 hb9 H3.out) H1.out.2.2.2.2.2.2.2)
    have H9 : Hid _ := And.intro hb9 hg9
    clear hb9 hg9
    go_wp2_with fail
    refine Calls.mono (H1.out.2.2.2.1 _ (bel6 (bel6 H9.out.1 H3.out) H1.out.2.1)) ?_
    rintro r w6 ⟨rfl, hb6⟩
    have hb16 := bel6 hb6 (bel6 H9.out.1 H3.out)
    have hT := told_chain 3 (by decide) (by decide) (by decide) _ _ 0 0 e w6 ((H1.out.2.2.2.2.2.2.1.below H1.out.2.1).below hb16) (HC.out.1.below (bel6 hb6 H9.out.1)) (by decide) (by decide)
    rw [rnd_join1] at hT
    clear x0 x1 x2 x3 y0 y1 y2 y3
    obtain ⟨y0, y1, y2, y3⟩ := four_cells (res_up6 hb6 H9.out.2)
    have H6 : Hid _ := And.intro hT hb16
    clear hT hb6 hb16
    go_wp2_with fail
    refine Calls.mono H6.out.1 ?_
    rintro r w7 ⟨rfl, hb7⟩
    have H7 : Hid (Below w.heap.size w w7) := bel6 (bel6 hb7 H6.out.2) H1.out.2.1
    clear hb7
    go_wp2_with fail
    go_ret
    exact ⟨rfl, H7.out⟩
set_option maxRecDepth 100000 in
set_option maxHeartbeats 8000000 in
theorem lawRank_ok (hS : SortOk 1000000) (m p q : Nat) (k s : Int) (v : Value) (es : List Sy.Ed) (e : Nat → Addr) (w : World) (hA : PAl w) (hE : Er 19 w e) (hP : Pow w) (hv : HasE w v es) (hlen : es.length ≤ 11000) (hq : Sy.right m k s es = true) (hli : lightB m es.length (Sy.right m k s es) = true) (hp : p < m) (hq2 : q < m) :
    Calls Tryz.prog 4 #[sysV m k s v, .int .i64 p, .int .i64 q] w fun r w' => r = .returned (.bool true) ∧ Below w.heap.size w w' := by
  have hvs := hv
  obtain ⟨ao, cap, rfl, hcap, hH⟩ := hvs
  obtain ⟨L, hL⟩ : ∃ L, L = es.length := ⟨_, rfl⟩
  obtain ⟨w1, hw1⟩ : ∃ w1, w1 = w.alloc (.cells #[.int .i64 m, .int .i64 k, .int .i64 s, .slice ao L cap] 24) := ⟨_, rfl⟩
  have hb1 : Below w.heap.size w w1 := by rw [hw1]; exact (Below.refl _ _).alloc (Nat.le_refl _) _
  have hg1 : w1.heap[w.heap.size]? = some (.cells #[.int .i64 m, .int .i64 k, .int .i64 s, .slice ao L cap] 24 (0, 0)) := by rw [hw1]; exact heap_alloc_new w _
  have hLt := light_any m k s _ es w1 (hH.below hb1)
  rw [hli] at hLt
  have hRk := fun W (hb : Below w1.heap.size w1 W) => rank_ok hS m p q k s _ es e W ((hE.below hb1).below hb).toR ((hP.below hb1).below hb) ((hH.below hb1).below hb) (by omega) hq hp hq2
  have hHd := fun W (hb : Below w1.heap.size w1 W) => handed_rnd m k s _ es W ((hH.below hb1).below hb)
  rw [hq] at hHd
  have hRd := fun W (hb : Below w1.heap.size w1 W) => docRounds_any m k s _ es W ((hv.below hb1).below hb) hq
  rw [← hL] at hRd
  unfold sysV at hRd
  have HRd : Hid _ := And.intro hRd trivial
  have hm1 : m ≤ 1000 := by have := (right_parts hq).1; omega
  clear hRd
  rw [← hL] at hLt hRk hHd ⊢
  unfold sysV at hLt hRk hHd ⊢
  have H1 : Hid _ := And.intro hw1 (And.intro hb1 (And.intro hLt (And.intro hA (And.intro hRk (And.intro hHd (And.intro hE hg1))))))
  obtain ⟨x0, x1, x2, x3⟩ := four_cells hg1
  clear hA hE hP hv hH hcap hL hw1 hb1 hg1 hLt hRk hHd hli hq hlen
  go_enter Tryz.func4, Tryz.ntmps4
  go_upto_region 1 with fail
  rw [← H1.out.1]
  go_wp2_with fail
  refine Calls.mono H1.out.2.2.1 ?_
  rintro r w2 ⟨rfl, hb2⟩
  clear x0 x1 x2 x3
  obtain ⟨x0, x1, x2, x3⟩ := four_cells (res_up6 hb2 H1.out.2.2.2.2.2.2.2)
  have H2 : Hid (Below w1.heap.size w1 w2) := hb2
  clear hb2
  go_wp2_with fail
  refine Calls.mono (H1.out.2.2.2.2.1 _ H2.out) ?_
  rintro r w3 ⟨R, hRl, rfl, hb3⟩
  obtain ⟨rk, hrk⟩ : ∃ rk, rk = Ro.rank m (outOf m es) R p q := ⟨_, rfl⟩
  rw [← hrk]
  have HC : Hid _ := And.intro hRl hrk
  clear hRl hrk
  have hb13 := bel6 hb3 H2.out
  clear x0 x1 x2 x3
  obtain ⟨x0, x1, x2, x3⟩ := four_cells (res_up6 hb13 H1.out.2.2.2.2.2.2.2)
  have H3 : Hid (Below w1.heap.size w1 w3) := hb13
  clear hb3 hb13
  go_wp2_with fail
  refine Calls.mono (H1.out.2.2.2.2.2.1 _ H3.out) ?_
  rintro r w4 ⟨rfl, hb4⟩
  have hb14 := bel6 hb4 H3.out
  rw [show hndV true = .agg #[.int .i64 0, .int .i64 0, .int .i64 0, .string ⟨#[]⟩] from rfl]
  have H4 : Hid _ := And.intro hb4 hb14
  clear hb4 hb14 x0 x1 x2 x3
  go_upto_region 5 with fail
  obtain ⟨w5, hw5⟩ : ∃ w5, w5 = w4.alloc (.cells #[.int .i64 0, .int .i64 0, .int .i64 0, .string ⟨#[]⟩] 42) := ⟨_, rfl⟩
  have hb5 : Below w4.heap.size w4 w5 := by rw [hw5]; exact box_new _ _ _ _ _ _
  have hg5 : w5.heap[w4.heap.size]? = some (.cells #[.int .i64 0, .int .i64 0, .int .i64 0, .string ⟨#[]⟩] 42 (0, 0)) := by rw [hw5]; exact heap_alloc_new w4 _
  rw [← hw5]
  obtain ⟨y0, y1, y2, y3⟩ := four_cells hg5
  obtain ⟨x0, x1, x2, x3⟩ := four_cells (res_up6 (bel6 hb5 H4.out.2) H1.out.2.2.2.2.2.2.2)
  have H5 : Hid _ := And.intro (bel6 hb5 H4.out.2) (And.intro (bel6 hb5 H4.out.1) hg5)
  clear hb5 hg5 hw5
  have g1 : decide ((p : Int) < 0) = false := decide_eq_false (by omega)
  have g2 : decide ((m : Int) ≤ (p : Int)) = false := decide_eq_false (by omega)
  have g3 : decide ((q : Int) < 0) = false := decide_eq_false (by omega)
  have g4 : decide ((m : Int) ≤ (q : Int)) = false := decide_eq_false (by omega)
  have g5 : decide (m ≤ p) = false := decide_eq_false (by omega)
  have g6 : decide (m ≤ q) = false := decide_eq_false (by omega)
  have HPQ : Hid _ := And.intro hp hq2
  clear hp hq2
  go_wp2_with fail
  refine Calls.mono (H1.out.2.2.2.1 _ (bel6 H5.out.1 H1.out.2.1)) ?_
  rintro r w6 ⟨rfl, hb6⟩
  have hb16 := bel6 hb6 H5.out.1
  clear x0 x1 x2 x3 y0 y1 y2 y3
  obtain ⟨x0, x1, x2, x3⟩ := four_cells (res_up6 hb16 H1.out.2.2.2.2.2.2.2)
  have H6 : Hid (Below w1.heap.size w1 w6) := hb16
  clear hb6 hb16
  go_wp2_with fail
  refine Calls.mono (HRd.out.1 _ H6.out) ?_
  rintro r w7 ⟨u, xs, R2, rfl, hRl2, hxl, hO7, hW7, hb7⟩
  have hRe : R2 = R := hRl2.unique HC.out.1
  rw [hRe] at hxl
  have hDk := docRank_any m p q R (outOf m es) u xs _ _ w7 hm1 HC.out.1 hxl hO7 hW7 HPQ.out.1 HPQ.out.2
  rw [← HC.out.2] at hDk
  have H7 : Hid _ := And.intro hDk (bel6 hb7 H6.out)
  clear hDk hb7 hO7 hW7 hxl hRe hRl2 x0 x1 x2 x3
  have hee : (rk == rk) = true := by simp
  go_wp2_with fail
  refine Calls.mono H7.out.1 ?_
  rintro r w8 ⟨rfl, hb8⟩
  have H8 : Hid (Below w.heap.size w w8) := bel6 (bel6 hb8 H7.out.2) H1.out.2.1
  clear hb8
  go_wp2_with fail
  go_ret
  exact ⟨rfl, H8.out⟩
theorem lawRank_any (hS : SortOk 1000000) (n k s p q : Int) (v : Value) (es : List Sy.Ed) (e : Nat → Addr) (w : World) (hE : Er 19 w e) (hP : Pow w) (hv : HasE w v es) :
    Calls Tryz.prog 4 #[sysV n k s v, .int .i64 p, .int .i64 q] w fun r w' => r = .returned (.bool true) ∧ Below w.heap.size w w' := by
  have hA := pAl hS e w hE.toR hP
  cases hli : lightB n es.length (Sy.right n k s es) with
  | false => exact lawRank_out n k s p q v es w hA hv hli
  | true =>
    have hlen : es.length ≤ 11000 := by
      unfold lightB at hli
      simp only [Bool.or_eq_true, Bool.and_eq_true, decide_eq_true_eq] at hli
      omega
    cases hq : Sy.right n k s es with
    | false => exact lawRank_bad hS n k s p q v es e w hA hE hv hlen hq hli
    | true =>
      obtain ⟨m, rfl⟩ : ∃ m : Nat, n = (m : Int) := ⟨n.toNat, by have := (right_parts hq).1; omega⟩
      by_cases hno : min p q < 0 ∨ (m : Int) ≤ max p q
      · exact lawRank_idx hS m k s p q v es e w hA hE hv hlen hq hli hno
      · obtain ⟨p', rfl⟩ : ∃ p' : Nat, p = (p' : Int) := ⟨p.toNat, by omega⟩
        obtain ⟨q', rfl⟩ : ∃ q' : Nat, q = (q' : Int) := ⟨q.toNat, by omega⟩
        exact lawRank_ok hS m p' q' k s v es e w hA hE hP hv hlen hq hli (by omega) (by omega)
end Go.Proofs.YtpmanmoljlhogaaGreatDoor
/- RoundsAll as a call: for every system the statement answers true. -/
namespace Go.Proofs.YtpmanmoljlhogaaGreatDoor
open Go.RowKit Go.Maps
attribute [local go_sem ↓] Go.wp_at_zero Go.wp_at_succ
/-- What a call over a system answers from a world on: these rows, and an error that is told so. -/
def AnsR (f : Nat) (sv : Value) (D : List (List Int)) (ev : Value) (w : World) : Prop := ∀ W, Below w.heap.size w W → Calls Tryz.prog f #[sv] W fun r W' => ∃ u x, r = .returned (.tuple #[u, x]) ∧ WIR.RowsRows W' W.heap.size u D ∧ Below W.heap.size W W' ∧
  ∀ W2, Below W'.heap.size W' W2 → Calls Tryz.prog 13 #[x, ev] W2 fun r W3 => r = .returned (.bool true) ∧ Below W2.heap.size W2 W3
theorem ans_all_bad (hS : SortOk 1000000) (n k s : Int) (v : Value) (es : List Sy.Ed) (e : Nat → Addr) (w : World) (hE : Er 19 w e) (hH : BEdges.Has w v es) (hlen : es.length ≤ 11000) (hq : Sy.right n k s es = false) : AnsR 12 (sysV n k s v) [] (hndV false) w := fun W hb => by
  refine (all_bad hS n k s v es (e 14) W ((hE.below hb).s14 (by decide)) (hH.below hb) (by omega) hq).mono ?_
  rintro r W' ⟨b, rfl, hC, hb'⟩
  refine ⟨_, _, rfl, rows_nil _ _, hb', fun W2 hb2 => ?_⟩
  have hT := told_chain 14 (by decide) (by decide) (by decide) _ _ 0 0 e W2 (((hE.below hb).below hb').below hb2) (hC.below hb2) (by decide) (by decide)
  rw [rnd_join2] at hT
  exact hT
theorem ans_all_ok (hS : SortOk 1000000) (m : Nat) (k s : Int) (v : Value) (es : List Sy.Ed) (a : Addr) (w : World) (R : Nat) (hR : Ro.Last m (outOf m es) R) (hA : Sent w 14 a) (hP : Pow w) (hH : BEdges.Has w v es) (hlen : es.length ≤ 11000) (hq : Sy.right m k s es = true) : AnsR 12 (sysV m k s v) (roundsD m (outOf m es) R) (hndV true) w := fun W hb => by
  refine (all_ok hS m k s v es a W (hA.below hb) (hP.below hb) (hH.below hb) (by omega) hq).mono ?_
  rintro r W' ⟨u, xs, R', rfl, hL, hl, hO, hRw, hb'⟩
  obtain rfl := hL.unique hR
  have hm : m ≤ 1000 := by have := (right_parts hq).1; omega
  exact ⟨u, _, rfl, rows_rounds hm hl hO hRw, hb', fun W2 _ => told_none 0 0 _ W2⟩
/-- What is in memory while the statement runs: the book, the lists that the document tells, its error. -/
structure AlT (wB wr : World) (eb : Nat) (ev : Array Value) (wv : Value) (D : List (List Int)) (X : Nat → Prop) : Prop where
  bk : WIR.E wB wr (fun b => b < wr.heap.size) (fun b => b < wr.heap.size) X
  wx : ∀ b, wv.ownBlock = some b → X b
  rw : WIR.RowsRows wr wB.heap.size wv D
  er : wr.heap[eb]? = some (.cells ev 42 (0, 0))
theorem AlT.start {wB w5 w6 : World} {eb : Nat} {ev : Array Value} {u : Value} {D : List (List Int)} (hE : WIR.E wB w5 (fun _ => False) (fun _ => False) (fun _ => False)) (hb : Below w5.heap.size w5 w6) (hR : WIR.RowsRows w6 w5.heap.size u D) (hB : wB.heap.size ≤ w5.heap.size) (he : w5.heap[eb]? = some (.cells ev 42 (0, 0))) : AlT wB w6 eb ev u D (fun b => False ∨ u.ownBlock = some b) :=
  ⟨(hE.moreRows hb fun b hb => RowsRows.lt hR b hb).mono (fun _ _ h => h.elim) (fun _ _ h => h.elim), fun _ hb => .inr hb, RowsRows.base hR hB, res_up6 hb he⟩
theorem AlT.sys {wB wr : World} {eb : Nat} {ev : Array Value} {wv : Value} {D : List (List Int)} {X : Nat → Prop} (h : AlT wB wr eb ev wv D X) {b : Nat} {o : Obj} (hs : wB.heap[b]? = some o) : wr.heap[b]? = some o := (h.bk.bw.block b (t_lt hs)).trans hs
theorem AlT.next {wB wr w2 w3 : World} {eb : Nat} {ev : Array Value} {wv : Value} {D : List (List Int)} {X Y Z : Nat → Prop} (h : AlT wB wr eb ev wv D X) (hb : Below wr.heap.size wr w2) (hZ : ∀ b, X b → Z b) (hE : WIR.E wB w3 (fun b => b < w3.heap.size) (fun b => b < w3.heap.size) (fun b => Z b ∨ Y b)) (hF : WIR.Fr Z w2 w3) : AlT wB w3 eb ev wv D (fun b => Z b ∨ Y b) :=
  ⟨hE, fun b hb => .inl (hZ b (h.wx b hb)), RowsRows.fr (RowsRows.below h.rw hb) hF (fun b hb => hZ b (h.wx b hb)), hF.2 eb ev _ (res_up6 hb h.er) (by decide) (.inl (by decide)) (by decide)⟩
theorem hndV_form (ok : Bool) : ∃ ck cx, hndV ok = .agg #[.int .i64 ck, .int .i64 0, .int .i64 0, .string cx] ∧ (ok = true ∧ ck = 0 ∨ ok = false ∧ ck = 14) := by
  cases ok
  · exact ⟨14, rndB2, rfl, .inr ⟨rfl, rfl⟩⟩
  · exact ⟨0, ⟨#[]⟩, rfl, .inl ⟨rfl, rfl⟩⟩
set_option maxRecDepth 100000 in
set_option maxHeartbeats 16000000 in
theorem lawAll_of (n k s : Int) (v : Value) (es : List Sy.Ed) (w : World) (ok : Bool) (D : List (List Int)) (hA : PAl w) (hv : HasE w v es) (hq : Sy.right n k s es = ok) (hli : lightB n es.length (Sy.right n k s es) = true)
    (hD : D.length ≤ 1000000) (hDr : ∀ r ∈ D, r.length ≤ 1000000) (hD0 : ok = false → D = [])
    (hN : AnsR 12 (sysV n k s v) D (hndV ok) w) (hW : ok = true → ∀ W, Below w.heap.size w W → Calls Tryz.prog 11 #[sysV n k s v] W fun r W' => ∃ u, r = .returned u ∧ WIR.RowsRows W' W.heap.size u D ∧ Below W.heap.size W W') :
    Calls Tryz.prog 3 #[sysV n k s v] w fun r w' => r = .returned (.bool true) ∧ Below w.heap.size w w' := by
  have hvs := hv
  obtain ⟨ao, cap, rfl, hcap, hH⟩ := hvs
  obtain ⟨L, hL⟩ : ∃ L, L = es.length := ⟨_, rfl⟩
  obtain ⟨w1, hw1⟩ : ∃ w1, w1 = w.alloc (.cells #[.int .i64 n, .int .i64 k, .int .i64 s, .slice ao L cap] 24) := ⟨_, rfl⟩
  have hb1 : Below w.heap.size w w1 := by rw [hw1]; exact (Below.refl _ _).alloc (Nat.le_refl _) _
  have hg1 : w1.heap[w.heap.size]? = some (.cells #[.int .i64 n, .int .i64 k, .int .i64 s, .slice ao L cap] 24 (0, 0)) := by rw [hw1]; exact heap_alloc_new w _
  have hLt := light_any n k s _ es w1 (hH.below hb1)
  rw [hli] at hLt
  have hHd := fun W (hb : Below w1.heap.size w1 W) => handed_rnd n k s _ es W ((hH.below hb1).below hb)
  rw [hq] at hHd
  rw [← hL] at hLt hHd hN hW ⊢
  unfold sysV at hLt hHd hN hW ⊢
  have H1 : Hid _ := And.intro hw1 (And.intro hb1 (And.intro hLt (And.intro hA (And.intro hHd (And.intro hg1 (And.intro hN (And.intro hW (And.intro hD (And.intro hDr hD0)))))))))
  obtain ⟨x0, x1, x2, x3⟩ := four_cells hg1
  clear hA hv hH hcap hL hw1 hb1 hg1 hLt hHd hli hq hN hW hD hDr hD0
  go_enter Tryz.func3, Tryz.ntmps3
  go_upto_region 1 with fail
  rw [← H1.out.1]
  go_wp2_with fail
  refine Calls.mono H1.out.2.2.1 ?_
  rintro r wB ⟨rfl, hb2⟩
  have hbB := bel6 hb2 H1.out.2.1
  have hgB := res_up6 hb2 H1.out.2.2.2.2.2.1
  have H2 : Hid _ := And.intro hb2 (And.intro hbB hgB)
  clear hb2 hbB hgB x0 x1 x2 x3
  go_upto_region 4 with fail
  obtain ⟨w3, hw3⟩ : ∃ w3, w3 = wB.alloc (.cells WIR.bookZ 40) := ⟨_, rfl⟩
  have hE3 := WIR.new wB
  rw [← hw3] at hE3
  have hb3 : Below wB.heap.size wB w3 := by rw [hw3]; exact (Below.refl _ _).alloc (Nat.le_refl _) _
  have hw3' : wB.alloc (.cells #[.slice none 0 0, .slice none 0 0, .slice none 0 0, .slice none 0 0, .slice none 0 0, .slice none 0 0, .slice none 0 0, .slice none 0 0, .slice none 0 0, .slice none 0 0, .slice none 0 0, .slice none 0 0, .slice none 0 0, .slice none 0 0, .slice none 0 0, .slice none 0 0, .slice none 0 0, .slice none 0 0, .slice none 0 0, .slice none 0 0, .slice none 0 0, .slice none 0 0] 40) = w3 := by rw [hw3]; rfl
  rw [hw3']
  obtain ⟨x0, x1, x2, x3⟩ := four_cells (res_up6 hb3 H2.out.2.2)
  have H3 : Hid _ := And.intro hE3 hb3
  clear hE3 hb3 hw3 hw3'
  go_wp2_with fail
  refine Calls.mono (H1.out.2.2.2.2.1 _ (bel6 H3.out.2 H2.out.1)) ?_
  rintro r w4 ⟨rfl, hb4⟩
  obtain ⟨ck, cx, hcv, hck⟩ := hndV_form ok
  rw [hcv]
  have H4 : Hid _ := And.intro hb4 (And.intro hcv hck)
  clear hb4 hcv hck x0 x1 x2 x3
  go_upto_region 6 with fail
  obtain ⟨w5, hw5⟩ : ∃ w5, w5 = w4.alloc (.cells #[.int .i64 ck, .int .i64 0, .int .i64 0, .string cx] 42) := ⟨_, rfl⟩
  have hb5 : Below w4.heap.size w4 w5 := by rw [hw5]; exact box_new _ _ _ _ _ _
  have hg5 : w5.heap[w4.heap.size]? = some (.cells #[.int .i64 ck, .int .i64 0, .int .i64 0, .string cx] 42 (0, 0)) := by rw [hw5]; exact heap_alloc_new w4 _
  rw [← hw5]
  have hB5 := bel6 hb5 (bel6 H4.out.1 H3.out.2)
  have hE5 := (H3.out.1.below H4.out.1).below hb5
  have H5 : Hid _ := And.intro hB5 (And.intro hE5 (And.intro hg5 (bel6 hB5 H2.out.2.1)))
  obtain ⟨x0, x1, x2, x3⟩ := four_cells (res_up6 hB5 H2.out.2.2)
  obtain ⟨y0, y1, y2, y3⟩ := four_cells hg5
  clear hb5 hg5 hB5 hE5 hw5
  go_upto_if 19 with fail
  go_cut [5] (fun v5 wx => ∃ X, AlT wB wx w4.heap.size #[.int .i64 ck, .int .i64 0, .int .i64 0, .string cx] v5 D X)
  case first =>
    rcases H4.out.2.2 with ⟨hok, hck⟩ | ⟨hok, hck⟩
    · have e1 : (ck == 0) = true := by simp [hck]
      have HK : Hid _ := And.intro hok hck
      clear hok hck
      go_wp2_with fail
      refine Calls.mono (H1.out.2.2.2.2.2.2.2.1 HK.out.1 _ H5.out.2.2.2) ?_
      rintro r w6 ⟨u, rfl, hR6, hb6⟩
      have hT : ∃ X, AlT wB w6 w4.heap.size #[.int .i64 ck, .int .i64 0, .int .i64 0, .string cx] u D X := ⟨_, AlT.start H5.out.2.1 hb6 hR6 H5.out.1.size H5.out.2.2.1⟩
      have HT : Hid _ := hT
      clear hR6 hb6 hT
      go_wp2_with fail
      go_meet
      case rel => exact HT.out
    · have e1 : (ck == 0) = false := by simp [hck]
      have HK : Hid _ := And.intro hok hck
      clear hok hck
      go_wp2_with fail
      go_meet
      case rel => exact ⟨_, AlT.start H5.out.2.1 (Below.refl _ _) (by rw [H1.out.2.2.2.2.2.2.2.2.2.2 HK.out.1]; exact rows_nil _ _) H5.out.1.size H5.out.2.2.1⟩
  case rest =>
    obtain ⟨X, hT⟩ := hcut
    have HT : Hid _ := hT
    clear hT x0 x1 x2 x3 y0 y1 y2 y3
    go_wp2_with fail
    go_loopg [6] 2 (fun z kv wr => ∃ (j : Nat) (X : Nat → Prop), z = 2 - j ∧ j ≤ 2 ∧ kv = .int .i64 j ∧ AlT wB wr w4.heap.size #[.int .i64 ck, .int .i64 0, .int .i64 0, .string cx] u5 D X)
    case atStart => exact ⟨0, X, rfl, by omega, rfl, HT.out⟩
    case round =>
      obtain ⟨j, Y, rfl, hj, rfl, hT⟩ := hrel
      by_cases hlt : j < 2
      · have q1 : (j : Int) < 2 := by omega
        obtain ⟨x0, x1, x2, x3⟩ := four_cells (hT.sys H2.out.2.2)
        have hbW := bel6 hT.bk.bw H2.out.2.1
        have HT2 : Hid _ := And.intro hT hbW
        clear hT hbW
        go_wp2_with fail
        refine Calls.mono (H1.out.2.2.2.2.2.2.1 _ HT2.out.2) ?_
        rintro r w7 ⟨u, ev, rfl, hR7, hb7, hTd⟩
        obtain ⟨y0, y1, y2, y3⟩ := four_cells (res_up6 hb7 HT2.out.1.er)
        have hTd0 := hTd w7 (Below.refl _ _)
        rw [H4.out.2.1] at hTd0
        have H7 : Hid _ := And.intro hR7 (And.intro hb7 hTd0)
        clear hR7 hb7 hTd hTd0 x0 x1 x2 x3
        go_wp2_with fail
        refine Calls.mono H7.out.2.2 ?_
        rintro r w8 ⟨rfl, hb8⟩
        have H8 : Hid _ := And.intro hb8 (And.intro (RowsRows.below H7.out.1 hb8) (bel6 hb8 H7.out.2.1))
        clear hb8 y0 y1 y2 y3
        go_wp2_with fail
        refine Calls.mono (sameRows_any u u5 D w8 H1.out.2.2.2.2.2.2.2.2.1 H1.out.2.2.2.2.2.2.2.2.2.1 (RowsRows.has H8.out.2.1) (RowsRows.has (RowsRows.below HT2.out.1.rw H8.out.2.2))) ?_
        rintro r w9 ⟨rfl, hb9⟩
        have hb79 := bel6 hb9 H8.out.2.2
        have H9 : Hid _ := And.intro (RowsRows.below H8.out.2.1 hb9) hb79
        clear hb9 hb79
        go_wp2_with fail
        have hE9 := HT2.out.1.bk.moreRows H9.out.2 (Y := fun b => u.ownBlock = some b) (fun b hb => RowsRows.lt H9.out.1 b hb)
        refine Calls.mono (hE9.manyRows u D wr.heap.size H9.out.1 HT2.out.1.bk.bw.size (fun b hb => hb) (fun b hb => hb) (fun b hb => .inr hb) H1.out.2.2.2.2.2.2.2.2.1 H1.out.2.2.2.2.2.2.2.2.2.1) ?_
        rintro r w10 ⟨rfl, ⟨Z, hE10⟩, hF10⟩
        have hT10 := HT2.out.1.next H9.out.2 (fun b hb => .inl hb) hE10 hF10
        have H10 : Hid _ := hT10
        clear hE9 hE10 hF10 hT10
        go_wp2_with fail
        go_roundg (2 - (j + 1))
        case measure => omega
        case rel => exact ⟨j + 1, _, rfl, by omega, by go_num, H10.out⟩
      · have q1 : ¬ (j : Int) < 2 := by omega
        have HT2 : Hid _ := And.intro hT (bel6 hT.bk.bw H2.out.2.1)
        clear hT
        go_wp2_with fail
        refine Calls.mono (H1.out.2.2.2.1 _ HT2.out.2) ?_
        rintro r w7 ⟨rfl, hb7⟩
        have H7 : Hid _ := And.intro (HT2.out.1.bk.below hb7) trivial
        clear hb7
        go_wp2_with fail
        refine Calls.mono H7.out.1.apart ?_
        rintro r w8 ⟨rfl, hb8⟩
        have H8 : Hid _ := bel6 hb8 H2.out.2.1
        clear hb8
        go_wp2_with fail
        go_ret
        exact ⟨rfl, H8.out⟩
set_option maxRecDepth 100000 in
set_option maxHeartbeats 4000000 in
theorem lawAll_out (n k s : Int) (v : Value) (es : List Sy.Ed) (w : World) (hA : PAl w) (hv : HasE w v es) (hli : lightB n es.length (Sy.right n k s es) = false) :
    Calls Tryz.prog 3 #[sysV n k s v] w fun r w' => r = .returned (.bool true) ∧ Below w.heap.size w w' := by
  have hvs := hv
  obtain ⟨ao, cap, rfl, hcap, hH⟩ := hvs
  obtain ⟨L, hL⟩ : ∃ L, L = es.length := ⟨_, rfl⟩
  obtain ⟨w1, hw1⟩ : ∃ w1, w1 = w.alloc (.cells #[.int .i64 n, .int .i64 k, .int .i64 s, .slice ao L cap] 24) := ⟨_, rfl⟩
  have hb1 : Below w.heap.size w w1 := by rw [hw1]; exact (Below.refl _ _).alloc (Nat.le_refl _) _
  have hg1 : w1.heap[w.heap.size]? = some (.cells #[.int .i64 n, .int .i64 k, .int .i64 s, .slice ao L cap] 24 (0, 0)) := by rw [hw1]; exact heap_alloc_new w _
  have hLt := light_any n k s _ es w1 (hH.below hb1)
  rw [hli] at hLt
  rw [← hL] at hLt ⊢
  unfold sysV at hLt ⊢
  have H1 : Hid _ := And.intro hw1 (And.intro hb1 (And.intro hLt hA))
  obtain ⟨x0, x1, x2, x3⟩ := four_cells hg1
  clear hA hv hH hcap hL hw1 hb1 hg1 hLt hli
  go_enter Tryz.func3, Tryz.ntmps3
  go_upto_region 1 with fail
  rw [← H1.out.1]
  go_wp2_with fail
  refine Calls.mono H1.out.2.2.1 ?_
  rintro r w2 ⟨rfl, hb2⟩
  have H2 : Hid (Below w.heap.size w w2) := bel6 hb2 H1.out.2.1
  clear hb2
  go_wp2_with fail
  refine Calls.mono (H1.out.2.2.2 _ H2.out) ?_
  rintro r w3 ⟨rfl, hb3⟩
  have H3 : Hid (Below w.heap.size w w3) := bel6 hb3 H2.out
  clear hb3
  go_wp2_with fail
  go_ret
  exact ⟨rfl, H3.out⟩
theorem lawAll_any (hS : SortOk 1000000) (n k s : Int) (v : Value) (es : List Sy.Ed) (e : Nat → Addr) (w : World) (hE : Er 19 w e) (hP : Pow w) (hv : HasE w v es) :
    Calls Tryz.prog 3 #[sysV n k s v] w fun r w' => r = .returned (.bool true) ∧ Below w.heap.size w w' := by
  have hA := pAl hS e w hE.toR hP
  cases hli : lightB n es.length (Sy.right n k s es) with
  | false => exact lawAll_out n k s v es w hA hv hli
  | true =>
    have hlen : es.length ≤ 11000 := by
      unfold lightB at hli
      simp only [Bool.or_eq_true, Bool.and_eq_true, decide_eq_true_eq] at hli
      omega
    have hH : BEdges.Has w v es := by obtain ⟨ao, cap, rfl, _, h⟩ := hv; exact h
    cases hq : Sy.right n k s es with
    | false => exact lawAll_of n k s v es w false [] hA hv hq hli (by simp) (fun r h => by simp at h) (fun _ => rfl) (ans_all_bad hS n k s v es e w hE hH hlen hq) (fun h => by cases h)
    | true =>
      obtain ⟨m, rfl⟩ : ∃ m : Nat, n = (m : Int) := ⟨n.toNat, by have := (right_parts hq).1; omega⟩
      have hm : m ≤ 1000 := by have := (right_parts hq).1; omega
      obtain ⟨R, hR⟩ := Ro.exists_last m (outOf m es)
      have hRm := hR.lt
      refine lawAll_of m k s v es w true (roundsD m (outOf m es) R) hA hv hq hli (by rw [roundsD_len]; omega) (fun r h => ?_) (fun h => by cases h) (ans_all_ok hS m k s v es (e 14) w R hR (hE.s14 (by decide)) hP hH hlen hq) (fun _ W hb => ?_)
      · obtain ⟨i, hi⟩ := List.mem_iff_getElem?.1 h
        obtain ⟨_, rfl⟩ := roundsD_at hi
        rw [natI_len, Ro.rnd_len]; omega
      · refine (docRounds_any m k s v es W (hv.below hb) hq).mono ?_
        rintro r W' ⟨u, xs, R', rfl, hL, hl, hO, hRw, hb'⟩
        obtain rfl := hL.unique hR
        exact ⟨u, rfl, rows_rounds hm hl hO hRw, hb'⟩
end Go.Proofs.YtpmanmoljlhogaaGreatDoor
/- What the listed package variables give: api's errors lie in memory, each at an address of its own, whichever are listed. (Written by mker.py.) -/
namespace Go.Proofs.YtpmanmoljlhogaaGreatDoor
open Go.ChangeShapes Go.WideShapes Go.ChangeAt Go.WideMaps Go.WideElems Go.RowKit
theorem Tryz.own : ownKnob Tryz.prog.godebug = none := by kernel_rfl
theorem Tryz.laidOut : laidOutB Tryz.prog = true := by kernel_rfl
theorem Tryz.cellsE : Tryz.prog.cellsOf 325 = 1 := by kernel_rfl
theorem Tryz.cellsS : Tryz.prog.cellsOf 9 = 1 := by kernel_rfl
set_option maxRecDepth 100000 in
theorem Tryz.star : "*" ++ "errors.errorString" = "*errors.errorString" := by decide
set_option maxRecDepth 100000 in
theorem Tryz.rowE (u : TypeId) (h : Tryz.prog.typeName? 3 u = some "*errors.errorString") : u = 305 :=
  typeName_ptr_named (nm := "errors.errorString") (by rw [Tryz.star]; kernel_rfl) (by kernel_rfl) (by decide) u (by rw [Tryz.star]; exact h)
set_option maxRecDepth 100000 in
/-- One listed error: its variable's cell, its place; and the rest of the list. -/
theorem laid_step {W : World} {n : String} {g : Nat} {text : List UInt8} {r : List (String × DataW Unit)} {ps : List MemPlace} (hg : Tryz.prog.globalNamed n = some g) (ht : (Tryz.prog.globals[g]?).map (·.type) = some 46)
    (h : DataW.LaidVars Tryz.prog W ((n, .iface "*errors.errorString" (.ptr (.agg [.lit (.string text)]))) :: r) ps)
    (hrows : ∀ b off, MemPlace.cell b off ∈ ps → (∃ c t, W.heap[b]? = some (.cells c t (0, 0))) ∧ ∀ u v, W.cell? ⟨b, off, none⟩ = some (.iface u v) → Value.okWide Tryz.prog W .any 0 u v) :
    ∃ a q, Sent W g a ∧ DataW.LaidVars Tryz.prog W r q ∧ ps = MemPlace.cell g 0 :: MemPlace.cell a.block a.off :: q := by
  obtain ⟨g0, t0, cs0, f0, p0, q0, hg0, ht0, hv0, hd0, hr, e0⟩ := h
  obtain rfl := Option.some.inj (hg.symm.trans hg0)
  obtain rfl := Option.some.inj (ht.symm.trans ht0)
  subst e0
  obtain ⟨l0⟩ := cs0
  have ok0 : ∀ u v, l0 = [.iface u v] → Value.okWide Tryz.prog W .any 0 u v := fun u v e => by
    subst e
    exact (hrows g 0 (by simp [MemPlace.row])).2 u v (by simpa using World.var?_cell hg0 hv0 0)
  obtain ⟨a0, s0, rfl, hc0, hs0, hz0, rfl⟩ := errorString_of_trod Tryz.underlying46 Tryz.rowE Tryz.underlying305 Tryz.underlying325 rfl rfl Tryz.underlying9 Tryz.cellsE Tryz.cellsS hd0 ok0
  refine ⟨a0, q0, ⟨by simpa using World.var?_cell hg0 hv0 0, (hrows a0.block a0.off (by simp [MemPlace.row])).1⟩, hr, ?_⟩
  simp [MemPlace.row]
/-- A listed error: its name, its variable, its text. -/
abbrev LE : Type := String × Nat × List UInt8
def leV (x : LE) : String × DataW Unit := (x.1, .iface "*errors.errorString" (.ptr (.agg [.lit (.string x.2.2)])))
theorem laid_list {W : World} {r : List (String × DataW Unit)} : ∀ (xs : List LE) (ps : List MemPlace), (∀ x ∈ xs, Tryz.prog.globalNamed x.1 = some x.2.1 ∧ (Tryz.prog.globals[x.2.1]?).map (·.type) = some 46) →
    DataW.LaidVars Tryz.prog W (xs.map leV ++ r) ps → (∀ b off, MemPlace.cell b off ∈ ps → (∃ c t, W.heap[b]? = some (.cells c t (0, 0))) ∧ ∀ u v, W.cell? ⟨b, off, none⟩ = some (.iface u v) → Value.okWide Tryz.prog W .any 0 u v) →
    ∃ ads : List Addr, ads.length = xs.length ∧ (∀ (i : Nat) (x : LE) (a : Addr), xs[i]? = some x → ads[i]? = some a → Sent W x.2.1 a) ∧ (∀ a ∈ ads, MemPlace.cell a.block a.off ∈ ps) ∧ (ps.Nodup → ads.Pairwise (· ≠ ·))
  | [], ps, _, _, _ => ⟨[], rfl, fun i x a h => by simp at h, fun a h => by simp at h, fun _ => List.Pairwise.nil⟩
  | x :: xs, ps, hx, h, hr => by
    obtain ⟨a, q, hs, hq, rfl⟩ := laid_step (hx x List.mem_cons_self).1 (hx x List.mem_cons_self).2 h hr
    obtain ⟨ads, h1, h2, h3, h4⟩ := laid_list xs q (fun y hy => hx y (List.mem_cons_of_mem _ hy)) hq (fun b off hb => hr b off (List.mem_cons_of_mem _ (List.mem_cons_of_mem _ hb)))
    refine ⟨a :: ads, by simp [h1], fun i y b hy hb => ?_, fun b hb => ?_, fun hn => ?_⟩
    · cases i with
      | zero => simp at hy hb; subst hy; subst hb; exact hs
      | succ i => exact h2 i y b (by simpa using hy) (by simpa using hb)
    · rcases List.mem_cons.1 hb with rfl | hb
      · exact List.mem_cons_of_mem _ List.mem_cons_self
      · exact List.mem_cons_of_mem _ (List.mem_cons_of_mem _ (h3 b hb))
    · have hn2 := (List.nodup_cons.1 hn).2
      have hn3 := List.nodup_cons.1 hn2
      exact List.Pairwise.cons (fun b hb e => hn3.1 (by rw [e]; exact h3 b hb)) (h4 hn3.2)
theorem Tryz.g1 : Tryz.prog.globalNamed "semblance/api.ErrArg" = some 2 := by kernel_rfl
theorem Tryz.t1 : (Tryz.prog.globals[2]?).map (·.type) = some 46 := by kernel_rfl
theorem Tryz.g2 : Tryz.prog.globalNamed "semblance/api.ErrLong" = some 1 := by kernel_rfl
theorem Tryz.t2 : (Tryz.prog.globals[1]?).map (·.type) = some 46 := by kernel_rfl
theorem Tryz.g3 : Tryz.prog.globalNamed "semblance/api.ErrIndex" = some 3 := by kernel_rfl
theorem Tryz.t3 : (Tryz.prog.globals[3]?).map (·.type) = some 46 := by kernel_rfl
theorem Tryz.g4 : Tryz.prog.globalNamed "semblance/api.ErrWord" = some 4 := by kernel_rfl
theorem Tryz.t4 : (Tryz.prog.globals[4]?).map (·.type) = some 46 := by kernel_rfl
theorem Tryz.g5 : Tryz.prog.globalNamed "semblance/api.ErrSyntax" = some 5 := by kernel_rfl
theorem Tryz.t5 : (Tryz.prog.globals[5]?).map (·.type) = some 46 := by kernel_rfl
theorem Tryz.g6 : Tryz.prog.globalNamed "semblance/api.ErrDeep" = some 6 := by kernel_rfl
theorem Tryz.t6 : (Tryz.prog.globals[6]?).map (·.type) = some 46 := by kernel_rfl
theorem Tryz.g7 : Tryz.prog.globalNamed "semblance/api.ErrTwice" = some 7 := by kernel_rfl
theorem Tryz.t7 : (Tryz.prog.globals[7]?).map (·.type) = some 46 := by kernel_rfl
theorem Tryz.g8 : Tryz.prog.globalNamed "semblance/api.ErrUnknown" = some 8 := by kernel_rfl
theorem Tryz.t8 : (Tryz.prog.globals[8]?).map (·.type) = some 46 := by kernel_rfl
theorem Tryz.g9 : Tryz.prog.globalNamed "semblance/api.ErrSilent" = some 9 := by kernel_rfl
theorem Tryz.t9 : (Tryz.prog.globals[9]?).map (·.type) = some 46 := by kernel_rfl
theorem Tryz.g10 : Tryz.prog.globalNamed "semblance/api.ErrUnguarded" = some 10 := by kernel_rfl
theorem Tryz.t10 : (Tryz.prog.globals[10]?).map (·.type) = some 46 := by kernel_rfl
theorem Tryz.g11 : Tryz.prog.globalNamed "semblance/api.ErrSteps" = some 11 := by kernel_rfl
theorem Tryz.t11 : (Tryz.prog.globals[11]?).map (·.type) = some 46 := by kernel_rfl
theorem Tryz.g12 : Tryz.prog.globalNamed "semblance/api.ErrStates" = some 12 := by kernel_rfl
theorem Tryz.t12 : (Tryz.prog.globals[12]?).map (·.type) = some 46 := by kernel_rfl
theorem Tryz.g13 : Tryz.prog.globalNamed "semblance/api.ErrEdges" = some 13 := by kernel_rfl
theorem Tryz.t13 : (Tryz.prog.globals[13]?).map (·.type) = some 46 := by kernel_rfl
theorem Tryz.g14 : Tryz.prog.globalNamed "semblance/api.ErrSystem" = some 14 := by kernel_rfl
theorem Tryz.t14 : (Tryz.prog.globals[14]?).map (·.type) = some 46 := by kernel_rfl
theorem Tryz.g15 : Tryz.prog.globalNamed "semblance/api.ErrClasses" = some 15 := by kernel_rfl
theorem Tryz.t15 : (Tryz.prog.globals[15]?).map (·.type) = some 46 := by kernel_rfl
theorem Tryz.g16 : Tryz.prog.globalNamed "semblance/api.ErrFormula" = some 16 := by kernel_rfl
theorem Tryz.t16 : (Tryz.prog.globals[16]?).map (·.type) = some 46 := by kernel_rfl
theorem Tryz.g17 : Tryz.prog.globalNamed "semblance/api.ErrLimit" = some 17 := by kernel_rfl
theorem Tryz.t17 : (Tryz.prog.globals[17]?).map (·.type) = some 46 := by kernel_rfl
theorem Tryz.g18 : Tryz.prog.globalNamed "semblance/api.ErrNone" = some 0 := by kernel_rfl
theorem Tryz.t18 : (Tryz.prog.globals[0]?).map (·.type) = some 46 := by kernel_rfl
theorem Tryz.g19 : Tryz.prog.globalNamed "semblance/api.ErrScript" = some 18 := by kernel_rfl
theorem Tryz.t19 : (Tryz.prog.globals[18]?).map (·.type) = some 46 := by kernel_rfl
set_option maxRecDepth 100000 in
theorem er_of {W : World} {x1 x2 x3 x4 x5 x6 x7 x8 x9 x10 x11 x12 x13 x14 x15 x16 x17 x18 x19 : List UInt8} {r : List (String × DataW Unit)} (h : laidMet Tryz.prog (("semblance/api.ErrArg", .iface "*errors.errorString" (.ptr (.agg [.lit (.string x1)]))) :: ("semblance/api.ErrLong", .iface "*errors.errorString" (.ptr (.agg [.lit (.string x2)]))) :: ("semblance/api.ErrIndex", .iface "*errors.errorString" (.ptr (.agg [.lit (.string x3)]))) :: ("semblance/api.ErrWord", .iface "*errors.errorString" (.ptr (.agg [.lit (.string x4)]))) :: ("semblance/api.ErrSyntax", .iface "*errors.errorString" (.ptr (.agg [.lit (.string x5)]))) :: ("semblance/api.ErrDeep", .iface "*errors.errorString" (.ptr (.agg [.lit (.string x6)]))) :: ("semblance/api.ErrTwice", .iface "*errors.errorString" (.ptr (.agg [.lit (.string x7)]))) :: ("semblance/api.ErrUnknown", .iface "*errors.errorString" (.ptr (.agg [.lit (.string x8)]))) :: ("semblance/api.ErrSilent", .iface "*errors.errorString" (.ptr (.agg [.lit (.string x9)]))) :: ("semblance/api.ErrUnguarded", .iface "*errors.errorString" (.ptr (.agg [.lit (.string x10)]))) :: ("semblance/api.ErrSteps", .iface "*errors.errorString" (.ptr (.agg [.lit (.string x11)]))) :: ("semblance/api.ErrStates", .iface "*errors.errorString" (.ptr (.agg [.lit (.string x12)]))) :: ("semblance/api.ErrEdges", .iface "*errors.errorString" (.ptr (.agg [.lit (.string x13)]))) :: ("semblance/api.ErrSystem", .iface "*errors.errorString" (.ptr (.agg [.lit (.string x14)]))) :: ("semblance/api.ErrClasses", .iface "*errors.errorString" (.ptr (.agg [.lit (.string x15)]))) :: ("semblance/api.ErrFormula", .iface "*errors.errorString" (.ptr (.agg [.lit (.string x16)]))) :: ("semblance/api.ErrLimit", .iface "*errors.errorString" (.ptr (.agg [.lit (.string x17)]))) :: ("semblance/api.ErrNone", .iface "*errors.errorString" (.ptr (.agg [.lit (.string x18)]))) :: ("semblance/api.ErrScript", .iface "*errors.errorString" (.ptr (.agg [.lit (.string x19)]))) :: r) W) : ∃ e, Er 19 W e := by
  obtain ⟨ps, h0, hnd, r0⟩ := h
  obtain ⟨ads, h1, h2, _, h4⟩ := laid_list [("semblance/api.ErrArg", 2, x1), ("semblance/api.ErrLong", 1, x2), ("semblance/api.ErrIndex", 3, x3), ("semblance/api.ErrWord", 4, x4), ("semblance/api.ErrSyntax", 5, x5), ("semblance/api.ErrDeep", 6, x6), ("semblance/api.ErrTwice", 7, x7), ("semblance/api.ErrUnknown", 8, x8), ("semblance/api.ErrSilent", 9, x9), ("semblance/api.ErrUnguarded", 10, x10), ("semblance/api.ErrSteps", 11, x11), ("semblance/api.ErrStates", 12, x12), ("semblance/api.ErrEdges", 13, x13), ("semblance/api.ErrSystem", 14, x14), ("semblance/api.ErrClasses", 15, x15), ("semblance/api.ErrFormula", 16, x16), ("semblance/api.ErrLimit", 17, x17), ("semblance/api.ErrNone", 0, x18), ("semblance/api.ErrScript", 18, x19)] ps (fun x hx => by
    simp only [List.mem_cons, List.not_mem_nil, or_false] at hx
    rcases hx with rfl | rfl | rfl | rfl | rfl | rfl | rfl | rfl | rfl | rfl | rfl | rfl | rfl | rfl | rfl | rfl | rfl | rfl | rfl
    · exact ⟨Tryz.g1, Tryz.t1⟩
    · exact ⟨Tryz.g2, Tryz.t2⟩
    · exact ⟨Tryz.g3, Tryz.t3⟩
    · exact ⟨Tryz.g4, Tryz.t4⟩
    · exact ⟨Tryz.g5, Tryz.t5⟩
    · exact ⟨Tryz.g6, Tryz.t6⟩
    · exact ⟨Tryz.g7, Tryz.t7⟩
    · exact ⟨Tryz.g8, Tryz.t8⟩
    · exact ⟨Tryz.g9, Tryz.t9⟩
    · exact ⟨Tryz.g10, Tryz.t10⟩
    · exact ⟨Tryz.g11, Tryz.t11⟩
    · exact ⟨Tryz.g12, Tryz.t12⟩
    · exact ⟨Tryz.g13, Tryz.t13⟩
    · exact ⟨Tryz.g14, Tryz.t14⟩
    · exact ⟨Tryz.g15, Tryz.t15⟩
    · exact ⟨Tryz.g16, Tryz.t16⟩
    · exact ⟨Tryz.g17, Tryz.t17⟩
    · exact ⟨Tryz.g18, Tryz.t18⟩
    · exact ⟨Tryz.g19, Tryz.t19⟩) h0 r0
  have hp := h4 hnd
  have h1' : ads.length = 19 := h1
  have hg : ∀ k, 1 ≤ k → k ≤ 19 → ads[k - 1]? = some (ads.getD (k - 1) ⟨0, 0, none⟩) := fun k _ h19 => by rw [List.getD_eq_getElem?_getD, List.getElem?_eq_getElem (by omega)]; rfl
  refine ⟨fun k => ads.getD (k - 1) ⟨0, 0, none⟩, ⟨fun _ => h2 0 _ _ rfl (hg 1 (by decide) (by decide)), fun _ => h2 1 _ _ rfl (hg 2 (by decide) (by decide)), fun _ => h2 2 _ _ rfl (hg 3 (by decide) (by decide)), fun _ => h2 3 _ _ rfl (hg 4 (by decide) (by decide)), fun _ => h2 4 _ _ rfl (hg 5 (by decide) (by decide)), fun _ => h2 5 _ _ rfl (hg 6 (by decide) (by decide)), fun _ => h2 6 _ _ rfl (hg 7 (by decide) (by decide)), fun _ => h2 7 _ _ rfl (hg 8 (by decide) (by decide)), fun _ => h2 8 _ _ rfl (hg 9 (by decide) (by decide)), fun _ => h2 9 _ _ rfl (hg 10 (by decide) (by decide)), fun _ => h2 10 _ _ rfl (hg 11 (by decide) (by decide)), fun _ => h2 11 _ _ rfl (hg 12 (by decide) (by decide)), fun _ => h2 12 _ _ rfl (hg 13 (by decide) (by decide)), fun _ => h2 13 _ _ rfl (hg 14 (by decide) (by decide)), fun _ => h2 14 _ _ rfl (hg 15 (by decide) (by decide)), fun _ => h2 15 _ _ rfl (hg 16 (by decide) (by decide)), fun _ => h2 16 _ _ rfl (hg 17 (by decide) (by decide)), fun _ => h2 17 _ _ rfl (hg 18 (by decide) (by decide)), fun _ => h2 18 _ _ rfl (hg 19 (by decide) (by decide)), fun i j hi hij hj e => ?_⟩⟩
  have hpi := List.pairwise_iff_getElem.1 hp (i - 1) (j - 1) (by omega) (by omega) (by omega)
  have ei := hg i hi (by omega)
  have ej := hg j (by omega) hj
  rw [List.getElem?_eq_getElem (by omega)] at ei ej
  exact hpi ((Option.some.inj ei).trans (e.symm.trans (Option.some.inj ej).symm))
set_option maxRecDepth 100000 in
theorem system_of {W : World} {x14 : List UInt8} {r : List (String × DataW Unit)} (h : laidMet Tryz.prog (("semblance/api.ErrSystem", .iface "*errors.errorString" (.ptr (.agg [.lit (.string x14)]))) :: r) W) : ∃ a, Sent W 14 a := by
  obtain ⟨ps, h0, hnd, r0⟩ := h
  obtain ⟨ads, h1, h2, _, _⟩ := laid_list [("semblance/api.ErrSystem", 14, x14)] ps (fun x hx => by
    simp only [List.mem_cons, List.not_mem_nil, or_false] at hx
    rcases hx with rfl
    · exact ⟨Tryz.g14, Tryz.t14⟩) h0 r0
  obtain ⟨a, ha⟩ : ∃ a, ads[0]? = some a := ⟨ads[0]'(by rw [h1]; simp), List.getElem?_eq_getElem _⟩
  exact ⟨a, h2 0 _ a rfl ha⟩
end Go.Proofs.YtpmanmoljlhogaaGreatDoor
/- What the listed package variables give of strconv's table of powers of ten; and the rest of the list. -/
namespace Go.Proofs.YtpmanmoljlhogaaGreatDoor
open Go.RowKit
theorem laid_tail {W : World} {x : String × DataW Unit} {r : List (String × DataW Unit)} (h : laidMet Tryz.prog (x :: r) W) : laidMet Tryz.prog r W := by
  obtain ⟨ps, ⟨g, t, cs, fuel, p, q, _, _, _, _, hr, rfl⟩, hn, ho⟩ := h
  exact ⟨q, hr, (List.nodup_append.1 hn).2.1, fun b off hb => ho b off (List.mem_append_right _ hb)⟩
theorem Tryz.gPow : Tryz.prog.globalNamed "internal/strconv.uint64pow10" = some 20 := by kernel_rfl
theorem Tryz.tPow : (Tryz.prog.globals[20]?).map (·.type) = some 301 := by kernel_rfl
theorem Tryz.cPowE : Tryz.prog.cellsOf 203 = 1 := by kernel_rfl
theorem Tryz.cPow : Tryz.prog.cellsOf 301 = 20 := by kernel_rfl
theorem er_pow_of {W : World} {d1 d2 : String × DataW Unit} {r : List (String × DataW Unit)} (h : laidMet Tryz.prog (d1 :: d2 :: ("internal/strconv.uint64pow10", Lib.tabData .u64 Lib.pow10Tab) :: r) W) : Pow W ∧ laidMet Tryz.prog r W := by
  have h2 := laid_tail (laid_tail h)
  exact ⟨Lib.tabBelow_of_tabIs (Lib.tabIs_of_head Tryz.gPow Tryz.tPow Tryz.underlying301 Tryz.underlying203 Tryz.cPowE Tryz.cPow h2), laid_tail h2⟩
theorem erR_of {W : World} {x3 x14 x18 : List UInt8} {r : List (String × DataW Unit)} (h : laidMet Tryz.prog (("semblance/api.ErrIndex", .iface "*errors.errorString" (.ptr (.agg [.lit (.string x3)]))) :: ("semblance/api.ErrSystem", .iface "*errors.errorString" (.ptr (.agg [.lit (.string x14)]))) :: ("semblance/api.ErrNone", .iface "*errors.errorString" (.ptr (.agg [.lit (.string x18)]))) :: r) W) : ∃ e, ErR W e := by
  obtain ⟨ps, h0, hnd, r0⟩ := laid_tail h
  obtain ⟨ads, h1, h2, _, _⟩ := laid_list [("semblance/api.ErrSystem", 14, x14), ("semblance/api.ErrNone", 0, x18)] ps (fun x hx => by
    simp only [List.mem_cons, List.not_mem_nil, or_false] at hx
    rcases hx with rfl | rfl
    · exact ⟨Tryz.g14, Tryz.t14⟩
    · exact ⟨Tryz.g18, Tryz.t18⟩) h0 r0
  obtain ⟨a, ha⟩ : ∃ a, ads[0]? = some a := ⟨ads[0]'(by rw [h1]; simp), List.getElem?_eq_getElem _⟩
  obtain ⟨b, hb⟩ : ∃ a, ads[1]? = some a := ⟨ads[1]'(by rw [h1]; simp), List.getElem?_eq_getElem _⟩
  exact ⟨fun i => if i = 14 then a else b, fun _ => h2 0 _ a rfl ha, fun _ => h2 1 _ b rfl hb⟩
end Go.Proofs.YtpmanmoljlhogaaGreatDoor
