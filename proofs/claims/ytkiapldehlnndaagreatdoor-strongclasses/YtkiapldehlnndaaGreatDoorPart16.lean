/- Texts of this claim, joined: SgPlay, SgMay, SgFind, SgDone, SgReplay, SgAlive, SyLent. -/
import Derived.Test.YtkiapldehlnndaaGreatDoorPart15
import Derived.Test.YtkiapldehlnndaaGreatDoorPart0
import Derived.Test.YtkiapldehlnndaaGreatDoorPart8
import Derived.BigRegion
import Derived.Test.YtkiapldehlnndaaGreatDoorPart9
import Derived.Test.YtkiapldehlnndaaGreatDoorPart13
import Derived.Test.YtkiapldehlnndaaGreatDoorPart3
/- What a run says of the played one, taking by taking. Plain facts. -/
namespace Go.Proofs.YtkiapldehlnndaaGreatDoor
open Ro
namespace Sg
theorem dd_nodup {K : Type} [DecidableEq K] (l : List K) : (dd l).Nodup := by
 refine snoc_ind (P := fun l => (dd l).Nodup) List.nodup_nil (fun l x ih => ?_) l
 rw [dd_snoc]
 unfold more
 split
 ·exact ih
 ·rename_i h
  refine List.nodup_append.2 ⟨ih, by simp, fun a ha b hb e => ?_⟩
  rw [List.mem_singleton.1 hb] at e
  exact h (e ▸ ha)
theorem mRun_snoc (G : Gp) {tk : List (List Int)} (h : tk ≠ []) (l : List Int) : mRun G (tk ++ [l]) = (mRun G tk).bind fun st => mNext G st l := by
 cases tk with
 | nil => exact absurd rfl h
 | cons a r =>
   show (r ++ [l]).foldl _ (mFirst G a) = _
   rw [List.foldl_append]
   rfl
theorem fold_none (G : Gp) (r : List (List Int)) : r.foldl (fun st l => st.bind fun st => mNext G st l) (none : Option Ms) = none := by
 induction r with
 | nil => rfl
 | cons a r ih => exact ih
theorem mRun_none (G : Gp) {tk : List (List Int)} (h : tk ≠ []) (hn : mRun G tk = none) (r : List (List Int)) : mRun G (tk ++ r) = none := by
 cases tk with
 | nil => exact absurd rfl h
 | cons a t =>
   show (t ++ r).foldl _ (mFirst G a) = _
   have h1 : t.foldl (fun st l => st.bind fun st => mNext G st l) (mFirst G a) = none := hn
   rw [List.foldl_append, h1]
   exact fold_none G r
structure Play (G : Gp) (tk : List (List Int)) (O : Nat → Nat) (H : Nat → Int) (k : Nat) : Prop where
 hist : Hist G tk O H k
 mod : tk ≠ [] → ∃ st, mRun G tk = some st ∧ Rl G O H k st
theorem Play.nil (G : Gp) : Play G [] (fun _ => 0) (fun _ => 0) 1 := ⟨Hist.nil, fun h => absurd rfl h⟩
theorem memb_all {n : Nat} {O : Nat → Nat} {b : Nat} (h : ∀ e, e < n → O e = b) : memb n O b = (List.range n).map fun e : Nat => (e : Int) := by
 unfold memb
 rw [List.filter_eq_self.2 fun e he => decide_eq_true (h e (List.mem_range.1 he))]
theorem memb_mem {n : Nat} {O : Nat → Nat} {b : Nat} {z : Int} : z ∈ memb n O b ↔ ∃ e : Nat, e < n ∧ O e = b ∧ z = e := by
 unfold memb
 simp only [List.mem_map, List.mem_filter, List.mem_range, decide_eq_true_eq]
 constructor
 ·rintro ⟨e, ⟨h1, h2⟩, rfl⟩; exact ⟨e, h1, h2, rfl⟩
 ·rintro ⟨e, h1, h2, rfl⟩; exact ⟨e, ⟨h1, h2⟩, rfl⟩
theorem mBlock_eq {G : Gp} {O : Nat → Nat} {H : Nat → Int} {k : Nat} {st : Ms} (hR : Rl G O H k st) {e0 : Nat} (he : e0 < G.n) : mBlock G st.O (st.O.getD e0 0) = memb G.n O (O e0) := by
 unfold mBlock memb
 congr 1
 refine List.filter_congr fun e hE => ?_
 exact decide_eq_decide.2 (hR.o e e0 (List.mem_range.1 hE) he).symm
theorem mHeap_eq {G : Gp} {O : Nat → Nat} {H : Nat → Int} {k : Nat} {st : Ms} (hR : Rl G O H k st) {e0 : Nat} (he : e0 < G.n) : (List.range G.n).countP (fun e => decide (st.H.getD e 0 = st.H.getD e0 0)) = hc G.n H (H e0) := by
 unfold hc
 refine List.countP_congr fun e hE => ?_
 rw [hR.h e (List.mem_range.1 hE), hR.h e0 he]
 simp
 omega
theorem Play.step {G : Gp} {tk : List (List Int)} {O O' : Nat → Nat} {H H' : Nat → Int} {k e0 : Nat} (hr : Sy.right G.n (G.kk : Int) G.st G.es = true) (hP : Play G tk O H k) (he : e0 < G.n) (half : H e0 = 0 ∨ 2 * bc G.n O (O e0) ≤ hc G.n H (H e0))
 (sp : Split G.n (By (outG G) (fun t => O t = O e0) fun t => H t = H e0 ∧ ¬ O t = O e0) O O') (hp : ∀ e, e < G.n → H' e = if O e = O e0 then (k : Int) else H e) : Play G (tk ++ [memb G.n O (O e0)]) O' H' (k + 1) := by
 have hi := hP.hist.inv
 refine ⟨Hist.step e0 hP.hist he half sp hp, fun _ => ?_⟩
 by_cases ht : tk = []
 ·subst ht
  have hk : k = 1 := hi.len
  subst hk
  have h0 := hi.first rfl
  refine ⟨_, ?_, first_rl hr he h0 sp hp⟩
  show mFirst G _ = _
  unfold mFirst
  rw [if_pos ⟨by omega, memb_all fun e hE => (h0 e hE).1.trans (h0 e0 he).1.symm⟩]
 ·obtain ⟨st, h1, hR⟩ := hP.mod ht
  refine ⟨_, ?_, next_rl hr he hR (hP.hist.even hr ht) sp hp⟩
  rw [mRun_snoc G ht, h1]
  show mNext G st _ = _
  have hm : ((e0 : Nat) : Int) ∈ memb G.n O (O e0) := memb_mem.2 ⟨e0, he, rfl, rfl⟩
  have hb := mBlock_eq hR he
  have hh := mHeap_eq hR he
  have hH0 : H e0 ≠ 0 := by rw [hR.h e0 he]; omega
  have h2 := half.resolve_left hH0
  have hl : (memb G.n O (O e0)).length = bc G.n O (O e0) := by unfold memb bc; rw [List.length_map, List.countP_eq_length_filter]
  obtain ⟨z, r, hz⟩ : ∃ z r, memb G.n O (O e0) = z :: r := by
   cases hq : memb G.n O (O e0) with
   | nil => rw [hq] at hm; simp at hm
   | cons z r => exact ⟨z, r, rfl⟩
  obtain ⟨e1, a1, a2, rfl⟩ := memb_mem.1 (show z ∈ memb G.n O (O e0) by rw [hz]; exact List.mem_cons_self)
  have g1 : st.O.getD e1 0 = st.O.getD e0 0 := (hR.o e1 e0 a1 he).1 a2
  have g2 : st.H.getD e1 0 = st.H.getD e0 0 := by
   have h3 := hi.fn e1 e0 a1 he a2
   rw [hR.h e1 a1, hR.h e0 he] at h3
   omega
  rw [hz]
  show mGo G st (st.O.getD ((e1 : Nat) : Int).toNat 0) (st.H.getD ((e1 : Nat) : Int).toNat 0) (((e1 : Nat) : Int) :: r) ((e1 : Nat) : Int) = _
  rw [Int.toNat_natCast, g1, g2, ← hz]
  unfold mGo
  rw [if_pos ⟨⟨by omega, by omega⟩, hb.symm, by rw [hh, hl]; exact h2⟩]
theorem Play.stop {G : Gp} {tk : List (List Int)} {O : Nat → Nat} {H : Nat → Int} {k : Nat} {l : List Int} (hP : Play G tk O H k) (hno : ∀ e0, e0 < G.n → l = memb G.n O (O e0) → ¬ (H e0 = 0 ∨ 2 * bc G.n O (O e0) ≤ hc G.n H (H e0))) : mRun G (tk ++ [l]) = none := by
 have hi := hP.hist.inv
 by_cases ht : tk = []
 ·subst ht
  show mFirst G l = none
  unfold mFirst
  rw [if_neg]
  rintro ⟨h0, h1⟩
  have h2 := hi.first rfl
  refine hno 0 h0 ?_ (.inl (h2 0 h0).2)
  rw [h1, memb_all fun e hE => (h2 e hE).1.trans (h2 0 h0).1.symm]
 ·obtain ⟨st, h1, hR⟩ := hP.mod ht
  rw [mRun_snoc G ht, h1]
  show mNext G st l = none
  cases l with
  | nil => rfl
  | cons z r =>
    show mGo G st (st.O.getD z.toNat 0) (st.H.getD z.toNat 0) (z :: r) z = none
    unfold mGo
    rw [if_neg]
    rintro ⟨⟨hz0, hz1⟩, h2, h3⟩
    obtain ⟨e0, rfl⟩ : ∃ e0 : Nat, z = e0 := ⟨z.toNat, by omega⟩
    have he : e0 < G.n := by omega
    rw [Int.toNat_natCast] at h2 h3
    rw [mBlock_eq hR he] at h2
    rw [mHeap_eq hR he] at h3
    refine hno e0 he h2 (.inr ?_)
    have hl : (memb G.n O (O e0)).length = bc G.n O (O e0) := by unfold memb bc; rw [List.length_map, List.countP_eq_length_filter]
    rw [← hl, ← h2]
    exact h3
theorem blocks_dd {s : Pst} (hO : s.Ok) : (dd ((List.range s.n).map s.O)).length = s.nb := by
 refine Nat.le_antisymm ?_ ?_
 ·have h1 := nodup_sub (dd ((List.range s.n).map s.O)) (List.range s.nb) (dd_nodup _) fun a ha => by
   obtain ⟨e, he, rfl⟩ := List.mem_map.1 ((mem_dd _).1 ha)
   exact List.mem_range.2 (hO.o e (List.mem_range.1 he)).1
  rw [List.length_range] at h1
  exact h1
 ·have h1 := nodup_sub (List.range s.nb) (dd ((List.range s.n).map s.O)) List.nodup_range fun a ha => by
   obtain ⟨e, he, hb⟩ := block_state hO (List.mem_range.1 ha)
   exact (mem_dd _).2 (List.mem_map.2 ⟨e, List.mem_range.2 he, hb⟩)
  rw [List.length_range] at h1
  exact h1
theorem rl_dd {G : Gp} {O : Nat → Nat} {H : Nat → Int} {k : Nat} {st : Ms} (hR : Rl G O H k st) : (dd st.O).length = (dd ((List.range G.n).map O)).length ∧ num st.O = num ((List.range G.n).map O) := by
 have hl : st.O = (List.range G.n).map fun e => st.O.getD e 0 := by
  apply List.ext_getElem?
  intro i
  rcases Nat.lt_or_ge i G.n with h | h
  ·rw [getD_at (by rw [hR.lo]; exact h), List.getElem?_map, List.getElem?_range h]; rfl
  ·rw [List.getElem?_eq_none (by rw [hR.lo]; exact h), List.getElem?_eq_none (by simp; exact h)]
 have f1 := finer ((List.range G.n).map fun e => (O e, st.O.getD e 0)) fun p hp q hq e => by
  obtain ⟨a, ha, rfl⟩ := List.mem_map.1 hp
  obtain ⟨b, hb, rfl⟩ := List.mem_map.1 hq
  exact (hR.o a b (List.mem_range.1 ha) (List.mem_range.1 hb)).1 e
 have f2 := finer ((List.range G.n).map fun e => (st.O.getD e 0, O e)) fun p hp q hq e => by
  obtain ⟨a, ha, rfl⟩ := List.mem_map.1 hp
  obtain ⟨b, hb, rfl⟩ := List.mem_map.1 hq
  exact (hR.o a b (List.mem_range.1 ha) (List.mem_range.1 hb)).2 e
 simp only [List.map_map] at f1 f2
 have e1 : ((List.range G.n).map ((fun x : Nat × Nat => x.2) ∘ fun e => (O e, st.O.getD e 0))) = st.O := hl.symm
 have e2 : ((List.range G.n).map ((fun x : Nat × Nat => x.1) ∘ fun e => (O e, st.O.getD e 0))) = (List.range G.n).map O := rfl
 have e3 : ((List.range G.n).map ((fun x : Nat × Nat => x.2) ∘ fun e => (st.O.getD e 0, O e))) = (List.range G.n).map O := rfl
 have e4 : ((List.range G.n).map ((fun x : Nat × Nat => x.1) ∘ fun e => (st.O.getD e 0, O e))) = st.O := hl.symm
 rw [e1, e2] at f1
 rw [e3, e4] at f2
 have h9 : (dd st.O).length = (dd ((List.range G.n).map O)).length := by omega
 exact ⟨h9, (f1.2 h9).symm⟩
theorem Play.fin {G : Gp} {tk : List (List Int)} {s : Pst} {H : Nat → Int} {k : Nat} (hO : s.Ok) (hn : s.n = G.n) (hP : Play G tk s.O H k) : mReplay G tk = if s.nb = k - 1 then some (num ((List.range G.n).map s.O)) else none := by
 have hi := hP.hist.inv
 have hnb := blocks_dd hO
 rw [hn] at hnb
 unfold mReplay
 by_cases h0 : G.n = 0
 ·rw [if_pos h0]
  have ht : tk = [] := Classical.byContradiction fun h => by have := hi.one h; omega
  have hk := hi.len
  have h1 := hO.few
  rw [ht] at hk
  rw [if_pos ht, if_pos (by simp at hk; omega), h0]
  rfl
 ·rw [if_neg h0]
  by_cases ht : tk = []
  ·have hk := hi.len
   rw [ht] at hk
   have h1 : s.nb ≠ k - 1 := by
    have h2 := (hO.o 0 (by omega)).1
    simp at hk
    omega
   rw [if_neg h1, ht]
   rfl
  ·obtain ⟨st, h1, hR⟩ := hP.mod ht
   obtain ⟨d1, d2⟩ := rl_dd hR
   rw [h1]
   simp only
   rw [d1, d2, hnb]
   have h2 : (s.nb = st.h) = (s.nb = k - 1) := by rw [hR.k]; simp
   simp only [h2]
theorem mReplay_none {G : Gp} {tk r : List (List Int)} (h : tk ≠ []) (hn : mRun G tk = none) : mReplay G (tk ++ r) = none := by
 unfold mReplay
 split
 ·rw [if_neg (by simp [h])]
 ·rw [mRun_none G h hn r]
end Sg
end Go.Proofs.YtkiapldehlnndaaGreatDoor
/- strong: contract of a run's mayTake. -/
namespace Go.Proofs.YtkiapldehlnndaaGreatDoor
open Go.RowKit Go.Maps
attribute [local go_sem ↓] Go.wp_at_zero Go.wp_at_succ
set_option linter.unusedSimpArgs false in
set_option maxRecDepth 100000 in
set_option maxHeartbeats 4000000 in
theorem mayTake_any (B r g p mb : Nat) (x : Rv) (bl o k z : Nat) (v : Value) (bs : List Int) (w : World) (hM : RnM w B r g p mb x) (how : x.ow[bl]? = some (o : Int)) (hsz : x.sz[bl]? = some (z : Int)) (hH : x.H[o]? = some (v, bs)) (hks : x.ks[o]? = some k) (hz : z ≤ 1000) :
 Calls Tryz.prog 40 #[.pointer (some ⟨r, 0, none⟩), .int .i64 bl] w fun e w' => e = .returned (.bool (decide (o = 0 ∨ 2 * z ≤ k))) ∧ Below w.heap.size w w' := by
 obtain ⟨_, _, c2, c3, c4, _, _⟩ := seven_cells hM.box
 have hol := (List.getElem?_eq_some_iff.1 how).1
 have hkk := (List.getElem?_eq_some_iff.1 hks).1
 have hzl := (List.getElem?_eq_some_iff.1 hsz).1
 obtain ⟨go, oo, co, hvo, _, cow, _⟩ := (hM.q.q 0 (x.vo, x.ow) rfl).cell how
 obtain ⟨gz, oz, cz, hvz, _, csz, _⟩ := (hM.q.q 1 (x.vz, x.sz) rfl).cell hsz
 simp only at hvo hvz
 obtain ⟨gh, ch, hvh⟩ := hM.hform (by omega)
 obtain ⟨_, d1, _⟩ := hM.hcell hvh hH hks
 obtain ⟨nz, hnz⟩ : ∃ nz, nz = x.sz.length := ⟨_, rfl⟩
 obtain ⟨no, hno⟩ : ∃ no, no = x.ow.length := ⟨_, rfl⟩
 obtain ⟨nk, hnk⟩ : ∃ nk, nk = x.ks.length := ⟨_, rfl⟩
 rw [hvo, ← hno] at c3
 rw [hvz, ← hnz] at c4
 rw [hvh, ← hnk] at c2
 rw [← hno] at hol
 rw [← hnz] at hzl
 rw [← hnk] at hkk
 have p0 : (0 : Int) ≤ (bl : Int) := by omega
 have p1 : (bl : Int) < (no : Int) := by omega
 have p2 : (bl : Int) < (nz : Int) := by omega
 have p3 : (0 : Int) ≤ (o : Int) := by omega
 have p4 : (o : Int) < (nk : Int) := by omega
 have p5 : IntKind.i64.wrap (2 * (z : Int)) = 2 * (z : Int) := by rw [IntKind.wrap_i64]; omega
 clear hM how hsz hH hks hvo hvz hvh hnz hno hnk
 obtain ⟨d, hd⟩ : ∃ d, d = decide (o = 0 ∨ 2 * z ≤ k) := ⟨_, rfl⟩
 rw [← hd]
 have HD : Hid _ := hd
 clear hd
 go_enter Tryz.func40, Tryz.ntmps40
 go_upto_region 2 with fail
 by_cases ho : o = 0
 ·have q0 : ((o : Int) == 0) = true := by rw [ho]; rfl
  have HE : Hid (d = true) := (HD.out.trans (decide_eq_true (.inl ho)) : d = true)
  clear ho
  refine wp_region_held_drew (S := (fun w' => (w'.cell? ⟨r, 2, none⟩ = some (.slice (some ⟨gh, 0, none⟩) nk ch) ∧ w'.cell? ⟨r, 4, none⟩ = some (.slice (some ⟨gz, oz, none⟩) nz cz)) ∧ w'.cell? ⟨gz, oz + bl, none⟩ = some (.int .i64 z) ∧ w'.cell? ⟨gh, o * 2 + 1, none⟩ = some (.int .i64 k))) (by kernel_rfl) ?_ (fun hHeld => ?_)
  ·exact ⟨⟨c2, c4⟩, csz, d1⟩
  refine tk9 0 ?_ rfl (by kernel_rfl) (fun _ _ _ h => h) ⟨by rfl, ?_⟩ (by assumption) ?_; rotate_left; (focus (intro w hSw; (try dsimp only at hSw); go_simp; (try with_reducible rfl))); (try simp only [ty9, Act.put])
  refine tk9 1 ?_ rfl (by kernel_rfl) (fun _ _ _ h => h) ⟨by rfl, ?_⟩ (by assumption) ?_; rotate_left; (focus (intro w hSw; (try dsimp only at hSw); go_simp; (try with_reducible rfl))); (try simp only [ty9, Act.put])
  refine tk9 2 ?_ rfl (by kernel_rfl) (fun _ _ _ h => h) ⟨by rfl, ?_⟩ (by assumption) ?_; rotate_left; (focus (intro w hSw; (try dsimp only at hSw); go_simp; (try with_reducible rfl))); (try simp only [ty9, Act.put])
  refine wpAnyH_take (i := 3) (oi := _) (v := undef) rfl (by kernel_rfl) (by kernel_rfl) (by kernel_rfl) (fun _ _ _ h => h) (Or.inr ⟨by rfl, rfl⟩) (by assumption) ?_
  (try simp only [ty9, Act.put])
  refine wpAnyH_take (i := 4) (oi := _) (v := undef) rfl (by kernel_rfl) (by kernel_rfl) (by kernel_rfl) (fun _ _ _ h => h) (Or.inr ⟨by rfl, rfl⟩) (by assumption) ?_
  (try simp only [ty9, Act.put])
  refine wpAnyH_take (i := 5) (oi := _) (v := undef) rfl (by kernel_rfl) (by kernel_rfl) (by kernel_rfl) (fun _ _ _ h => h) (Or.inr ⟨by rfl, rfl⟩) (by assumption) ?_
  (try simp only [ty9, Act.put])
  refine wpAnyH_take (i := 6) (oi := _) (v := undef) rfl (by kernel_rfl) (by kernel_rfl) (by kernel_rfl) (fun _ _ _ h => h) (Or.inr ⟨by rfl, rfl⟩) (by assumption) ?_
  (try simp only [ty9, Act.put])
  refine wpAnyH_take (i := 7) (oi := _) (v := undef) rfl (by kernel_rfl) (by kernel_rfl) (by kernel_rfl) (fun _ _ _ h => h) (Or.inr ⟨by rfl, rfl⟩) (by assumption) ?_
  (try simp only [ty9, Act.put])
  refine wpAnyH_take (i := 8) (oi := _) (v := undef) rfl (by kernel_rfl) (by kernel_rfl) (by kernel_rfl) (fun _ _ _ h => h) (Or.inr ⟨by rfl, rfl⟩) (by assumption) ?_
  (try simp only [ty9, Act.put])
  refine wpAnyH_take (i := 9) (oi := _) (v := undef) rfl (by kernel_rfl) (by kernel_rfl) (by kernel_rfl) (fun _ _ _ h => h) (Or.inr ⟨by rfl, rfl⟩) (by assumption) ?_
  (try simp only [ty9, Act.put])
  refine wpAnyH_take (i := 10) (oi := _) (v := undef) rfl (by kernel_rfl) (by kernel_rfl) (by kernel_rfl) (fun _ _ _ h => h) (Or.inr ⟨by rfl, rfl⟩) (by assumption) ?_
  (try simp only [ty9, Act.put])
  refine wpAnyH_take (i := 11) (oi := _) (v := undef) rfl (by kernel_rfl) (by kernel_rfl) (by kernel_rfl) (fun _ _ _ h => h) (Or.inr ⟨by rfl, rfl⟩) (by assumption) ?_
  (try simp only [ty9, Act.put])
  refine wpAnyH_take (i := 12) (oi := _) (v := undef) rfl (by kernel_rfl) (by kernel_rfl) (by kernel_rfl) (fun _ _ _ h => h) (Or.inr ⟨by rfl, rfl⟩) (by assumption) ?_
  (try simp only [ty9, Act.put])
  refine wpAnyH_take (i := 13) (oi := _) (v := undef) rfl (by kernel_rfl) (by kernel_rfl) (by kernel_rfl) (fun _ _ _ h => h) (Or.inr ⟨by rfl, rfl⟩) (by assumption) ?_
  (try simp only [ty9, Act.put])
  refine wpAnyH_take (i := 14) (oi := _) (v := undef) rfl (by kernel_rfl) (by kernel_rfl) (by kernel_rfl) (fun _ _ _ h => h) (Or.inr ⟨by rfl, rfl⟩) (by assumption) ?_
  (try simp only [ty9, Act.put])
  refine wpAnyH_take (i := 15) (oi := _) (v := undef) rfl (by kernel_rfl) (by kernel_rfl) (by kernel_rfl) (fun _ _ _ h => h) (Or.inr ⟨by rfl, rfl⟩) (by assumption) ?_
  (try simp only [ty9, Act.put])
  refine wpAnyH_take (i := 16) (oi := _) (v := undef) rfl (by kernel_rfl) (by kernel_rfl) (by kernel_rfl) (fun _ _ _ h => h) (Or.inr ⟨by rfl, rfl⟩) (by assumption) ?_
  (try simp only [ty9, Act.put])
  refine wpAnyH_take (i := 17) (oi := _) (v := undef) rfl (by kernel_rfl) (by kernel_rfl) (by kernel_rfl) (fun _ _ _ h => h) (Or.inr ⟨by rfl, rfl⟩) (by assumption) ?_
  (try simp only [ty9, Act.put])
  refine wpAnyH_take (i := 18) (oi := _) (v := undef) rfl (by kernel_rfl) (by kernel_rfl) (by kernel_rfl) (fun _ _ _ h => h) (Or.inr ⟨by rfl, rfl⟩) (by assumption) ?_
  (try simp only [ty9, Act.put])
  refine wpAnyH_take (i := 19) (oi := _) (v := undef) rfl (by kernel_rfl) (by kernel_rfl) (by kernel_rfl) (fun _ _ _ h => h) (Or.inr ⟨by rfl, rfl⟩) (by assumption) ?_
  (try simp only [ty9, Act.put])
  refine tk9 20 ?_ rfl (by kernel_rfl) (fun _ _ _ h => h) ⟨by rfl, ?_⟩ (by assumption) ?_; rotate_left; (focus (intro w hSw; (try dsimp only at hSw); go_simp; (try with_reducible rfl))); (try simp only [ty9, Act.put])
  refine tk9 21 ?_ rfl (by kernel_rfl) (fun _ _ _ h => h) ⟨by rfl, ?_⟩ (by assumption) ?_; rotate_left; (focus (intro w hSw; (try dsimp only at hSw); go_simp; (try with_reducible rfl))); (try simp only [ty9, Act.put])
  refine wpAnyH_done (by kernel_rfl) ?_ _
  (try go_simp)
  clear hHeld
  go_wp2_with fail
  go_ret
  exact ⟨by rw [HE.out]; (try rfl), (Below.refl _ _).drew⟩
 ·have q0 : ((o : Int) == 0) = false := by simp; exact ho
  obtain ⟨bb, hbb⟩ : ∃ bb, bb = decide (2 * (z : Int) ≤ (k : Int)) := ⟨_, rfl⟩
  have HE : Hid (d = bb) := (by rw [HD.out, hbb]; exact decide_eq_decide.2 ⟨fun h => by omega, fun h => .inr (by omega)⟩ : d = bb)
  have q1 := hbb.symm
  clear ho hbb
  refine wp_region_held_drew (S := (fun w' => (w'.cell? ⟨r, 2, none⟩ = some (.slice (some ⟨gh, 0, none⟩) nk ch) ∧ w'.cell? ⟨r, 4, none⟩ = some (.slice (some ⟨gz, oz, none⟩) nz cz)) ∧ w'.cell? ⟨gz, oz + bl, none⟩ = some (.int .i64 z) ∧ w'.cell? ⟨gh, o * 2 + 1, none⟩ = some (.int .i64 k))) (by kernel_rfl) ?_ (fun hHeld => ?_)
  ·exact ⟨⟨c2, c4⟩, csz, d1⟩
  refine tk9 0 ?_ rfl (by kernel_rfl) (fun _ _ _ h => h) ⟨by rfl, ?_⟩ (by assumption) ?_; rotate_left; (focus (intro w hSw; (try dsimp only at hSw); go_simp; (try with_reducible rfl))); (try simp only [ty9, Act.put])
  refine tk9 1 ?_ rfl (by kernel_rfl) (fun _ _ _ h => h) ⟨by rfl, ?_⟩ (by assumption) ?_; rotate_left; (focus (intro w hSw; (try dsimp only at hSw); go_simp; (try with_reducible rfl))); (try simp only [ty9, Act.put])
  refine tk9 2 ?_ rfl (by kernel_rfl) (fun _ _ _ h => h) ⟨by rfl, ?_⟩ (by assumption) ?_; rotate_left; (focus (intro w hSw; (try dsimp only at hSw); go_simp; (try with_reducible rfl))); (try simp only [ty9, Act.put])
  refine tk9 3 ?_ rfl (by kernel_rfl) (fun _ _ _ h => h) ⟨by rfl, ?_⟩ (by assumption) ?_; rotate_left; (focus (intro w hSw; (try dsimp only at hSw); go_simp; (try with_reducible rfl))); (try simp only [ty9, Act.put])
  refine tk9 4 ?_ rfl (by kernel_rfl) (fun _ _ _ h => h) ⟨by rfl, ?_⟩ (by assumption) ?_; rotate_left; (focus (intro w hSw; (try dsimp only at hSw); go_simp; (try with_reducible rfl))); (try simp only [ty9, Act.put])
  refine tk9 5 ?_ rfl (by kernel_rfl) (fun _ _ _ h => h) ⟨by rfl, ?_⟩ (by assumption) ?_; rotate_left; (focus (intro w hSw; (try dsimp only at hSw); go_simp; (try with_reducible rfl))); (try simp only [ty9, Act.put])
  refine tk9 6 ?_ rfl (by kernel_rfl) (fun _ _ _ h => h) ⟨by rfl, ?_⟩ (by assumption) ?_; rotate_left; (focus (intro w hSw; (try dsimp only at hSw); go_simp; (try with_reducible rfl))); (try simp only [ty9, Act.put])
  refine tk9 7 ?_ rfl (by kernel_rfl) (fun _ _ _ h => h) ⟨by rfl, ?_⟩ (by assumption) ?_; rotate_left; (focus (intro w hSw; (try dsimp only at hSw); go_simp; (try with_reducible rfl))); (try simp only [ty9, Act.put])
  refine tk9 8 ?_ rfl (by kernel_rfl) (fun _ _ _ h => h) ⟨by rfl, ?_⟩ (by assumption) ?_; rotate_left; (focus (intro w hSw; (try dsimp only at hSw); go_simp; (try with_reducible rfl))); (try simp only [ty9, Act.put])
  refine tk9 9 ?_ rfl (by kernel_rfl) (fun _ _ _ h => h) ⟨by rfl, ?_⟩ (by assumption) ?_; rotate_left; (focus (intro w hSw; (try dsimp only at hSw); go_simp; (try with_reducible rfl))); (try simp only [ty9, Act.put])
  refine tk9 10 ?_ rfl (by kernel_rfl) (fun _ _ _ h => h) ⟨by rfl, ?_⟩ (by assumption) ?_; rotate_left; (focus (intro w hSw; (try dsimp only at hSw); go_simp; (try with_reducible rfl))); (try simp only [ty9, Act.put])
  refine tk9 11 ?_ rfl (by kernel_rfl) (fun _ _ _ h => h) ⟨by rfl, ?_⟩ (by assumption) ?_; rotate_left; (focus (intro w hSw; (try dsimp only at hSw); go_simp; (try with_reducible rfl))); (try simp only [ty9, Act.put])
  refine tk9 12 ?_ rfl (by kernel_rfl) (fun _ _ _ h => h) ⟨by rfl, ?_⟩ (by assumption) ?_; rotate_left; (focus (intro w hSw; (try dsimp only at hSw); go_simp; (try with_reducible rfl))); (try simp only [ty9, Act.put])
  refine tk9 13 ?_ rfl (by kernel_rfl) (fun _ _ _ h => h) ⟨by rfl, ?_⟩ (by assumption) ?_; rotate_left; (focus (intro w hSw; (try dsimp only at hSw); go_simp; (try with_reducible rfl))); (try simp only [ty9, Act.put])
  refine tk9 14 ?_ rfl (by kernel_rfl) (fun _ _ _ h => h) ⟨by rfl, ?_⟩ (by assumption) ?_; rotate_left; (focus (intro w hSw; (try dsimp only at hSw); go_simp; (try with_reducible rfl))); (try simp only [ty9, Act.put])
  refine tk9 15 ?_ rfl (by kernel_rfl) (fun _ _ _ h => h) ⟨by rfl, ?_⟩ (by assumption) ?_; rotate_left; (focus (intro w hSw; (try dsimp only at hSw); go_simp; (try with_reducible rfl))); (try simp only [ty9, Act.put])
  refine tk9 16 ?_ rfl (by kernel_rfl) (fun _ _ _ h => h) ⟨by rfl, ?_⟩ (by assumption) ?_; rotate_left; (focus (intro w hSw; (try dsimp only at hSw); go_simp; (try with_reducible rfl))); (try simp only [ty9, Act.put])
  refine tk9 17 ?_ rfl (by kernel_rfl) (fun _ _ _ h => h) ⟨by rfl, ?_⟩ (by assumption) ?_; rotate_left; (focus (intro w hSw; (try dsimp only at hSw); go_simp; (try with_reducible rfl))); (try simp only [ty9, Act.put])
  refine tk9 18 ?_ rfl (by kernel_rfl) (fun _ _ _ h => h) ⟨by rfl, ?_⟩ (by assumption) ?_; rotate_left; (focus (intro w hSw; (try dsimp only at hSw); go_simp; (try with_reducible rfl))); (try simp only [ty9, Act.put])
  refine tk9 19 ?_ rfl (by kernel_rfl) (fun _ _ _ h => h) ⟨by rfl, ?_⟩ (by assumption) ?_; rotate_left; (focus (intro w hSw; (try dsimp only at hSw); go_simp; (try with_reducible rfl))); (try simp only [ty9, Act.put])
  refine tk9 20 ?_ rfl (by kernel_rfl) (fun _ _ _ h => h) ⟨by rfl, ?_⟩ (by assumption) ?_; rotate_left; (focus (intro w hSw; (try dsimp only at hSw); go_simp; (try with_reducible rfl))); (try simp only [ty9, Act.put])
  refine tk9 21 ?_ rfl (by kernel_rfl) (fun _ _ _ h => h) ⟨by rfl, ?_⟩ (by assumption) ?_; rotate_left; (focus (intro w hSw; (try dsimp only at hSw); go_simp; (try with_reducible rfl))); (try simp only [ty9, Act.put])
  refine wpAnyH_done (by kernel_rfl) ?_ _
  (try go_simp)
  clear hHeld
  go_wp2_with fail
  go_ret
  exact ⟨by rw [HE.out]; (try rfl), (Below.refl _ _).drew⟩
end Go.Proofs.YtkiapldehlnndaaGreatDoor
/- strong: contracts of a run's find and isDone. -/
namespace Go.Proofs.YtkiapldehlnndaaGreatDoor
open Go.RowKit Go.Maps
attribute [local go_sem ↓] Go.wp_at_zero Go.wp_at_succ
theorem fcell {w w' : World} {a : Addr} {x : Value} (h : w.cell? a = some x) (hb : Below w.heap.size w w') : w'.cell? a = some x := (hb.cell (World.block_lt_of_cell? w _ h)).trans h
theorem mem_pos {s : Pst} (hO : s.Ok) {b : Nat} (hb : b < s.nb) : 0 < (s.mem b).length := by
 rw [mem_len hO hb]
 have := hO.iv b hb
 omega
set_option maxRecDepth 100000 in
set_option maxHeartbeats 1000000 in
theorem slEqual_len (va vb : Value) (za zb : List Int) (w : World) (hm : zb.length ≤ 1000000000000000) (hA : HasI w va za) (hB : HasI w vb zb) :
 Calls Tryz.prog 103 #[va, vb] w fun e w' => e = .returned (.bool (za == zb)) ∧ Below w.heap.size w w' := by
 by_cases hlen : za.length = zb.length
 ·exact slEqual_any va vb za zb w (by omega) hm hA hB
 ·obtain ⟨ao, cap, rfl, hcA⟩ := hA
  obtain ⟨ao', cap', rfl, hcB⟩ := hB
  have q : ((za.length : Int) != (zb.length : Int)) = true := by rw [bne_iff_ne]; omega
  have HF : Hid ((za == zb) = false) := (by rw [beq_eq_false_iff_ne]; rintro rfl; exact hlen rfl : (za == zb) = false)
  clear hcA hcB hlen
  go_enter Tryz.func103, Tryz.ntmps103
  go_wp2
  go_ret
  exact ⟨by rw [HF.out]; rfl, Below.refl _ _⟩
set_option linter.unusedSimpArgs false in
set_option maxRecDepth 100000 in
set_option maxHeartbeats 4000000 in
theorem find_any {w0 w : World} {r g p mb nm : Nat} {G : Gp} {s : Pst} {x : Rv} (hR : RunAt w0 w r g p mb nm G s x) (vs : Value) (zs : List Int) (a1 a3 : Addr) (hE : EnvR w a1 a3) (hv : HasI w vs zs) :
 Calls Tryz.prog 39 #[.pointer (some ⟨r, 0, none⟩), vs] w fun e w' => ∃ (b : Nat) (is : Bool), e = .returned (.tuple #[.int .i64 (b : Int), .bool is]) ∧ Below w.heap.size w w' ∧ (is = true → b < s.nb ∧ zs = s.mem b) ∧ (is = false → ∀ b, b < s.nb → zs ≠ s.mem b) := by
 obtain ⟨c, hP, hL⟩ := hR.c
 have hO := hR.ok
 have hv0 := hv
 obtain ⟨ao, cap, rfl, hc⟩ := hv0
 cases zs with
 | nil =>
   have H : Hid _ := And.intro hR trivial
   clear hR hE hv hc hP hL
   go_enter Tryz.func39, Tryz.ntmps39
   go_wp2
   go_ret2
   refine ⟨0, false, rfl, Below.refl _ _, (fun h => by cases h), fun _ b hb e => ?_⟩
   have h1 := mem_pos hO hb
   rw [← e] at h1
   simp at h1
 | cons z0 rest =>
   obtain ⟨a, rfl, ca⟩ := hc 0 z0 rfl
   have cz : w.cell? a = some (.int .i64 z0) := by simpa [Addr.add] using ca
   clear ca hc
   obtain ⟨N, hN⟩ : ∃ N, N = rest.length := ⟨_, rfl⟩
   have hlen : (z0 :: rest).length = N + 1 := by rw [List.length_cons, hN]
   rw [hlen] at hv ⊢
   clear hN
   have c1 := (seven_cells hR.m.box).2.1
   have p0 : ¬ ((N : Int) + 1 = 0) := by omega
   have p1 : (0 : Int) < (N : Int) + 1 := by omega
   have p2 : 0 < N + 1 := by omega
   by_cases hin : 0 ≤ z0 ∧ z0 < (s.n : Int)
   ·obtain ⟨e0, rfl⟩ : ∃ e0 : Nat, z0 = e0 := ⟨z0.toNat, by omega⟩
    have he : e0 < s.n := by omega
    have hBk := fun W (hb : Below w.heap.size w W) => block_ok p c s e0 w0 W (hP.below hb) hL hO.n1 he
    obtain ⟨b, hbe⟩ : ∃ b, b = s.O e0 := ⟨_, rfl⟩
    rw [← hbe] at hBk
    have hb : b < s.nb := by rw [hbe]; exact (hO.o e0 he).1
    have hMm := fun W (hw : Below w.heap.size w W) => rmembers_any w0 w0.heap.size r g p mb x c s b W (hR.m.below hw) (hP.below hw) hL hO hb
    have hml : (s.mem b).length ≤ 1000 := by rw [mem_len hO hb]; have := hO.iv b hb; have := hO.n1; omega
    have H : Hid _ := And.intro hBk (And.intro hMm (And.intro hv (And.intro hml (And.intro hb (And.intro hbe (And.intro he hlen))))))
    clear hR hE hv hP hL hBk hMm hb hml hbe he hin
    go_enter Tryz.func39, Tryz.ntmps39
    go_upto_region 3 with fail
    refine wp_region_held_drew (S := (fun w' => w'.cell? ⟨r, 1, none⟩ = some (.pointer (some ⟨p, 0, none⟩)) ∧ w'.cell? a = some (.int .i64 ((e0 : Nat) : Int)))) (by kernel_rfl) ?_ (fun hHeld => ?_)
    ·exact ⟨c1, cz⟩
    refine tk9 0 ?_ rfl (by kernel_rfl) (fun _ _ _ h => h) ⟨by rfl, ?_⟩ (by assumption) ?_; rotate_left; (focus (intro w hSw; (try dsimp only at hSw); go_simp; (try with_reducible rfl))); (try simp only [ty9, Act.put])
    refine tk9 1 ?_ rfl (by kernel_rfl) (fun _ _ _ h => h) ⟨by rfl, ?_⟩ (by assumption) ?_; rotate_left; (focus (intro w hSw; (try dsimp only at hSw); go_simp; (try with_reducible rfl))); (try simp only [ty9, Act.put])
    refine tk9 2 ?_ rfl (by kernel_rfl) (fun _ _ _ h => h) ⟨by rfl, ?_⟩ (by assumption) ?_; rotate_left; (focus (intro w hSw; (try dsimp only at hSw); go_simp; (try with_reducible rfl))); (try simp only [ty9, Act.put])
    refine tk9 3 ?_ rfl (by kernel_rfl) (fun _ _ _ h => h) ⟨by rfl, ?_⟩ (by assumption) ?_; rotate_left; (focus (intro w hSw; (try dsimp only at hSw); go_simp; (try with_reducible rfl))); (try simp only [ty9, Act.put])
    refine tk9 4 ?_ rfl (by kernel_rfl) (fun _ _ _ h => h) ⟨by rfl, ?_⟩ (by assumption) ?_; rotate_left; (focus (intro w hSw; (try dsimp only at hSw); go_simp; (try with_reducible rfl))); (try simp only [ty9, Act.put])
    refine tk9 5 ?_ rfl (by kernel_rfl) (fun _ _ _ h => h) ⟨by rfl, ?_⟩ (by assumption) ?_; rotate_left; (focus (intro w hSw; (try dsimp only at hSw); go_simp; (try with_reducible rfl))); (try simp only [ty9, Act.put])
    refine tk9 6 ?_ rfl (by kernel_rfl) (fun _ _ _ h => h) ⟨by rfl, ?_⟩ (by assumption) ?_; rotate_left; (focus (intro w hSw; (try dsimp only at hSw); go_simp; (try with_reducible rfl))); (try simp only [ty9, Act.put])
    refine wpAnyH_ready (rs := [7]) (by kernel_rfl) (by simp) ?_
    refine AllReadyH.cons (o := _) rfl (fun K hK => ?_) ?_
    ·(go_simp; go_at_call 112; refine Calls.mono (H.out.1 _ ((Below.refl _ _).drew)) ?_; rintro r4 w4 ⟨rfl, hw4⟩; obtain rfl := hw4.symm; clear hw4)
     (try go_wp2_with fail)
     refine hK.out _ _ ?_ (fun hHeld => ?_)
     ·exact hHeld
     clear hK K
     (try simp only [ty9, Act.put])
     refine tk9 8 ?_ rfl (by kernel_rfl) (fun _ _ _ h => h) ⟨by rfl, ?_⟩ (by assumption) ?_; rotate_left; (focus (intro w hSw; (try dsimp only at hSw); go_simp; (try with_reducible rfl))); (try simp only [ty9, Act.put])
     refine tk9 9 ?_ rfl (by kernel_rfl) (fun _ _ _ h => h) ⟨by rfl, ?_⟩ (by assumption) ?_; rotate_left; (focus (intro w hSw; (try dsimp only at hSw); go_simp; (try with_reducible rfl))); (try simp only [ty9, Act.put])
     refine tk9 10 ?_ rfl (by kernel_rfl) (fun _ _ _ h => h) ⟨by rfl, ?_⟩ (by assumption) ?_; rotate_left; (focus (intro w hSw; (try dsimp only at hSw); go_simp; (try with_reducible rfl))); (try simp only [ty9, Act.put])
     refine tk9 11 ?_ rfl (by kernel_rfl) (fun _ _ _ h => h) ⟨by rfl, ?_⟩ (by assumption) ?_; rotate_left; (focus (intro w hSw; (try dsimp only at hSw); go_simp; (try with_reducible rfl))); (try simp only [ty9, Act.put])
     refine tk9 12 ?_ rfl (by kernel_rfl) (fun _ _ _ h => h) ⟨by rfl, ?_⟩ (by assumption) ?_; rotate_left; (focus (intro w hSw; (try dsimp only at hSw); go_simp; (try with_reducible rfl))); (try simp only [ty9, Act.put])
     refine wpAnyH_done (by kernel_rfl) ?_ _
     (try go_simp)
     have hbd : Below w.heap.size w w.drew := (Below.refl _ _).drew
     obtain ⟨wq, hwq⟩ : ∃ wq, wq = w.drew := ⟨_, rfl⟩
     rw [← hwq] at hbd ⊢
     clear hwq hHeld
     have hMm := H.out.2.1 wq hbd
     have hMq := fun (u : Value) (W : World) (hu : OwnI W wq.heap.size u (s.mem b)) (hb2 : Below wq.heap.size wq W) => slEqual_len (.slice (some a) (N + 1) cap) u (((e0 : Nat) : Int) :: rest) (s.mem b) W (by have := H.out.2.2.2.1; omega) ((H.out.2.2.1.below hbd).below hb2) hu.has
     have HM : Hid _ := And.intro hMm hMq
     clear hMm hMq
     obtain ⟨eq, heq⟩ : ∃ eq, eq = ((((e0 : Nat) : Int) :: rest) == s.mem b) := ⟨_, rfl⟩
     have HQ : Hid _ := heq
     clear heq
     cases eq with
     | true =>
       go_wp2_with (first
        | (go_at_call 50; refine Calls.mono HM.out.1 ?_; rintro r5 w5 ⟨u, rfl, hu, hb5⟩; have hE5 := HM.out.2 u w5 hu hb5; rw [← HQ.out] at hE5; have H5 : Hid _ := And.intro hb5 hE5; clear hu hb5 hE5)
        | (go_at_call 103; refine Calls.mono H5.out.2 ?_; rintro r6 w6 ⟨rfl, hb6⟩; have H6 : Hid _ := And.intro hb6 trivial; clear hb6))
       go_ret2
       have h7 : Below w.heap.size w w6 := (hbd.trans (H5.out.1.mono hbd.size)).trans (H6.out.1.mono (Nat.le_trans hbd.size H5.out.1.size))
       exact ⟨b, true, rfl, h7, fun _ => ⟨H.out.2.2.2.2.1, eq_of_beq HQ.out.symm⟩, (fun h => by cases h)⟩
     | false =>
       go_wp2_with (first
        | (go_at_call 50; refine Calls.mono HM.out.1 ?_; rintro r5 w5 ⟨u, rfl, hu, hb5⟩; have hE5 := HM.out.2 u w5 hu hb5; rw [← HQ.out] at hE5; have H5 : Hid _ := And.intro hb5 hE5; clear hu hb5 hE5)
        | (go_at_call 103; refine Calls.mono H5.out.2 ?_; rintro r6 w6 ⟨rfl, hb6⟩; have H6 : Hid _ := And.intro hb6 trivial; clear hb6))
       go_ret2
       have h7 : Below w.heap.size w w6 := (hbd.trans (H5.out.1.mono hbd.size)).trans (H6.out.1.mono (Nat.le_trans hbd.size H5.out.1.size))
       refine ⟨0, false, rfl, h7, (fun h => by cases h), fun _ b' hb' e => ?_⟩
       have h1 : ((e0 : Nat) : Int) ∈ s.mem b' := by rw [← e]; exact List.mem_cons_self
       obtain ⟨e1, h2, h3, h4⟩ := mem_mem.1 h1
       have h5 : b' = b := by rw [H.out.2.2.2.2.2.1, ← h3]; congr 1; omega
       rw [h5] at e
       have h6 := HQ.out
       rw [e] at h6
       simp at h6
    exact AllReadyH.nil
   ·have hBk := fun W (hb : Below w.heap.size w W) => block_bad p c s z0 a1 a3 w0 W (hP.below hb) hL (hE.below hb) (by omega)
    have H : Hid _ := And.intro hBk (And.intro hlen trivial)
    have HN : Hid (∀ b, b < s.nb → z0 :: rest ≠ s.mem b) := (fun b hb e => hin (by
     have h1 : z0 ∈ s.mem b := by rw [← e]; exact List.mem_cons_self
     obtain ⟨e1, h2, h3, rfl⟩ := mem_mem.1 h1
     omega) : ∀ b, b < s.nb → z0 :: rest ≠ s.mem b)
    clear hR hE hv hP hL hBk hin
    go_enter Tryz.func39, Tryz.ntmps39
    go_upto_region 3 with fail
    refine wp_region_held_drew (S := (fun w' => w'.cell? ⟨r, 1, none⟩ = some (.pointer (some ⟨p, 0, none⟩)) ∧ w'.cell? a = some (.int .i64 z0))) (by kernel_rfl) ?_ (fun hHeld => ?_)
    ·exact ⟨c1, cz⟩
    refine tk9 0 ?_ rfl (by kernel_rfl) (fun _ _ _ h => h) ⟨by rfl, ?_⟩ (by assumption) ?_; rotate_left; (focus (intro w hSw; (try dsimp only at hSw); go_simp; (try with_reducible rfl))); (try simp only [ty9, Act.put])
    refine tk9 1 ?_ rfl (by kernel_rfl) (fun _ _ _ h => h) ⟨by rfl, ?_⟩ (by assumption) ?_; rotate_left; (focus (intro w hSw; (try dsimp only at hSw); go_simp; (try with_reducible rfl))); (try simp only [ty9, Act.put])
    refine tk9 2 ?_ rfl (by kernel_rfl) (fun _ _ _ h => h) ⟨by rfl, ?_⟩ (by assumption) ?_; rotate_left; (focus (intro w hSw; (try dsimp only at hSw); go_simp; (try with_reducible rfl))); (try simp only [ty9, Act.put])
    refine tk9 3 ?_ rfl (by kernel_rfl) (fun _ _ _ h => h) ⟨by rfl, ?_⟩ (by assumption) ?_; rotate_left; (focus (intro w hSw; (try dsimp only at hSw); go_simp; (try with_reducible rfl))); (try simp only [ty9, Act.put])
    refine tk9 4 ?_ rfl (by kernel_rfl) (fun _ _ _ h => h) ⟨by rfl, ?_⟩ (by assumption) ?_; rotate_left; (focus (intro w hSw; (try dsimp only at hSw); go_simp; (try with_reducible rfl))); (try simp only [ty9, Act.put])
    refine tk9 5 ?_ rfl (by kernel_rfl) (fun _ _ _ h => h) ⟨by rfl, ?_⟩ (by assumption) ?_; rotate_left; (focus (intro w hSw; (try dsimp only at hSw); go_simp; (try with_reducible rfl))); (try simp only [ty9, Act.put])
    refine tk9 6 ?_ rfl (by kernel_rfl) (fun _ _ _ h => h) ⟨by rfl, ?_⟩ (by assumption) ?_; rotate_left; (focus (intro w hSw; (try dsimp only at hSw); go_simp; (try with_reducible rfl))); (try simp only [ty9, Act.put])
    refine wpAnyH_ready (rs := [7]) (by kernel_rfl) (by simp) ?_
    refine AllReadyH.cons (o := _) rfl (fun K hK => ?_) ?_
    ·(go_simp; go_at_call 112; refine Calls.mono (H.out.1 _ ((Below.refl _ _).drew)) ?_; rintro r4 w4 ⟨xe, rfl, hC4, hb4⟩; obtain ⟨T, ue, rfl⟩ := hC4.iface; have HB : Hid (Below w.heap.size w w4) := ((Below.refl _ _).drew.trans hb4 : Below w.heap.size w w4); clear hC4 hb4)
     (try go_wp2_with fail)
     refine hK.out _ _ ?_ (fun hHeld => ?_)
     ·exact ⟨cell_up c1 HB.out, fcell cz HB.out⟩
     clear hK K
     (try simp only [ty9, Act.put])
     refine tk9 8 ?_ rfl (by kernel_rfl) (fun _ _ _ h => h) ⟨by rfl, ?_⟩ (by assumption) ?_; rotate_left; (focus (intro w hSw; (try dsimp only at hSw); go_simp; (try with_reducible rfl))); (try simp only [ty9, Act.put])
     refine tk9 9 ?_ rfl (by kernel_rfl) (fun _ _ _ h => h) ⟨by rfl, ?_⟩ (by assumption) ?_; rotate_left; (focus (intro w hSw; (try dsimp only at hSw); go_simp; (try with_reducible rfl))); (try simp only [ty9, Act.put])
     refine tk9 10 ?_ rfl (by kernel_rfl) (fun _ _ _ h => h) ⟨by rfl, ?_⟩ (by assumption) ?_; rotate_left; (focus (intro w hSw; (try dsimp only at hSw); go_simp; (try with_reducible rfl))); (try simp only [ty9, Act.put])
     refine tk9 11 ?_ rfl (by kernel_rfl) (fun _ _ _ h => h) ⟨by rfl, ?_⟩ (by assumption) ?_; rotate_left; (focus (intro w hSw; (try dsimp only at hSw); go_simp; (try with_reducible rfl))); (try simp only [ty9, Act.put])
     refine tk9 12 ?_ rfl (by kernel_rfl) (fun _ _ _ h => h) ⟨by rfl, ?_⟩ (by assumption) ?_; rotate_left; (focus (intro w hSw; (try dsimp only at hSw); go_simp; (try with_reducible rfl))); (try simp only [ty9, Act.put])
     refine wpAnyH_done (by kernel_rfl) ?_ _
     (try go_simp)
     clear hHeld
     go_wp2_with fail
     go_ret2
     exact ⟨0, false, rfl, HB.out, (fun h => by cases h), fun _ => HN.out⟩
    exact AllReadyH.nil
end Go.Proofs.YtkiapldehlnndaaGreatDoor
/- strong: contracts of a run's isDone, and of mayTake by what the run says. -/
namespace Go.Proofs.YtkiapldehlnndaaGreatDoor
open Go.RowKit Go.Maps
attribute [local go_sem ↓] Go.wp_at_zero Go.wp_at_succ
set_option linter.unusedSimpArgs false in
set_option maxRecDepth 100000 in
set_option maxHeartbeats 4000000 in
theorem isDone_any {w0 w : World} {r g p mb nm : Nat} {G : Gp} {s : Pst} {x : Rv} (hR : RunAt w0 w r g p mb nm G s x) (hk : 0 < x.ks.length) (hkl : x.ks.length ≤ 100000) :
 Calls Tryz.prog 42 #[.pointer (some ⟨r, 0, none⟩)] w fun e w' => e = .returned (.bool (decide (s.nb = x.ks.length - 1))) ∧ Below w.heap.size w w' := by
 obtain ⟨c, hP, hL⟩ := hR.c
 have hBl := fun W (hb : Below w.heap.size w W) => blocks_any p c w0 W (hP.below hb)
 rw [hL.nb] at hBl
 obtain ⟨_, c1, c2, _⟩ := seven_cells hR.m.box
 obtain ⟨gh, ch, hvh⟩ := hR.m.hform hk
 rw [hvh] at c2
 obtain ⟨nk, hnk⟩ : ∃ nk, nk = x.ks.length := ⟨_, rfl⟩
 obtain ⟨nb, hnb⟩ : ∃ nb, nb = s.nb := ⟨_, rfl⟩
 rw [← hnk] at c2 hk hkl ⊢
 rw [← hnb] at hBl ⊢
 obtain ⟨d, hd⟩ : ∃ d, d = decide (nb = nk - 1) := ⟨_, rfl⟩
 rw [← hd]
 have q1 : IntKind.i64.wrap ((nk : Int) - 1) = (nk : Int) - 1 := by rw [IntKind.wrap_i64]; omega
 have q2 : ((nb : Int) == (nk : Int) - 1) = d := by
  rw [hd]
  exact Bool.eq_iff_iff.2 (by simp; omega)
 have H : Hid _ := And.intro hBl trivial
 clear hR hP hL hBl hvh hnk hnb hd
 go_enter Tryz.func42, Tryz.ntmps42
 go_upto_region 1 with fail
 refine wp_region_held_drew (S := (fun w' => w'.cell? ⟨r, 1, none⟩ = some (.pointer (some ⟨p, 0, none⟩)) ∧ w'.cell? ⟨r, 2, none⟩ = some (.slice (some ⟨gh, 0, none⟩) nk ch))) (by kernel_rfl) ?_ (fun hHeld => ?_)
 ·exact ⟨c1, c2⟩
 refine tk9 0 ?_ rfl (by kernel_rfl) (fun _ _ _ h => h) ⟨by rfl, ?_⟩ (by assumption) ?_; rotate_left; (focus (intro w hSw; (try dsimp only at hSw); go_simp; (try with_reducible rfl))); (try simp only [ty9, Act.put])
 refine tk9 1 ?_ rfl (by kernel_rfl) (fun _ _ _ h => h) ⟨by rfl, ?_⟩ (by assumption) ?_; rotate_left; (focus (intro w hSw; (try dsimp only at hSw); go_simp; (try with_reducible rfl))); (try simp only [ty9, Act.put])
 refine tk9 2 ?_ rfl (by kernel_rfl) (fun _ _ _ h => h) ⟨by rfl, ?_⟩ (by assumption) ?_; rotate_left; (focus (intro w hSw; (try dsimp only at hSw); go_simp; (try with_reducible rfl))); (try simp only [ty9, Act.put])
 refine tk9 3 ?_ rfl (by kernel_rfl) (fun _ _ _ h => h) ⟨by rfl, ?_⟩ (by assumption) ?_; rotate_left; (focus (intro w hSw; (try dsimp only at hSw); go_simp; (try with_reducible rfl))); (try simp only [ty9, Act.put])
 refine tk9 5 ?_ rfl (by kernel_rfl) (fun _ _ _ h => h) ⟨by rfl, ?_⟩ (by assumption) ?_; rotate_left; (focus (intro w hSw; (try dsimp only at hSw); go_simp; (try with_reducible rfl))); (try simp only [ty9, Act.put])
 refine tk9 6 ?_ rfl (by kernel_rfl) (fun _ _ _ h => h) ⟨by rfl, ?_⟩ (by assumption) ?_; rotate_left; (focus (intro w hSw; (try dsimp only at hSw); go_simp; (try with_reducible rfl))); (try simp only [ty9, Act.put])
 refine tk9 7 ?_ rfl (by kernel_rfl) (fun _ _ _ h => h) ⟨by rfl, ?_⟩ (by assumption) ?_; rotate_left; (focus (intro w hSw; (try dsimp only at hSw); go_simp; (try with_reducible rfl))); (try simp only [ty9, Act.put])
 refine tk9 8 ?_ rfl (by kernel_rfl) (fun _ _ _ h => h) ⟨by rfl, ?_⟩ (by assumption) ?_; rotate_left; (focus (intro w hSw; (try dsimp only at hSw); go_simp; (try with_reducible rfl))); (try simp only [ty9, Act.put])
 refine tk9 9 ?_ rfl (by kernel_rfl) (fun _ _ _ h => h) ⟨by rfl, ?_⟩ (by assumption) ?_; rotate_left; (focus (intro w hSw; (try dsimp only at hSw); go_simp; (try with_reducible rfl))); (try simp only [ty9, Act.put])
 refine tk9 10 ?_ rfl (by kernel_rfl) (fun _ _ _ h => h) ⟨by rfl, ?_⟩ (by assumption) ?_; rotate_left; (focus (intro w hSw; (try dsimp only at hSw); go_simp; (try with_reducible rfl))); (try simp only [ty9, Act.put])
 refine wpAnyH_ready (rs := [4]) (by kernel_rfl) (by simp) ?_
 refine AllReadyH.cons (o := _) rfl (fun K hK => ?_) ?_
 ·(go_simp; go_at_call 118; refine Calls.mono (H.out.1 _ ((Below.refl _ _).drew)) ?_; rintro r4 w4 ⟨rfl, hw4⟩; obtain rfl := hw4.symm; clear hw4)
  (try go_wp2_with fail)
  refine hK.out _ _ ?_ (fun hHeld => ?_)
  ·exact hHeld
  clear hK K
  (try simp only [ty9, Act.put])
  refine tk9 11 ?_ rfl (by kernel_rfl) (fun _ _ _ h => h) ⟨by rfl, ?_⟩ (by assumption) ?_; rotate_left; (focus (intro w hSw; (try dsimp only at hSw); go_simp; (try with_reducible rfl))); (try simp only [ty9, Act.put])
  refine tk9 12 ?_ rfl (by kernel_rfl) (fun _ _ _ h => h) ⟨by rfl, ?_⟩ (by assumption) ?_; rotate_left; (focus (intro w hSw; (try dsimp only at hSw); go_simp; (try with_reducible rfl))); (try simp only [ty9, Act.put])
  refine wpAnyH_done (by kernel_rfl) ?_ _
  (try go_simp)
  clear hHeld
  go_wp2_with fail
  go_ret
  exact ⟨rfl, (Below.refl _ _).drew⟩
 exact AllReadyH.nil
theorem may_all {w0 w : World} {r g p mb nm : Nat} {G : Gp} {s : Pst} {x : Rv} (hR : RunAt w0 w r g p mb nm G s x) {bl : Nat} (hb : bl < s.nb) :
 Calls Tryz.prog 40 #[.pointer (some ⟨r, 0, none⟩), .int .i64 (bl : Int)] w fun e w' => ∃ ok : Bool, e = .returned (.bool ok) ∧ Below w.heap.size w w' ∧ ∀ e0, e0 < G.n → s.O e0 = bl → (ok = true ↔ (hOf s x e0 = 0 ∨ 2 * Sg.bc G.n s.O bl ≤ hc G.n (hOf s x) (hOf s x e0))) := by
 obtain ⟨o, k, v, bs, how, hH, hks, _⟩ := hR.i.heap hb
 have hsz := hR.i.szv bl hb
 have hz : (s.mem bl).length ≤ 1000 := by rw [mem_len hR.ok hb]; have := hR.ok.iv bl hb; have := hR.ok.n1; omega
 refine (mayTake_any w0.heap.size r g p mb x bl o k (s.mem bl).length v bs w hR.m how hsz hH hks hz).mono fun e w' ⟨he, hbl⟩ => ⟨_, he, hbl, fun e0 h0 hO => ?_⟩
 have h1 : hOf s x e0 = (o : Int) := by unfold hOf Rv.of; rw [hO, how]; rfl
 rw [decide_eq_true_eq, h1, ← hR.ksv o k hks, ← hR.n, bc_mem]
 omega
end Go.Proofs.YtkiapldehlnndaaGreatDoor
/- strong: contract of Replay: a run is played as the plain one is. -/
namespace Go.Proofs.YtkiapldehlnndaaGreatDoor
open Go.RowKit Go.Maps
attribute [local go_sem ↓] Go.wp_at_zero Go.wp_at_succ
def HasR (w : World) (vt : Value) (tk : List (List Int)) : Prop := ∃ ao cap, vt = .slice ao tk.length cap ∧ ∀ (i : Nat) (zs : List Int), tk[i]? = some zs → ∃ a v, ao = some a ∧ w.cell? (a.add i) = some v ∧ HasI w v zs
theorem HasR.below {w w' : World} {vt : Value} {tk : List (List Int)} (h : HasR w vt tk) (hb : Below w.heap.size w w') : HasR w' vt tk := by
 obtain ⟨ao, cap, h1, h2⟩ := h
 refine ⟨ao, cap, h1, fun i zs hi => ?_⟩
 obtain ⟨a, v, e1, e2, e3⟩ := h2 i zs hi
 exact ⟨a, v, e1, fcell e2 hb, e3.below hb⟩
structure EnvS (w : World) (aS aC a1 a3 : Addr) : Prop where
 sy : Sent w 0 aS
 cl : Sent w 1 aC
 re : EnvR w a1 a3
theorem EnvS.below {w w' : World} {aS aC a1 a3 : Addr} (h : EnvS w aS aC a1 a3) (hb : Below w.heap.size w w') : EnvS w' aS aC a1 a3 := ⟨h.sy.below hb, h.cl.below hb, h.re.below hb⟩
def gp (m kk : Nat) (s : Int) (es : List Sy.Ed) : Gp := ⟨0, 0, 0, 0, 0, m, kk, s, es⟩
theorem gp_replay (G : Gp) (tk : List (List Int)) : Sg.mReplay G tk = Sg.mReplay (gp G.n G.kk G.st G.es) tk := rfl
def RepAt (w w' : World) (aC : Addr) (e : Ending) (o : Option (List Nat)) : Prop := Below w.heap.size w w' ∧ match o with
 | some cl => ∃ u, e = .returned (.tuple #[u, .nilIface]) ∧ OwnI w' w.heap.size u (natI cl)
 | none => ∃ b, e = .returned (.tuple #[.slice none 0 0, .iface 76 (.pointer (some ⟨b, 0, none⟩))]) ∧ Chain w' 0 0 aC [strB] (.iface 76 (.pointer (some ⟨b, 0, none⟩)))
theorem new_play (m : Nat) {x : Rv} {G : Gp} (hx : x.Zero m) : Sg.Play G [] (Pst.new m).O (hOf (Pst.new m) x) x.ks.length := by
 have h1 : hOf (Pst.new m) x = fun _ => 0 := funext fun e => hx.1 _
 have h2 : (Pst.new m).O = fun _ => 0 := rfl
 rw [h1, h2, hx.2]
 exact Sg.Play.nil G
set_option linter.unusedSimpArgs false in
set_option maxRecDepth 100000 in
set_option maxHeartbeats 8000000 in
theorem replay_ok (hS : SortOk 1000000) (m kk : Nat) (s : Int) (v vt : Value) (es : List Sy.Ed) (tk : List (List Int)) (aS aC a1 a3 : Addr) (w : World) (hE : EnvS w aS aC a1 a3) (hv : BEdges.Has w v es) (ht : HasR w vt tk) (hm : es.length ≤ 100000) (htl : tk.length ≤ 1000000) (hq : Sy.right m kk s es = true) :
 Calls Tryz.prog 19 #[sysV m kk s v, vt] w fun e w' => RepAt w w' aC e (Sg.mReplay (gp m kk s es) tk) := by
 have hv0 := hv
 obtain ⟨ao, cap, rfl, _⟩ := hv0
 obtain ⟨L, hL⟩ : ∃ L, L = es.length := ⟨_, rfl⟩
 have ht0 := ht
 obtain ⟨ta, tc, rfl, _⟩ := ht0
 obtain ⟨N, hN⟩ : ∃ N, N = tk.length := ⟨_, rfl⟩
 obtain ⟨w1, hw1⟩ : ∃ w1, w1 = w.alloc (.cells #[.int .i64 m, .int .i64 kk, .int .i64 s, .slice ao L cap] 24) := ⟨_, rfl⟩
 have hb1 : Below w.heap.size w w1 := by rw [hw1]; exact (Below.refl _ _).alloc (Nat.le_refl _) _
 have hg1 : w1.heap[w.heap.size]? = some (.cells #[.int .i64 m, .int .i64 kk, .int .i64 s, .slice ao L cap] 24 (0, 0)) := by rw [hw1]; exact heap_alloc_new w _
 have hBg := begin_ok hS m kk s _ es aS w1 (hE.sy.below hb1) (hv.below hb1) hm hq
 rw [← hL] at hBg ⊢
 rw [← hN] at ht htl ⊢
 unfold sysV at hBg ⊢
 obtain ⟨x0, x1, x2, x3⟩ := four_cellsB hg1
 have hm1 : m ≤ 1000 := by have := (right_parts hq).1; omega
 have H1 : Hid _ := And.intro hw1 (And.intro hb1 (And.intro hBg (And.intro hE (And.intro ht (And.intro hN (And.intro hq hm1))))))
 clear hE hv ht hm hq hw1 hb1 hg1 hBg hL hN hm1
 go_enter Tryz.func19, Tryz.ntmps19
 go_upto_region 1 with fail
 rw [← H1.out.1]
 go_upto_region 4 with (go_at_call 37; refine Calls.mono H1.out.2.2.1 ?_; rintro r2 w2 ⟨w0, r, g, p, mb, nm, G, x, rfl, hR, hx, hG, hnm, hb0, hb2⟩; have H2 : Hid _ := And.intro hR (And.intro hx (And.intro hG (And.intro hnm (And.intro hb0 hb2)))); clear hR hx hG hnm hb0 hb2 x0 x1 x2 x3)
 have hr : Sy.right G.n (G.kk : Int) G.st G.es = true := by obtain ⟨g1, g2, g3, g4⟩ := H2.out.2.2.1; rw [g1, g2, g3, g4]; exact H1.out.2.2.2.2.2.2.1
 have hmod : Sg.mReplay (gp m kk s es) tk = Sg.mReplay G tk := by obtain ⟨g1, g2, g3, g4⟩ := H2.out.2.2.1; rw [gp_replay G, g1, g2, g3, g4]
 have hGn : G.n ≤ 1000 := by have := H2.out.2.2.1.1; have := H1.out.2.2.2.2.2.2.2; omega
 have HG : Hid _ := And.intro hr (And.intro hmod hGn)
 clear hr hmod hGn
 go_wp2_with fail
 go_loopg [23] N (fun q iv wr => ∃ (i nm1 : Nat) (s1 : Pst) (x1 : Rv), q = N - i ∧ i ≤ N ∧ iv = .int .i64 i ∧ RunAt w0 wr r g p mb nm1 G s1 x1 ∧ Sg.Play G (tk.take i) s1.O (hOf s1 x1) x1.ks.length ∧ nm1 ≤ 10000 + x1.ks.length * 10000000)
 case atStart => exact ⟨0, nm, Pst.new m, x, rfl, Nat.zero_le _, rfl, H2.out.1, new_play m H2.out.2.1, by have := H2.out.2.2.2.1; omega⟩
 case round =>
  obtain ⟨i, nm1, s1, x1, rfl, hi, rfl, hR, hPl, hnm1⟩ := hrel
  obtain ⟨wo, hwo⟩ : ∃ wo, wo = wr := ⟨_, rfl⟩
  rw [← hwo] at hR ⊢
  clear hwo
  have hbw : Below w.heap.size w wo := H1.out.2.1.trans ((H2.out.2.2.2.2.1.trans (hR.up.mono H2.out.2.2.2.2.1.size)).mono H1.out.2.1.size)
  have hkl := hPl.hist.heaps
  have hEo := H1.out.2.2.2.1.below hbw
  by_cases hlt : i < N
  ·have q0 : (0 : Int) ≤ (i : Int) := by omega
   have q1 : (i : Int) < (N : Int) := by omega
   obtain ⟨zs, hzs⟩ : ∃ zs, tk[i]? = some zs := ⟨tk[i]'(by have := H1.out.2.2.2.2.2.1; omega), List.getElem?_eq_getElem _⟩
   obtain ⟨ta', tc', e1, hrows⟩ := H1.out.2.2.2.2.1.below hbw
   have e4 : ta = ta' := by injection e1
   obtain ⟨a, vz, e2, hcz, hIz⟩ := hrows i zs hzs
   have e3 : ta = some a := e4.trans e2
   clear e1 e2 e4 hrows
   subst e3
   obtain ⟨za, zc, hvz, _⟩ := id hIz
   subst hvz
   obtain ⟨zn, hzn⟩ : ∃ zn, zn = zs.length := ⟨_, rfl⟩
   have hFd := find_any hR (.slice za zs.length zc) zs a1 a3 hEo.re hIz
   rw [← hzn] at hFd hcz
   have htk : tk.take (i + 1) = tk.take i ++ [zs] := by rw [List.take_add_one, hzs]; rfl
   have HA : Hid _ := And.intro hR (And.intro hPl (And.intro hnm1 (And.intro hbw (And.intro hkl (And.intro hEo (And.intro hFd (And.intro hzs htk)))))))
   clear hR hPl hnm1 hbw hkl hEo hFd hzs htk hIz hzn
   go_upto_region 8 with (go_at_call 39; refine Calls.mono HA.out.2.2.2.2.2.2.1 ?_; rintro r3 w3 ⟨b, is, rfl, hb3, hyes, hno⟩; have H3 : Hid _ := And.intro hb3 (And.intro hyes hno); clear hb3 hyes hno)
   have hR3 := HA.out.1.below H3.out.1
   have hn3 := hR3.n
   have hstop : (∀ e0, e0 < G.n → zs = Sg.memb G.n s1.O (s1.O e0) → ¬ (hOf s1 x1 e0 = 0 ∨ 2 * Sg.bc G.n s1.O (s1.O e0) ≤ hc G.n (hOf s1 x1) (hOf s1 x1 e0))) → Sg.mReplay G tk = none := fun hst => by
    have h1 := Sg.Play.stop HA.out.2.1 (l := zs) hst
    rw [← HA.out.2.2.2.2.2.2.2.2] at h1
    have h2 := Sg.mReplay_none (r := tk.drop (i + 1)) (fun e => by have h9 := congrArg List.length e; rw [HA.out.2.2.2.2.2.2.2.2] at h9; simp at h9) h1
    rw [List.take_append_drop] at h2
    exact h2
   have hEr : ∀ w4, Below w3.heap.size w3 w4 → Calls Tryz.prog 38 #[.iface 287 (.pointer (some aC))] w4 fun r' w' => ∃ b, r' = .returned (.iface 76 (.pointer (some ⟨b, 0, none⟩))) ∧ Chain w' 0 0 aC [strB] (.iface 76 (.pointer (some ⟨b, 0, none⟩))) ∧ Below w4.heap.size w4 w' := fun w4 _ => sfault_any _ _ w4 aC [] rfl
   have hgc : ∀ w4, Below w3.heap.size w3 w4 → w4.cell? ⟨1, 0, none⟩ = some (.iface 287 (.pointer (some aC))) := fun w4 hb4 => ((HA.out.2.2.2.2.2.1.below H3.out.1).below hb4).cl.1
   have HE : Hid _ := And.intro hR3 (And.intro hn3 (And.intro hstop (And.intro hEr hgc)))
   clear hR3 hn3 hstop hEr hgc
   cases is with
   | false =>
     have gc := HE.out.2.2.2.2 w3 (Below.refl _ _)
     go_wp2_with (go_at_call 38; refine Calls.mono (HE.out.2.2.2.1 w3 (Below.refl _ _)) ?_; rintro r4 w4 ⟨b4, rfl, hC4, hb4⟩; have H4 : Hid _ := And.intro hC4 hb4; clear hC4 hb4)
     go_ret2
     have hnone := HE.out.2.2.1 (fun e0 he0 hl _ => H3.out.2.2 (by first | rfl | trivial) (s1.O e0) (HE.out.1.ok.o e0 (by have := HE.out.2.1; omega)).1 (by rw [memb_eq, HE.out.2.1]; exact hl))
     unfold RepAt
     rw [HG.out.2.1, hnone]
     exact ⟨(HA.out.2.2.2.1.trans (H3.out.1.mono HA.out.2.2.2.1.size)).trans (H4.out.2.mono (Nat.le_trans HA.out.2.2.2.1.size H3.out.1.size)), b4, rfl, H4.out.1⟩
   | true =>
     obtain ⟨hbl, hzm⟩ := H3.out.2.1 (by first | rfl | trivial)
     have hMy := may_all HE.out.1 hbl
     obtain ⟨e0, he0, hOe⟩ := block_state HE.out.1.ok hbl
     have heG : e0 < G.n := by rw [← HE.out.2.1]; exact he0
     have HB : Hid _ := And.intro hMy (And.intro hbl (And.intro hzm (And.intro heG hOe)))
     clear hMy hbl hzm heG hOe he0
     go_upto_if 40 with (go_at_call 40; refine Calls.mono HB.out.1 ?_; rintro r4 w4 ⟨ok, rfl, hb4, hok⟩; have H4 : Hid _ := And.intro hb4 hok; clear hb4 hok)
     cases ok with
     | false =>
       have gc := HE.out.2.2.2.2 w4 H4.out.1
       go_wp2_with (go_at_call 38; refine Calls.mono (HE.out.2.2.2.1 w4 H4.out.1) ?_; rintro r5 w5 ⟨b5, rfl, hC5, hb5⟩; have H5 : Hid _ := And.intro hC5 hb5; clear hC5 hb5)
       go_ret2
       have hnone := HE.out.2.2.1 (fun e1 he1 hl hh => by
        have h1 : s1.O e1 = b := by
         have h2 : ((e1 : Nat) : Int) ∈ s1.mem b := by rw [← HB.out.2.2.1, hl]; exact Sg.memb_mem.2 ⟨e1, he1, rfl, rfl⟩
         obtain ⟨e2, _, h3, h4⟩ := mem_mem.1 h2
         have h5 : e1 = e2 := by omega
         rw [h5]; exact h3
        have h6 := (H4.out.2 e1 he1 h1).2 (by rw [h1] at hh; exact hh)
        cases h6)
       unfold RepAt
       rw [HG.out.2.1, hnone]
       have h7 := HA.out.2.2.2.1.trans (H3.out.1.mono HA.out.2.2.2.1.size)
       have h8 := h7.trans (H4.out.1.mono h7.size)
       exact ⟨h8.trans (H5.out.2.mono h8.size), b5, rfl, H5.out.1⟩
     | true =>
       have hR4 := HE.out.1.below H4.out.1
       have hTk := take_any w0 r g p mb nm1 G s1 x1 b w4 hR4 HB.out.2.1 (by have := HA.out.2.2.1; have := HA.out.2.2.2.2.1; have := HG.out.2.2; omega) (by have := HA.out.2.2.2.2.1; have := HG.out.2.2; omega)
       have HT : Hid _ := And.intro hTk trivial
       clear hR4 hTk
       go_wp2_with (go_at_call 41; refine Calls.mono HT.out.1 ?_; rintro r5 w5 ⟨rfl, nm2, s2, x2, hR5, hA5⟩; have H5 : Hid _ := And.intro hR5 hA5; clear hR5 hA5)
       go_roundg (N - (i + 1))
       case measure => omega
       case rel =>
        have hh := (H4.out.2 e0 HB.out.2.2.2.1 HB.out.2.2.2.2).1 (by first | rfl | trivial)
        have hA := H5.out.2
        have hn := HE.out.2.1
        have hst := Sg.Play.step (O' := s2.O) (H' := hOf s2 x2) HG.out.1 HA.out.2.1 HB.out.2.2.2.1 (by rw [HB.out.2.2.2.2]; exact hh) (by
         have h2 := hA.sp
         rw [hn] at h2
         have h3 : hOf s1 x1 e0 = x1.of b := by unfold hOf; rw [HB.out.2.2.2.2]
         rw [HB.out.2.2.2.2, h3]
         exact h2) (fun e hE => by rw [hA.hp e (by rw [hn]; exact hE), HB.out.2.2.2.2])
        have h4 : zs = Sg.memb G.n s1.O (s1.O e0) := by rw [HB.out.2.2.2.2, HB.out.2.2.1, memb_eq, hn]
        rw [← h4, ← HA.out.2.2.2.2.2.2.2.2, ← hA.ks] at hst
        exact ⟨i + 1, nm2, s2, x2, rfl, by omega, by go_num, H5.out.1, hst, by have h5 := hA.nm; have h6 := HA.out.2.2.1; rw [hA.ks]; omega⟩
  ·obtain rfl : i = N := by omega
   have q1 : ¬ (i : Int) < (i : Int) := by omega
   have hall : tk.take i = tk := by rw [H1.out.2.2.2.2.2.1]; exact List.take_length
   rw [hall] at hPl
   have hk0 : 0 < x1.ks.length := by have := hPl.hist.inv.len; omega
   have hDn := isDone_any hR hk0 (by have := HG.out.2.2; omega)
   have hfin := Sg.Play.fin hR.ok hR.n hPl
   obtain ⟨d, hd⟩ : ∃ d, d = decide (s1.nb = x1.ks.length - 1) := ⟨_, rfl⟩
   rw [← hd] at hDn
   have HA : Hid _ := And.intro hR (And.intro hPl (And.intro hbw (And.intro hEo (And.intro hDn (And.intro hfin hd)))))
   clear hR hPl hbw hEo hDn hfin hd hall hk0 hkl hnm1
   cases d with
   | false =>
     go_wp2_with (first
      | (go_at_call 42; refine Calls.mono HA.out.2.2.2.2.1 ?_; rintro r3 w3 ⟨rfl, hb3⟩; have gc := (HA.out.2.2.2.1.below hb3).cl.1; have H3 : Hid _ := And.intro hb3 (sfault_any _ _ w3 aC [] rfl); clear hb3)
      | (go_at_call 38; refine Calls.mono H3.out.2 ?_; rintro r4 w4 ⟨b4, rfl, hC4, hb4⟩; have H4 : Hid _ := And.intro hC4 hb4; clear hC4 hb4))
     go_ret2
     unfold RepAt
     rw [HG.out.2.1, HA.out.2.2.2.2.2.1, if_neg (of_decide_eq_false HA.out.2.2.2.2.2.2.symm)]
     have h7 := HA.out.2.2.1.trans (H3.out.1.mono HA.out.2.2.1.size)
     exact ⟨h7.trans (H4.out.2.mono h7.size), b4, rfl, H4.out.1⟩
   | true =>
     obtain ⟨c, hP, hLy⟩ := HA.out.1.c
     have hCl := fun W (hb : Below wo.heap.size wo W) => classes_all p c s1 w0 W (hP.below hb) hLy HA.out.1.ok
     have HC : Hid _ := And.intro hCl trivial
     clear hCl hP hLy
     go_wp2_with (first
      | (go_at_call 42; refine Calls.mono HA.out.2.2.2.2.1 ?_; rintro r3 w3 ⟨rfl, hb3⟩; have c1 := (seven_cells (HA.out.1.below hb3).m.box).2.1; have H3 : Hid _ := And.intro hb3 trivial; clear hb3)
      | (go_at_call 43; refine Calls.mono (HC.out.1 w3 H3.out.1) ?_; rintro r4 w4 ⟨u, rfl, hu, hb4⟩; have H4 : Hid _ := And.intro hu hb4; clear hu hb4))
     go_ret2
     unfold RepAt
     rw [HG.out.2.1, HA.out.2.2.2.2.2.1, if_pos (of_decide_eq_true HA.out.2.2.2.2.2.2.symm)]
     have h7 := HA.out.2.2.1.trans (H3.out.1.mono HA.out.2.2.1.size)
     refine ⟨h7.trans (H4.out.2.mono h7.size), _, rfl, ?_⟩
     have h8 : Sy.canon s1.own = Ro.num ((List.range G.n).map s1.O) := by
      rw [← Sg.canon_nat]
      unfold Pst.own
      rw [HA.out.1.n, List.map_map]
      rfl
     rw [← h8]
     exact row_base H4.out.1 h7.size
end Go.Proofs.YtkiapldehlnndaaGreatDoor
/- Contract of the law's alive of chapter 9: first calls whose answers the document fixes. -/
namespace Go.Proofs.YtkiapldehlnndaaGreatDoor
open Go.RowKit Go.Maps
attribute [local go_sem ↓] Go.wp_at_zero Go.wp_at_succ
def esT9 : List Sy.Ed := [(0, 1, 1), (1, 1, 2), (3, 1, 2)]
def tkT9 : List (List Int) := [[0, 1, 2, 3], [2], [0]]
theorem esT9_right : Sy.right ((4 : Nat) : Int) ((2 : Nat) : Int) 0 esT9 = true := by decide
theorem esT9_last : Ro.Last 4 (fun i => Sy.rowOf 4 (Sy.nf esT9) (i : Int)) 2 := by
 refine ⟨by decide, fun j hj => ?_⟩
 match j, hj with
 | 0, _ => decide
 | 1, _ => decide
theorem esT9_rnd : natI (Ro.rnd 4 (fun i => Sy.rowOf 4 (Sy.nf esT9) (i : Int)) 2) = [0, 1, 2, 1] := by decide
theorem esT9_rep : Sg.mReplay (gp 4 2 0 esT9) tkT9 = some [0, 1, 2, 1] := by decide
theorem esT9_has (w : World) : BEdges.Has (w.alloc (.cells #[.int .i64 0, .int .i64 1, .int .i64 1, .int .i64 1, .int .i64 1, .int .i64 2, .int .i64 3, .int .i64 1, .int .i64 2] 72)) (.slice (some ⟨w.heap.size, 0, none⟩) 3 3) esT9 := by
 refine ⟨some ⟨w.heap.size, 0, none⟩, 3, rfl, fun j u hj => ⟨_, rfl, ?_⟩⟩
 rw [addz]
 refine cell0_of (heap_alloc_new w _) ?_
 rw [← Array.getElem?_toList]
 exact hj
theorem hasI_lit {w : World} {b : Nat} {zs : List Int} {cs : Array Value} (h : w.heap[b]? = some (.cells cs 3 (0, 0))) (hc : cs.toList = iC zs) {n c : Nat} (hn : n = zs.length) : HasI w (.slice (some ⟨b, 0, none⟩) n c) zs := by
 subst hn
 refine ⟨_, c, rfl, fun i z hz => ⟨_, rfl, ?_⟩⟩
 rw [addz]
 refine cell0_of h ?_
 rw [← Array.getElem?_toList, hc]
 unfold iC
 rw [List.getElem?_map, hz]
 rfl
theorem tkT9_has {w w4 : World} (hw : w4 = (((w.alloc (.cells #[.int .i64 0, .int .i64 1, .int .i64 2, .int .i64 3] 3)).alloc (.cells #[.int .i64 2] 3)).alloc (.cells #[.int .i64 0] 3)).alloc (.cells #[.slice (some ⟨w.heap.size, 0, none⟩) 4 4, .slice (some ⟨w.heap.size + 1, 0, none⟩) 1 1, .slice (some ⟨w.heap.size + 1 + 1, 0, none⟩) 1 1] 28)) :
 HasR w4 (.slice (some ⟨w.heap.size + 1 + 1 + 1, 0, none⟩) 3 3) tkT9 ∧ Below w.heap.size w w4 := by
 obtain ⟨wa, hwa⟩ : ∃ wa, wa = w.alloc (.cells #[.int .i64 0, .int .i64 1, .int .i64 2, .int .i64 3] 3) := ⟨_, rfl⟩
 obtain ⟨wb, hwb⟩ : ∃ wb, wb = wa.alloc (.cells #[.int .i64 2] 3) := ⟨_, rfl⟩
 obtain ⟨wc, hwc⟩ : ∃ wc, wc = wb.alloc (.cells #[.int .i64 0] 3) := ⟨_, rfl⟩
 rw [← hwa, ← hwb, ← hwc] at hw
 have sa : wa.heap.size = w.heap.size + 1 := by rw [hwa]; simp
 have sb : wb.heap.size = w.heap.size + 1 + 1 := by rw [hwb, World.size_alloc, sa]
 have sc : wc.heap.size = w.heap.size + 1 + 1 + 1 := by rw [hwc, World.size_alloc, sb]
 have ba : Below w.heap.size w wa := by rw [hwa]; exact (Below.refl _ _).alloc (Nat.le_refl _) _
 have bb : Below wa.heap.size wa wb := by rw [hwb]; exact (Below.refl _ _).alloc (Nat.le_refl _) _
 have bc : Below wb.heap.size wb wc := by rw [hwc]; exact (Below.refl _ _).alloc (Nat.le_refl _) _
 have bd : Below wc.heap.size wc w4 := by rw [hw]; exact (Below.refl _ _).alloc (Nat.le_refl _) _
 have h0 : w4.heap[w.heap.size]? = some (.cells #[.int .i64 0, .int .i64 1, .int .i64 2, .int .i64 3] 3 (0, 0)) := bup bd (bup bc (bup bb (by rw [hwa]; exact heap_alloc_new w _)))
 have h1 : w4.heap[w.heap.size + 1]? = some (.cells #[.int .i64 2] 3 (0, 0)) := bup bd (bup bc (by rw [hwb, ← sa]; exact heap_alloc_new wa _))
 have h2 : w4.heap[w.heap.size + 1 + 1]? = some (.cells #[.int .i64 0] 3 (0, 0)) := bup bd (by rw [hwc, ← sb]; exact heap_alloc_new wb _)
 have h3 : w4.heap[w.heap.size + 1 + 1 + 1]? = some (.cells #[.slice (some ⟨w.heap.size, 0, none⟩) 4 4, .slice (some ⟨w.heap.size + 1, 0, none⟩) 1 1, .slice (some ⟨w.heap.size + 1 + 1, 0, none⟩) 1 1] 28 (0, 0)) := by rw [hw, ← sc]; exact heap_alloc_new wc _
 refine ⟨⟨_, 3, rfl, fun i zs hz => ?_⟩, ba.trans ((bb.trans ((bc.trans (bd.mono bc.size)).mono bb.size)).mono ba.size)⟩
 match i, hz with
 | 0, hz => cases hz; exact ⟨_, _, rfl, by rw [addz]; exact cell0_of h3 rfl, hasI_lit h0 rfl rfl⟩
 | 1, hz => cases hz; exact ⟨_, _, rfl, by rw [addz]; exact cell0_of h3 rfl, hasI_lit h1 rfl rfl⟩
 | 2, hz => cases hz; exact ⟨_, _, rfl, by rw [addz]; exact cell0_of h3 rfl, hasI_lit h2 rfl rfl⟩
 | i + 3, hz => simp [tkT9] at hz
def PAl9 (w : World) : Prop := ∀ W, Below w.heap.size w W → Calls Tryz.prog 10 #[] W fun r w' => r = .returned (.bool true) ∧ Below W.heap.size W w'
set_option maxRecDepth 100000 in
set_option maxHeartbeats 4000000 in
theorem pAl9 (hS : SortOk 1000000) (aS aC a1 a3 : Addr) (w : World) (hE0 : EnvS w aS aC a1 a3) : PAl9 w := fun W hb => by
 have hE := hE0.below hb
 clear hE0 hb
 obtain ⟨w1, hw1⟩ : ∃ w1, w1 = W.alloc (.cells #[.int .i64 0, .int .i64 1, .int .i64 1, .int .i64 1, .int .i64 1, .int .i64 2, .int .i64 3, .int .i64 1, .int .i64 2] 72) := ⟨_, rfl⟩
 have hb1 : Below W.heap.size W w1 := by rw [hw1]; exact (Below.refl _ _).alloc (Nat.le_refl _) _
 have hv := esT9_has W
 rw [← hw1] at hv
 obtain ⟨w2, hw2⟩ : ∃ w2, w2 = w1.alloc (.cells #[.int .i64 4, .int .i64 2, .int .i64 0, .slice (some ⟨W.heap.size, 0, none⟩) 3 3] 24) := ⟨_, rfl⟩
 have hb2 : Below w1.heap.size w1 w2 := by rw [hw2]; exact (Below.refl _ _).alloc (Nat.le_refl _) _
 have hg2 : w2.heap[w1.heap.size]? = some (.cells #[.int .i64 4, .int .i64 2, .int .i64 0, .slice (some ⟨W.heap.size, 0, none⟩) 3 3] 24 (0, 0)) := by rw [hw2]; exact heap_alloc_new w1 _
 have hbW : Below W.heap.size W w2 := hb1.trans (hb2.mono hb1.size)
 have hCl := sclasses_ok hS 4 2 0 (.slice (some ⟨W.heap.size, 0, none⟩) 3 3) esT9 aS w2 (hE.below hbW).sy (hv.below hb2) (by decide) esT9_right
 have hRp := fun W4 vt (h4 : Below w2.heap.size w2 W4) (ht : HasR W4 vt tkT9) => replay_ok hS 4 2 0 (.slice (some ⟨W.heap.size, 0, none⟩) 3 3) vt esT9 tkT9 aS aC a1 a3 W4 ((hE.below hbW).below h4) ((hv.below hb2).below h4) ht (by decide) (by decide) esT9_right
 unfold sysV at hCl hRp
 have hsz : w1.heap.size = W.heap.size + 1 := by rw [hw1]; simp
 have H1 : Hid _ := And.intro hw2 (And.intro hw1 (And.intro hg2 (And.intro hCl (And.intro hbW hRp))))
 obtain ⟨x0, x1, x2, x3⟩ := four_cellsB hg2
 clear hw1 hb1 hv hw2 hb2 hg2 hbW hCl hE hRp
 go_enter Tryz.func10, Tryz.ntmps10
 go_upto_region 2 with fail
 rw [← H1.out.2.1, ← H1.out.1]
 rw [hsz] at x0 x1 x2 x3
 go_wp2_with fail
 refine Calls.mono H1.out.2.2.2.1 ?_
 rintro r w3 ⟨u3, R, rfl, hR, hO3, hb3⟩
 obtain rfl : R = 2 := hR.unique esT9_last
 rw [esT9_rnd] at hO3
 obtain ⟨a3', c3, hu3⟩ := row_shape hO3
 simp only [List.length_cons, List.length_nil] at hu3
 subst hu3
 have hg3 := bup hb3 H1.out.2.2.1
 rw [hsz] at hg3
 obtain ⟨gs3, hga, hl3⟩ := own_num hO3 (j := 3) (z := 1) rfl
 subst hga
 obtain ⟨w4, hw4⟩ : ∃ w4, w4 = (((w3.alloc (.cells #[.int .i64 0, .int .i64 1, .int .i64 2, .int .i64 3] 3)).alloc (.cells #[.int .i64 2] 3)).alloc (.cells #[.int .i64 0] 3)).alloc (.cells #[.slice (some ⟨w3.heap.size, 0, none⟩) 4 4, .slice (some ⟨w3.heap.size + 1, 0, none⟩) 1 1, .slice (some ⟨w3.heap.size + 1 + 1, 0, none⟩) 1 1] 28) := ⟨_, rfl⟩
 obtain ⟨hT4, hb4⟩ := tkT9_has hw4
 have hRp := H1.out.2.2.2.2.2 w4 _ (hb3.trans (hb4.mono hb3.size)) hT4
 rw [esT9_rep] at hRp
 have H3 : Hid _ := And.intro hRp (And.intro hb3 (And.intro hb4 (And.intro hw4 hl3)))
 clear x0 x1 x2 x3 hR hO3 hb3 hRp hT4 hb4 hw4 hl3
 obtain ⟨x0, x1, x2, x3⟩ := four_cellsB hg3
 clear hg3
 go_wp2_with fail
 rw [← H3.out.2.2.2.1]
 refine Calls.mono H3.out.1 ?_
 rintro r w5 ⟨hb5, u5, rfl, hO5⟩
 have e5 : natI [0, 1, 2, 1] = [0, 1, 2, 1] := rfl
 rw [e5] at hO5
 obtain ⟨a5, c5, hu5⟩ := row_shape hO5
 simp only [List.length_cons, List.length_nil] at hu5
 subst hu5
 obtain ⟨gs5, hga5, hl5⟩ := own_num hO5 (j := 2) (z := 2) rfl
 subst hga5
 have hl35 := cell_up (cell_up H3.out.2.2.2.2 H3.out.2.2.1) hb5
 have H5 : Hid _ := And.intro hb5 trivial
 clear hO5 hb5 x0 x1 x2 x3 e5
 go_wp2_with fail
 go_ret
 have h6 : Below W.heap.size W w3 := H1.out.2.2.2.2.1.trans (H3.out.2.1.mono H1.out.2.2.2.2.1.size)
 have h7 := h6.trans (H3.out.2.2.1.mono h6.size)
 exact ⟨rfl, h7.trans (H5.out.1.mono h7.size)⟩
end Go.Proofs.YtkiapldehlnndaaGreatDoor
/- Contracts of the book's SameSystem, Lent and Stays. -/
namespace Go.Proofs.YtkiapldehlnndaaGreatDoor
open Go.RowKit Go.Maps
attribute [local go_sem ↓] Go.wp_at_zero Go.wp_at_succ
def mk3 : List Sy.Ed := [(-7, 0, 0), (-7, 1, 0), (-7, 2, 0)]
def LentE (w : World) (B : Nat) (u : Value) (es : List Sy.Ed) : Prop := ∃ g cap, u = .slice (some ⟨g, 0, none⟩) es.length cap ∧ es.length + 3 ≤ cap ∧ BEdges.Own w B (.slice (some ⟨g, 0, none⟩) (es.length + 3) cap) (es ++ mk3)
theorem LentE.below {w w' : World} {B : Nat} {u : Value} {es : List Sy.Ed} (h : LentE w B u es) (hb : Below w.heap.size w w') : LentE w' B u es := by
 obtain ⟨g, cap, h1, h2, h3⟩ := h
 exact ⟨g, cap, h1, h2, trow_at h3 fun b hb' => hb.block b (h3.lt b hb').2⟩
theorem LentE.hasE {w : World} {B : Nat} {u : Value} {es : List Sy.Ed} (h : LentE w B u es) : HasE w u es := by
 obtain ⟨g, cap, rfl, h2, h3⟩ := h
 have h4 := HasE.of_own h3
 have h5 := hasE_take h4 es.length (by rw [List.length_append]; omega)
 rw [List.take_left' rfl] at h5
 exact h5
set_option maxRecDepth 100000 in
set_option maxHeartbeats 4000000 in
theorem lentS_any (n k s : Int) (v : Value) (es : List Sy.Ed) (w : World) (hn : es.length ≤ 1000000) (hv : BEdges.Has w v es) :
 Calls Tryz.prog 11 #[sysV n k s v] w fun e w' => ∃ u, e = .returned (sysV n k s u) ∧ LentE w' w.heap.size u es ∧ Below w.heap.size w w' := by
 obtain ⟨i0, hi0, hz0, hz1, hz2⟩ := info_parts BEdges.Tryz.infoE
 obtain ⟨w1, hw1⟩ : ∃ w1, w1 = (w.alloc (.cells #[.int .i64 n, .int .i64 k, .int .i64 s, v] 24)).alloc (.cells #[.int .i64 0, .int .i64 0, .int .i64 0, .slice none 0 0] 24) := ⟨_, rfl⟩
 have hb1 : Below w.heap.size w w1 := by rw [hw1]; exact ((Below.refl _ _).alloc (Nat.le_refl _) _).alloc (by simp) _
 have hg : w1.heap[w.heap.size + 1]? = some (.cells #[.int .i64 0, .int .i64 0, .int .i64 0, .slice none 0 0] 24 (0, 0)) := by rw [hw1]; exact two_alloc w _ _
 have hg0 : w1.heap[w.heap.size]? = some (.cells #[.int .i64 n, .int .i64 k, .int .i64 s, v] 24 (0, 0)) := by rw [hw1, Below.heap_alloc _ _ _ (by simp)]; exact heap_alloc_new w _
 obtain ⟨ao, cap, rfl, _⟩ := _root_.id hv
 have hC := BEdges.copy_of (hv.below hb1)
 obtain ⟨m, hm⟩ : ∃ m, m = es.length := ⟨_, rfl⟩
 rw [← hm] at hC hn hg0 hw1 ⊢
 have hcl : (BEdges.C es).length = m * 3 := by rw [BEdges.C_len, hm]
 have HC : Hid _ := And.intro hC (And.intro hb1 (And.intro hg (And.intro hg0 (And.intro hw1 hm))))
 have hL1 : m ≤ maxLen := by unfold maxLen; omega
 have hL8 : m * 24 ≤ 140737488355328 := by omega
 have hle1 : w.heap.size ≤ w1.heap.size := hb1.size
 unfold sysV
 clear hv hC hb1 hg hg0 hw1 hm
 go_enter Tryz.func11, Tryz.ntmps11
 go_upto_region 1 with fail
 rw [← HC.out.2.2.2.2.1]
 obtain ⟨x0, x1, x2, x3⟩ := four_cells HC.out.2.2.2.1
 go_wp2_with (at_builtin; refine wpList_copy_at _ rfl _ _ 22 rfl w.heap.size 72 i0 (.agg #[.int .i64 0, .int .i64 0, .int .i64 0]) 3 24 Tryz.underlying22 hi0 hz0 hz1 hz2 rfl (by decide) rfl ao m cap (BEdges.C es) rfl HC.out.1.1 hcl HC.out.1.2 (BEdges.C_one _) hL1 hL8 hle1 ?_; intro v2 w2 hown2 hgrow2 hat2; have H2 : Hid _ := And.intro hown2 (tgrown0 hgrow2); clear hown2 hgrow2 hat2)
 clear x0 x1 x2 x3
 go_loopg [3, 4] 3 (fun q lv iv wr => ∃ (i : Nat), q = 3 - i ∧ i ≤ 3 ∧ iv = .int .i64 i ∧ BEdges.Own wr w.heap.size lv (es ++ mk3.take i) ∧ Below w.heap.size w wr ∧ wr.heap[w.heap.size + 1]? = some (.cells #[.int .i64 0, .int .i64 0, .int .i64 0, .slice none 0 0] 24 (0, 0)) ∧ wr.heap[w.heap.size]? = some (.cells #[.int .i64 n, .int .i64 k, .int .i64 s, .slice ao m cap] 24 (0, 0)))
 case atStart => exact ⟨0, rfl, by omega, rfl, by rw [List.take_zero, List.append_nil]; unfold BEdges.Own; rw [← HC.out.2.2.2.2.2]; exact H2.out.1, HC.out.2.1.trans (H2.out.2.mono hle1), (H2.out.2.block _ (t_lt HC.out.2.2.1)).trans HC.out.2.2.1, (H2.out.2.block _ (t_lt HC.out.2.2.2.1)).trans HC.out.2.2.2.1⟩
 case round =>
  obtain ⟨i, rfl, hi, rfl, hO, hb, hg, hg0⟩ := hrel
  clear H2
  have hlen : (es ++ mk3.take i).length = m + i := by rw [List.length_append, List.length_take, ← HC.out.2.2.2.2.2]; show m + min i 3 = _; omega
  obtain ⟨al, cl, rfl⟩ := row_shape hO
  rw [hlen]
  obtain ⟨N, hN⟩ : ∃ N, N = m + i := ⟨_, rfl⟩
  have hO' : wr.ownsRow w.heap.size 72 3 (.slice al N cl) N (BEdges.C (es ++ mk3.take i)) := by have h1 := hO; unfold BEdges.Own at h1; rw [hlen, ← hN] at h1; exact h1
  rw [← hN]
  have HR : Hid _ := And.intro hO' (And.intro hb (And.intro hg (And.intro hg0 hN)))
  have hNl : N ≤ 1000003 := by omega
  clear hO hO' hb hg hg0 hlen hN
  by_cases hlt : i < 3
  ·have q1 : (i : Int) < 3 := by omega
   have hml : N + 1 ≤ maxLen := by unfold maxLen; omega
   have hby : (N + 1) * 24 ≤ 140737488355328 := by omega
   have hle : w.heap.size ≤ (wr.alloc (.cells #[.int .i64 (-7), .int .i64 i, .int .i64 0] 72)).heap.size := by have := HR.out.2.1.size; simp; omega
   go_wp2_with (at_builtin; refine wpList_append_own_at _ rfl _ _ 22 rfl w.heap.size 72 i0 (.agg #[.int .i64 0, .int .i64 0, .int .i64 0]) 3 24 Tryz.underlying22 hi0 hz0 hz1 hz2 rfl (by decide) (.slice al N cl) N (BEdges.C (es ++ mk3.take i)) rfl (HR.out.1.alloc _) ⟨wr.heap.size, 0, none⟩ 1 1 [.int .i64 (-7), .int .i64 i, .int .i64 0] rfl rfl (World.news_of_block (cs := #[.int .i64 (-7), .int .i64 i, .int .i64 0]) (t := 72) (fr := (0, 0)) (heap_alloc_new wr _)) (by simp [Value.oneCell']) hml hby hle ?_; intro v3 w3 hown3 hgrow3 hnil3 hat3; have H3 : Hid _ := And.intro hown3 hgrow3; clear hown3 hgrow3 hnil3 hat3)
   have hk3 := grown_alloc H3.out.2
   have hn1 := own_bk HR.out.1 HR.out.2.2.1 (by decide)
   have hn2 := own_bk HR.out.1 HR.out.2.2.2.1 (by decide)
   have HK : Hid _ := And.intro hk3 (And.intro hn1 hn2)
   clear hk3 hn1 hn2
   go_roundg (3 - (i + 1))
   case measure => omega
   case rel =>
    have hz : mk3[i]? = some (-7, (i : Int), 0) := by
     have h9 : i = 0 ∨ i = 1 ∨ i = 2 := by omega
     rcases h9 with rfl | rfl | rfl <;> rfl
    exact ⟨i + 1, rfl, by omega, by go_num, by
     rw [take_succ_of hz, ← List.append_assoc]
     unfold BEdges.Own
     rw [BEdges.C_snoc, List.length_append]
     have h1 : (es ++ mk3.take i).length = N := by rw [List.length_append, List.length_take, ← HC.out.2.2.2.2.2, HR.out.2.2.2.2]; show m + min i 3 = _; omega
     rw [h1]
     exact H3.out.1, HR.out.2.1.trans (HK.out.1.below HR.out.2.1.size fun b hb => (HR.out.1.lt b hb).1), (HK.out.1.block _ (t_lt HR.out.2.2.1) fun e => HK.out.2.1 e).trans HR.out.2.2.1, (HK.out.1.block _ (t_lt HR.out.2.2.2.1) fun e => HK.out.2.2 e).trans HR.out.2.2.2.1⟩
  ·obtain rfl : i = 3 := by omega
   have q1 : ¬ ((3 : Nat) : Int) < 3 := by omega
   obtain ⟨g, c, hf, hgl, _⟩ := World.ownsRow.form HR.out.1 (by have := HR.out.2.2.2.2; omega)
   injection hf with e1 e2 e3
   subst e1; subst e3
   obtain ⟨_, _, hcap⟩ : N ≤ cl ∧ True ∧ N ≤ cl := by
    rcases HR.out.1.2 with ⟨h9, _⟩ | ⟨g2, c2, cur, h9, _, _, hc2, _⟩
    ·cases h9
    ·injection h9 with f1 f2 f3; subst f3; exact ⟨hc2, trivial, hc2⟩
   have p0 : (0 : Int) ≤ (m : Int) := by omega
   have p1 : (m : Int) ≤ (cl : Int) := by have := HR.out.2.2.2.2; omega
   obtain ⟨y0, y1, y2, y3⟩ := four_cells HR.out.2.2.1
   obtain ⟨x0, x1, x2, x3⟩ := four_cells HR.out.2.2.2.1
   have z0 := blk_free HR.out.2.2.1 0
   have z1 := blk_free HR.out.2.2.1 1
   have z2 := blk_free HR.out.2.2.1 2
   have z3 := blk_free HR.out.2.2.1 3
   have z4 := blk_free HR.out.2.2.2.1 3
   have nn : ¬ w.heap.size + 1 = w.heap.size := by omega
   have nn2 : ¬ w.heap.size = w.heap.size + 1 := by omega
   have HE : Hid _ := hcap
   clear e2 hcap
   go_wp2_with fail
   have hgm : (wr.setCell ⟨w.heap.size, 3, none⟩ (.slice (some ⟨g, 0, none⟩) m cl)).heap[w.heap.size + 1]? = some (.cells #[.int .i64 0, .int .i64 0, .int .i64 0, .slice none 0 0] 24 (0, 0)) := (set_other _ _ _ _ _ nn).trans HR.out.2.2.1
   have hbm : Below w.heap.size w (wr.setCell ⟨w.heap.size, 3, none⟩ (.slice (some ⟨g, 0, none⟩) m cl)) := HR.out.2.1.setCell (Nat.le_refl _) _
   have hgf := four_set (a0 := .int .i64 n) (a1 := .int .i64 k) (a2 := .int .i64 s) (a3 := .slice (some ⟨g, 0, none⟩) m cl) hgm
   have hbf := four_below hbm (b := w.heap.size + 1) (by omega) (.int .i64 n) (.int .i64 k) (.int .i64 s) (.slice (some ⟨g, 0, none⟩) m cl)
   have hOf : (((((wr.setCell ⟨w.heap.size, 3, none⟩ (.slice (some ⟨g, 0, none⟩) m cl)).setCell ⟨w.heap.size + 1, 0, none⟩ (.int .i64 n)).setCell ⟨w.heap.size + 1, 1, none⟩ (.int .i64 k)).setCell ⟨w.heap.size + 1, 2, none⟩ (.int .i64 s)).setCell ⟨w.heap.size + 1, 3, none⟩ (.slice (some ⟨g, 0, none⟩) m cl)).ownsRow w.heap.size 72 3 (.slice (some ⟨g, 0, none⟩) N cl) N (BEdges.C (es ++ mk3.take 3)) := trow_at HR.out.1 fun b hb => by
    have h1 := own_bk HR.out.1 HR.out.2.2.1 (by decide)
    have h2 := own_bk HR.out.1 HR.out.2.2.2.1 (by decide)
    have e1 : b ≠ w.heap.size + 1 := fun e => h1 (by rw [← e]; exact hb)
    have e2 : b ≠ w.heap.size := fun e => h2 (by rw [← e]; exact hb)
    rw [set_other _ _ _ _ _ e1, set_other _ _ _ _ _ e1, set_other _ _ _ _ _ e1, set_other _ _ _ _ _ e1, set_other _ _ _ _ _ e2]
   generalize (((((wr.setCell ⟨w.heap.size, 3, none⟩ (.slice (some ⟨g, 0, none⟩) m cl)).setCell ⟨w.heap.size + 1, 0, none⟩ (.int .i64 n)).setCell ⟨w.heap.size + 1, 1, none⟩ (.int .i64 k)).setCell ⟨w.heap.size + 1, 2, none⟩ (.int .i64 s)).setCell ⟨w.heap.size + 1, 3, none⟩ (.slice (some ⟨g, 0, none⟩) m cl)) = wf at hgf hbf hOf ⊢
   clear y0 y1 y2 y3 z0 z1 z2 z3 z4 x0 x1 x2 x3
   obtain ⟨c0, c1, c2, c3⟩ := four_cells hgf
   refine bodyPost_ret (v := .agg #[.int .i64 n, .int .i64 k, .int .i64 s, .slice (some ⟨g, 0, none⟩) m cl]) (by simp [results, Tryz.results11, go_sem, c0, c1, c2, c3]) rfl ⟨_, rfl, ⟨g, cl, by rw [HC.out.2.2.2.2.2], by have := HE.out; have := HR.out.2.2.2.2; have := HC.out.2.2.2.2.2; omega, ?_⟩, hbf⟩
   have h1 : N = es.length + 3 := by rw [HR.out.2.2.2.2, HC.out.2.2.2.2.2]
   unfold BEdges.Own
   rw [List.length_append]
   show wf.ownsRow w.heap.size 72 3 (.slice (some ⟨g, 0, none⟩) (es.length + 3) cl) (es.length + 3) (BEdges.C (es ++ mk3))
   rw [← h1]
   exact hOf
set_option maxRecDepth 100000 in
set_option maxHeartbeats 4000000 in
theorem staysS_any (n k s n' k' s' : Int) (B : Nat) (va vb : Value) (es : List Sy.Ed) (w : World) (hn : es.length ≤ 1000000) (hA : LentE w B va es) (hB : BEdges.Has w vb es) :
 Calls Tryz.prog 15 #[sysV n k s va, sysV n' k' s' vb] w fun e w' => e = .returned (.bool true) ∧ Below w.heap.size w w' := by
 obtain ⟨w1, hw1⟩ : ∃ w1, w1 = (w.alloc (.cells #[.int .i64 n, .int .i64 k, .int .i64 s, va] 24)).alloc (.cells #[.int .i64 n', .int .i64 k', .int .i64 s', vb] 24) := ⟨_, rfl⟩
 have hb1 : Below w.heap.size w w1 := by rw [hw1]; exact ((Below.refl _ _).alloc (Nat.le_refl _) _).alloc (by simp) _
 have hg0 : w1.heap[w.heap.size]? = some (.cells #[.int .i64 n, .int .i64 k, .int .i64 s, va] 24 (0, 0)) := by rw [hw1, Below.heap_alloc _ _ _ (by simp)]; exact heap_alloc_new w _
 have hS := BEdges.same_b va vb es w1 (by omega) (hA.hasE.below hb1 |> fun ⟨_, _, _, _, h⟩ => h) (hB.below hb1)
 obtain ⟨bo, cbp, rfl, _⟩ := hB
 have hA1 := hA.below hb1
 obtain ⟨g, cap, rfl, hcap, _⟩ := hA
 obtain ⟨m, hm⟩ : ∃ m, m = es.length := ⟨_, rfl⟩
 rw [← hm] at hS hcap hg0 hw1 hn ⊢
 have H1 : Hid _ := And.intro hS (And.intro hb1 (And.intro hg0 (And.intro hw1 (And.intro hm hA1))))
 unfold sysV
 have nn : ¬ w.heap.size + 1 = w.heap.size := by omega
 have e3 : IntKind.i64.wrap ((m : Int) + 3) = (m : Int) + 3 := by rw [IntKind.wrap_i64]; omega
 have p0 : (0 : Int) ≤ (m : Int) + 3 := by omega
 have p1 : (m : Int) + 3 ≤ (cap : Int) := by omega
 clear hS hb1 hg0 hw1 hm hA1
 go_enter Tryz.func15, Tryz.ntmps15
 go_wp2_with fail
 rw [← H1.out.2.2.2.1]
 refine Calls.mono H1.out.1 ?_
 rintro e w2 ⟨rfl, hb2⟩
 have hg2 := (hb2.block _ (t_lt H1.out.2.2.1)).trans H1.out.2.2.1
 obtain ⟨x0, x1, x2, x3⟩ := four_cells hg2
 have hA2 := H1.out.2.2.2.2.2.below hb2
 obtain ⟨g', cap', hu, _, hO⟩ := hA2
 injection hu with f1 f2 f3
 injection f1 with f1
 injection f1 with f1
 subst f1; subst f3
 have H2 : Hid _ := And.intro (H1.out.2.1.trans (hb2.mono H1.out.2.1.size)) (And.intro hO hg2)
 clear hb2 hg2 hO f2
 go_wp2_with fail
 go_loopg [6] 3 (fun q iv wr => ∃ i : Nat, q = 3 - i ∧ i ≤ 3 ∧ iv = .int .i64 i ∧ Below w2.heap.size w2 wr)
 case atStart => exact ⟨0, rfl, by omega, rfl, Below.refl _ _⟩
 case round =>
  obtain ⟨i, rfl, hi, rfl, hb⟩ := hrel
  by_cases hlt : i < 3
  ·have q1 : (i : Int) < 3 := by omega
   have hz : (es ++ mk3)[m + i]? = some (-7, (i : Int), 0) := by
    rw [H1.out.2.2.2.2.1, List.getElem?_append_right (by omega), Nat.add_sub_cancel_left]
    have h9 : i = 0 ∨ i = 1 ∨ i = 2 := by omega
    rcases h9 with rfl | rfl | rfl <;> rfl
   obtain ⟨g2, hg3, c0, c1, c2⟩ := own_edge (trow_at (w' := wr) H2.out.2.1 fun b hb' => hb.block b (H2.out.2.1.lt b hb').2) hz
   cases hg3
   have y3 := cell_up x3 hb
   obtain ⟨M, hM⟩ : ∃ M, M = m + i := ⟨_, rfl⟩
   have e4 : IntKind.i64.wrap ((m : Int) + (i : Int)) = (M : Int) := by rw [IntKind.wrap_i64]; omega
   have r0 : (0 : Int) ≤ (M : Int) := by omega
   have r1 : (M : Int) < (m : Int) + 3 := by omega
   rw [← hM] at c0 c1 c2
   have HB : Hid _ := hb
   clear hb hz hM
   go_wp2_with fail
   go_roundg (3 - (i + 1))
   case measure => omega
   case rel => exact ⟨i + 1, rfl, by omega, by go_num, by first | exact HB.out | exact HB.out.alloc HB.out.size _⟩
  ·obtain rfl : i = 3 := by omega
   have q1 : ¬ ((3 : Nat) : Int) < 3 := by omega
   have HB : Hid _ := hb
   clear hb
   go_wp2_with fail
   go_ret
   exact ⟨rfl, H2.out.1.trans (HB.out.mono H2.out.1.size)⟩
end Go.Proofs.YtkiapldehlnndaaGreatDoor
