/- Texts of this claim, joined: TsClose, TsPush, TsGo, TsGoF, TsFrom, SyArr. -/
import Derived.Test.YtplofbabfkkimaaDoorPart1
import Derived.Deep.LoopGhost
import Derived.BigRegion
import Derived.Test.YtplofbabfkkimaaDoorPart2
import Derived.Test.YtplofbabfkkimaaDoorPart0
import Derived.Laws.MakeOwn
/- tauscc: contract of the walk's close. -/
namespace Go.Proofs.YtplofbabfkkimaaDoor.Ts
open Go.RowKit Go.Maps
attribute [local go_sem ↓] Go.wp_at_zero Go.wp_at_succ
/-- What close makes of the walk. -/
def Closed (w w' : World) (B r : Nat) (x : Wk) (v : Nat) (lo nu : Int) (pre post : List Nat) : Prop := (lo < nu → WkM w' B r x ∧ Grew w w' r x x) ∧ (¬ lo < nu → ∃ vo, WkM w' B r (x.pop v pre (v :: post) vo) ∧ Grew w w' r x (x.pop v pre (v :: post) vo))
set_option linter.unusedSimpArgs false in
set_option maxRecDepth 100000 in
set_option maxHeartbeats 4000000 in
theorem close_any (B r : Nat) (x : Wk) (v : Nat) (lo nu : Int) (pre post : List Nat) (w : World) (hM : WkM w B r x) (hlo : x.ls[v]? = some lo) (hnu : x.ns[v]? = some nu) (hc : x.cs[v]? = some (-1)) (ho : x.os = cast (pre ++ v :: post)) (hnd : (pre ++ v :: post).Nodup) (hin : ∀ u ∈ pre ++ v :: post, u < x.cs.length) (hlen : x.os.length ≤ 100000) :
    Calls Tryd.prog 67 #[.pointer (some ⟨r, 0, none⟩), .int .i64 v] w fun e w' => e = .returned (.tuple #[]) ∧ Closed w w' B r x v lo nu pre post := by
  obtain ⟨_, _, _, _, c4, c5, _⟩ := seven_cells hM.box
  obtain ⟨gn, on, cn, hvn, _, cnn, _⟩ := que_cell (hM.q.q 1 (x.vn, x.ns) rfl) hnu
  obtain ⟨gl, ol, cl, hvl, _, cll, _⟩ := que_cell (hM.q.q 2 (x.vl, x.ls) rfl) hlo
  simp only at hvn hvl
  have hvN := (List.getElem?_eq_some_iff.1 hnu).1
  have hvL := (List.getElem?_eq_some_iff.1 hlo).1
  obtain ⟨N, hN⟩ : ∃ N, N = x.ns.length := ⟨_, rfl⟩
  obtain ⟨M, hMl⟩ : ∃ M, M = x.ls.length := ⟨_, rfl⟩
  rw [← hMl] at hvl hvL
  rw [← hN] at hvn hvN
  rw [hvn] at c4
  rw [hvl] at c5
  have p0 : (0 : Int) ≤ (v : Int) := by omega
  have p1 : (v : Int) < (N : Int) := by omega
  have p2 : (v : Int) < (M : Int) := by omega
  have H : Hid _ := And.intro hM (And.intro hc (And.intro ho (And.intro hnd (And.intro hin hlen))))
  clear hM hlo hnu hc ho hnd hin hlen hvn hvl hN hMl hvN hvL
  go_enter Tryd.func67, Tryd.ntmps67
  go_upto_region 0 with fail
  by_cases hlt : lo < nu
  · go_region
    go_wp2_with fail
    (try simp only [Exit.inBlock, Exit.then])
    refine bodyPost_ret (results_none rfl _ _ _) rfl ?_
    refine ⟨rfl, fun _ => ⟨H.out.1.below (Below.refl _ _).drew, (Grew.refl _ _ _).below (Below.refl _ _).drew⟩, fun h => absurd hlt (by omega)⟩
  · have hp0 : x.pop v (pre ++ v :: post) [] x.vo = x := by unfold Wk.pop; rw [← H.out.2.2.1]; rfl
    have hst : ClAt w w.drew B r x v pre post (pre ++ v :: post) [] x.vo := ⟨by simp, by simp, by rw [hp0]; exact H.out.1.below (Below.refl _ _).drew, by rw [hp0]; exact (Grew.refl _ _ _).below (Below.refl _ _).drew⟩
    have HS : Hid _ := And.intro hst hp0
    clear hst hp0
    go_region
    go_wp2_with fail
    obtain ⟨K, hK⟩ : ∃ K, K = post.length + 1 := ⟨_, rfl⟩
    go_loopg [] K (fun g wr => ∃ (rest popped : List Nat) (vo : Value), g = rest.length - pre.length ∧ ClAt w wr B r x v pre post rest popped vo)
    case atStart => exact ⟨pre ++ v :: post, [], x.vo, by simp; omega, HS.out.1⟩
    case round =>
      obtain ⟨rest, popped, vo, rfl, hA⟩ := hrel
      obtain ⟨_, _, b2, _, _, _, b6⟩ := seven_cells hA.m.box
      have hvc : v < (setAll x.cs popped (v : Int)).length := by rw [setAll_length]; exact H.out.2.2.2.2.1 v (by simp)
      obtain ⟨zc, hzc⟩ : ∃ z, (setAll x.cs popped (v : Int))[v]? = some z := ⟨_, List.getElem?_eq_getElem hvc⟩
      obtain ⟨gc, oc, cc, hcc, _, ccv, _⟩ := que_cell (hA.m.q.q 3 (x.vc, setAll x.cs popped (v : Int)) rfl) hzc
      simp only at hcc
      obtain ⟨C, hC⟩ : ∃ C, C = (setAll x.cs popped (v : Int)).length := ⟨_, rfl⟩
      rw [← hC] at hcc hvc
      have b6' : wr.cell? ⟨r, 6, none⟩ = some (.slice (some ⟨gc, oc, none⟩) C cc) := by rw [← hcc]; exact b6
      have q1 : (v : Int) < (C : Int) := by omega
      clear b6
      by_cases hlt2 : pre.length < rest.length
      · obtain ⟨rest', u, he, hle, hall⟩ := hA.more hlt2
        have hnp := hA.in_rest H.out.2.2.2.1 hlt2
        have hz : zc = -1 := by rw [setAll_not _ _ _ hnp, H.out.2.1] at hzc; exact (Option.some.inj hzc).symm
        subst hz
        subst he
        obtain ⟨R, hR⟩ : ∃ R, R = rest'.length := ⟨_, rfl⟩
        have hos : (cast (rest' ++ [u]))[R]? = some (u : Int) := by rw [cast_snoc, hR, ← cast_length rest']; simp
        obtain ⟨go, oo, co, hoe, hoc, cou, _⟩ := que_cell (hA.m.q.q 0 (vo, cast (rest' ++ [u])) rfl) hos
        simp only at hoe hoc
        rw [cast_length, List.length_append, ← hR] at hoe hoc
        simp only [List.length_cons, List.length_nil, Nat.zero_add] at hoe hoc
        subst hoe
        have b2' : wr.cell? ⟨r, 2, none⟩ = some (.slice (some ⟨go, oo, none⟩) (R + 1) co) := b2
        obtain ⟨no, hno⟩ : ∃ no, no = R + 1 := ⟨_, rfl⟩
        rw [← hno] at b2' hoc
        have hub : u < C := by rw [hC, setAll_length]; exact H.out.2.2.2.2.1 u (by rw [← hall]; simp)
        obtain ⟨zu, hzu⟩ : ∃ z, (setAll x.cs popped (v : Int))[u]? = some z := ⟨_, List.getElem?_eq_getElem (by omega)⟩
        have h9 := hA.m.q.q 3 (x.vc, setAll x.cs popped (v : Int)) rfl
        simp only at h9
        obtain ⟨gc', oc', cc', hcc', _, ccu, fcu⟩ := que_cell h9 hzu
        rw [hcc] at hcc'
        injection hcc' with e1 e2 e3
        injection e1 with e1
        injection e1 with e4 e5
        subst e4; subst e5
        have hRl : R ≤ 100000 := by
          have h8 := H.out.2.2.2.2.2
          have h7 := congrArg List.length hall
          rw [H.out.2.2.1, cast_length, ← h7] at h8
          simp at h8
          omega
        have q2 : IntKind.i64.wrap ((no : Int) - 1) = (R : Int) := by rw [IntKind.wrap_i64]; omega
        have q3 : (0 : Int) ≤ (R : Int) := by omega
        have q4 : (R : Int) < (no : Int) := by omega
        have q5 : (0 : Int) ≤ (u : Int) := by omega
        have q6 : (u : Int) < (C : Int) := by omega
        have q7 : (R : Int) ≤ (co : Int) := by omega
        have HA : Hid _ := And.intro hA (And.intro hall (And.intro hle (And.intro hR (And.intro hno (And.intro hcc hC)))))
        clear hA hall hle hR hno hcc hC hzc hzu h9 e2 e3 hos b2
        go_upto_region 3 with fail
        go_region
        obtain ⟨w2, hw2⟩ : ∃ w2, w2 = (wr.setCell ⟨gc, oc + u, none⟩ (.int .i64 (v : Int))).drew := ⟨_, rfl⟩
        rw [← hw2]
        obtain ⟨x2, hx2⟩ : ∃ x2 : Wk, x2 = { x with vo := .slice (some ⟨go, oo, none⟩) (R + 1) co, os := cast (rest' ++ [u]), cs := (setAll x.cs popped (v : Int)).set u (v : Int) } := ⟨_, rfl⟩
        have h2 : WkM w2 B r x2 ∧ Grew w w2 r x x2 := by
          obtain ⟨e1, e2⟩ := HA.out.1.m.set (x' := x2) (k := 3) (g := gc) (off := oc) (n := C) (cap := cc) (zs := setAll x.cs popped (v : Int)) (i := u) (by show some (x.vc, setAll x.cs popped (v : Int)) = _; rw [HA.out.2.2.2.2.2.1]) (by have := HA.out.2.2.2.2.2.2; omega) (v : Int) (by rw [hx2]; show [_, _, _, _] = [_, _, _, _]; simp only [Wk.pop]; rw [HA.out.2.2.2.2.2.1]) (by rw [hx2]; rfl) ⟨by rw [hx2]; rfl, by rw [hx2]; rfl⟩
          rw [hw2]
          exact ⟨e1.below (Below.refl _ _).drew, HA.out.1.gw.trans (e2.below (Below.refl _ _).drew)⟩
        obtain ⟨_, _, d2, _, _, _, _⟩ := seven_cells h2.1.box
        have d2' : w2.cell? ⟨r, 2, none⟩ = some (.slice (some ⟨go, oo, none⟩) no co) := by rw [d2, hx2, HA.out.2.2.2.2.1]
        have df := blk_free h2.1.box 2
        have H2 : Hid _ := And.intro h2 hx2
        clear h2 hx2 hw2 d2 b2' b6' ccv ccu fcu cou
        go_wp2_with fail
        have hvo : x2.vo = .slice (some ⟨go, oo, none⟩) (R + 1) co := by rw [H2.out.2]
        have hq0 : Que w2 B (.slice (some ⟨go, oo, none⟩) (R + 1) co) (cast rest' ++ [(u : Int)]) := by
          have h9 := H2.out.1.1.q.q 0 (x2.vo, x2.os) rfl
          simp only at h9
          rw [hvo, show x2.os = cast rest' ++ [(u : Int)] by rw [H2.out.2]; exact cast_snoc _ _] at h9
          exact h9
        have hpo := que_pop hq0
        rw [cast_length, ← HA.out.2.2.2.1] at hpo
        have hfin := H2.out.1.1.putOpen (w1 := w2) (v' := .slice (some ⟨go, oo, none⟩) R co) (zs' := cast rest') (Kept.refl _ _) hpo.1 (.inl (by rw [hvo]; rfl))
        have hx : x.pop v rest' (u :: popped) (.slice (some ⟨go, oo, none⟩) R co) = { x2 with vo := .slice (some ⟨go, oo, none⟩) R co, os := cast rest' } := by
          rw [H2.out.2]
          rfl
        go_roundg (rest'.length - pre.length)
        case measure => have := HA.out.2.2.1; simp; omega
        case rel =>
          refine ⟨rest', u :: popped, .slice (some ⟨go, oo, none⟩) R co, rfl, HA.out.2.1, HA.out.2.2.1, ?_, ?_⟩
          · rw [hx]; exact hfin.1
          · rw [hx]; exact H2.out.1.2.trans hfin.2
      · have hre := hA.end (by have := hA.le; omega)
        have hz : zc = (v : Int) := by rw [hre.2, setAll_in _ _ _ List.mem_cons_self (by have := setAll_length x.cs popped (v : Int); omega)] at hzc; exact (Option.some.inj hzc).symm
        subst hz
        have q2 : ¬ (v : Int) = -1 := by omega
        have HA : Hid _ := And.intro hA hre
        clear hA hre hzc hC hcc
        go_wp2_with fail
        go_end0
        refine ⟨rfl, fun h => absurd h (by omega), fun _ => ⟨vo, ?_, ?_⟩⟩
        · have h9 := HA.out.1.m; rw [HA.out.2.1, HA.out.2.2] at h9; exact h9
        · have h9 := HA.out.1.gw; rw [HA.out.2.1, HA.out.2.2] at h9; exact h9
end Go.Proofs.YtplofbabfkkimaaDoor.Ts
/- The walk's path in memory: one more entry, its last entry gone. -/
namespace Go.Proofs.YtplofbabfkkimaaDoor.Ts
open Go.RowKit Go.Maps
/-- The path stands anew, at its place or in new memory, and the box tells it. -/
theorem WkM.putPath {w w1 : World} {B r : Nat} {x : Wk} {v' : Value} {ps' : List (Nat × Nat × Nat)} (h : WkM w B r x) (hk : Kept (fun b => x.vp.ownBlock = some b) w w1) (hq : w1.ownsRow B 111 3 v' ps'.length (pC ps')) (hat : v'.ownBlock = x.vp.ownBlock ∨ ∀ b, v'.ownBlock = some b → w.heap.size ≤ b) :
    WkM (w1.setCell ⟨r, 1, none⟩ v') B r { x with vp := v', ps := ps' } ∧ Grew w (w1.setCell ⟨r, 1, none⟩ v') r x { x with vp := v', ps := ps' } := by
  have hr : w1.heap[r]? = w.heap[r]? := hk.block r (t_lt h.box) fun e => h.r_foot (.inl e)
  have hne : ∀ b, v'.ownBlock = some b → b ≠ r := fun b hb e => by
    rcases hat with h1 | h1
    · exact h.r_foot (.inl (by rw [← h1, ← e]; exact hb))
    · have := h1 b hb; have := t_lt h.box; omega
  refine ⟨⟨box_put (hr.trans h.box) v', own_up hq (Kept.setCell w1 r 1 v') fun b hb e => hne b hb e, ?_, h.up⟩, ⟨(hk.mono fun b _ e => .inr (.inl e)).trans ((Kept.setCell w1 r 1 v').mono fun b _ e => .inl e), fun b hb => ?_⟩⟩
  · exact (h.q.kept hk fun b hb e => h.path_list e hb).kept (Kept.setCell w1 r 1 v') fun b hb e => h.r_foot (.inr (by rw [← e]; exact hb))
  · rcases hb with hb | hb
    · rcases hat with h1 | h1
      · exact .inl (.inl (by rw [← h1]; exact hb))
      · exact .inr (h1 b hb)
    · exact .inl (.inr hb)
theorem path_pop {w : World} {B gp n cap : Nat} {ps : List (Nat × Nat × Nat)} {p : Nat × Nat × Nat} (h : w.ownsRow B 111 3 (.slice (some ⟨gp, 0, none⟩) n cap) (ps ++ [p]).length (pC (ps ++ [p]))) : w.ownsRow B 111 3 (.slice (some ⟨gp, 0, none⟩) ps.length cap) ps.length (pC ps) ∧ ps.length ≤ cap ∧ n = ps.length + 1 := by
  rcases h.2 with ⟨e, _⟩ | ⟨g, c, cur, e, hB, hg, hn, hm, hs, ht⟩
  · cases e
  · cases e
    simp only [List.length_append, List.length_cons, List.length_nil, Nat.zero_add] at hn ht
    refine ⟨⟨pC_length ps, .inr ⟨_, _, cur, rfl, hB, hg, by omega, hm, hs, ?_⟩⟩, by omega, by simp⟩
    have h1 := congrArg (List.take (ps.length * 3)) ht
    rw [List.take_take, Nat.min_eq_left (by omega)] at h1
    rw [h1, pC_snoc, List.take_append_of_le_length (by rw [pC_length]; exact Nat.le_refl _), ← pC_length, List.take_length]
end Go.Proofs.YtplofbabfkkimaaDoor.Ts
/- tauscc: contract of the walk's goOn, at a state that has its number. -/
namespace Go.Proofs.YtplofbabfkkimaaDoor.Ts
open Go.RowKit Go.Maps
attribute [local go_sem ↓] Go.wp_at_zero Go.wp_at_succ
theorem Tryd.infoVi : (Tryd.prog.info? 111).map (fun i => (i.zero, i.size, i.bytes)) = some (some (.agg #[.int .i64 0, .int .i64 0, .int .i64 0]), 3, 24) := by kernel_rfl
theorem nodup_sub {α : Type} [DecidableEq α] : ∀ (l m : List α), l.Nodup → (∀ a ∈ l, a ∈ m) → l.length ≤ m.length
  | [], _, _, _ => Nat.zero_le _
  | a :: r, m, hd, h => by
    obtain ⟨h1, h2⟩ := List.nodup_cons.1 hd
    have h3 := nodup_sub r (m.erase a) h2 fun b hb => by
      refine (List.mem_erase_of_ne ?_).2 (h b (List.mem_cons_of_mem _ hb))
      rintro rfl
      exact h1 hb
    have h4 := List.length_erase_of_mem (h a List.mem_cons_self)
    have h5 : 0 < m.length := List.length_pos_of_mem (h a List.mem_cons_self)
    rw [List.length_cons]
    omega
/-- The walk between two goOns: at a state to which it has just come, or back at one that has its number. (N: what grows less.) -/
def Ready (n : Nat) (out : Nat → List Nat) (x : Wk) (N : Nat) : Prop := ∃ (path : List (Nat × Nat)) (os : List Nat) (pd : Nat → Prop), Wi n out x path os pd ∧ x.cnt + (x.ns.count (-1) : Nat) = n ∧
  ((∃ t : Nat, x.ps = seen path ++ [(t, 0, 0)] ∧ t < n ∧ x.ns[t]? = some (-1) ∧ (path = [] ∨ ∃ p i r, path = (p, i) :: r ∧ (out p)[i]? = some t) ∧ N = 3 * x.ns.count (-1) + 2 * path.length) ∨ (x.ps = seen path ∧ N = 3 * x.ns.count (-1) + 2 * path.length + 1))
/-- What goOn makes of the walk. -/
structure GoAt (w w' : World) (B r n : Nat) (out : Nat → List Nat) (x x' : Wk) (N : Nat) : Prop where
  m : WkM w' B r x'
  gw : Grew w w' r x x'
  vs : x'.vs = x.vs
  rd : ∃ N', Ready n out x' N' ∧ N' < N
  nn : ((∀ t, x.ps.getLast? ≠ some (t, 0, 0)) ∧ x'.ns = x.ns) ∨ ∃ s, x.ps.getLast? = some (s, 0, 0) ∧ x'.ns = x.ns.set s x.cnt
theorem closed_wi {w2 w3 : World} {B r n : Nat} {out : Nat → List Nat} {x2 : Wk} {s kk : Nat} {rs : List (Nat × Nat)} {os pre post : List Nat} {pd : Nat → Prop} {lo nu : Int} (h : Closed w2 w3 B r x2 s lo nu pre post) (hW : Wi n out x2 ((s, kk) :: rs) os pd) (hk : (out s).length ≤ kk) (hlo : x2.ls[s]? = some lo) (hnu : x2.ns[s]? = some nu) (hos : os = pre ++ s :: post) (hm : ∀ u, u ∈ s :: post ↔ (x2.st ((s, kk) :: rs)).num s ≤ (x2.st ((s, kk) :: rs)).num u ∧ (x2.st ((s, kk) :: rs)).cls u = -1) (hpre : ∀ u ∈ pre, (x2.st ((s, kk) :: rs)).num u < (x2.st ((s, kk) :: rs)).num s) :
    ∃ x3, WkM w3 B r x3 ∧ Grew w2 w3 r x2 x3 ∧ (x3.vp = x2.vp ∧ x3.ps = x2.ps ∧ x3.vs = x2.vs ∧ x3.ns = x2.ns ∧ x3.cnt = x2.cnt) ∧ ∃ os' pd', Wi n out x3 rs os' pd' := by
  by_cases hlt : lo < nu
  · obtain ⟨h1, h2⟩ := h.1 hlt
    exact ⟨x2, h1, h2, ⟨rfl, rfl, rfl, rfl, rfl⟩, os, _, hW.leave_on hk hlo hnu hlt⟩
  · obtain ⟨vo, h1, h2⟩ := h.2 hlt
    exact ⟨_, h1, h2, ⟨rfl, rfl, rfl, rfl, rfl⟩, pre, fun _ => False, hW.leave_whole hk hlo hnu hlt hos hm hpre vo⟩
theorem top_at (r : List (Nat × Nat)) (s k : Nat) : (seen ((s, k) :: r))[r.length]? = some (s, 1, k) := by
  rw [seen_cons, List.getElem?_append_right (by rw [seen_length]; exact Nat.le_refl _), seen_length, Nat.sub_self]
  rfl
set_option linter.unusedSimpArgs false in
set_option maxRecDepth 100000 in
set_option maxHeartbeats 4000000 in
theorem goOn_back (B r n gs ds cp : Nat) (x : Wk) (out : Nat → List Nat) (s k : Nat) (rs : List (Nat × Nat)) (os : List Nat) (pd : Nat → Prop) (w : World) (hM : WkM w B r x) (hS : Sil w r x n out gs ds cp) (hW : Wi n out x ((s, k) :: rs) os pd) (hps : x.ps = seen ((s, k) :: rs)) (hn : n ≤ 1000) (hout : ∀ q, q < n → ∀ t ∈ out q, t < n) (hol : ∀ q, q < n → (out q).length ≤ 100000) (hpl : x.ps.length ≤ 1000) (hct : x.cnt + (x.ns.count (-1) : Nat) = n) :
    Calls Tryd.prog 51 #[.pointer (some ⟨r, 0, none⟩)] w fun e w' => e = .returned (.tuple #[]) ∧ ∃ x', GoAt w w' B r n out x x' (3 * x.ns.count (-1) + 2 * (rs.length + 1) + 1) := by
  have hop := hW.inv.pop (s, k) List.mem_cons_self
  have hsn : s < n := hW.inv.rng s hop.1.1
  obtain ⟨i, hi⟩ : ∃ i, i = rs.length := ⟨_, rfl⟩
  have htop : x.ps[i]? = some (s, 1, k) := by rw [hps, hi]; exact top_at rs s k
  obtain ⟨gp, cap, hvp, hcap, e0, e1, e2, ef⟩ := hM.entry htop
  have hil := (List.getElem?_eq_some_iff.1 htop).1
  have hAh := fun W (hb : Below w.heap.size w W) => ahead_any B r n gs ds cp x out i s 1 k gp cap W (hM.below hb) (hS.grew ((Grew.refl w r x).below hb) rfl) hvp htop hop.2 hsn (hout s hsn) (hol s hsn) hW.ns hW.ls hW.cs
  obtain ⟨_, c1, _⟩ := seven_cells hM.box
  obtain ⟨P, hP⟩ : ∃ P, P = x.ps.length := ⟨_, rfl⟩
  have hPi : P = i + 1 := by rw [hP, hps, seen_length, hi]; rfl
  rw [hvp, ← hP] at c1
  have p0 : IntKind.i64.wrap ((P : Int) - 1) = (i : Int) := by rw [IntKind.wrap_i64]; omega
  have p1 : (0 : Int) ≤ (i : Int) := by omega
  have p2 : (i : Int) < (P : Int) := by omega
  have H : Hid _ := And.intro hM (And.intro hS (And.intro hW (And.intro hps (And.intro htop (And.intro hvp (And.intro hAh (And.intro hP (And.intro hPi (And.intro hi (And.intro hop (And.intro hsn (And.intro hcap (And.intro hol (And.intro hout hpl))))))))))))))
  have HCt : Hid _ := hct
  clear hct hM hS hW hps htop hvp hAh hP hPi hi hop hsn hcap hol hout hpl ef
  go_enter Tryd.func51, Tryd.ntmps51
  go_upto_region 9 with (go_at_call 66; refine Calls.mono (H.out.2.2.2.2.2.2.1 _ (by repeat (first | exact Below.refl _ _ | assumption | refine Below.drew ?_))) ?_; rintro r1 w1 ⟨j, hA, hAt⟩; rcases hA with ⟨t, rfl, ht1, ht2⟩ | ⟨rfl, hkj⟩)
  · obtain ⟨x1, hx1⟩ : ∃ x1, x1 = x.gone out i s 1 k j := ⟨_, rfl⟩
    have hM1 : WkM w1 B r x1 := by rw [hx1]; exact hAt.m
    have hv1 : x1.vp = .slice (some ⟨gp, 0, none⟩) P cap := by rw [hx1, H.out.2.2.2.2.2.2.2.1]; exact H.out.2.2.2.2.2.1
    have hl1 : x1.ps.length = P := by rw [hx1, H.out.2.2.2.2.2.2.2.1]; exact List.length_set
    have hO1 : w1.ownsRow B 111 3 (.slice (some ⟨gp, 0, none⟩) P cap) P (pC x1.ps) := by have h9 := hM1.pa; rw [hv1, hl1] at h9; exact h9
    obtain ⟨_, d1, _⟩ := seven_cells hM1.box
    rw [hv1] at d1
    have hml : P + 1 ≤ maxLen := by unfold maxLen; have := H.out.2.2.2.2.2.2.2.2.2.2.2.2.2.2.2; have := H.out.2.2.2.2.2.2.2.1; omega
    have hby : (P + 1) * 24 ≤ 140737488355328 := by have := H.out.2.2.2.2.2.2.2.2.2.2.2.2.2.2.2; have := H.out.2.2.2.2.2.2.2.1; omega
    have hle : B ≤ (w1.alloc (.cells #[.int .i64 t, .int .i64 0, .int .i64 0] 111)).heap.size := by have := t_lt hM1.box; have := hM1.up; rw [World.size_alloc]; omega
    obtain ⟨i0, hi0, hz0, hz1, hz2⟩ := info_parts Tryd.infoVi
    have H1 : Hid _ := And.intro hM1 (And.intro hAt (And.intro hx1 (And.intro hv1 (And.intro hl1 (And.intro hO1 (And.intro ht1 ht2))))))
    clear hM1 hAt hx1 hv1 hl1 hO1 ht1 ht2 c1 e0 e1 e2
    go_wp2_with (at_builtin; refine wpList_append_own_at _ rfl _ _ 89 rfl B 111 i0 (.agg #[.int .i64 0, .int .i64 0, .int .i64 0]) 3 24 Tryd.underlying89 hi0 hz0 hz1 hz2 rfl (by decide) (.slice (some ⟨gp, 0, none⟩) P cap) P (pC x1.ps) rfl (H1.out.2.2.2.2.2.1.alloc _) ⟨w1.heap.size, 0, none⟩ 1 1 [.int .i64 t, .int .i64 0, .int .i64 0] rfl rfl (World.news_of_block (cs := #[.int .i64 t, .int .i64 0, .int .i64 0]) (t := 111) (fr := (0, 0)) (heap_alloc_new w1 _)) (by simp [Value.oneCell']) hml hby hle ?_; intro v7 w7 hO7 hg7 hnil7 hat7; obtain ⟨a7, c7, hv7⟩ := row_shape hO7; subst hv7; have hk7 := grown_alloc hg7; have hbx := (hk7.block r (t_lt H1.out.1.box) fun e => H1.out.1.r_foot (.inl (by rw [H1.out.2.2.2.1]; exact e))).trans H1.out.1.box; have bc := (seven_cells hbx).2.1; have bf := blk_free hbx 1; have H7 : Hid _ := And.intro hO7 (And.intro hk7 hat7); clear hO7 hg7 hk7 hnil7 hat7 hbx)
    refine bodyPost_ret (results_none rfl _ _ _) rfl ?_
    obtain ⟨x2, hx2⟩ : ∃ x2 : Wk, x2 = { x1 with vp := .slice a7 (P + 1) c7, ps := x1.ps ++ [(t, 0, 0)] } := ⟨_, rfl⟩
    have hrow : w7.ownsRow B 111 3 (.slice a7 (P + 1) c7) (x1.ps ++ [(t, 0, 0)]).length (pC (x1.ps ++ [(t, 0, 0)])) := by
      rw [pC_snoc, List.length_append, H1.out.2.2.2.2.1]
      exact H7.out.1
    have hfin := H1.out.1.putPath (w1 := w7) (v' := .slice a7 (P + 1) c7) (ps' := x1.ps ++ [(t, 0, 0)]) (by rw [H1.out.2.2.2.1]; exact H7.out.2.1) hrow (by rw [H1.out.2.2.2.1]; exact que_up H7.out.2.2)
    have hps1 : x1.ps = seen ((s, k + j) :: rs) := by
      rw [H1.out.2.2.1]
      show x.ps.set i (s, 1, k + j) = _
      rw [H.out.2.2.2.1, seen_cons, seen_cons, H.out.2.2.2.2.2.2.2.2.2.1, ← seen_length rs]
      simp
    obtain ⟨pd', hW'⟩ := H.out.2.2.1.gone H.out.2.2.2.2.2.2.2.2.2.2.2.1 (H.out.2.2.2.2.2.2.2.2.2.2.2.2.2.2.1 s H.out.2.2.2.2.2.2.2.2.2.2.2.1) i 1 H.out.2.2.2.2.1 j H1.out.2.1.le H1.out.2.1.num
    have hns : x1.ns = x.ns := by rw [H1.out.2.2.1]; rfl
    refine ⟨rfl, x2, ?_, ?_, ?_, ⟨3 * x.ns.count (-1) + 2 * (rs.length + 1), ⟨(s, k + j) :: rs, os, pd', ?_, ?_, .inl ⟨t, ?_, ?_, ?_, ?_, ?_⟩⟩, by omega⟩, .inl ⟨fun t => (by rw [H.out.2.2.2.1, seen_cons, List.getLast?_append]; intro e; cases e), by rw [hx2]; exact hns⟩⟩
    · rw [hx2]; exact hfin.1
    · rw [hx2]; exact Grew.trans (by rw [H1.out.2.2.1]; exact H1.out.2.1.gw) hfin.2
    · rw [hx2, H1.out.2.2.1]; rfl
    · rw [hx2, H1.out.2.2.1]; exact hW'.ps _ _
    · rw [hx2]; show x1.cnt + ((x1.ns.count (-1) : Nat) : Int) = n; rw [hns, show x1.cnt = x.cnt by rw [H1.out.2.2.1]; rfl]; exact HCt.out
    · rw [hx2]; show x1.ps ++ _ = _; rw [hps1]
    · exact H.out.2.2.2.2.2.2.2.2.2.2.2.2.2.2.1 s H.out.2.2.2.2.2.2.2.2.2.2.2.1 t (List.mem_of_getElem? H1.out.2.2.2.2.2.2.1)
    · rw [hx2]; show x1.ns[t]? = _; rw [hns]; exact H1.out.2.2.2.2.2.2.2
    · exact .inr ⟨s, k + j, rs, rfl, H1.out.2.2.2.2.2.2.1⟩
    · rw [hx2]; show _ = 3 * x1.ns.count (-1) + _; rw [hns]; rfl
  · obtain ⟨pd', hW'⟩ := H.out.2.2.1.gone H.out.2.2.2.2.2.2.2.2.2.2.2.1 (H.out.2.2.2.2.2.2.2.2.2.2.2.2.2.2.1 s H.out.2.2.2.2.2.2.2.2.2.2.2.1) i 1 H.out.2.2.2.2.1 j hAt.le hAt.num
    obtain ⟨x1, hx1⟩ : ∃ x1, x1 = x.gone out i s 1 k j := ⟨_, rfl⟩
    rw [← hx1] at hW'
    have hM1 : WkM w1 B r x1 := by rw [hx1]; exact hAt.m
    have hG1 : Grew w w1 r x x1 := by rw [hx1]; exact hAt.gw
    have hl1 : x1.ps.length = P := by rw [hx1, H.out.2.2.2.2.2.2.2.1]; exact List.length_set
    have hv1 : x1.vp = .slice (some ⟨gp, 0, none⟩) x1.ps.length cap := by rw [hl1, hx1, H.out.2.2.2.2.2.2.2.1]; exact H.out.2.2.2.2.2.1
    have hps1 : x1.ps = seen ((s, k + j) :: rs) := by
      rw [hx1]
      show x.ps.set i (s, 1, k + j) = _
      rw [H.out.2.2.2.1, seen_cons, seen_cons, H.out.2.2.2.2.2.2.2.2.2.1, ← seen_length rs]
      simp
    have htop1 : x1.ps[i]? = some (s, 1, k + j) := by rw [hps1, H.out.2.2.2.2.2.2.2.2.2.1]; exact top_at rs s (k + j)
    have hop1 := (hW'.inv.pop (s, k + j) List.mem_cons_self).1
    obtain ⟨pre, post, hos, hmem, hpre⟩ := hW'.opl.split hop1
    have hsn := H.out.2.2.2.2.2.2.2.2.2.2.2.1
    obtain ⟨lo, hlo⟩ : ∃ z, x1.ls[s]? = some z := ⟨_, List.getElem?_eq_getElem (by rw [hW'.ls]; exact hsn)⟩
    obtain ⟨nu, hnu⟩ : ∃ z, x1.ns[s]? = some z := ⟨_, List.getElem?_eq_getElem (by rw [hW'.ns]; exact hsn)⟩
    obtain ⟨zc, hzc⟩ : ∃ z, x1.cs[s]? = some z := ⟨_, List.getElem?_eq_getElem (by rw [hW'.cs]; exact hsn)⟩
    have hcs : x1.cs[s]? = some (-1) := by have h9 : x1.cs[s]?.getD (-1) = -1 := hop1.2; rw [hzc] at h9 ⊢; exact congrArg some h9
    have hin : ∀ u ∈ pre ++ s :: post, u < x1.cs.length := fun u hu => by rw [hW'.cs]; exact hW'.inv.rng u ((hW'.opl.mem u).1 (by rw [hos]; exact hu)).1
    have hnd : (pre ++ s :: post).Nodup := by rw [← hos]; exact hW'.opl.nodup
    have hol2 : x1.os.length ≤ 100000 := by
      rw [hW'.os, cast_length, hos]
      have h9 := nodup_sub _ (List.range x1.cs.length) hnd fun u hu => List.mem_range.2 (hin u hu)
      rw [List.length_range, hW'.cs] at h9
      refine Nat.le_trans h9 ?_
      omega
    have hSt := hM1.setStage hv1 htop1 2
    obtain ⟨x2, hx2⟩ : ∃ x2 : Wk, x2 = { x1 with ps := x1.ps.set i (s, 2, k + j) } := ⟨_, rfl⟩
    obtain ⟨w2, hw2⟩ : ∃ w2, w2 = w1.setCell ⟨gp, i * 3 + 1, none⟩ (.int .i64 2) := ⟨_, rfl⟩
    rw [← hx2, show ((2 : Nat) : Int) = 2 from rfl, ← hw2] at hSt
    have hCl := close_any B r x2 s lo nu pre post w2 hSt.1 (by rw [hx2]; exact hlo) (by rw [hx2]; exact hnu) (by rw [hx2]; exact hcs) (by rw [hx2]; show x1.os = _; rw [hW'.os, hos]) hnd (by rw [hx2]; exact hin) (by rw [hx2]; exact hol2)
    obtain ⟨gp', cap', hv', _, f0, f1, f2, ff⟩ := hM1.entry htop1
    rw [hv1] at hv'
    injection hv' with u1 u2 u3
    injection u1 with u1
    injection u1 with u1
    subst u1
    have ff1 := ff (i * 3 + 1)
    have htop2 : x2.ps[i]? = some (s, 2, k + j) := by rw [hx2]; exact List.getElem?_set_self (List.getElem?_eq_some_iff.1 htop1).1
    have hv2 : x2.vp = .slice (some ⟨gp, 0, none⟩) x2.ps.length cap := by rw [hx2]; show x1.vp = .slice _ (x1.ps.set _ _).length _; rw [List.length_set]; exact hv1
    obtain ⟨gp', cap', hv', _, g0, _, _, _⟩ := hSt.1.entry htop2
    rw [hv2] at hv'
    injection hv' with u4 u5 u6
    injection u4 with u4
    injection u4 with u4
    subst u4
    have H1 : Hid _ := And.intro hSt (And.intro hCl (And.intro hW' (And.intro hx1 (And.intro hx2 (And.intro hw2 (And.intro hG1 (And.intro hv2 (And.intro hps1 (And.intro hlo (And.intro hnu (And.intro hos (And.intro hmem (And.intro hpre hkj)))))))))))))
    clear hSt hCl hW' hx1 hx2 hG1 hv2 hps1 hlo hnu hos hmem hpre hkj hAt hM1 hl1 hv1 htop1 hop1 hsn hzc hcs hin hnd hol2 u2 u3 u5 u6 ff htop2 c1 e0 e1 e2
    go_upto_region 12 with fail
    rw [← hw2]
    clear hw2
    have hic : (i : Int) ≤ (cap : Int) := by have := H.out.2.2.2.2.2.2.2.2.2.2.2.2.1; omega
    go_wp2_with (go_at_call 67; refine Calls.mono H1.out.2.1 ?_; rintro r3 w3 ⟨rfl, hc3⟩; have hW2 : Wi n out x2 ((s, k + j) :: rs) os pd' := (by rw [H1.out.2.2.2.2.1]; exact H1.out.2.2.1.ps _ _); obtain ⟨x3, hM3, hG3, hx3, hW3⟩ := closed_wi hc3 hW2 (Nat.le_of_eq H1.out.2.2.2.2.2.2.2.2.2.2.2.2.2.2.symm) (by rw [H1.out.2.2.2.2.1]; exact H1.out.2.2.2.2.2.2.2.2.2.1) (by rw [H1.out.2.2.2.2.1]; exact H1.out.2.2.2.2.2.2.2.2.2.2.1) H1.out.2.2.2.2.2.2.2.2.2.2.2.1 (by rw [H1.out.2.2.2.2.1]; exact H1.out.2.2.2.2.2.2.2.2.2.2.2.2.1) (by rw [H1.out.2.2.2.2.1]; exact H1.out.2.2.2.2.2.2.2.2.2.2.2.2.2.1); have hl3 : x2.ps.length = P := (by rw [H1.out.2.2.2.2.1, H1.out.2.2.2.1]; show ((x.ps.set _ _).set _ _).length = P; rw [List.length_set, List.length_set]; exact H.out.2.2.2.2.2.2.2.1.symm); have hv3 : x3.vp = .slice (some ⟨gp, 0, none⟩) P cap := (by rw [hx3.1, H1.out.2.2.2.2.2.2.2.1, hl3]); have bc := (seven_cells hM3.box).2.1; rw [hv3] at bc; have bf := blk_free hM3.box 1; have H3 : Hid _ := And.intro hM3 (And.intro hG3 (And.intro hx3 (And.intro hW3 hv3))); clear hM3 hG3 hx3 hW3 hv3 hl3 hc3 hW2)
    go_end0
    obtain ⟨os', pd3, hW3⟩ := H3.out.2.2.2.1
    have hps3 : x3.ps = seen rs ++ [(s, 2, k + j)] := by
      rw [H3.out.2.2.1.2.1, H1.out.2.2.2.2.1]
      show x1.ps.set i (s, 2, k + j) = _
      rw [H1.out.2.2.2.2.2.2.2.2.1, seen_cons, H.out.2.2.2.2.2.2.2.2.2.1, ← seen_length rs]
      simp
    have hpa := H3.out.1.pa
    rw [H3.out.2.2.2.2, hps3] at hpa
    have hpo := path_pop hpa
    rw [seen_length, ← H.out.2.2.2.2.2.2.2.2.2.1] at hpo
    have hfin := H3.out.1.putPath (w1 := w3) (v' := .slice (some ⟨gp, 0, none⟩) i cap) (ps' := seen rs) (Kept.refl _ _) (by rw [seen_length, ← H.out.2.2.2.2.2.2.2.2.2.1]; exact hpo.1) (.inl (by rw [H3.out.2.2.2.2]; rfl))
    obtain ⟨x4, hx4⟩ : ∃ x4 : Wk, x4 = { x3 with vp := .slice (some ⟨gp, 0, none⟩) i cap, ps := seen rs } := ⟨_, rfl⟩
    have hns : x3.ns = x.ns := by rw [H3.out.2.2.1.2.2.2.1, H1.out.2.2.2.2.1, H1.out.2.2.2.1]; rfl
    have hcn : x3.cnt = x.cnt := by rw [H3.out.2.2.1.2.2.2.2, H1.out.2.2.2.2.1, H1.out.2.2.2.1]; rfl
    refine ⟨rfl, x4, ?_, ?_, ?_, ⟨3 * x.ns.count (-1) + 2 * rs.length + 1, ⟨rs, os', pd3, ?_, ?_, .inr ⟨?_, ?_⟩⟩, by omega⟩, .inl ⟨fun t => (by rw [H.out.2.2.2.1, seen_cons, List.getLast?_append]; intro e; cases e), by rw [hx4]; exact hns⟩⟩
    · rw [hx4]; exact hfin.1
    · rw [hx4]; exact ((H1.out.2.2.2.2.2.2.1.trans H1.out.1.2).trans H3.out.2.1).trans hfin.2
    · rw [hx4]; show x3.vs = x.vs; rw [H3.out.2.2.1.2.2.1, H1.out.2.2.2.2.1, H1.out.2.2.2.1]; rfl
    · rw [hx4]; exact hW3.ps _ _
    · rw [hx4]; show x3.cnt + ((x3.ns.count (-1) : Nat) : Int) = n; rw [hns, hcn]; exact HCt.out
    · rw [hx4]
    · rw [hx4]; show _ = 3 * x3.ns.count (-1) + _ + 1; rw [hns]
end Go.Proofs.YtplofbabfkkimaaDoor.Ts
/- tauscc: contract of the walk's goOn, at a state to which it has just come. -/
namespace Go.Proofs.YtplofbabfkkimaaDoor.Ts
open Go.RowKit Go.Maps
attribute [local go_sem ↓] Go.wp_at_zero Go.wp_at_succ
theorem GoAt.from {w0 w w' : World} {B r n s : Nat} {out : Nat → List Nat} {x0 x x' : Wk} {N N0 : Nat} (h : GoAt w w' B r n out x x' N) (hg : Grew w0 w r x0 x) (hv : x.vs = x0.vs) (hN : N ≤ N0) (hns : x.ns = x0.ns.set s x0.cnt) (hl0 : x0.ps.getLast? = some (s, 0, 0)) (hl : ∀ t, x.ps.getLast? ≠ some (t, 0, 0)) : GoAt w0 w' B r n out x0 x' N0 := by
  obtain ⟨N', h1, h2⟩ := h.rd
  refine ⟨h.m, hg.trans h.gw, h.vs.trans hv, ⟨N', h1, by omega⟩, .inr ⟨s, hl0, ?_⟩⟩
  rcases h.nn with ⟨_, h3⟩ | ⟨t, h3, _⟩
  · rw [h3, hns]
  · exact absurd h3 (hl t)
theorem count_set (l : List Int) (v : Nat) (z : Int) (hv : l[v]? = some (-1)) (hz : z ≠ -1) : (l.set v z).count (-1) + 1 = l.count (-1) := by
  induction l generalizing v with
  | nil => simp at hv
  | cons a l ih =>
    cases v with
    | zero =>
      simp only [List.getElem?_cons_zero, Option.some.injEq] at hv
      subst hv
      rw [List.set_cons_zero, List.count_cons, List.count_cons]
      simp [hz]
    | succ v =>
      rw [List.getElem?_cons_succ] at hv
      rw [List.set_cons_succ, List.count_cons, List.count_cons, ← ih v hv]
      omega
set_option linter.unusedSimpArgs false in
set_option maxRecDepth 100000 in
set_option maxHeartbeats 4000000 in
theorem goOn_fresh (B r n gs ds cp : Nat) (x0 : Wk) (out : Nat → List Nat) (s : Nat) (rs : List (Nat × Nat)) (os0 : List Nat) (pd0 : Nat → Prop) (w0 : World) (hM0 : WkM w0 B r x0) (hS0 : Sil w0 r x0 n out gs ds cp) (hW0 : Wi n out x0 rs os0 pd0) (hps0 : x0.ps = seen rs ++ [(s, 0, 0)]) (hs0 : s < n) (hu0 : x0.ns[s]? = some (-1)) (hlk : rs = [] ∨ ∃ p i r, rs = (p, i) :: r ∧ (out p)[i]? = some s) (hn : n ≤ 1000) (hout : ∀ q, q < n → ∀ t ∈ out q, t < n) (hol : ∀ q, q < n → (out q).length ≤ 100000) (hpl0 : x0.ps.length ≤ 1000) (hct0 : x0.cnt + (x0.ns.count (-1) : Nat) = n) (hc0 : 0 ≤ x0.cnt) (hol0 : x0.os.length ≤ 100000) :
    Calls Tryd.prog 51 #[.pointer (some ⟨r, 0, none⟩)] w0 fun e w' => e = .returned (.tuple #[]) ∧ ∃ x', GoAt w0 w' B r n out x0 x' (3 * x0.ns.count (-1) + 2 * rs.length) := by
  obtain ⟨I, hI⟩ : ∃ I, I = rs.length := ⟨_, rfl⟩
  have htop0 : x0.ps[I]? = some (s, 0, 0) := by rw [hps0, hI, ← seen_length rs]; simp
  obtain ⟨gq, capq, hvq, hcapq, e0, e1, e2, ef⟩ := hM0.entry htop0
  obtain ⟨_, c1, _⟩ := seven_cells hM0.box
  obtain ⟨Q, hQ⟩ : ∃ Q, Q = x0.ps.length := ⟨_, rfl⟩
  have hQi : Q = I + 1 := by rw [hQ, hps0, List.length_append, seen_length, hI]; rfl
  rw [hvq, ← hQ] at c1
  have p0 : IntKind.i64.wrap ((Q : Int) - 1) = (I : Int) := by rw [IntKind.wrap_i64]; omega
  have p1 : (0 : Int) ≤ (I : Int) := by omega
  have p2 : (I : Int) < (Q : Int) := by omega
  have hNu := number_any B r x0 s w0 hM0 (by rw [hW0.ns]; exact hs0) (by rw [hW0.ls, hW0.ns]) ⟨hc0, by omega⟩ hol0
  have HQ : Hid _ := And.intro hNu (And.intro hS0 (And.intro hW0 (And.intro hps0 (And.intro hs0 (And.intro hu0 (And.intro hlk (And.intro hpl0 (And.intro hct0 (And.intro hc0 (And.intro htop0 (And.intro hvq (And.intro hQ (And.intro hI (And.intro hol hout))))))))))))))
  clear hNu hS0 hW0 hps0 hs0 hu0 hlk hpl0 hct0 hc0 htop0 hvq hQ hI hol hout hM0 hol0 ef hcapq hQi
  go_enter Tryd.func51, Tryd.ntmps51
  go_upto_region 7 with (go_at_call 65; refine Calls.mono HQ.out.1 ?_; rintro r1 w1 ⟨rfl, vo, hM1, hG1⟩)
  obtain ⟨y1, hy1⟩ : ∃ y1, y1 = x0.numd s vo := ⟨_, rfl⟩
  rw [← hy1] at hM1 hG1
  have htop1 : y1.ps[I]? = some (s, 0, 0) := by rw [hy1]; exact HQ.out.2.2.2.2.2.2.2.2.2.2.1
  have hv1 : y1.vp = .slice (some ⟨gq, 0, none⟩) y1.ps.length capq := by rw [hy1]; exact HQ.out.2.2.2.2.2.2.2.2.2.2.2.1
  obtain ⟨g', c', hv', _, _, f1, _, ff⟩ := hM1.entry htop1
  rw [hv1] at hv'
  injection hv' with u1 u2 u3
  injection u1 with u1
  injection u1 with u1
  subst u1
  have ff1 := ff (I * 3 + 1)
  have hSt := hM1.setStage hv1 htop1 1
  obtain ⟨x, hx⟩ : ∃ x : Wk, x = { y1 with ps := y1.ps.set I (s, 1, 0) } := ⟨_, rfl⟩
  obtain ⟨w, hw⟩ : ∃ w, w = w1.setCell ⟨gq, I * 3 + 1, none⟩ (.int .i64 1) := ⟨_, rfl⟩
  rw [← hx, show ((1 : Nat) : Int) = 1 from rfl, ← hw] at hSt
  have hG : Grew w0 w r x0 x := hG1.trans hSt.2
  have hM := hSt.1
  have hvs : x.vs = x0.vs := by rw [hx, hy1]; rfl
  have hS := HQ.out.2.1.grew hG hvs
  have hW : Wi n out x ((s, 0) :: rs) (os0 ++ [s]) (fun _ => False) := by
    have h9 := HQ.out.2.2.1.number (pd' := fun _ => False) HQ.out.2.2.2.2.1 HQ.out.2.2.2.2.2.1 HQ.out.2.2.2.2.2.2.1 vo
    rw [hx, hy1]
    exact h9.ps _ _
  have hps : x.ps = seen ((s, 0) :: rs) := by
    rw [hx, hy1]
    show x0.ps.set I (s, 1, 0) = _
    rw [HQ.out.2.2.2.1, seen_cons, HQ.out.2.2.2.2.2.2.2.2.2.2.2.2.2.1, ← seen_length rs]
    simp
  have hpl : x.ps.length ≤ 1000 := by rw [hps, seen_length]; show rs.length + 1 ≤ 1000; have h8 := HQ.out.2.2.2.2.2.2.2.1; rw [HQ.out.2.2.2.1, List.length_append, seen_length] at h8; exact h8
  have hcs : x.ns.count (-1) + 1 = x0.ns.count (-1) := by rw [hx, hy1]; exact count_set x0.ns s x0.cnt HQ.out.2.2.2.2.2.1 (by have := HQ.out.2.2.2.2.2.2.2.2.2.1; omega)
  have hct : x.cnt + (x.ns.count (-1) : Nat) = n := by have h8 := HQ.out.2.2.2.2.2.2.2.2.1; have h7 : x.cnt = x0.cnt + 1 := (by rw [hx, hy1]; rfl); omega
  have hNN : 3 * x.ns.count (-1) + 2 * (rs.length + 1) + 1 ≤ 3 * x0.ns.count (-1) + 2 * rs.length := by omega
  have hfr : ∀ (w' : World) (x' : Wk), GoAt w w' B r n out x x' (3 * x.ns.count (-1) + 2 * (rs.length + 1) + 1) → GoAt w0 w' B r n out x0 x' (3 * x0.ns.count (-1) + 2 * rs.length) := fun w' x' h => h.from (s := s) hG hvs hNN (by rw [hx, hy1]; rfl) (by rw [HQ.out.2.2.2.1, List.getLast?_append]; rfl) (fun t => by rw [hps, seen_cons, List.getLast?_append]; intro e; cases e)
  have HF : Hid _ := hfr
  obtain ⟨os, hos0⟩ : ∃ os, os = os0 ++ [s] := ⟨_, rfl⟩
  obtain ⟨pd, hpd0⟩ : ∃ pd : Nat → Prop, pd = fun _ => False := ⟨_, rfl⟩
  obtain ⟨k, hk0⟩ : ∃ k : Nat, k = 0 := ⟨_, rfl⟩
  rw [← hos0, ← hpd0, ← hk0] at hW
  rw [← hk0] at hps
  have hol := HQ.out.2.2.2.2.2.2.2.2.2.2.2.2.2.2.1
  have hout := HQ.out.2.2.2.2.2.2.2.2.2.2.2.2.2.2.2
  have HV : Hid (x.vp = .slice (some ⟨gq, 0, none⟩) x.ps.length capq ∧ x.ps.length = x0.ps.length) := by
    refine And.intro ?_ ?_
    · rw [hx]; show y1.vp = .slice _ (y1.ps.set _ _).length _; rw [List.length_set]; exact hv1
    · rw [hx, hy1]; exact List.length_set
  clear hos0 hpd0 hk0 hfr hNN hcs hG hvs hx hSt hM1 hG1 hy1 htop1 hv1 u2 u3 ff e0 e1 e2 c1 p0 p1 p2
  have hop := hW.inv.pop (s, k) List.mem_cons_self
  have hsn : s < n := hW.inv.rng s hop.1.1
  obtain ⟨i, hi⟩ : ∃ i, i = rs.length := ⟨_, rfl⟩
  have htop : x.ps[i]? = some (s, 1, k) := by rw [hps, hi]; exact top_at rs s k
  obtain ⟨gp, cap, hvp, hcap, e0, e1, e2, ef⟩ := hM.entry htop
  have hil := (List.getElem?_eq_some_iff.1 htop).1
  have hAh := fun W (hb : Below w.heap.size w W) => ahead_any B r n gs ds cp x out i s 1 k gp cap W (hM.below hb) (hS.grew ((Grew.refl w r x).below hb) rfl) hvp htop hop.2 hsn (hout s hsn) (hol s hsn) hW.ns hW.ls hW.cs
  obtain ⟨_, c1, _⟩ := seven_cells hM.box
  obtain ⟨P, hP⟩ : ∃ P, P = x.ps.length := ⟨_, rfl⟩
  have hPi : P = i + 1 := by rw [hP, hps, seen_length, hi]; rfl
  rw [hvp, ← hP] at c1
  have p0 : IntKind.i64.wrap ((P : Int) - 1) = (i : Int) := by rw [IntKind.wrap_i64]; omega
  have p1 : (0 : Int) ≤ (i : Int) := by omega
  have p2 : (i : Int) < (P : Int) := by omega
  have H : Hid _ := And.intro hM (And.intro hS (And.intro hW (And.intro hps (And.intro htop (And.intro hvp (And.intro hAh (And.intro hP (And.intro hPi (And.intro hi (And.intro hop (And.intro hsn (And.intro hcap (And.intro hol (And.intro hout hpl))))))))))))))
  have HCt : Hid _ := hct
  clear hct hM hS hW hps htop hvp hAh hP hPi hi hop hsn hcap hol hout hpl ef
  have hgc : gp = gq ∧ i = I ∧ cap = capq ∧ P = Q := by
    have h1 := H.out.2.2.2.2.2.1
    have h2 := HV.out.1
    have h3 := H.out.2.2.2.2.2.2.2.1
    have h4 := HQ.out.2.2.2.2.2.2.2.2.2.2.2.2.1
    have h5 := HQ.out.2.2.2.2.2.2.2.2.2.2.2.2.2.1
    have h6 := H.out.2.2.2.2.2.2.2.2.2.1
    rw [h1] at h2
    injection h2 with u1 u2 u3
    injection u1 with u1
    injection u1 with u1
    exact ⟨u1, h6.trans h5.symm, u3, h3.trans (HV.out.2.trans h4.symm)⟩
  obtain ⟨rfl, rfl, rfl, rfl⟩ := hgc
  have HW : Hid _ := hw
  clear hw p0 p1 p2
  go_upto_region 8 with fail
  rw [← HW.out]
  clear HW ff1 f1
  go_upto_region 9 with (go_at_call 66; refine Calls.mono (H.out.2.2.2.2.2.2.1 _ (by repeat (first | exact Below.refl _ _ | assumption | refine Below.drew ?_))) ?_; rintro r1 w1 ⟨j, hA, hAt⟩; rcases hA with ⟨t, rfl, ht1, ht2⟩ | ⟨rfl, hkj⟩)
  · obtain ⟨x1, hx1⟩ : ∃ x1, x1 = x.gone out i s 1 k j := ⟨_, rfl⟩
    have hM1 : WkM w1 B r x1 := by rw [hx1]; exact hAt.m
    have hv1 : x1.vp = .slice (some ⟨gp, 0, none⟩) P cap := by rw [hx1, H.out.2.2.2.2.2.2.2.1]; exact H.out.2.2.2.2.2.1
    have hl1 : x1.ps.length = P := by rw [hx1, H.out.2.2.2.2.2.2.2.1]; exact List.length_set
    have hO1 : w1.ownsRow B 111 3 (.slice (some ⟨gp, 0, none⟩) P cap) P (pC x1.ps) := by have h9 := hM1.pa; rw [hv1, hl1] at h9; exact h9
    obtain ⟨_, d1, _⟩ := seven_cells hM1.box
    rw [hv1] at d1
    have hml : P + 1 ≤ maxLen := by unfold maxLen; have := H.out.2.2.2.2.2.2.2.2.2.2.2.2.2.2.2; have := H.out.2.2.2.2.2.2.2.1; omega
    have hby : (P + 1) * 24 ≤ 140737488355328 := by have := H.out.2.2.2.2.2.2.2.2.2.2.2.2.2.2.2; have := H.out.2.2.2.2.2.2.2.1; omega
    have hle : B ≤ (w1.alloc (.cells #[.int .i64 t, .int .i64 0, .int .i64 0] 111)).heap.size := by have := t_lt hM1.box; have := hM1.up; rw [World.size_alloc]; omega
    obtain ⟨i0, hi0, hz0, hz1, hz2⟩ := info_parts Tryd.infoVi
    have H1 : Hid _ := And.intro hM1 (And.intro hAt (And.intro hx1 (And.intro hv1 (And.intro hl1 (And.intro hO1 (And.intro ht1 ht2))))))
    clear hM1 hAt hx1 hv1 hl1 hO1 ht1 ht2 c1 e0 e1 e2
    go_wp2_with (at_builtin; refine wpList_append_own_at _ rfl _ _ 89 rfl B 111 i0 (.agg #[.int .i64 0, .int .i64 0, .int .i64 0]) 3 24 Tryd.underlying89 hi0 hz0 hz1 hz2 rfl (by decide) (.slice (some ⟨gp, 0, none⟩) P cap) P (pC x1.ps) rfl (H1.out.2.2.2.2.2.1.alloc _) ⟨w1.heap.size, 0, none⟩ 1 1 [.int .i64 t, .int .i64 0, .int .i64 0] rfl rfl (World.news_of_block (cs := #[.int .i64 t, .int .i64 0, .int .i64 0]) (t := 111) (fr := (0, 0)) (heap_alloc_new w1 _)) (by simp [Value.oneCell']) hml hby hle ?_; intro v7 w7 hO7 hg7 hnil7 hat7; obtain ⟨a7, c7, hv7⟩ := row_shape hO7; subst hv7; have hk7 := grown_alloc hg7; have hbx := (hk7.block r (t_lt H1.out.1.box) fun e => H1.out.1.r_foot (.inl (by rw [H1.out.2.2.2.1]; exact e))).trans H1.out.1.box; have bc := (seven_cells hbx).2.1; have bf := blk_free hbx 1; have H7 : Hid _ := And.intro hO7 (And.intro hk7 hat7); clear hO7 hg7 hk7 hnil7 hat7 hbx)
    refine bodyPost_ret (results_none rfl _ _ _) rfl ?_
    obtain ⟨x2, hx2⟩ : ∃ x2 : Wk, x2 = { x1 with vp := .slice a7 (P + 1) c7, ps := x1.ps ++ [(t, 0, 0)] } := ⟨_, rfl⟩
    have hrow : w7.ownsRow B 111 3 (.slice a7 (P + 1) c7) (x1.ps ++ [(t, 0, 0)]).length (pC (x1.ps ++ [(t, 0, 0)])) := by
      rw [pC_snoc, List.length_append, H1.out.2.2.2.2.1]
      exact H7.out.1
    have hfin := H1.out.1.putPath (w1 := w7) (v' := .slice a7 (P + 1) c7) (ps' := x1.ps ++ [(t, 0, 0)]) (by rw [H1.out.2.2.2.1]; exact H7.out.2.1) hrow (by rw [H1.out.2.2.2.1]; exact que_up H7.out.2.2)
    have hps1 : x1.ps = seen ((s, k + j) :: rs) := by
      rw [H1.out.2.2.1]
      show x.ps.set i (s, 1, k + j) = _
      rw [H.out.2.2.2.1, seen_cons, seen_cons, H.out.2.2.2.2.2.2.2.2.2.1, ← seen_length rs]
      simp
    obtain ⟨pd', hW'⟩ := H.out.2.2.1.gone H.out.2.2.2.2.2.2.2.2.2.2.2.1 (H.out.2.2.2.2.2.2.2.2.2.2.2.2.2.2.1 s H.out.2.2.2.2.2.2.2.2.2.2.2.1) i 1 H.out.2.2.2.2.1 j H1.out.2.1.le H1.out.2.1.num
    have hns : x1.ns = x.ns := by rw [H1.out.2.2.1]; rfl
    refine ⟨rfl, x2, HF.out _ _ ⟨?_, ?_, ?_, ⟨3 * x.ns.count (-1) + 2 * (rs.length + 1), ⟨(s, k + j) :: rs, os, pd', ?_, ?_, .inl ⟨t, ?_, ?_, ?_, ?_, ?_⟩⟩, by omega⟩, .inl ⟨fun t => (by rw [H.out.2.2.2.1, seen_cons, List.getLast?_append]; intro e; cases e), by rw [hx2]; exact hns⟩⟩⟩
    · rw [hx2]; exact hfin.1
    · rw [hx2]; exact Grew.trans (by rw [H1.out.2.2.1]; exact H1.out.2.1.gw) hfin.2
    · rw [hx2, H1.out.2.2.1]; rfl
    · rw [hx2, H1.out.2.2.1]; exact hW'.ps _ _
    · rw [hx2]; show x1.cnt + ((x1.ns.count (-1) : Nat) : Int) = n; rw [hns, show x1.cnt = x.cnt by rw [H1.out.2.2.1]; rfl]; exact HCt.out
    · rw [hx2]; show x1.ps ++ _ = _; rw [hps1]
    · exact H.out.2.2.2.2.2.2.2.2.2.2.2.2.2.2.1 s H.out.2.2.2.2.2.2.2.2.2.2.2.1 t (List.mem_of_getElem? H1.out.2.2.2.2.2.2.1)
    · rw [hx2]; show x1.ns[t]? = _; rw [hns]; exact H1.out.2.2.2.2.2.2.2
    · exact .inr ⟨s, k + j, rs, rfl, H1.out.2.2.2.2.2.2.1⟩
    · rw [hx2]; show _ = 3 * x1.ns.count (-1) + _; rw [hns]; rfl
  · obtain ⟨pd', hW'⟩ := H.out.2.2.1.gone H.out.2.2.2.2.2.2.2.2.2.2.2.1 (H.out.2.2.2.2.2.2.2.2.2.2.2.2.2.2.1 s H.out.2.2.2.2.2.2.2.2.2.2.2.1) i 1 H.out.2.2.2.2.1 j hAt.le hAt.num
    obtain ⟨x1, hx1⟩ : ∃ x1, x1 = x.gone out i s 1 k j := ⟨_, rfl⟩
    rw [← hx1] at hW'
    have hM1 : WkM w1 B r x1 := by rw [hx1]; exact hAt.m
    have hG1 : Grew w w1 r x x1 := by rw [hx1]; exact hAt.gw
    have hl1 : x1.ps.length = P := by rw [hx1, H.out.2.2.2.2.2.2.2.1]; exact List.length_set
    have hv1 : x1.vp = .slice (some ⟨gp, 0, none⟩) x1.ps.length cap := by rw [hl1, hx1, H.out.2.2.2.2.2.2.2.1]; exact H.out.2.2.2.2.2.1
    have hps1 : x1.ps = seen ((s, k + j) :: rs) := by
      rw [hx1]
      show x.ps.set i (s, 1, k + j) = _
      rw [H.out.2.2.2.1, seen_cons, seen_cons, H.out.2.2.2.2.2.2.2.2.2.1, ← seen_length rs]
      simp
    have htop1 : x1.ps[i]? = some (s, 1, k + j) := by rw [hps1, H.out.2.2.2.2.2.2.2.2.2.1]; exact top_at rs s (k + j)
    have hop1 := (hW'.inv.pop (s, k + j) List.mem_cons_self).1
    obtain ⟨pre, post, hos, hmem, hpre⟩ := hW'.opl.split hop1
    have hsn := H.out.2.2.2.2.2.2.2.2.2.2.2.1
    obtain ⟨lo, hlo⟩ : ∃ z, x1.ls[s]? = some z := ⟨_, List.getElem?_eq_getElem (by rw [hW'.ls]; exact hsn)⟩
    obtain ⟨nu, hnu⟩ : ∃ z, x1.ns[s]? = some z := ⟨_, List.getElem?_eq_getElem (by rw [hW'.ns]; exact hsn)⟩
    obtain ⟨zc, hzc⟩ : ∃ z, x1.cs[s]? = some z := ⟨_, List.getElem?_eq_getElem (by rw [hW'.cs]; exact hsn)⟩
    have hcs : x1.cs[s]? = some (-1) := by have h9 : x1.cs[s]?.getD (-1) = -1 := hop1.2; rw [hzc] at h9 ⊢; exact congrArg some h9
    have hin : ∀ u ∈ pre ++ s :: post, u < x1.cs.length := fun u hu => by rw [hW'.cs]; exact hW'.inv.rng u ((hW'.opl.mem u).1 (by rw [hos]; exact hu)).1
    have hnd : (pre ++ s :: post).Nodup := by rw [← hos]; exact hW'.opl.nodup
    have hol2 : x1.os.length ≤ 100000 := by
      rw [hW'.os, cast_length, hos]
      have h9 := nodup_sub _ (List.range x1.cs.length) hnd fun u hu => List.mem_range.2 (hin u hu)
      rw [List.length_range, hW'.cs] at h9
      refine Nat.le_trans h9 ?_
      omega
    have hSt := hM1.setStage hv1 htop1 2
    obtain ⟨x2, hx2⟩ : ∃ x2 : Wk, x2 = { x1 with ps := x1.ps.set i (s, 2, k + j) } := ⟨_, rfl⟩
    obtain ⟨w2, hw2⟩ : ∃ w2, w2 = w1.setCell ⟨gp, i * 3 + 1, none⟩ (.int .i64 2) := ⟨_, rfl⟩
    rw [← hx2, show ((2 : Nat) : Int) = 2 from rfl, ← hw2] at hSt
    have hCl := close_any B r x2 s lo nu pre post w2 hSt.1 (by rw [hx2]; exact hlo) (by rw [hx2]; exact hnu) (by rw [hx2]; exact hcs) (by rw [hx2]; show x1.os = _; rw [hW'.os, hos]) hnd (by rw [hx2]; exact hin) (by rw [hx2]; exact hol2)
    obtain ⟨gp', cap', hv', _, f0, f1, f2, ff⟩ := hM1.entry htop1
    rw [hv1] at hv'
    injection hv' with u1 u2 u3
    injection u1 with u1
    injection u1 with u1
    subst u1
    have ff1 := ff (i * 3 + 1)
    have htop2 : x2.ps[i]? = some (s, 2, k + j) := by rw [hx2]; exact List.getElem?_set_self (List.getElem?_eq_some_iff.1 htop1).1
    have hv2 : x2.vp = .slice (some ⟨gp, 0, none⟩) x2.ps.length cap := by rw [hx2]; show x1.vp = .slice _ (x1.ps.set _ _).length _; rw [List.length_set]; exact hv1
    obtain ⟨gp', cap', hv', _, g0, _, _, _⟩ := hSt.1.entry htop2
    rw [hv2] at hv'
    injection hv' with u4 u5 u6
    injection u4 with u4
    injection u4 with u4
    subst u4
    have H1 : Hid _ := And.intro hSt (And.intro hCl (And.intro hW' (And.intro hx1 (And.intro hx2 (And.intro hw2 (And.intro hG1 (And.intro hv2 (And.intro hps1 (And.intro hlo (And.intro hnu (And.intro hos (And.intro hmem (And.intro hpre hkj)))))))))))))
    clear hSt hCl hW' hx1 hx2 hG1 hv2 hps1 hlo hnu hos hmem hpre hkj hAt hM1 hl1 hv1 htop1 hop1 hsn hzc hcs hin hnd hol2 u2 u3 u5 u6 ff htop2 c1 e0 e1 e2
    go_upto_region 12 with fail
    rw [← hw2]
    clear hw2
    have hic : (i : Int) ≤ (cap : Int) := by have := H.out.2.2.2.2.2.2.2.2.2.2.2.2.1; omega
    go_wp2_with (go_at_call 67; refine Calls.mono H1.out.2.1 ?_; rintro r3 w3 ⟨rfl, hc3⟩; have hW2 : Wi n out x2 ((s, k + j) :: rs) os pd' := (by rw [H1.out.2.2.2.2.1]; exact H1.out.2.2.1.ps _ _); obtain ⟨x3, hM3, hG3, hx3, hW3⟩ := closed_wi hc3 hW2 (Nat.le_of_eq H1.out.2.2.2.2.2.2.2.2.2.2.2.2.2.2.symm) (by rw [H1.out.2.2.2.2.1]; exact H1.out.2.2.2.2.2.2.2.2.2.1) (by rw [H1.out.2.2.2.2.1]; exact H1.out.2.2.2.2.2.2.2.2.2.2.1) H1.out.2.2.2.2.2.2.2.2.2.2.2.1 (by rw [H1.out.2.2.2.2.1]; exact H1.out.2.2.2.2.2.2.2.2.2.2.2.2.1) (by rw [H1.out.2.2.2.2.1]; exact H1.out.2.2.2.2.2.2.2.2.2.2.2.2.2.1); have hl3 : x2.ps.length = P := (by rw [H1.out.2.2.2.2.1, H1.out.2.2.2.1]; show ((x.ps.set _ _).set _ _).length = P; rw [List.length_set, List.length_set]; exact H.out.2.2.2.2.2.2.2.1.symm); have hv3 : x3.vp = .slice (some ⟨gp, 0, none⟩) P cap := (by rw [hx3.1, H1.out.2.2.2.2.2.2.2.1, hl3]); have bc := (seven_cells hM3.box).2.1; rw [hv3] at bc; have bf := blk_free hM3.box 1; have H3 : Hid _ := And.intro hM3 (And.intro hG3 (And.intro hx3 (And.intro hW3 hv3))); clear hM3 hG3 hx3 hW3 hv3 hl3 hc3 hW2)
    go_end0
    obtain ⟨os', pd3, hW3⟩ := H3.out.2.2.2.1
    have hps3 : x3.ps = seen rs ++ [(s, 2, k + j)] := by
      rw [H3.out.2.2.1.2.1, H1.out.2.2.2.2.1]
      show x1.ps.set i (s, 2, k + j) = _
      rw [H1.out.2.2.2.2.2.2.2.2.1, seen_cons, H.out.2.2.2.2.2.2.2.2.2.1, ← seen_length rs]
      simp
    have hpa := H3.out.1.pa
    rw [H3.out.2.2.2.2, hps3] at hpa
    have hpo := path_pop hpa
    rw [seen_length, ← H.out.2.2.2.2.2.2.2.2.2.1] at hpo
    have hfin := H3.out.1.putPath (w1 := w3) (v' := .slice (some ⟨gp, 0, none⟩) i cap) (ps' := seen rs) (Kept.refl _ _) (by rw [seen_length, ← H.out.2.2.2.2.2.2.2.2.2.1]; exact hpo.1) (.inl (by rw [H3.out.2.2.2.2]; rfl))
    obtain ⟨x4, hx4⟩ : ∃ x4 : Wk, x4 = { x3 with vp := .slice (some ⟨gp, 0, none⟩) i cap, ps := seen rs } := ⟨_, rfl⟩
    have hns : x3.ns = x.ns := by rw [H3.out.2.2.1.2.2.2.1, H1.out.2.2.2.2.1, H1.out.2.2.2.1]; rfl
    have hcn : x3.cnt = x.cnt := by rw [H3.out.2.2.1.2.2.2.2, H1.out.2.2.2.2.1, H1.out.2.2.2.1]; rfl
    refine ⟨rfl, x4, HF.out _ _ ⟨?_, ?_, ?_, ⟨3 * x.ns.count (-1) + 2 * rs.length + 1, ⟨rs, os', pd3, ?_, ?_, .inr ⟨?_, ?_⟩⟩, by omega⟩, .inl ⟨fun t => (by rw [H.out.2.2.2.1, seen_cons, List.getLast?_append]; intro e; cases e), by rw [hx4]; exact hns⟩⟩⟩
    · rw [hx4]; exact hfin.1
    · rw [hx4]; exact ((H1.out.2.2.2.2.2.2.1.trans H1.out.1.2).trans H3.out.2.1).trans hfin.2
    · rw [hx4]; show x3.vs = x.vs; rw [H3.out.2.2.1.2.2.1, H1.out.2.2.2.2.1, H1.out.2.2.2.1]; rfl
    · rw [hx4]; exact hW3.ps _ _
    · rw [hx4]; show x3.cnt + ((x3.ns.count (-1) : Nat) : Int) = n; rw [hns, hcn]; exact HCt.out
    · rw [hx4]
    · rw [hx4]; show _ = 3 * x3.ns.count (-1) + _ + 1; rw [hns]
end Go.Proofs.YtplofbabfkkimaaDoor.Ts
/- tauscc: contracts of the walk's goOn and from. -/
namespace Go.Proofs.YtplofbabfkkimaaDoor.Ts
open Go.RowKit Go.Maps
attribute [local go_sem ↓] Go.wp_at_zero Go.wp_at_succ
/-- A state has its number. -/
def Wk.nd (x : Wk) (v : Nat) : Prop := ∃ z, x.ns[v]? = some z ∧ z ≠ -1
theorem Wi.path_le {n : Nat} {out : Nat → List Nat} {x : Wk} {path : List (Nat × Nat)} {os : List Nat} {pd : Nat → Prop} (h : Wi n out x path os pd) : path.length ≤ n := by
  have h1 : (path.map Prod.fst).Nodup := by
    have := h.inv.pth
    refine List.pairwise_map.2 (this.imp fun {a b} hab e => ?_)
    rw [e] at hab
    exact absurd hab (Int.lt_irrefl _)
  have h2 := nodup_sub (path.map Prod.fst) (List.range n) h1 fun a ha => by
    obtain ⟨p, hp, rfl⟩ := List.mem_map.1 ha
    exact List.mem_range.2 (h.inv.rng _ (h.inv.pop p hp).1.1)
  rw [List.length_map, List.length_range] at h2
  exact h2
theorem Wi.path_lt {n : Nat} {out : Nat → List Nat} {x : Wk} {path : List (Nat × Nat)} {os : List Nat} {pd : Nat → Prop} (h : Wi n out x path os pd) {t : Nat} (ht : t < n) (hu : x.ns[t]? = some (-1)) : path.length + 1 ≤ n := by
  have h1 : (path.map Prod.fst).Nodup := by
    have := h.inv.pth
    refine List.pairwise_map.2 (this.imp fun {a b} hab e => ?_)
    rw [e] at hab
    exact absurd hab (Int.lt_irrefl _)
  have h3 : (t :: path.map Prod.fst).Nodup := List.nodup_cons.2 ⟨fun hm => by
    obtain ⟨p, hp, rfl⟩ := List.mem_map.1 hm
    have h4 := (h.inv.pop p hp).1.1
    have h5 : (x.st path).num p.1 = -1 := by show x.ns[p.1]?.getD (-1) = -1; rw [hu]; rfl
    omega, h1⟩
  have h2 := nodup_sub (t :: path.map Prod.fst) (List.range n) h3 fun a ha => by
    rcases List.mem_cons.1 ha with rfl | ha
    · exact List.mem_range.2 ht
    · obtain ⟨p, hp, rfl⟩ := List.mem_map.1 ha
      exact List.mem_range.2 (h.inv.rng _ (h.inv.pop p hp).1.1)
  rw [List.length_cons, List.length_map, List.length_range] at h2
  exact h2
theorem Wi.open_le {n : Nat} {out : Nat → List Nat} {x : Wk} {path : List (Nat × Nat)} {os : List Nat} {pd : Nat → Prop} (h : Wi n out x path os pd) : x.os.length ≤ n := by
  have h2 := nodup_sub os (List.range n) h.opl.nodup fun a ha => List.mem_range.2 (h.inv.rng _ ((h.opl.mem a).1 ha).1)
  rw [List.length_range] at h2
  rw [h.os, cast_length]
  exact h2
theorem goOn_any (B r n gs ds cp : Nat) (x : Wk) (out : Nat → List Nat) (N : Nat) (w : World) (hM : WkM w B r x) (hS : Sil w r x n out gs ds cp) (hR : Ready n out x N) (hne : x.ps ≠ []) (hn : n ≤ 1000) (hout : ∀ q, q < n → ∀ t ∈ out q, t < n) (hol : ∀ q, q < n → (out q).length ≤ 100000) :
    Calls Tryd.prog 51 #[.pointer (some ⟨r, 0, none⟩)] w fun e w' => e = .returned (.tuple #[]) ∧ ∃ x', GoAt w w' B r n out x x' N := by
  obtain ⟨path, os, pd, hW, hct, ⟨t, h1, h2, h3, h4, h5⟩ | ⟨h1, h5⟩⟩ := hR
  · have hl := hW.path_lt h2 h3
    have h6 := goOn_fresh B r n gs ds cp x out t path os pd w hM hS hW h1 h2 h3 h4 hn hout hol (by rw [h1, List.length_append, seen_length]; simp; omega) hct hW.inv.cnt0 (by have := hW.open_le; omega)
    rw [h5]
    exact h6
  · cases path with
    | nil => exact absurd h1 hne
    | cons p rs =>
      obtain ⟨s, k⟩ := p
      have hl := hW.path_le
      have h6 := goOn_back B r n gs ds cp x out s k rs os pd w hM hS hW h1 hn hout hol (by rw [h1, seen_length]; omega) hct
      rw [h5]
      exact h6
/-- What from makes of the walk: its path is empty again, the state has its number, those that had one still have. -/
structure FrAt (w w' : World) (B r n : Nat) (out : Nat → List Nat) (x x' : Wk) : Prop where
  m : WkM w' B r x'
  gw : Grew w w' r x x'
  vs : x'.vs = x.vs
  ps : x'.ps = []
  wi : ∃ os pd, Wi n out x' [] os pd
  ct : x'.cnt + (x'.ns.count (-1) : Nat) = n
  nd : ∀ v, x.nd v → x'.nd v
/-- Between two rounds of from's loop. -/
structure FrL (w wr : World) (B r n s : Nat) (out : Nat → List Nat) (x xr : Wk) (N : Nat) : Prop where
  m : WkM wr B r xr
  gw : Grew w wr r x xr
  vs : xr.vs = x.vs
  rd : Ready n out xr N
  nd : ∀ v, x.nd v → xr.nd v
  at_ : xr.ps = [(s, 0, 0)] ∨ xr.nd s
theorem FrL.next {w wr w' : World} {B r n s : Nat} {out : Nat → List Nat} {x xr x' : Wk} {N : Nat} (h : FrL w wr B r n s out x xr N) (g : GoAt wr w' B r n out xr x' N) : ∃ N', N' < N ∧ FrL w w' B r n s out x x' N' := by
  obtain ⟨N', h1, h2⟩ := g.rd
  have hc : 0 ≤ xr.cnt := by obtain ⟨_, _, _, hW, _⟩ := h.rd; exact hW.inv.cnt0
  have hmo : ∀ v, xr.nd v → x'.nd v := fun v hv => by
    rcases g.nn with ⟨_, h3⟩ | ⟨s', _, h3⟩
    · unfold Wk.nd; rw [h3]; exact hv
    · unfold Wk.nd; rw [h3]
      obtain ⟨z, hz, hz1⟩ := hv
      by_cases e : s' = v
      · subst e
        exact ⟨xr.cnt, List.getElem?_set_self (List.getElem?_eq_some_iff.1 hz).1, by omega⟩
      · exact ⟨z, by rw [List.getElem?_set_ne e]; exact hz, hz1⟩
  refine ⟨N', h2, g.m, h.gw.trans g.gw, g.vs.trans h.vs, h1, fun v hv => hmo v (h.nd v hv), .inr ?_⟩
  rcases h.at_ with h4 | h4
  · rcases g.nn with ⟨h3, _⟩ | ⟨s', h5, h3⟩
    · exact absurd (by rw [h4]; rfl) (h3 s)
    · rw [h4] at h5
      have e : s = s' := by injection h5 with h5; exact (Prod.mk.inj h5).1
      subst e
      obtain ⟨path, _, _, hW, _, h6⟩ := h.rd
      have hsn : s < xr.ns.length := by
        rcases h6 with ⟨t, h7, h8, _⟩ | ⟨h7, _⟩
        · rw [h4] at h7
          rw [hW.ns]
          have h9 := congrArg List.getLast? h7
          rw [List.getLast?_append] at h9
          have e : s = t := by injection h9 with h9; exact (Prod.mk.inj h9).1
          rw [e]; exact h8
        · rw [h4] at h7
          exfalso
          have h9 : (s, 0, 0) ∈ seen path := by rw [← h7]; exact List.mem_singleton.2 rfl
          unfold seen at h9
          obtain ⟨p, _, h9⟩ := List.mem_map.1 h9
          exact absurd (Prod.mk.inj (Prod.mk.inj h9).2).1 (by decide)
      unfold Wk.nd
      rw [h3]
      exact ⟨xr.cnt, List.getElem?_set_self hsn, by omega⟩
  · exact hmo s h4
set_option linter.unusedSimpArgs false in
set_option maxRecDepth 100000 in
set_option maxHeartbeats 4000000 in
theorem from_any (B r n gs ds cp : Nat) (x : Wk) (out : Nat → List Nat) (s : Nat) (os : List Nat) (pd : Nat → Prop) (w : World) (hM : WkM w B r x) (hS : Sil w r x n out gs ds cp) (hW : Wi n out x [] os pd) (hps : x.ps = []) (hs : s < n) (hu : x.ns[s]? = some (-1)) (hn : n ≤ 1000) (hout : ∀ q, q < n → ∀ t ∈ out q, t < n) (hol : ∀ q, q < n → (out q).length ≤ 100000) (hct : x.cnt + (x.ns.count (-1) : Nat) = n) :
    Calls Tryd.prog 36 #[.pointer (some ⟨r, 0, none⟩), .int .i64 s] w fun e w' => e = .returned (.tuple #[]) ∧ ∃ x', FrAt w w' B r n out x x' ∧ x'.nd s := by
  obtain ⟨_, c1, _⟩ := seven_cells hM.box
  have hO := hM.pa
  obtain ⟨ap, cap, hvp⟩ := row_shape hO
  obtain ⟨P, hP⟩ : ∃ P, P = x.ps.length := ⟨_, rfl⟩
  rw [← hP] at hvp hO
  rw [hvp] at c1 hO
  have hP0 : P = 0 := by rw [hP, hps]; rfl
  have hle : B ≤ (w.alloc (.cells #[.int .i64 s, .int .i64 0, .int .i64 0] 111)).heap.size := by have := t_lt hM.box; have := hM.up; rw [World.size_alloc]; omega
  have hml : P + 1 ≤ maxLen := by unfold maxLen; omega
  have hby : (P + 1) * 24 ≤ 140737488355328 := by omega
  obtain ⟨i0, hi0, hz0, hz1, hz2⟩ := info_parts Tryd.infoVi
  have H : Hid _ := And.intro hM (And.intro hS (And.intro hW (And.intro hps (And.intro hs (And.intro hu (And.intro hct (And.intro hvp (And.intro hol hout))))))))
  have HO : Hid _ := And.intro hO hP0
  clear hM hS hW hps hs hu hct hvp hol hout hO hP hP0
  go_enter Tryd.func36, Tryd.ntmps36
  go_upto_region 1 with (at_builtin; refine wpList_append_own_at _ rfl _ _ 89 rfl B 111 i0 (.agg #[.int .i64 0, .int .i64 0, .int .i64 0]) 3 24 Tryd.underlying89 hi0 hz0 hz1 hz2 rfl (by decide) (.slice ap P cap) P (pC x.ps) rfl (HO.out.1.alloc _) ⟨w.heap.size, 0, none⟩ 1 1 [.int .i64 s, .int .i64 0, .int .i64 0] rfl rfl (World.news_of_block (cs := #[.int .i64 s, .int .i64 0, .int .i64 0]) (t := 111) (fr := (0, 0)) (heap_alloc_new w _)) (by simp [Value.oneCell']) hml hby hle ?_; intro v7 w7 hO7 hg7 hnil7 hat7; obtain ⟨a7, c7, hv7⟩ := row_shape hO7; subst hv7; have hk7 := grown_alloc hg7; have hbx := (hk7.block r (t_lt H.out.1.box) fun e => H.out.1.r_foot (.inl (by rw [H.out.2.2.2.2.2.2.2.1]; exact e))).trans H.out.1.box; have bc := (seven_cells hbx).2.1; have bf := blk_free hbx 1; have H7 : Hid _ := And.intro hO7 (And.intro hk7 hat7); clear hO7 hg7 hk7 hnil7 hat7 hbx)
  obtain ⟨w1, hw1⟩ : ∃ w1, w1 = w7.setCell ⟨r, 1, none⟩ (.slice a7 (P + 1) c7) := ⟨_, rfl⟩
  have hrow : w7.ownsRow B 111 3 (.slice a7 (P + 1) c7) [(s, 0, 0)].length (pC [(s, 0, 0)]) := by
    have h9 := H7.out.1
    rw [H.out.2.2.2.1, HO.out.2] at h9
    rw [HO.out.2]
    exact h9
  have hfin := H.out.1.putPath (w1 := w7) (v' := .slice a7 (P + 1) c7) (ps' := [(s, 0, 0)]) (by rw [H.out.2.2.2.2.2.2.2.1]; exact H7.out.2.1) hrow (by rw [H.out.2.2.2.2.2.2.2.1]; exact que_up H7.out.2.2)
  obtain ⟨x1, hx1⟩ : ∃ x1 : Wk, x1 = { x with vp := .slice a7 (P + 1) c7, ps := [(s, 0, 0)] } := ⟨_, rfl⟩
  rw [← hw1, ← hx1] at hfin
  have hL : FrL w w1 B r n s out x x1 (3 * x.ns.count (-1)) := by
    refine ⟨hfin.1, hfin.2, by rw [hx1], ⟨[], os, pd, ?_, ?_, .inl ⟨s, ?_, H.out.2.2.2.2.1, ?_, .inl rfl, ?_⟩⟩, ?_, .inl (by rw [hx1])⟩
    · rw [hx1]; exact H.out.2.2.1.ps _ _
    · rw [hx1]; exact H.out.2.2.2.2.2.2.1
    · rw [hx1]; rfl
    · rw [hx1]; exact H.out.2.2.2.2.2.1
    · rw [hx1]; rfl
    · rw [hx1]; exact fun v h => h
  rw [← hw1]
  have HL : Hid _ := hL
  clear hL hfin hrow hw1 hx1 H7 bc bf c1 HO hle hml hby hi0 hz0 hz1 hz2
  go_loopg [] (3 * x.ns.count (-1)) (fun g wr => ∃ xr, FrL w wr B r n s out x xr g)
  case atStart => exact ⟨x1, HL.out⟩
  case round =>
    obtain ⟨xr, hA⟩ := hrel
    obtain ⟨_, d1, _⟩ := seven_cells hA.m.box
    obtain ⟨ar, cr, hvr⟩ := row_shape hA.m.pa
    obtain ⟨P, hP⟩ : ∃ P, P = xr.ps.length := ⟨_, rfl⟩
    rw [hvr, ← hP] at d1
    by_cases hz : P = 0
    · subst hz
      have hnil : xr.ps = [] := List.length_eq_zero_iff.1 hP.symm
      have HA : Hid _ := And.intro hA hnil
      clear hA hnil hP hvr
      go_wp2_with fail
      go_end0
      obtain ⟨path, os', pd', hW, hc, h6⟩ := HA.out.1.rd
      have hpa : path = [] := by
        rcases h6 with ⟨t, h7, _⟩ | ⟨h7, _⟩
        · rw [HA.out.2] at h7
          have := congrArg List.length h7
          simp at this
        · rw [HA.out.2] at h7
          have := congrArg List.length h7
          rw [seen_length] at this
          exact List.length_eq_zero_iff.1 this.symm
      subst hpa
      refine ⟨rfl, xr, ⟨HA.out.1.m.below (Below.refl _ _), HA.out.1.gw, HA.out.1.vs, HA.out.2, ⟨os', pd', hW⟩, hc, HA.out.1.nd⟩, ?_⟩
      rcases HA.out.1.at_ with h7 | h7
      · rw [HA.out.2] at h7; cases h7
      · exact h7
    · have hne : xr.ps ≠ [] := fun e => hz (by rw [hP, e]; rfl)
      have p0 : (0 : Int) < (P : Int) := by omega
      have hC := goOn_any B r n gs ds cp xr out _ wr hA.m (H.out.2.1.grew hA.gw hA.vs) hA.rd hne hn H.out.2.2.2.2.2.2.2.2.2 H.out.2.2.2.2.2.2.2.2.1
      have HA : Hid _ := And.intro hA hC
      clear hA hC hne hP hvr hz
      go_wp2_with (go_at_call 51; refine Calls.mono HA.out.2 ?_; rintro r2 w2 ⟨rfl, x2, hG⟩; obtain ⟨N2, hN2, hA2⟩ := HA.out.1.next hG)
      go_roundg N2
      case measure => exact hN2
      case rel => exact ⟨x2, hA2⟩
end Go.Proofs.YtplofbabfkkimaaDoor.Ts
/- Rows of memory that make lays: what they hold, and that they are rows of one's own. -/
namespace Go.Proofs.YtplofbabfkkimaaDoor
open Go.RowKit Go.Maps
/-- A block of one's own, made since w, that holds just these cells. -/
structure Arr (ty : TypeId) (w wr : World) (gi : Nat) (vs : List Value) : Prop where
  bl : Below w.heap.size w wr
  ids : ∃ cs, wr.heap[gi]? = some (.cells cs ty (0, 0)) ∧ cs.toList = vs
  gu : w.heap.size ≤ gi
theorem Arr.lt {ty : TypeId} {w wr : World} {gi : Nat} {vs : List Value} (h : Arr ty w wr gi vs) : gi < wr.heap.size := by
  obtain ⟨cs, hc, _⟩ := h.ids
  exact t_lt hc
theorem Arr.below {ty : TypeId} {w wr w' : World} {gi : Nat} {vs : List Value} (h : Arr ty w wr gi vs) (hb : Below wr.heap.size wr w') : Arr ty w w' gi vs := by
  obtain ⟨cs, hc, hx⟩ := h.ids
  exact ⟨h.bl.trans (hb.mono h.bl.size), ⟨cs, (hb.block _ (t_lt hc)).trans hc, hx⟩, h.gu⟩
/-- Other blocks that are new turn. -/
theorem Arr.kept {ty : TypeId} {w wr w' : World} {gi : Nat} {vs : List Value} {F : Nat → Prop} (h : Arr ty w wr gi vs) (hk : Kept F wr w') (hF : ∀ b, F b → w.heap.size ≤ b ∧ b ≠ gi) : Arr ty w w' gi vs := by
  obtain ⟨cs, hc, hx⟩ := h.ids
  exact ⟨h.bl.trans (hk.below h.bl.size fun b hb => (hF b hb).1), ⟨cs, (hk.block _ (t_lt hc) fun hf => (hF gi hf).2 rfl).trans hc, hx⟩, h.gu⟩
theorem Arr.cell {ty : TypeId} {w wr : World} {gi : Nat} {vs : List Value} (h : Arr ty w wr gi vs) {i : Nat} {x : Value} (hi : vs[i]? = some x) : wr.cell? ⟨gi, i, none⟩ = some x := by
  obtain ⟨cs, hc, hx⟩ := h.ids
  refine cell0_of hc ?_
  rw [← Array.getElem?_toList, hx]
  exact hi
theorem Arr.free {ty : TypeId} {w wr : World} {gi : Nat} {vs : List Value} (h : Arr ty w wr gi vs) (i : Nat) : wr.frozen? ⟨gi, i, none⟩ = false := by
  obtain ⟨cs, hc, hx⟩ := h.ids
  exact blk_free hc i
theorem Arr.set {ty : TypeId} {w wr : World} {gi : Nat} {vs : List Value} (h : Arr ty w wr gi vs) (i : Nat) (x : Value) : Arr ty w (wr.setCell ⟨gi, i, none⟩ x) gi (vs.set i x) := by
  obtain ⟨cs, hc, hx⟩ := h.ids
  refine ⟨h.bl.setCell h.gu _, ⟨_, heap_setCell_same wr gi i cs _ _ hc, ?_⟩, h.gu⟩
  rw [Array.toList_setIfInBounds, hx]
theorem Arr.back {ty : TypeId} {w w1 wr : World} {g : Nat} {vs : List Value} (h : Arr ty w1 wr g vs) (hb : Below w.heap.size w w1) : Arr ty w wr g vs := ⟨hb.trans (h.bl.mono hb.size), h.ids, Nat.le_trans hb.size h.gu⟩
/-- It is a row of one's own. -/
theorem Arr.own {ty : TypeId} {w wr : World} {gi : Nat} {vs : List Value} (h : Arr ty w wr gi vs) (hn : vs.length ≤ maxLen) : wr.ownsRow w.heap.size ty 1 (.slice (some ⟨gi, 0, none⟩) vs.length vs.length) vs.length vs := by
  obtain ⟨cs, hc, hx⟩ := h.ids
  refine ⟨by rw [Nat.mul_one], .inr ⟨gi, vs.length, cs, rfl, h.gu, hc, Nat.le_refl _, hn, ?_, ?_⟩⟩
  · rw [← hx]; simp
  · rw [hx]; simp
/-- The cells of a new list of n noughts. -/
def madeV (z : Value) (n : Nat) : Array Value := madeCells z.cells (n * 1)
theorem madeV_eq (z : Value) (hz : z.cells = #[z]) (n : Nat) : (madeV z n).toList = List.replicate n z := by
  apply List.ext_getElem
  · simp [madeV, madeCells]
  · intro i h1 h2
    simp [madeV, madeCells, hz, Nat.mod_one]
theorem arr_new (ty : TypeId) (z : Value) (hz : z.cells = #[z]) (n : Nat) (w : World) : Arr ty w (w.alloc (.cells (madeV z n) ty)) w.heap.size (List.replicate n z) := ⟨(Below.refl _ _).alloc (Nat.le_refl _) _, ⟨_, (MapKept.heap_alloc w _).1, madeV_eq z hz n⟩, Nat.le_refl _⟩
theorem make_of (t e : TypeId) (z : Value) (by8 : Nat) (ht : Tryd.prog.underlying t = some (.slice e)) (hi : (Tryd.prog.info? e).map (fun i => (i.zero, i.size, i.bytes)) = some (some z, 1, by8)) (n : Nat) (hn : n ≤ 1000000) (hby : by8 ≤ 100) (w : World) : (Instr.makeSlice t (.int .i64 (n : Int)) (.int .i64 (n : Int))).run Tryd.prog w = .ok (.slice (some ⟨w.heap.size, 0, none⟩) n n) (w.alloc (.cells (madeV z n) e)) := by
  obtain ⟨i0, hi0, hz0, hz1, hz2⟩ := info_parts hi
  have hm : n * by8 ≤ 1000000 * 100 := Nat.mul_le_mul hn hby
  have h := run_makeSlice (P := Tryd.prog) w t e i0 z ht hi0 hz0 .i64 .i64 (n : Int) (n : Int) (by omega) (Int.le_refl _) (by rw [hz1]; omega) (by rw [hz2]; have h9 : (by8 : Int) * (n : Int) ≤ 100000000 := (by rw [Int.mul_comm]; exact Int.ofNat_le.2 hm); omega) (by omega)
  rw [h, hz1]
  simp [madeV]
theorem Tryd.infoI4 : (Tryd.prog.info? 3).map (fun i => (i.zero, i.size, i.bytes)) = some (some (.int .i64 0), 1, 8) := by kernel_rfl
theorem makeI (n : Nat) (hn : n ≤ 1000000) (w : World) : (Instr.makeSlice 26 (.int .i64 (n : Int)) (.int .i64 (n : Int))).run Tryd.prog w = .ok (.slice (some ⟨w.heap.size, 0, none⟩) n n) (w.alloc (.cells (madeV (.int .i64 0) n) 3)) := make_of _ _ _ 8 Tryd.underlying26 Tryd.infoI4 n hn (by decide) w
theorem Tryd.infoB4 : (Tryd.prog.info? 4).map (fun i => (i.zero, i.size, i.bytes)) = some (some (.bool false), 1, 1) := by kernel_rfl
theorem makeB (n : Nat) (hn : n ≤ 1000000) (w : World) : (Instr.makeSlice 38 (.int .i64 (n : Int)) (.int .i64 (n : Int))).run Tryd.prog w = .ok (.slice (some ⟨w.heap.size, 0, none⟩) n n) (w.alloc (.cells (madeV (.bool false) n) 4)) := make_of _ _ _ 1 Tryd.underlying38 Tryd.infoB4 n hn (by decide) w
end Go.Proofs.YtplofbabfkkimaaDoor
