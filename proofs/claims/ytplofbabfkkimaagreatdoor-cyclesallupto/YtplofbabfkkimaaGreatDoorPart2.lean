/- Texts of this claim, joined: TsGoF, TsFrom, SyArr, TsCyc0, Shelf, SyRep. -/
import Derived.Test.YtplofbabfkkimaaGreatDoorPart1
import Derived.Deep.LoopGhost
import Derived.Test.YtplofbabfkkimaaGreatDoorPart0
import Derived.Laws.MakeOwn
import Derived.Shelf.Small.Bits
import Derived.Shelf.Small.Wraps
import Derived.Shelf.Strconv.Itoa0
import Derived.Shelf.Bits.Mul64
import Derived.Ground.Names2Prog
import Derived.Shelf.Slices.SearchI
import Derived.Shelf.Slices.Empties
import Derived.Test.YtplofbabfkkimaaGreatDoorProg
import Derived.Laws.IdiomCopy
import Derived.WalkSmall
import Derived.Deep.DrawnRows
/- tauscc: contract of the walk's goOn, at a state to which it has just come. -/
namespace Go.Proofs.YtplofbabfkkimaaGreatDoor.Ts
open Go.RowKit Go.Maps
attribute [local go_sem ↓] Go.wp_at_zero Go.wp_at_succ
theorem GoAt.from {w0 w w' : World} {B r n s : Nat} {out : Nat → List Nat} {x0 x x' : Wk} {N N0 : Nat} (h : GoAt w w' B r n out x x' N) (hg : Grew w0 w r x0 x) (hv : x.vs = x0.vs) (hN : N ≤ N0) (hns : x.ns = x0.ns.set s x0.cnt) (hl0 : x0.ps.getLast? = some (s, 0, 0)) (hl : ∀ t, x.ps.getLast? ≠ some (t, 0, 0)) : GoAt w0 w' B r n out x0 x' N0 := by
 obtain ⟨N', h1, h2⟩ := h.rd
 refine ⟨h.m, hg.trans h.gw, h.vs.trans hv, ⟨N', h1, by omega⟩, .inr ⟨s, hl0, ?_⟩⟩
 rcases h.nn with ⟨_, h3⟩ | ⟨t, h3, _⟩
 ·rw [h3, hns]
 ·exact absurd h3 (hl t)
theorem count_set (l : List Int) (v : Nat) (z : Int) (hv : l[v]? = some (-1)) (hz : z ≠ -1) : (l.set v z).count (-1) + 1 = l.count (-1) := by
 induction l generalizing v with
 | nil => simp at hv
 | cons a l ih =>
   cases v with
   | zero =>
     simp only [List.getElem?_cons_zero, Option.some.injEq] at hv
     subst hv
     rw [List.set_cons_zero, List.count_cons, List.count_cons]
     simp [hz]
   | succ v =>
     rw [List.getElem?_cons_succ] at hv
     rw [List.set_cons_succ, List.count_cons, List.count_cons, ← ih v hv]
     omega
set_option linter.unusedSimpArgs false in
set_option maxRecDepth 100000 in
set_option maxHeartbeats 4000000 in
theorem goOn_fresh (B r n gs ds cp : Nat) (x0 : Wk) (out : Nat → List Nat) (s : Nat) (rs : List (Nat × Nat)) (os0 : List Nat) (pd0 : Nat → Prop) (w0 : World) (hM0 : WkM w0 B r x0) (hS0 : Sil w0 r x0 n out gs ds cp) (hW0 : Wi n out x0 rs os0 pd0) (hps0 : x0.ps = seen rs ++ [(s, 0, 0)]) (hs0 : s < n) (hu0 : x0.ns[s]? = some (-1)) (hlk : rs = [] ∨ ∃ p i r, rs = (p, i) :: r ∧ (out p)[i]? = some s) (hn : n ≤ 1000) (hout : ∀ q, q < n → ∀ t ∈ out q, t < n) (hol : ∀ q, q < n → (out q).length ≤ 100000) (hpl0 : x0.ps.length ≤ 1000) (hct0 : x0.cnt + (x0.ns.count (-1) : Nat) = n) (hc0 : 0 ≤ x0.cnt) (hol0 : x0.os.length ≤ 100000) :
 Calls Tryz.prog 132 #[.pointer (some ⟨r, 0, none⟩)] w0 fun e w' => e = .returned (.tuple #[]) ∧ ∃ x', GoAt w0 w' B r n out x0 x' (3 * x0.ns.count (-1) + 2 * rs.length) := by
 obtain ⟨I, hI⟩ : ∃ I, I = rs.length := ⟨_, rfl⟩
 have htop0 : x0.ps[I]? = some (s, 0, 0) := by rw [hps0, hI, ← seen_length rs]; simp
 obtain ⟨gq, capq, hvq, hcapq, e0, e1, e2, ef⟩ := hM0.entry htop0
 obtain ⟨_, c1, _⟩ := seven_cells hM0.box
 obtain ⟨Q, hQ⟩ : ∃ Q, Q = x0.ps.length := ⟨_, rfl⟩
 have hQi : Q = I + 1 := by rw [hQ, hps0, List.length_append, seen_length, hI]; rfl
 rw [hvq, ← hQ] at c1
 have p0 : IntKind.i64.wrap ((Q : Int) - 1) = (I : Int) := by rw [IntKind.wrap_i64]; omega
 have p1 : (0 : Int) ≤ (I : Int) := by omega
 have p2 : (I : Int) < (Q : Int) := by omega
 have hNu := number_any B r x0 s w0 hM0 (by rw [hW0.ns]; exact hs0) (by rw [hW0.ls, hW0.ns]) ⟨hc0, by omega⟩ hol0
 have HQ : Hid _ := And.intro hNu (And.intro hS0 (And.intro hW0 (And.intro hps0 (And.intro hs0 (And.intro hu0 (And.intro hlk (And.intro hpl0 (And.intro hct0 (And.intro hc0 (And.intro htop0 (And.intro hvq (And.intro hQ (And.intro hI (And.intro hol hout))))))))))))))
 clear hNu hS0 hW0 hps0 hs0 hu0 hlk hpl0 hct0 hc0 htop0 hvq hQ hI hol hout hM0 hol0 ef hcapq hQi
 go_enter Tryz.func132, Tryz.ntmps132
 go_upto_region 7 with (go_at_call 152; refine Calls.mono HQ.out.1 ?_; rintro r1 w1 ⟨rfl, vo, hM1, hG1⟩)
 obtain ⟨y1, hy1⟩ : ∃ y1, y1 = x0.numd s vo := ⟨_, rfl⟩
 rw [← hy1] at hM1 hG1
 have htop1 : y1.ps[I]? = some (s, 0, 0) := by rw [hy1]; exact HQ.out.2.2.2.2.2.2.2.2.2.2.1
 have hv1 : y1.vp = .slice (some ⟨gq, 0, none⟩) y1.ps.length capq := by rw [hy1]; exact HQ.out.2.2.2.2.2.2.2.2.2.2.2.1
 obtain ⟨g', c', hv', _, _, f1, _, ff⟩ := hM1.entry htop1
 rw [hv1] at hv'
 injection hv' with u1 u2 u3
 injection u1 with u1
 injection u1 with u1
 subst u1
 have ff1 := ff (I * 3 + 1)
 have hSt := hM1.setStage hv1 htop1 1
 obtain ⟨x, hx⟩ : ∃ x : Wk, x = { y1 with ps := y1.ps.set I (s, 1, 0) } := ⟨_, rfl⟩
 obtain ⟨w, hw⟩ : ∃ w, w = w1.setCell ⟨gq, I * 3 + 1, none⟩ (.int .i64 1) := ⟨_, rfl⟩
 rw [← hx, show ((1 : Nat) : Int) = 1 from rfl, ← hw] at hSt
 have hG : Grew w0 w r x0 x := hG1.trans hSt.2
 have hM := hSt.1
 have hvs : x.vs = x0.vs := by rw [hx, hy1]; rfl
 have hS := HQ.out.2.1.grew hG hvs
 have hW : Wi n out x ((s, 0) :: rs) (os0 ++ [s]) (fun _ => False) := by
  have h9 := HQ.out.2.2.1.number (pd' := fun _ => False) HQ.out.2.2.2.2.1 HQ.out.2.2.2.2.2.1 HQ.out.2.2.2.2.2.2.1 vo
  rw [hx, hy1]
  exact h9.ps _ _
 have hps : x.ps = seen ((s, 0) :: rs) := by
  rw [hx, hy1]
  show x0.ps.set I (s, 1, 0) = _
  rw [HQ.out.2.2.2.1, seen_cons, HQ.out.2.2.2.2.2.2.2.2.2.2.2.2.2.1, ← seen_length rs]
  simp
 have hpl : x.ps.length ≤ 1000 := by rw [hps, seen_length]; show rs.length + 1 ≤ 1000; have h8 := HQ.out.2.2.2.2.2.2.2.1; rw [HQ.out.2.2.2.1, List.length_append, seen_length] at h8; exact h8
 have hcs : x.ns.count (-1) + 1 = x0.ns.count (-1) := by rw [hx, hy1]; exact count_set x0.ns s x0.cnt HQ.out.2.2.2.2.2.1 (by have := HQ.out.2.2.2.2.2.2.2.2.2.1; omega)
 have hct : x.cnt + (x.ns.count (-1) : Nat) = n := by have h8 := HQ.out.2.2.2.2.2.2.2.2.1; have h7 : x.cnt = x0.cnt + 1 := (by rw [hx, hy1]; rfl); omega
 have hNN : 3 * x.ns.count (-1) + 2 * (rs.length + 1) + 1 ≤ 3 * x0.ns.count (-1) + 2 * rs.length := by omega
 have hfr : ∀ (w' : World) (x' : Wk), GoAt w w' B r n out x x' (3 * x.ns.count (-1) + 2 * (rs.length + 1) + 1) → GoAt w0 w' B r n out x0 x' (3 * x0.ns.count (-1) + 2 * rs.length) := fun w' x' h => h.from (s := s) hG hvs hNN (by rw [hx, hy1]; rfl) (by rw [HQ.out.2.2.2.1, List.getLast?_append]; rfl) (fun t => by rw [hps, seen_cons, List.getLast?_append]; intro e; cases e)
 have HF : Hid _ := hfr
 obtain ⟨os, hos0⟩ : ∃ os, os = os0 ++ [s] := ⟨_, rfl⟩
 obtain ⟨pd, hpd0⟩ : ∃ pd : Nat → Prop, pd = fun _ => False := ⟨_, rfl⟩
 obtain ⟨k, hk0⟩ : ∃ k : Nat, k = 0 := ⟨_, rfl⟩
 rw [← hos0, ← hpd0, ← hk0] at hW
 rw [← hk0] at hps
 have hol := HQ.out.2.2.2.2.2.2.2.2.2.2.2.2.2.2.1
 have hout := HQ.out.2.2.2.2.2.2.2.2.2.2.2.2.2.2.2
 have HV : Hid (x.vp = .slice (some ⟨gq, 0, none⟩) x.ps.length capq ∧ x.ps.length = x0.ps.length) := by
  refine And.intro ?_ ?_
  ·rw [hx]; show y1.vp = .slice _ (y1.ps.set _ _).length _; rw [List.length_set]; exact hv1
  ·rw [hx, hy1]; exact List.length_set
 clear hos0 hpd0 hk0 hfr hNN hcs hG hvs hx hSt hM1 hG1 hy1 htop1 hv1 u2 u3 ff e0 e1 e2 c1 p0 p1 p2
 have hop := hW.inv.pop (s, k) List.mem_cons_self
 have hsn : s < n := hW.inv.rng s hop.1.1
 obtain ⟨i, hi⟩ : ∃ i, i = rs.length := ⟨_, rfl⟩
 have htop : x.ps[i]? = some (s, 1, k) := by rw [hps, hi]; exact top_at rs s k
 obtain ⟨gp, cap, hvp, hcap, e0, e1, e2, ef⟩ := hM.entry htop
 have hil := (List.getElem?_eq_some_iff.1 htop).1
 have hAh := fun W (hb : Below w.heap.size w W) => ahead_any B r n gs ds cp x out i s 1 k gp cap W (hM.below hb) (hS.grew ((Grew.refl w r x).below hb) rfl) hvp htop hop.2 hsn (hout s hsn) (hol s hsn) hW.ns hW.ls hW.cs
 obtain ⟨_, c1, _⟩ := seven_cells hM.box
 obtain ⟨P, hP⟩ : ∃ P, P = x.ps.length := ⟨_, rfl⟩
 have hPi : P = i + 1 := by rw [hP, hps, seen_length, hi]; rfl
 rw [hvp, ← hP] at c1
 have p0 : IntKind.i64.wrap ((P : Int) - 1) = (i : Int) := by rw [IntKind.wrap_i64]; omega
 have p1 : (0 : Int) ≤ (i : Int) := by omega
 have p2 : (i : Int) < (P : Int) := by omega
 have H : Hid _ := And.intro hM (And.intro hS (And.intro hW (And.intro hps (And.intro htop (And.intro hvp (And.intro hAh (And.intro hP (And.intro hPi (And.intro hi (And.intro hop (And.intro hsn (And.intro hcap (And.intro hol (And.intro hout hpl))))))))))))))
 have HCt : Hid _ := hct
 clear hct hM hS hW hps htop hvp hAh hP hPi hi hop hsn hcap hol hout hpl ef
 have hgc : gp = gq ∧ i = I ∧ cap = capq ∧ P = Q := by
  have h1 := H.out.2.2.2.2.2.1
  have h2 := HV.out.1
  have h3 := H.out.2.2.2.2.2.2.2.1
  have h4 := HQ.out.2.2.2.2.2.2.2.2.2.2.2.2.1
  have h5 := HQ.out.2.2.2.2.2.2.2.2.2.2.2.2.2.1
  have h6 := H.out.2.2.2.2.2.2.2.2.2.1
  rw [h1] at h2
  injection h2 with u1 u2 u3
  injection u1 with u1
  injection u1 with u1
  exact ⟨u1, h6.trans h5.symm, u3, h3.trans (HV.out.2.trans h4.symm)⟩
 obtain ⟨rfl, rfl, rfl, rfl⟩ := hgc
 have HW : Hid _ := hw
 clear hw p0 p1 p2
 go_upto_region 8 with fail
 rw [← HW.out]
 clear HW ff1 f1
 go_upto_region 9 with (go_at_call 153; refine Calls.mono (H.out.2.2.2.2.2.2.1 _ (by repeat (first | exact Below.refl _ _ | assumption | refine Below.drew ?_))) ?_; rintro r1 w1 ⟨j, hA, hAt⟩; rcases hA with ⟨t, rfl, ht1, ht2⟩ | ⟨rfl, hkj⟩)
 ·obtain ⟨x1, hx1⟩ : ∃ x1, x1 = x.gone out i s 1 k j := ⟨_, rfl⟩
  have hM1 : WkM w1 B r x1 := by rw [hx1]; exact hAt.m
  have hv1 : x1.vp = .slice (some ⟨gp, 0, none⟩) P cap := by rw [hx1, H.out.2.2.2.2.2.2.2.1]; exact H.out.2.2.2.2.2.1
  have hl1 : x1.ps.length = P := by rw [hx1, H.out.2.2.2.2.2.2.2.1]; exact List.length_set
  have hO1 : w1.ownsRow B 175 3 (.slice (some ⟨gp, 0, none⟩) P cap) P (pC x1.ps) := by have h9 := hM1.pa; rw [hv1, hl1] at h9; exact h9
  obtain ⟨_, d1, _⟩ := seven_cells hM1.box
  rw [hv1] at d1
  have hml : P + 1 ≤ maxLen := by unfold maxLen; have := H.out.2.2.2.2.2.2.2.2.2.2.2.2.2.2.2; have := H.out.2.2.2.2.2.2.2.1; omega
  have hby : (P + 1) * 24 ≤ 140737488355328 := by have := H.out.2.2.2.2.2.2.2.2.2.2.2.2.2.2.2; have := H.out.2.2.2.2.2.2.2.1; omega
  have hle : B ≤ (w1.alloc (.cells #[.int .i64 t, .int .i64 0, .int .i64 0] 175)).heap.size := by have := t_lt hM1.box; have := hM1.up; rw [World.size_alloc]; omega
  obtain ⟨i0, hi0, hz0, hz1, hz2⟩ := info_parts Tryz.infoVi
  have H1 : Hid _ := And.intro hM1 (And.intro hAt (And.intro hx1 (And.intro hv1 (And.intro hl1 (And.intro hO1 (And.intro ht1 ht2))))))
  clear hM1 hAt hx1 hv1 hl1 hO1 ht1 ht2 c1 e0 e1 e2
  go_wp2_with (at_builtin; refine wpList_append_own_at _ rfl _ _ 119 rfl B 175 i0 (.agg #[.int .i64 0, .int .i64 0, .int .i64 0]) 3 24 Tryz.underlying119 hi0 hz0 hz1 hz2 rfl (by decide) (.slice (some ⟨gp, 0, none⟩) P cap) P (pC x1.ps) rfl (H1.out.2.2.2.2.2.1.alloc _) ⟨w1.heap.size, 0, none⟩ 1 1 [.int .i64 t, .int .i64 0, .int .i64 0] rfl rfl (World.news_of_block (cs := #[.int .i64 t, .int .i64 0, .int .i64 0]) (t := 175) (fr := (0, 0)) (heap_alloc_new w1 _)) (by simp [Value.oneCell']) hml hby hle ?_; intro v7 w7 hO7 hg7 hnil7 hat7; obtain ⟨a7, c7, hv7⟩ := row_shape hO7; subst hv7; have hk7 := grown_alloc hg7; have hbx := (hk7.block r (t_lt H1.out.1.box) fun e => H1.out.1.r_foot (.inl (by rw [H1.out.2.2.2.1]; exact e))).trans H1.out.1.box; have bc := (seven_cells hbx).2.1; have bf := blk_free hbx 1; have H7 : Hid _ := And.intro hO7 (And.intro hk7 hat7); clear hO7 hg7 hk7 hnil7 hat7 hbx)
  refine bodyPost_ret (results_none rfl _ _ _) rfl ?_
  obtain ⟨x2, hx2⟩ : ∃ x2 : Wk, x2 = { x1 with vp := .slice a7 (P + 1) c7, ps := x1.ps ++ [(t, 0, 0)] } := ⟨_, rfl⟩
  have hrow : w7.ownsRow B 175 3 (.slice a7 (P + 1) c7) (x1.ps ++ [(t, 0, 0)]).length (pC (x1.ps ++ [(t, 0, 0)])) := by
   rw [pC_snoc, List.length_append, H1.out.2.2.2.2.1]
   exact H7.out.1
  have hfin := H1.out.1.putPath (w1 := w7) (v' := .slice a7 (P + 1) c7) (ps' := x1.ps ++ [(t, 0, 0)]) (by rw [H1.out.2.2.2.1]; exact H7.out.2.1) hrow (by rw [H1.out.2.2.2.1]; exact que_up H7.out.2.2)
  have hps1 : x1.ps = seen ((s, k + j) :: rs) := by
   rw [H1.out.2.2.1]
   show x.ps.set i (s, 1, k + j) = _
   rw [H.out.2.2.2.1, seen_cons, seen_cons, H.out.2.2.2.2.2.2.2.2.2.1, ← seen_length rs]
   simp
  obtain ⟨pd', hW'⟩ := H.out.2.2.1.gone H.out.2.2.2.2.2.2.2.2.2.2.2.1 (H.out.2.2.2.2.2.2.2.2.2.2.2.2.2.2.1 s H.out.2.2.2.2.2.2.2.2.2.2.2.1) i 1 H.out.2.2.2.2.1 j H1.out.2.1.le H1.out.2.1.num
  have hns : x1.ns = x.ns := by rw [H1.out.2.2.1]; rfl
  refine ⟨rfl, x2, HF.out _ _ ⟨?_, ?_, ?_, ⟨3 * x.ns.count (-1) + 2 * (rs.length + 1), ⟨(s, k + j) :: rs, os, pd', ?_, ?_, .inl ⟨t, ?_, ?_, ?_, ?_, ?_⟩⟩, by omega⟩, .inl ⟨fun t => (by rw [H.out.2.2.2.1, seen_cons, List.getLast?_append]; intro e; cases e), by rw [hx2]; exact hns⟩⟩⟩
  ·rw [hx2]; exact hfin.1
  ·rw [hx2]; exact Grew.trans (by rw [H1.out.2.2.1]; exact H1.out.2.1.gw) hfin.2
  ·rw [hx2, H1.out.2.2.1]; rfl
  ·rw [hx2, H1.out.2.2.1]; exact hW'.ps _ _
  ·rw [hx2]; show x1.cnt + ((x1.ns.count (-1) : Nat) : Int) = n; rw [hns, show x1.cnt = x.cnt by rw [H1.out.2.2.1]; rfl]; exact HCt.out
  ·rw [hx2]; show x1.ps ++ _ = _; rw [hps1]
  ·exact H.out.2.2.2.2.2.2.2.2.2.2.2.2.2.2.1 s H.out.2.2.2.2.2.2.2.2.2.2.2.1 t (List.mem_of_getElem? H1.out.2.2.2.2.2.2.1)
  ·rw [hx2]; show x1.ns[t]? = _; rw [hns]; exact H1.out.2.2.2.2.2.2.2
  ·exact .inr ⟨s, k + j, rs, rfl, H1.out.2.2.2.2.2.2.1⟩
  ·rw [hx2]; show _ = 3 * x1.ns.count (-1) + _; rw [hns]; rfl
 ·obtain ⟨pd', hW'⟩ := H.out.2.2.1.gone H.out.2.2.2.2.2.2.2.2.2.2.2.1 (H.out.2.2.2.2.2.2.2.2.2.2.2.2.2.2.1 s H.out.2.2.2.2.2.2.2.2.2.2.2.1) i 1 H.out.2.2.2.2.1 j hAt.le hAt.num
  obtain ⟨x1, hx1⟩ : ∃ x1, x1 = x.gone out i s 1 k j := ⟨_, rfl⟩
  rw [← hx1] at hW'
  have hM1 : WkM w1 B r x1 := by rw [hx1]; exact hAt.m
  have hG1 : Grew w w1 r x x1 := by rw [hx1]; exact hAt.gw
  have hl1 : x1.ps.length = P := by rw [hx1, H.out.2.2.2.2.2.2.2.1]; exact List.length_set
  have hv1 : x1.vp = .slice (some ⟨gp, 0, none⟩) x1.ps.length cap := by rw [hl1, hx1, H.out.2.2.2.2.2.2.2.1]; exact H.out.2.2.2.2.2.1
  have hps1 : x1.ps = seen ((s, k + j) :: rs) := by
   rw [hx1]
   show x.ps.set i (s, 1, k + j) = _
   rw [H.out.2.2.2.1, seen_cons, seen_cons, H.out.2.2.2.2.2.2.2.2.2.1, ← seen_length rs]
   simp
  have htop1 : x1.ps[i]? = some (s, 1, k + j) := by rw [hps1, H.out.2.2.2.2.2.2.2.2.2.1]; exact top_at rs s (k + j)
  have hop1 := (hW'.inv.pop (s, k + j) List.mem_cons_self).1
  obtain ⟨pre, post, hos, hmem, hpre⟩ := hW'.opl.split hop1
  have hsn := H.out.2.2.2.2.2.2.2.2.2.2.2.1
  obtain ⟨lo, hlo⟩ : ∃ z, x1.ls[s]? = some z := ⟨_, List.getElem?_eq_getElem (by rw [hW'.ls]; exact hsn)⟩
  obtain ⟨nu, hnu⟩ : ∃ z, x1.ns[s]? = some z := ⟨_, List.getElem?_eq_getElem (by rw [hW'.ns]; exact hsn)⟩
  obtain ⟨zc, hzc⟩ : ∃ z, x1.cs[s]? = some z := ⟨_, List.getElem?_eq_getElem (by rw [hW'.cs]; exact hsn)⟩
  have hcs : x1.cs[s]? = some (-1) := by have h9 : x1.cs[s]?.getD (-1) = -1 := hop1.2; rw [hzc] at h9 ⊢; exact congrArg some h9
  have hin : ∀ u ∈ pre ++ s :: post, u < x1.cs.length := fun u hu => by rw [hW'.cs]; exact hW'.inv.rng u ((hW'.opl.mem u).1 (by rw [hos]; exact hu)).1
  have hnd : (pre ++ s :: post).Nodup := by rw [← hos]; exact hW'.opl.nodup
  have hol2 : x1.os.length ≤ 100000 := by
   rw [hW'.os, cast_length, hos]
   have h9 := nodup_sub _ (List.range x1.cs.length) hnd fun u hu => List.mem_range.2 (hin u hu)
   rw [List.length_range, hW'.cs] at h9
   refine Nat.le_trans h9 ?_
   omega
  have hSt := hM1.setStage hv1 htop1 2
  obtain ⟨x2, hx2⟩ : ∃ x2 : Wk, x2 = { x1 with ps := x1.ps.set i (s, 2, k + j) } := ⟨_, rfl⟩
  obtain ⟨w2, hw2⟩ : ∃ w2, w2 = w1.setCell ⟨gp, i * 3 + 1, none⟩ (.int .i64 2) := ⟨_, rfl⟩
  rw [← hx2, show ((2 : Nat) : Int) = 2 from rfl, ← hw2] at hSt
  have hCl := close_any B r x2 s lo nu pre post w2 hSt.1 (by rw [hx2]; exact hlo) (by rw [hx2]; exact hnu) (by rw [hx2]; exact hcs) (by rw [hx2]; show x1.os = _; rw [hW'.os, hos]) hnd (by rw [hx2]; exact hin) (by rw [hx2]; exact hol2)
  obtain ⟨gp', cap', hv', _, f0, f1, f2, ff⟩ := hM1.entry htop1
  rw [hv1] at hv'
  injection hv' with u1 u2 u3
  injection u1 with u1
  injection u1 with u1
  subst u1
  have ff1 := ff (i * 3 + 1)
  have htop2 : x2.ps[i]? = some (s, 2, k + j) := by rw [hx2]; exact List.getElem?_set_self (List.getElem?_eq_some_iff.1 htop1).1
  have hv2 : x2.vp = .slice (some ⟨gp, 0, none⟩) x2.ps.length cap := by rw [hx2]; show x1.vp = .slice _ (x1.ps.set _ _).length _; rw [List.length_set]; exact hv1
  obtain ⟨gp', cap', hv', _, g0, _, _, _⟩ := hSt.1.entry htop2
  rw [hv2] at hv'
  injection hv' with u4 u5 u6
  injection u4 with u4
  injection u4 with u4
  subst u4
  have H1 : Hid _ := And.intro hSt (And.intro hCl (And.intro hW' (And.intro hx1 (And.intro hx2 (And.intro hw2 (And.intro hG1 (And.intro hv2 (And.intro hps1 (And.intro hlo (And.intro hnu (And.intro hos (And.intro hmem (And.intro hpre hkj)))))))))))))
  clear hSt hCl hW' hx1 hx2 hG1 hv2 hps1 hlo hnu hos hmem hpre hkj hAt hM1 hl1 hv1 htop1 hop1 hsn hzc hcs hin hnd hol2 u2 u3 u5 u6 ff htop2 c1 e0 e1 e2
  go_upto_region 12 with fail
  rw [← hw2]
  clear hw2
  have hic : (i : Int) ≤ (cap : Int) := by have := H.out.2.2.2.2.2.2.2.2.2.2.2.2.1; omega
  go_wp2_with (go_at_call 154; refine Calls.mono H1.out.2.1 ?_; rintro r3 w3 ⟨rfl, hc3⟩; have hW2 : Wi n out x2 ((s, k + j) :: rs) os pd' := (by rw [H1.out.2.2.2.2.1]; exact H1.out.2.2.1.ps _ _); obtain ⟨x3, hM3, hG3, hx3, hW3⟩ := closed_wi hc3 hW2 (Nat.le_of_eq H1.out.2.2.2.2.2.2.2.2.2.2.2.2.2.2.symm) (by rw [H1.out.2.2.2.2.1]; exact H1.out.2.2.2.2.2.2.2.2.2.1) (by rw [H1.out.2.2.2.2.1]; exact H1.out.2.2.2.2.2.2.2.2.2.2.1) H1.out.2.2.2.2.2.2.2.2.2.2.2.1 (by rw [H1.out.2.2.2.2.1]; exact H1.out.2.2.2.2.2.2.2.2.2.2.2.2.1) (by rw [H1.out.2.2.2.2.1]; exact H1.out.2.2.2.2.2.2.2.2.2.2.2.2.2.1); have hl3 : x2.ps.length = P := (by rw [H1.out.2.2.2.2.1, H1.out.2.2.2.1]; show ((x.ps.set _ _).set _ _).length = P; rw [List.length_set, List.length_set]; exact H.out.2.2.2.2.2.2.2.1.symm); have hv3 : x3.vp = .slice (some ⟨gp, 0, none⟩) P cap := (by rw [hx3.1, H1.out.2.2.2.2.2.2.2.1, hl3]); have bc := (seven_cells hM3.box).2.1; rw [hv3] at bc; have bf := blk_free hM3.box 1; have H3 : Hid _ := And.intro hM3 (And.intro hG3 (And.intro hx3 (And.intro hW3 hv3))); clear hM3 hG3 hx3 hW3 hv3 hl3 hc3 hW2)
  go_end0
  obtain ⟨os', pd3, hW3⟩ := H3.out.2.2.2.1
  have hps3 : x3.ps = seen rs ++ [(s, 2, k + j)] := by
   rw [H3.out.2.2.1.2.1, H1.out.2.2.2.2.1]
   show x1.ps.set i (s, 2, k + j) = _
   rw [H1.out.2.2.2.2.2.2.2.2.1, seen_cons, H.out.2.2.2.2.2.2.2.2.2.1, ← seen_length rs]
   simp
  have hpa := H3.out.1.pa
  rw [H3.out.2.2.2.2, hps3] at hpa
  have hpo := path_pop hpa
  rw [seen_length, ← H.out.2.2.2.2.2.2.2.2.2.1] at hpo
  have hfin := H3.out.1.putPath (w1 := w3) (v' := .slice (some ⟨gp, 0, none⟩) i cap) (ps' := seen rs) (Kept.refl _ _) (by rw [seen_length, ← H.out.2.2.2.2.2.2.2.2.2.1]; exact hpo.1) (.inl (by rw [H3.out.2.2.2.2]; rfl))
  obtain ⟨x4, hx4⟩ : ∃ x4 : Wk, x4 = { x3 with vp := .slice (some ⟨gp, 0, none⟩) i cap, ps := seen rs } := ⟨_, rfl⟩
  have hns : x3.ns = x.ns := by rw [H3.out.2.2.1.2.2.2.1, H1.out.2.2.2.2.1, H1.out.2.2.2.1]; rfl
  have hcn : x3.cnt = x.cnt := by rw [H3.out.2.2.1.2.2.2.2, H1.out.2.2.2.2.1, H1.out.2.2.2.1]; rfl
  refine ⟨rfl, x4, HF.out _ _ ⟨?_, ?_, ?_, ⟨3 * x.ns.count (-1) + 2 * rs.length + 1, ⟨rs, os', pd3, ?_, ?_, .inr ⟨?_, ?_⟩⟩, by omega⟩, .inl ⟨fun t => (by rw [H.out.2.2.2.1, seen_cons, List.getLast?_append]; intro e; cases e), by rw [hx4]; exact hns⟩⟩⟩
  ·rw [hx4]; exact hfin.1
  ·rw [hx4]; exact ((H1.out.2.2.2.2.2.2.1.trans H1.out.1.2).trans H3.out.2.1).trans hfin.2
  ·rw [hx4]; show x3.vs = x.vs; rw [H3.out.2.2.1.2.2.1, H1.out.2.2.2.2.1, H1.out.2.2.2.1]; rfl
  ·rw [hx4]; exact hW3.ps _ _
  ·rw [hx4]; show x3.cnt + ((x3.ns.count (-1) : Nat) : Int) = n; rw [hns, hcn]; exact HCt.out
  ·rw [hx4]
  ·rw [hx4]; show _ = 3 * x3.ns.count (-1) + _ + 1; rw [hns]
end Go.Proofs.YtplofbabfkkimaaGreatDoor.Ts
/- tauscc: contracts of the walk's goOn and from. -/
namespace Go.Proofs.YtplofbabfkkimaaGreatDoor.Ts
open Go.RowKit Go.Maps
attribute [local go_sem ↓] Go.wp_at_zero Go.wp_at_succ
def Wk.nd (x : Wk) (v : Nat) : Prop := ∃ z, x.ns[v]? = some z ∧ z ≠ -1
theorem Wi.path_le {n : Nat} {out : Nat → List Nat} {x : Wk} {path : List (Nat × Nat)} {os : List Nat} {pd : Nat → Prop} (h : Wi n out x path os pd) : path.length ≤ n := by
 have h1 : (path.map Prod.fst).Nodup := by
  have := h.inv.pth
  refine List.pairwise_map.2 (this.imp fun {a b} hab e => ?_)
  rw [e] at hab
  exact absurd hab (Int.lt_irrefl _)
 have h2 := nodup_sub (path.map Prod.fst) (List.range n) h1 fun a ha => by
  obtain ⟨p, hp, rfl⟩ := List.mem_map.1 ha
  exact List.mem_range.2 (h.inv.rng _ (h.inv.pop p hp).1.1)
 rw [List.length_map, List.length_range] at h2
 exact h2
theorem Wi.path_lt {n : Nat} {out : Nat → List Nat} {x : Wk} {path : List (Nat × Nat)} {os : List Nat} {pd : Nat → Prop} (h : Wi n out x path os pd) {t : Nat} (ht : t < n) (hu : x.ns[t]? = some (-1)) : path.length + 1 ≤ n := by
 have h1 : (path.map Prod.fst).Nodup := by
  have := h.inv.pth
  refine List.pairwise_map.2 (this.imp fun {a b} hab e => ?_)
  rw [e] at hab
  exact absurd hab (Int.lt_irrefl _)
 have h3 : (t :: path.map Prod.fst).Nodup := List.nodup_cons.2 ⟨fun hm => by
  obtain ⟨p, hp, rfl⟩ := List.mem_map.1 hm
  have h4 := (h.inv.pop p hp).1.1
  have h5 : (x.st path).num p.1 = -1 := by show x.ns[p.1]?.getD (-1) = -1; rw [hu]; rfl
  omega, h1⟩
 have h2 := nodup_sub (t :: path.map Prod.fst) (List.range n) h3 fun a ha => by
  rcases List.mem_cons.1 ha with rfl | ha
  ·exact List.mem_range.2 ht
  ·obtain ⟨p, hp, rfl⟩ := List.mem_map.1 ha
   exact List.mem_range.2 (h.inv.rng _ (h.inv.pop p hp).1.1)
 rw [List.length_cons, List.length_map, List.length_range] at h2
 exact h2
theorem Wi.open_le {n : Nat} {out : Nat → List Nat} {x : Wk} {path : List (Nat × Nat)} {os : List Nat} {pd : Nat → Prop} (h : Wi n out x path os pd) : x.os.length ≤ n := by
 have h2 := nodup_sub os (List.range n) h.opl.nodup fun a ha => List.mem_range.2 (h.inv.rng _ ((h.opl.mem a).1 ha).1)
 rw [List.length_range] at h2
 rw [h.os, cast_length]
 exact h2
theorem goOn_any (B r n gs ds cp : Nat) (x : Wk) (out : Nat → List Nat) (N : Nat) (w : World) (hM : WkM w B r x) (hS : Sil w r x n out gs ds cp) (hR : Ready n out x N) (hne : x.ps ≠ []) (hn : n ≤ 1000) (hout : ∀ q, q < n → ∀ t ∈ out q, t < n) (hol : ∀ q, q < n → (out q).length ≤ 100000) :
 Calls Tryz.prog 132 #[.pointer (some ⟨r, 0, none⟩)] w fun e w' => e = .returned (.tuple #[]) ∧ ∃ x', GoAt w w' B r n out x x' N := by
 obtain ⟨path, os, pd, hW, hct, ⟨t, h1, h2, h3, h4, h5⟩ | ⟨h1, h5⟩⟩ := hR
 ·have hl := hW.path_lt h2 h3
  have h6 := goOn_fresh B r n gs ds cp x out t path os pd w hM hS hW h1 h2 h3 h4 hn hout hol (by rw [h1, List.length_append, seen_length]; simp; omega) hct hW.inv.cnt0 (by have := hW.open_le; omega)
  rw [h5]
  exact h6
 ·cases path with
  | nil => exact absurd h1 hne
  | cons p rs =>
    obtain ⟨s, k⟩ := p
    have hl := hW.path_le
    have h6 := goOn_back B r n gs ds cp x out s k rs os pd w hM hS hW h1 hn hout hol (by rw [h1, seen_length]; omega) hct
    rw [h5]
    exact h6
structure FrAt (w w' : World) (B r n : Nat) (out : Nat → List Nat) (x x' : Wk) : Prop where
 m : WkM w' B r x'
 gw : Grew w w' r x x'
 vs : x'.vs = x.vs
 ps : x'.ps = []
 wi : ∃ os pd, Wi n out x' [] os pd
 ct : x'.cnt + (x'.ns.count (-1) : Nat) = n
 nd : ∀ v, x.nd v → x'.nd v
structure FrL (w wr : World) (B r n s : Nat) (out : Nat → List Nat) (x xr : Wk) (N : Nat) : Prop where
 m : WkM wr B r xr
 gw : Grew w wr r x xr
 vs : xr.vs = x.vs
 rd : Ready n out xr N
 nd : ∀ v, x.nd v → xr.nd v
 at_ : xr.ps = [(s, 0, 0)] ∨ xr.nd s
theorem FrL.next {w wr w' : World} {B r n s : Nat} {out : Nat → List Nat} {x xr x' : Wk} {N : Nat} (h : FrL w wr B r n s out x xr N) (g : GoAt wr w' B r n out xr x' N) : ∃ N', N' < N ∧ FrL w w' B r n s out x x' N' := by
 obtain ⟨N', h1, h2⟩ := g.rd
 have hc : 0 ≤ xr.cnt := by obtain ⟨_, _, _, hW, _⟩ := h.rd; exact hW.inv.cnt0
 have hmo : ∀ v, xr.nd v → x'.nd v := fun v hv => by
  rcases g.nn with ⟨_, h3⟩ | ⟨s', _, h3⟩
  ·unfold Wk.nd; rw [h3]; exact hv
  ·unfold Wk.nd; rw [h3]
   obtain ⟨z, hz, hz1⟩ := hv
   by_cases e : s' = v
   ·subst e
    exact ⟨xr.cnt, List.getElem?_set_self (List.getElem?_eq_some_iff.1 hz).1, by omega⟩
   ·exact ⟨z, by rw [List.getElem?_set_ne e]; exact hz, hz1⟩
 refine ⟨N', h2, g.m, h.gw.trans g.gw, g.vs.trans h.vs, h1, fun v hv => hmo v (h.nd v hv), .inr ?_⟩
 rcases h.at_ with h4 | h4
 ·rcases g.nn with ⟨h3, _⟩ | ⟨s', h5, h3⟩
  ·exact absurd (by rw [h4]; rfl) (h3 s)
  ·rw [h4] at h5
   have e : s = s' := by injection h5 with h5; exact (Prod.mk.inj h5).1
   subst e
   obtain ⟨path, _, _, hW, _, h6⟩ := h.rd
   have hsn : s < xr.ns.length := by
    rcases h6 with ⟨t, h7, h8, _⟩ | ⟨h7, _⟩
    ·rw [h4] at h7
     rw [hW.ns]
     have h9 := congrArg List.getLast? h7
     rw [List.getLast?_append] at h9
     have e : s = t := by injection h9 with h9; exact (Prod.mk.inj h9).1
     rw [e]; exact h8
    ·rw [h4] at h7
     exfalso
     have h9 : (s, 0, 0) ∈ seen path := by rw [← h7]; exact List.mem_singleton.2 rfl
     unfold seen at h9
     obtain ⟨p, _, h9⟩ := List.mem_map.1 h9
     exact absurd (Prod.mk.inj (Prod.mk.inj h9).2).1 (by decide)
   unfold Wk.nd
   rw [h3]
   exact ⟨xr.cnt, List.getElem?_set_self hsn, by omega⟩
 ·exact hmo s h4
set_option linter.unusedSimpArgs false in
set_option maxRecDepth 100000 in
set_option maxHeartbeats 4000000 in
theorem from_any (B r n gs ds cp : Nat) (x : Wk) (out : Nat → List Nat) (s : Nat) (os : List Nat) (pd : Nat → Prop) (w : World) (hM : WkM w B r x) (hS : Sil w r x n out gs ds cp) (hW : Wi n out x [] os pd) (hps : x.ps = []) (hs : s < n) (hu : x.ns[s]? = some (-1)) (hn : n ≤ 1000) (hout : ∀ q, q < n → ∀ t ∈ out q, t < n) (hol : ∀ q, q < n → (out q).length ≤ 100000) (hct : x.cnt + (x.ns.count (-1) : Nat) = n) :
 Calls Tryz.prog 91 #[.pointer (some ⟨r, 0, none⟩), .int .i64 s] w fun e w' => e = .returned (.tuple #[]) ∧ ∃ x', FrAt w w' B r n out x x' ∧ x'.nd s := by
 obtain ⟨_, c1, _⟩ := seven_cells hM.box
 have hO := hM.pa
 obtain ⟨ap, cap, hvp⟩ := row_shape hO
 obtain ⟨P, hP⟩ : ∃ P, P = x.ps.length := ⟨_, rfl⟩
 rw [← hP] at hvp hO
 rw [hvp] at c1 hO
 have hP0 : P = 0 := by rw [hP, hps]; rfl
 have hle : B ≤ (w.alloc (.cells #[.int .i64 s, .int .i64 0, .int .i64 0] 175)).heap.size := by have := t_lt hM.box; have := hM.up; rw [World.size_alloc]; omega
 have hml : P + 1 ≤ maxLen := by unfold maxLen; omega
 have hby : (P + 1) * 24 ≤ 140737488355328 := by omega
 obtain ⟨i0, hi0, hz0, hz1, hz2⟩ := info_parts Tryz.infoVi
 have H : Hid _ := And.intro hM (And.intro hS (And.intro hW (And.intro hps (And.intro hs (And.intro hu (And.intro hct (And.intro hvp (And.intro hol hout))))))))
 have HO : Hid _ := And.intro hO hP0
 clear hM hS hW hps hs hu hct hvp hol hout hO hP hP0
 go_enter Tryz.func91, Tryz.ntmps91
 go_upto_region 1 with (at_builtin; refine wpList_append_own_at _ rfl _ _ 119 rfl B 175 i0 (.agg #[.int .i64 0, .int .i64 0, .int .i64 0]) 3 24 Tryz.underlying119 hi0 hz0 hz1 hz2 rfl (by decide) (.slice ap P cap) P (pC x.ps) rfl (HO.out.1.alloc _) ⟨w.heap.size, 0, none⟩ 1 1 [.int .i64 s, .int .i64 0, .int .i64 0] rfl rfl (World.news_of_block (cs := #[.int .i64 s, .int .i64 0, .int .i64 0]) (t := 175) (fr := (0, 0)) (heap_alloc_new w _)) (by simp [Value.oneCell']) hml hby hle ?_; intro v7 w7 hO7 hg7 hnil7 hat7; obtain ⟨a7, c7, hv7⟩ := row_shape hO7; subst hv7; have hk7 := grown_alloc hg7; have hbx := (hk7.block r (t_lt H.out.1.box) fun e => H.out.1.r_foot (.inl (by rw [H.out.2.2.2.2.2.2.2.1]; exact e))).trans H.out.1.box; have bc := (seven_cells hbx).2.1; have bf := blk_free hbx 1; have H7 : Hid _ := And.intro hO7 (And.intro hk7 hat7); clear hO7 hg7 hk7 hnil7 hat7 hbx)
 obtain ⟨w1, hw1⟩ : ∃ w1, w1 = w7.setCell ⟨r, 1, none⟩ (.slice a7 (P + 1) c7) := ⟨_, rfl⟩
 have hrow : w7.ownsRow B 175 3 (.slice a7 (P + 1) c7) [(s, 0, 0)].length (pC [(s, 0, 0)]) := by
  have h9 := H7.out.1
  rw [H.out.2.2.2.1, HO.out.2] at h9
  rw [HO.out.2]
  exact h9
 have hfin := H.out.1.putPath (w1 := w7) (v' := .slice a7 (P + 1) c7) (ps' := [(s, 0, 0)]) (by rw [H.out.2.2.2.2.2.2.2.1]; exact H7.out.2.1) hrow (by rw [H.out.2.2.2.2.2.2.2.1]; exact que_up H7.out.2.2)
 obtain ⟨x1, hx1⟩ : ∃ x1 : Wk, x1 = { x with vp := .slice a7 (P + 1) c7, ps := [(s, 0, 0)] } := ⟨_, rfl⟩
 rw [← hw1, ← hx1] at hfin
 have hL : FrL w w1 B r n s out x x1 (3 * x.ns.count (-1)) := by
  refine ⟨hfin.1, hfin.2, by rw [hx1], ⟨[], os, pd, ?_, ?_, .inl ⟨s, ?_, H.out.2.2.2.2.1, ?_, .inl rfl, ?_⟩⟩, ?_, .inl (by rw [hx1])⟩
  ·rw [hx1]; exact H.out.2.2.1.ps _ _
  ·rw [hx1]; exact H.out.2.2.2.2.2.2.1
  ·rw [hx1]; rfl
  ·rw [hx1]; exact H.out.2.2.2.2.2.1
  ·rw [hx1]; rfl
  ·rw [hx1]; exact fun v h => h
 rw [← hw1]
 have HL : Hid _ := hL
 clear hL hfin hrow hw1 hx1 H7 bc bf c1 HO hle hml hby hi0 hz0 hz1 hz2
 go_loopg [] (3 * x.ns.count (-1)) (fun g wr => ∃ xr, FrL w wr B r n s out x xr g)
 case atStart => exact ⟨x1, HL.out⟩
 case round =>
  obtain ⟨xr, hA⟩ := hrel
  obtain ⟨_, d1, _⟩ := seven_cells hA.m.box
  obtain ⟨ar, cr, hvr⟩ := row_shape hA.m.pa
  obtain ⟨P, hP⟩ : ∃ P, P = xr.ps.length := ⟨_, rfl⟩
  rw [hvr, ← hP] at d1
  by_cases hz : P = 0
  ·subst hz
   have hnil : xr.ps = [] := List.length_eq_zero_iff.1 hP.symm
   have HA : Hid _ := And.intro hA hnil
   clear hA hnil hP hvr
   go_wp2_with fail
   go_end0
   obtain ⟨path, os', pd', hW, hc, h6⟩ := HA.out.1.rd
   have hpa : path = [] := by
    rcases h6 with ⟨t, h7, _⟩ | ⟨h7, _⟩
    ·rw [HA.out.2] at h7
     have := congrArg List.length h7
     simp at this
    ·rw [HA.out.2] at h7
     have := congrArg List.length h7
     rw [seen_length] at this
     exact List.length_eq_zero_iff.1 this.symm
   subst hpa
   refine ⟨rfl, xr, ⟨HA.out.1.m.below (Below.refl _ _), HA.out.1.gw, HA.out.1.vs, HA.out.2, ⟨os', pd', hW⟩, hc, HA.out.1.nd⟩, ?_⟩
   rcases HA.out.1.at_ with h7 | h7
   ·rw [HA.out.2] at h7; cases h7
   ·exact h7
  ·have hne : xr.ps ≠ [] := fun e => hz (by rw [hP, e]; rfl)
   have p0 : (0 : Int) < (P : Int) := by omega
   have hC := goOn_any B r n gs ds cp xr out _ wr hA.m (H.out.2.1.grew hA.gw hA.vs) hA.rd hne hn H.out.2.2.2.2.2.2.2.2.2 H.out.2.2.2.2.2.2.2.2.1
   have HA : Hid _ := And.intro hA hC
   clear hA hC hne hP hvr hz
   go_wp2_with (go_at_call 132; refine Calls.mono HA.out.2 ?_; rintro r2 w2 ⟨rfl, x2, hG⟩; obtain ⟨N2, hN2, hA2⟩ := HA.out.1.next hG)
   go_roundg N2
   case measure => exact hN2
   case rel => exact ⟨x2, hA2⟩
end Go.Proofs.YtplofbabfkkimaaGreatDoor.Ts
/- Rows of memory that make lays: what they hold, and that they are rows of one's own. -/
namespace Go.Proofs.YtplofbabfkkimaaGreatDoor
open Go.RowKit Go.Maps
structure Arr (ty : TypeId) (w wr : World) (gi : Nat) (vs : List Value) : Prop where
 bl : Below w.heap.size w wr
 ids : ∃ cs, wr.heap[gi]? = some (.cells cs ty (0, 0)) ∧ cs.toList = vs
 gu : w.heap.size ≤ gi
theorem Arr.lt {ty : TypeId} {w wr : World} {gi : Nat} {vs : List Value} (h : Arr ty w wr gi vs) : gi < wr.heap.size := by
 obtain ⟨cs, hc, _⟩ := h.ids
 exact t_lt hc
theorem Arr.below {ty : TypeId} {w wr w' : World} {gi : Nat} {vs : List Value} (h : Arr ty w wr gi vs) (hb : Below wr.heap.size wr w') : Arr ty w w' gi vs := by
 obtain ⟨cs, hc, hx⟩ := h.ids
 exact ⟨h.bl.trans (hb.mono h.bl.size), ⟨cs, (hb.block _ (t_lt hc)).trans hc, hx⟩, h.gu⟩
theorem Arr.kept {ty : TypeId} {w wr w' : World} {gi : Nat} {vs : List Value} {F : Nat → Prop} (h : Arr ty w wr gi vs) (hk : Kept F wr w') (hF : ∀ b, F b → w.heap.size ≤ b ∧ b ≠ gi) : Arr ty w w' gi vs := by
 obtain ⟨cs, hc, hx⟩ := h.ids
 exact ⟨h.bl.trans (hk.below h.bl.size fun b hb => (hF b hb).1), ⟨cs, (hk.block _ (t_lt hc) fun hf => (hF gi hf).2 rfl).trans hc, hx⟩, h.gu⟩
theorem Arr.cell {ty : TypeId} {w wr : World} {gi : Nat} {vs : List Value} (h : Arr ty w wr gi vs) {i : Nat} {x : Value} (hi : vs[i]? = some x) : wr.cell? ⟨gi, i, none⟩ = some x := by
 obtain ⟨cs, hc, hx⟩ := h.ids
 refine cell0_of hc ?_
 rw [← Array.getElem?_toList, hx]
 exact hi
theorem Arr.free {ty : TypeId} {w wr : World} {gi : Nat} {vs : List Value} (h : Arr ty w wr gi vs) (i : Nat) : wr.frozen? ⟨gi, i, none⟩ = false := by
 obtain ⟨cs, hc, hx⟩ := h.ids
 exact blk_free hc i
theorem Arr.set {ty : TypeId} {w wr : World} {gi : Nat} {vs : List Value} (h : Arr ty w wr gi vs) (i : Nat) (x : Value) : Arr ty w (wr.setCell ⟨gi, i, none⟩ x) gi (vs.set i x) := by
 obtain ⟨cs, hc, hx⟩ := h.ids
 refine ⟨h.bl.setCell h.gu _, ⟨_, heap_setCell_same wr gi i cs _ _ hc, ?_⟩, h.gu⟩
 rw [Array.toList_setIfInBounds, hx]
theorem Arr.back {ty : TypeId} {w w1 wr : World} {g : Nat} {vs : List Value} (h : Arr ty w1 wr g vs) (hb : Below w.heap.size w w1) : Arr ty w wr g vs := ⟨hb.trans (h.bl.mono hb.size), h.ids, Nat.le_trans hb.size h.gu⟩
theorem Arr.own {ty : TypeId} {w wr : World} {gi : Nat} {vs : List Value} (h : Arr ty w wr gi vs) (hn : vs.length ≤ maxLen) : wr.ownsRow w.heap.size ty 1 (.slice (some ⟨gi, 0, none⟩) vs.length vs.length) vs.length vs := by
 obtain ⟨cs, hc, hx⟩ := h.ids
 refine ⟨by rw [Nat.mul_one], .inr ⟨gi, vs.length, cs, rfl, h.gu, hc, Nat.le_refl _, hn, ?_, ?_⟩⟩
 ·rw [← hx]; simp
 ·rw [hx]; simp
def madeV (z : Value) (n : Nat) : Array Value := madeCells z.cells (n * 1)
theorem madeV_eq (z : Value) (hz : z.cells = #[z]) (n : Nat) : (madeV z n).toList = List.replicate n z := by
 apply List.ext_getElem
 ·simp [madeV, madeCells]
 ·intro i h1 h2
  simp [madeV, madeCells, hz, Nat.mod_one]
theorem arr_new (ty : TypeId) (z : Value) (hz : z.cells = #[z]) (n : Nat) (w : World) : Arr ty w (w.alloc (.cells (madeV z n) ty)) w.heap.size (List.replicate n z) := ⟨(Below.refl _ _).alloc (Nat.le_refl _) _, ⟨_, (MapKept.heap_alloc w _).1, madeV_eq z hz n⟩, Nat.le_refl _⟩
theorem make_of (t e : TypeId) (z : Value) (by8 : Nat) (ht : Tryz.prog.underlying t = some (.slice e)) (hi : (Tryz.prog.info? e).map (fun i => (i.zero, i.size, i.bytes)) = some (some z, 1, by8)) (n : Nat) (hn : n ≤ 1000000) (hby : by8 ≤ 100) (w : World) : (Instr.makeSlice t (.int .i64 (n : Int)) (.int .i64 (n : Int))).run Tryz.prog w = .ok (.slice (some ⟨w.heap.size, 0, none⟩) n n) (w.alloc (.cells (madeV z n) e)) := by
 obtain ⟨i0, hi0, hz0, hz1, hz2⟩ := info_parts hi
 have hm : n * by8 ≤ 1000000 * 100 := Nat.mul_le_mul hn hby
 have h := run_makeSlice (P := Tryz.prog) w t e i0 z ht hi0 hz0 .i64 .i64 (n : Int) (n : Int) (by omega) (Int.le_refl _) (by rw [hz1]; omega) (by rw [hz2]; have h9 : (by8 : Int) * (n : Int) ≤ 100000000 := (by rw [Int.mul_comm]; exact Int.ofNat_le.2 hm); omega) (by omega)
 rw [h, hz1]
 simp [madeV]
theorem Tryz.infoI4 : (Tryz.prog.info? 3).map (fun i => (i.zero, i.size, i.bytes)) = some (some (.int .i64 0), 1, 8) := by kernel_rfl
theorem makeI (n : Nat) (hn : n ≤ 1000000) (w : World) : (Instr.makeSlice 45 (.int .i64 (n : Int)) (.int .i64 (n : Int))).run Tryz.prog w = .ok (.slice (some ⟨w.heap.size, 0, none⟩) n n) (w.alloc (.cells (madeV (.int .i64 0) n) 3)) := make_of _ _ _ 8 Tryz.underlying45 Tryz.infoI4 n hn (by decide) w
theorem Tryz.infoB4 : (Tryz.prog.info? 4).map (fun i => (i.zero, i.size, i.bytes)) = some (some (.bool false), 1, 1) := by kernel_rfl
theorem makeB (n : Nat) (hn : n ≤ 1000000) (w : World) : (Instr.makeSlice 82 (.int .i64 (n : Int)) (.int .i64 (n : Int))).run Tryz.prog w = .ok (.slice (some ⟨w.heap.size, 0, none⟩) n n) (w.alloc (.cells (madeV (.bool false) n) 4)) := make_of _ _ _ 1 Tryz.underlying82 Tryz.infoB4 n hn (by decide) w
theorem Tryz.infoS4 : (Tryz.prog.info? 84).map (fun i => (i.zero, i.size, i.bytes)) = some (some (.slice none 0 0), 1, 24) := by kernel_rfl
theorem makeSt (n : Nat) (hn : n ≤ 1000000) (w : World) : (Instr.makeSlice 36 (.int .i64 (n : Int)) (.int .i64 (n : Int))).run Tryz.prog w = .ok (.slice (some ⟨w.heap.size, 0, none⟩) n n) (w.alloc (.cells (madeV (.slice none 0 0) n) 84)) := make_of _ _ _ 24 Tryz.underlying36 Tryz.infoS4 n hn (by decide) w
end Go.Proofs.YtplofbabfkkimaaGreatDoor
/- tauscc: the walk as cyclesOf makes it; its lists of silent steps, one by one; what its end tells. -/
namespace Go.Proofs.YtplofbabfkkimaaGreatDoor.Ts
open Go.RowKit Go.Maps
def Cyk (w W : World) (n g : Nat) : Nat → Prop
 | 0 => Arr 45 w W g (List.replicate n (.slice none 0 0))
 | 1 => Arr 3 w W g (List.replicate n (.int .i64 (-1)))
 | 2 => Arr 3 w W g (List.replicate n (.int .i64 0))
 | _ => W.cell? ⟨g, 0, none⟩ = some (.int .i64 (-1))
structure Cy (w W : World) (n : Nat) (L : List (Nat × Nat)) : Prop where
 bl : Below w.heap.size w W
 lt : ∀ p ∈ L, p.1 < W.heap.size
 at_ : ∀ p ∈ L, Cyk w W n p.1 p.2
 nd : (L.map Prod.fst).Nodup
theorem Cyk.below {w W W' : World} {n g k : Nat} (h : Cyk w W n g k) (hb : Below W.heap.size W W') : Cyk w W' n g k := by
 match k with
 | 0 => exact Arr.below h hb
 | 1 => exact Arr.below h hb
 | 2 => exact Arr.below h hb
 | _ + 3 => exact cell_up h hb
theorem Cy.start (w : World) (n : Nat) : Cy w w.drew n [] := ⟨(Below.refl _ _).drew, fun _ h => (by cases h), fun _ h => (by cases h), .nil⟩
theorem Cy.add {w W W' : World} {n g k : Nat} {L : List (Nat × Nat)} (h : Cy w W n L) (hb : Below W.heap.size W W') (hg : W.heap.size ≤ g) (hlt : g < W'.heap.size) (hk : Cyk w W' n g k) : Cy w W' n ((g, k) :: L) := by
 refine ⟨h.bl.trans (hb.mono h.bl.size), fun p hp => ?_, fun p hp => ?_, ?_⟩
 ·rcases List.mem_cons.1 hp with rfl | hp
  ·exact hlt
  ·exact Nat.lt_of_lt_of_le (h.lt p hp) hb.size
 ·rcases List.mem_cons.1 hp with rfl | hp
  ·exact hk
  ·exact (h.at_ p hp).below hb
 ·rw [List.map_cons]
  refine List.nodup_cons.2 ⟨fun hm => ?_, h.nd⟩
  obtain ⟨p, hp, e⟩ := List.mem_map.1 hm
  have := h.lt p hp
  simp only at e
  omega
theorem Cy.made0 {w W : World} {n : Nat} {L : List (Nat × Nat)} (h : Cy w W n L) : Cy w (W.alloc (.cells (madeV (.slice none 0 0) n) 45)) n ((W.heap.size, 0) :: L) := by
 have h1 := arr_new 45 (.slice none 0 0) rfl n W
 exact h.add h1.bl (Nat.le_refl _) h1.lt (h1.back h.bl)
theorem Cy.made2 {w W : World} {n : Nat} {L : List (Nat × Nat)} (h : Cy w W n L) : Cy w (W.alloc (.cells (madeV (.int .i64 0) n) 3)) n ((W.heap.size, 2) :: L) := by
 have h1 := arr_new 3 (.int .i64 0) rfl n W
 exact h.add h1.bl (Nat.le_refl _) h1.lt (h1.back h.bl)
theorem Cy.made3 {w W : World} {n : Nat} {L : List (Nat × Nat)} (h : Cy w W n L) : Cy w (W.alloc (.cells #[.int .i64 (-1)] 3)) n ((W.heap.size, 3) :: L) := by
 have h1 : (W.alloc (.cells #[.int .i64 (-1)] 3)).heap[W.heap.size]? = some (.cells #[.int .i64 (-1)] 3 (0, 0)) := heap_alloc_new W _
 exact h.add ((Below.refl _ _).alloc (Nat.le_refl _) _) (Nat.le_refl _) (t_lt h1) (cell0_of h1 rfl)
theorem Cy.made1 {w W W' : World} {n g : Nat} {L : List (Nat × Nat)} (h : Cy w W n L) (hA : Arr 3 W W' g (List.replicate n (.int .i64 (-1)))) : Cy w W' n ((g, 1) :: L) := h.add hA.bl hA.gu hA.lt (hA.back h.bl)
def Wk.fst (gs gn gl gc n : Nat) : Wk := ⟨.slice (some ⟨gs, 0, none⟩) n n, .slice none 0 0, .slice none 0 0, 0, .slice (some ⟨gn, 0, none⟩) n n, .slice (some ⟨gl, 0, none⟩) n n, .slice (some ⟨gc, 0, none⟩) n n, [], [], List.replicate n (-1), List.replicate n 0, List.replicate n (-1)⟩
theorem que_arr {w W : World} {g n : Nat} {z : Int} (h : Arr 3 w W g (List.replicate n (.int .i64 z))) (hn : n ≤ 1000000) : Que W w.heap.size (.slice (some ⟨g, 0, none⟩) n n) (List.replicate n z) := by
 have h1 := h.own (by rw [List.length_replicate]; unfold maxLen; omega)
 rw [List.length_replicate] at h1
 refine Que.of_own ?_
 unfold OwnI
 rw [List.length_replicate, show iC (List.replicate n z) = List.replicate n (.int .i64 z) by simp [iC]]
 exact h1
structure CyL (w wr : World) (r gs gn gl gc n m : Nat) (out : Nat → List Nat) : Prop where
 mm : WkM wr w.heap.size r (Wk.fst gs gn gl gc n)
 bl : Below w.heap.size w wr
 far : gs ≠ r ∧ ¬ (Wk.fst gs gn gl gc n).foot gs
 gu : w.heap.size ≤ gs
 row : ∃ cs, wr.heap[gs]? = some (.cells cs 45 (0, 0)) ∧ cs.size = n
 at_ : ∀ q, q < m → ∃ vq, wr.cell? ⟨gs, q, none⟩ = some vq ∧ HasI wr vq (cast (out q)) ∧ (out q ≠ [] → ∀ b, vq.ownBlock = some b → b ≠ r ∧ b ≠ gs ∧ ¬ (Wk.fst gs gn gl gc n).foot b)
theorem Cy.box {w W : World} {n gs gn gl gc : Nat} {L : List (Nat × Nat)} (h : Cy w W n L) (hn : n ≤ 1000000) (out : Nat → List Nat) (h0 : (gs, 0) ∈ L) (h1 : (gn, 1) ∈ L) (h2 : (gl, 2) ∈ L) (h3 : (gc, 1) ∈ L) (ne : gs ≠ gn ∧ gs ≠ gl ∧ gs ≠ gc ∧ gn ≠ gl ∧ gn ≠ gc ∧ gl ≠ gc) :
 CyL w (W.alloc (.cells #[.slice (some ⟨gs, 0, none⟩) n n, .slice none 0 0, .slice none 0 0, .int .i64 0, .slice (some ⟨gn, 0, none⟩) n n, .slice (some ⟨gl, 0, none⟩) n n, .slice (some ⟨gc, 0, none⟩) n n] 121)) W.heap.size gs gn gl gc n 0 out := by
 obtain ⟨W', hW'⟩ : ∃ W', W' = W.alloc (.cells #[.slice (some ⟨gs, 0, none⟩) n n, .slice none 0 0, .slice none 0 0, .int .i64 0, .slice (some ⟨gn, 0, none⟩) n n, .slice (some ⟨gl, 0, none⟩) n n, .slice (some ⟨gc, 0, none⟩) n n] 121) := ⟨_, rfl⟩
 have hb : Below W.heap.size W W' := by rw [hW']; exact (Below.refl _ _).alloc (Nat.le_refl _) _
 have hbx : W'.heap[W.heap.size]? = some (.cells #[.slice (some ⟨gs, 0, none⟩) n n, .slice none 0 0, .slice none 0 0, .int .i64 0, .slice (some ⟨gn, 0, none⟩) n n, .slice (some ⟨gl, 0, none⟩) n n, .slice (some ⟨gc, 0, none⟩) n n] 121 (0, 0)) := by rw [hW']; exact heap_alloc_new W _
 rw [← hW']
 clear hW'
 have a0 : Arr 45 w W' gs _ := (h.at_ _ h0).below hb
 have a1 : Arr 3 w W' gn _ := (h.at_ _ h1).below hb
 have a2 : Arr 3 w W' gl _ := (h.at_ _ h2).below hb
 have a3 : Arr 3 w W' gc _ := (h.at_ _ h3).below hb
 have l0 := h.lt _ h0
 simp only at l0
 have q1 := que_arr a1 hn
 have q2 := que_arr a2 hn
 have q3 := que_arr a3 hn
 have hf : ∀ b, (Wk.fst gs gn gl gc n).foot b → b = gn ∨ b = gl ∨ b = gc := fun b hb => by
  rcases hb with hb | ⟨z, hz, hb⟩
  ·cases hb
  ·simp only [Wk.L, Wk.fst, List.mem_cons, List.not_mem_nil, or_false] at hz
   rcases hz with rfl | rfl | rfl | rfl
   ·cases hb
   ·exact .inl (Option.some.inj hb).symm
   ·exact .inr (.inl (Option.some.inj hb).symm)
   ·exact .inr (.inr (Option.some.inj hb).symm)
 obtain ⟨e1, e2, e3, e4, e5, e6⟩ := ne
 refine ⟨⟨hbx, ⟨rfl, .inl ⟨rfl, rfl⟩⟩, ⟨fun i z hz => ?_, fun i j z y b hz hy hij hzb hyb => ?_⟩, h.bl.size⟩, h.bl.trans (hb.mono h.bl.size), ⟨by omega, fun hc => ?_⟩, a0.gu, ?_, fun q hq => absurd hq (Nat.not_lt_zero q)⟩
 ·match i with
  | 0 => cases hz; exact Que.nil _ _
  | 1 => cases hz; exact q1
  | 2 => cases hz; exact q2
  | 3 => cases hz; exact q3
  | _ + 4 => cases hz
 ·match i, j with
  | 0, _ => cases hz; cases hzb
  | _, 0 => cases hy; cases hyb
  | 1, 1 => exact hij rfl
  | 2, 2 => exact hij rfl
  | 3, 3 => exact hij rfl
  | 1, 2 => cases hz; cases hy; cases hzb; exact e4 (Option.some.inj hyb).symm
  | 1, 3 => cases hz; cases hy; cases hzb; exact e5 (Option.some.inj hyb).symm
  | 2, 1 => cases hz; cases hy; cases hzb; exact e4 (Option.some.inj hyb)
  | 2, 3 => cases hz; cases hy; cases hzb; exact e6 (Option.some.inj hyb).symm
  | 3, 1 => cases hz; cases hy; cases hzb; exact e5 (Option.some.inj hyb)
  | 3, 2 => cases hz; cases hy; cases hzb; exact e6 (Option.some.inj hyb)
  | _ + 4, _ => cases hz
  | _, _ + 4 => cases hy
 ·rcases hf _ hc with h9 | h9 | h9
  ·exact e1 h9
  ·exact e2 h9
  ·exact e3 h9
 ·obtain ⟨cs, h8, h9⟩ := a0.ids
  exact ⟨cs, h8, by rw [← Array.length_toList, h9, List.length_replicate]⟩
theorem CyL.next {w wr w1 : World} {r gs gn gl gc n m : Nat} {out : Nat → List Nat} {u : Value} (h : CyL w wr r gs gn gl gc n m out) (hm : m < n) (hb : Below wr.heap.size wr w1) (hu : OwnI w1 wr.heap.size u (cast (out m))) : CyL w (w1.setCell ⟨gs, m, none⟩ u) r gs gn gl gc n (m + 1) out := by
 obtain ⟨cs, hcs, hsz⟩ := h.row
 have hc1 : w1.heap[gs]? = some (.cells cs 45 (0, 0)) := (hb.block _ (t_lt hcs)).trans hcs
 have hk := Kept.setCell w1 gs m u
 have hM := h.mm.below hb
 have hnf : ∀ b, wr.heap.size ≤ b → ¬ (Wk.fst gs gn gl gc n).foot b := fun b hb2 hf => by have := (h.mm.foot_lt hf).2; omega
 refine ⟨hM.kept hk (fun e => h.far.1 e.symm) (fun b hf e => h.far.2 (by rw [← e]; exact hf)), (h.bl.trans (hb.mono h.bl.size)).setCell h.gu _, h.far, h.gu, ⟨_, heap_setCell_same w1 gs m cs _ _ hc1, by simp [hsz]⟩, fun q hq => ?_⟩
 by_cases e : q = m
 ·subst e
  refine ⟨u, cell0_of (heap_setCell_same w1 gs q cs _ _ hc1) (by simp [hsz, hm]), hu.has.kept hk fun _ b hb2 e => ?_, fun _ b hb2 => ?_⟩
  ·have := (hu.lt b hb2).1; have := t_lt hcs; omega
  ·have h1 := (hu.lt b hb2).1
   have h2 := t_lt hcs
   have h3 := t_lt h.mm.box
   exact ⟨by omega, by omega, hnf b h1⟩
 ·obtain ⟨vq, h1, h2, h3⟩ := h.at_ q (by omega)
  refine ⟨vq, ?_, (h2.below hb).kept hk fun hne b hb2 e => (h3 (fun e2 => hne (by rw [e2]; rfl)) b hb2).2.1 e, h3⟩
  have h4 : w1.cell? ⟨gs, q, none⟩ = some vq := cell_up h1 hb
  refine cell0_of (heap_setCell_same w1 gs m cs _ _ hc1) ?_
  rw [Array.getElem?_setIfInBounds_ne (fun e2 => e e2.symm)]
  have h5 : w1.cell? ⟨gs, q, none⟩ = cs[q]? := by simp [World.cell?, hc1]
  rw [← h5]; exact h4
structure CyM (w wr : World) (r gs n m : Nat) (out : Nat → List Nat) (x : Wk) : Prop where
 mm : WkM wr w.heap.size r x
 bl : Below w.heap.size w wr
 sl : Sil wr r x n out gs 0 n
 wi : ∃ os pd, Wi n out x [] os pd
 ps : x.ps = []
 ct : x.cnt + (x.ns.count (-1) : Nat) = n
 nd : ∀ q, q < m → x.nd q
theorem CyL.done {w wr : World} {r gs gn gl gc n : Nat} {out : Nat → List Nat} (h : CyL w wr r gs gn gl gc n n out) : CyM w wr r gs n 0 out (Wk.fst gs gn gl gc n) := by
 obtain ⟨cs, hcs, hsz⟩ := h.row
 have hst : (Wk.fst gs gn gl gc n).st [] = ⟨[], 0, fun _ => -1, fun _ => 0, fun _ => -1⟩ := by
  unfold Wk.st Wk.fst
  simp only
  congr 1
  all_goals
   funext u
   rw [List.getElem?_replicate]
   split <;> rfl
 refine ⟨h.mm, h.bl, ⟨rfl, t_lt hcs, h.far, fun q hq => ?_⟩, ⟨[], fun _ => False, ⟨by rw [hst]; exact Inv.start n out, by rw [hst]; exact OpL.start, rfl, List.length_replicate, List.length_replicate, List.length_replicate⟩⟩, rfl, ?_, fun q hq => absurd hq (Nat.not_lt_zero q)⟩
 ·obtain ⟨vq, h1, h2, h3⟩ := h.at_ q hq
  exact ⟨vq, by rw [Nat.zero_add]; exact h1, h2, fun hne b hb => ⟨(h3 hne b hb).1, (h3 hne b hb).2.2⟩⟩
 ·show (0 : Int) + ((List.replicate n (-1 : Int)).count (-1) : Nat) = n
  rw [List.count_replicate_self, Int.zero_add]
theorem CyM.next {w wr w' : World} {r gs n m : Nat} {out : Nat → List Nat} {x x' : Wk} (h : CyM w wr r gs n m out x) (g : FrAt wr w' w.heap.size r n out x x') (hm : x'.nd m) : CyM w w' r gs n (m + 1) out x' := by
 refine ⟨g.m, h.bl.trans (g.gw.kp.below h.bl.size fun b hb => ?_), h.sl.grew g.gw g.vs, g.wi, g.ps, g.ct, fun q hq => ?_⟩
 ·rcases hb with rfl | hb
  ·exact h.mm.up
  ·exact (h.mm.foot_lt hb).1
 ·by_cases e : q = m
  ·rw [e]; exact hm
  ·exact g.nd q (h.nd q (by omega))
theorem CyM.skip {w wr : World} {r gs n m : Nat} {out : Nat → List Nat} {x : Wk} (h : CyM w wr r gs n m out x) (hm : x.nd m) : CyM w wr r gs n (m + 1) out x := ⟨h.mm, h.bl, h.sl, h.wi, h.ps, h.ct, fun q hq => by
 by_cases e : q = m
 ·rw [e]; exact hm
 ·exact h.nd q (by omega)⟩
structure Cyc (n : Nat) (out : Nat → List Nat) (zs : List Int) : Prop where
 len : zs.length = n
 rng : ∀ z ∈ zs, 0 ≤ z ∧ z < n
 iff : ∀ u v, u < n → v < n → (zs[u]? = zs[v]? ↔ Rt out u v ∧ Rt out v u)
theorem CyM.end {w wr : World} {r gs n : Nat} {out : Nat → List Nat} {x : Wk} (h : CyM w wr r gs n n out x) : Cyc n out x.cs := by
 obtain ⟨os, pd, hW⟩ := h.wi
 have hcl : ∀ v, v < n → (x.st []).cls v ≠ -1 := fun v hv => hW.inv.whole rfl (by
  obtain ⟨z, hz, hz1⟩ := h.nd v hv
  rcases hW.inv.neg v with h1 | h1
  ·exfalso
   have h2 : x.ns[v]?.getD (-1) = -1 := h1
   rw [hz] at h2
   exact hz1 h2
  ·exact h1)
 have hat : ∀ v, v < n → x.cs[v]? = some ((x.st []).cls v) := fun v hv => by
  have h1 : v < x.cs.length := by rw [hW.cs]; exact hv
  show x.cs[v]? = some (x.cs[v]?.getD (-1))
  rw [List.getElem?_eq_getElem h1]
  rfl
 refine ⟨hW.cs, fun z hz => ?_, fun u v hu hv => ?_⟩
 ·obtain ⟨v, hv⟩ := List.mem_iff_getElem?.1 hz
  have hvn : v < n := by rw [← hW.cs]; exact (List.getElem?_eq_some_iff.1 hv).1
  obtain ⟨u, h1, h2, _⟩ := hW.inv.root v (hcl v hvn)
  have h3 := hW.inv.rng u (hW.inv.clsn u h2)
  have h4 := hat v hvn
  rw [hv, h1] at h4
  have h5 := Option.some.inj h4
  omega
 ·rw [hat u hu, hat v hv, ← hW.inv.cyc u v (hcl u hu) (hcl v hv)]
  exact ⟨fun e => Option.some.inj e, fun e => by rw [e]⟩
end Go.Proofs.YtplofbabfkkimaaGreatDoor.Ts
/- Contracts of three functions of Go's library at this program, laid by the shelf's own tools in plain words. -/
namespace Go.Proofs
open Go.Shelf
def Tryz.lays128_ren : Go.Shelf.Ren := ⟨fun | 128 => 167 | n => n, fun | 51 => 193 | 3 => 3 | 4 => 4 | 46 => 170 | 5 => 5 | 9 => 9 | n => n, fun | n => n⟩
def Tryz.lays125_ren : Go.Shelf.Ren := ⟨fun | 125 => 145 | 128 => 167 | 129 => 168 | n => n, fun | 46 => 170 | 3 => 3 | 51 => 193 | 53 => 196 | 4 => 4 | 5 => 5 | 9 => 9 | n => n, fun | n => n⟩
theorem Tryz.lays125 : Go.Proofs.Lays.n125 Tryz.prog Tryz.lays125_ren := {
 mixed := by kernel_rfl
 f125 := Tryz.func145.trans (congrArg some (by kernel_rfl))
 f128 := Tryz.func167.trans (congrArg some (by kernel_rfl))
 f129 := Tryz.func168.trans (congrArg some (by kernel_rfl))
 t3 := Tryz.underlying3
 a3 := Tryz.isAgg3
 z3 := Tryz.sizeOf3
 v3 := Tryz.zeroValue3
 t4 := Tryz.underlying4
 a4 := Tryz.isAgg4
 z4 := Tryz.sizeOf4
 v4 := Tryz.zeroValue4
 t5 := Tryz.underlying5
 a5 := Tryz.isAgg5
 z5 := Tryz.sizeOf5
 v5 := Tryz.zeroValue5
 t9 := Tryz.underlying9
 a9 := Tryz.isAgg9
 z9 := Tryz.sizeOf9
 v9 := Tryz.zeroValue9
 t46 := Tryz.underlying170
 a46 := Tryz.isAgg170
 z46 := Tryz.sizeOf170
 v46 := Tryz.zeroValue170
 t51 := Tryz.underlying193
 a51 := Tryz.isAgg193
 z51 := Tryz.sizeOf193
 v51 := Tryz.zeroValue193
 t53 := Tryz.underlying196
 a53 := Tryz.isAgg196
 z53 := Tryz.sizeOf196
 v53 := Tryz.zeroValue196 }
theorem Tryz.bits_Len (x : Int) (w : World) (h0 : 0 ≤ x) (h1 : x ≤ 18446744073709551615) :
 Calls Tryz.prog 145 #[.int .u64 x] w fun e w' => e = .returned (.int .i64 (Lib.bitLen x.toNat)) ∧ w' = w := Any.bits_Len Tryz.lays125 x w h0 h1
def Tryz.lays215_ren : Go.Shelf.Ren := ⟨fun | 215 => 155 | n => n, fun | 3 => 3 | 4 => 4 | n => n, fun | n => n⟩
def Tryz.lays122_ren : Go.Shelf.Ren := ⟨fun | 122 => 147 | 215 => 155 | n => n, fun | 3 => 3 | 4 => 4 | n => n, fun | n => n⟩
def Tryz.lays129_ren : Go.Shelf.Ren := ⟨fun | 129 => 168 | n => n, fun | 53 => 196 | 3 => 3 | 4 => 4 | 46 => 170 | 5 => 5 | 9 => 9 | n => n, fun | n => n⟩
def Tryz.lays264_ren : Go.Shelf.Ren := ⟨fun | 264 => 149 | n => n, fun | 53 => 196 | 46 => 170 | n => n, fun | n => n⟩
def Tryz.lays212_ren : Go.Shelf.Ren := ⟨fun | 212 => 130 | 263 => 148 | 264 => 149 | n => n, fun | 46 => 170 | 51 => 193 | 146 => 194 | 53 => 196 | 148 => 197 | n => n, fun | n => n⟩
theorem Tryz.lays212 : Go.Proofs.Lays.n212 Tryz.prog Tryz.lays212_ren := {
 mixed := by kernel_rfl
 f212 := Tryz.func130.trans (congrArg some (by kernel_rfl))
 f263 := Tryz.func148.trans (congrArg some (by kernel_rfl))
 f264 := Tryz.func149.trans (congrArg some (by kernel_rfl))
 t46 := Tryz.underlying170
 a46 := Tryz.isAgg170
 z46 := Tryz.sizeOf170
 v46 := Tryz.zeroValue170
 t51 := Tryz.underlying193
 a51 := Tryz.isAgg193
 z51 := Tryz.sizeOf193
 v51 := Tryz.zeroValue193
 t53 := Tryz.underlying196
 a53 := Tryz.isAgg196
 z53 := Tryz.sizeOf196
 v53 := Tryz.zeroValue196
 t146 := Tryz.underlying194
 a146 := Tryz.isAgg194
 z146 := Tryz.sizeOf194
 v146 := Tryz.zeroValue194
 t148 := Tryz.underlying197
 a148 := Tryz.isAgg197
 z148 := Tryz.sizeOf197
 v148 := Tryz.zeroValue197 }
open Go.RowKit Go.Lib in
theorem Tryz.bits_Mul (x y : Nat) (hx : x < 18446744073709551616) (hy : y < 18446744073709551616) (w : World) :
 Calls Tryz.prog 130 #[.int .u64 x, .int .u64 y] w fun e w' => e = .returned (.tuple #[.int .u64 ((x * y / 18446744073709551616 : Nat) : Int), .int .u64 ((x * y % 18446744073709551616 : Nat) : Int)]) ∧ w' = w := Any.bits_Mul Tryz.lays212 x y hx hy w
def Tryz.laysNm237_ren : Go.Shelf.Ren := ⟨fun | 37 => 155 | n => n, fun | 3 => 3 | 4 => 4 | n => n, fun | n => n⟩
def Tryz.laysNm232_ren : Go.Shelf.Ren := ⟨fun | 32 => 136 | n => n, fun | 3 => 3 | 4 => 4 | n => n, fun | n => n⟩
def Tryz.laysNm231_ren : Go.Shelf.Ren := ⟨fun | 31 => 135 | 37 => 155 | n => n, fun | 3 => 3 | 4 => 4 | n => n, fun | n => n⟩
def Tryz.laysNm225_ren : Go.Shelf.Ren := ⟨fun | 25 => 97 | 31 => 135 | 32 => 136 | 37 => 155 | n => n, fun | 22 => 45 | 3 => 3 | 4 => 4 | 40 => 170 | 0 => 0 | n => n, fun | n => n⟩
end Go.Proofs
/- Contract of slices.Repeat of one number. -/
namespace Go.Proofs.YtplofbabfkkimaaGreatDoor
open Go.RowKit Go.Maps
attribute [local go_sem ↓] Go.wp_at_zero Go.wp_at_succ
def repV (n c : Nat) : List Value := List.replicate c (.int .i64 (-1)) ++ List.replicate (n - c) (.int .i64 0)
theorem repV_len {n c : Nat} (h : c ≤ n) : (repV n c).length = n := by simp [repV]; omega
theorem repV_at {n c j : Nat} (h : j < c) : (repV n c)[j]? = some (.int .i64 (-1)) := by
 unfold repV
 rw [List.getElem?_append_left (by simpa using h), List.getElem?_replicate, if_pos h]
theorem arr_setCells {ty : TypeId} {w : World} {g : Nat} : ∀ (zs vs : List Value) (o : Nat) (wr : World), Arr ty w wr g vs → Arr ty w (wr.setCells g o zs) g ((List.range zs.length).foldl (fun l j => l.set (o + j) ((zs[j]?).getD (.int .i64 0))) vs) := by
 intro zs
 induction zs with
 | nil => intro vs o wr h; exact h
 | cons z r ih =>
   intro vs o wr h
   have h1 := ih (vs.set o z) (o + 1) (wr.setCell ⟨g, o, none⟩ z) (h.set o z)
   show Arr ty w ((wr.setCell ⟨g, o, none⟩ z).setCells g (o + 1) r) g _
   rw [List.length_cons, List.range_succ_eq_map, List.foldl_cons, List.foldl_map]
   have e : (fun (l : List Value) (j : Nat) => l.set (o + (j + 1)) (((z :: r)[j + 1]?).getD (.int .i64 0))) = fun l j => l.set (o + 1 + j) ((r[j]?).getD (.int .i64 0)) := by
    funext l j
    rw [show o + (j + 1) = o + 1 + j by omega]
    rfl
   rw [show (fun (l : List Value) (j : Nat) => l.set (o + j.succ) (((z :: r)[j.succ]?).getD (.int .i64 0))) = _ from e]
   simpa using h1
theorem repV_fill (n c : Nat) : ∀ d, c + d ≤ n → (List.range d).foldl (fun l j => l.set (c + j) (((List.replicate d (Value.int .i64 (-1)))[j]?).getD (.int .i64 0))) (repV n c) = repV n (c + d) := by
 intro d hd
 suffices h : ∀ q, q ≤ d → (List.range q).foldl (fun l j => l.set (c + j) (((List.replicate d (Value.int .i64 (-1)))[j]?).getD (.int .i64 0))) (repV n c) = repV n (c + q) from h d (Nat.le_refl _)
 intro q
 induction q with
 | zero => intro _; rfl
 | succ q ih =>
   intro hq
   rw [List.range_succ, List.foldl_append, ih (by omega), List.foldl_cons, List.foldl_nil, List.getElem?_replicate, if_pos (by omega)]
   apply List.ext_getElem?
   intro j
   rw [List.getElem?_set]
   unfold repV
   simp only [Option.getD_some]
   by_cases hj : c + q = j
   ·subst hj
    rw [if_pos rfl, if_pos (by simp; omega), List.getElem?_append_left (by simp), List.getElem?_replicate, if_pos (by omega)]
   ·rw [if_neg hj]
    by_cases h1 : j < c + q
    ·rw [List.getElem?_append_left (by simpa using h1), List.getElem?_append_left (by simp; omega), List.getElem?_replicate, List.getElem?_replicate, if_pos h1, if_pos (by omega)]
    ·rw [List.getElem?_append_right (by simp; omega), List.getElem?_append_right (by simp; omega), List.getElem?_replicate, List.getElem?_replicate]
     simp only [List.length_replicate]
     by_cases h2 : j < n
     ·rw [if_pos (by omega), if_pos (by omega)]
     ·rw [if_neg (by omega), if_neg (by omega)]
theorem Arr.rep {w wr : World} {g n c : Nat} (h : Arr 3 w wr g (repV n c)) (d : Nat) (hd : c + d ≤ n) : Arr 3 w (wr.setCells g c (List.replicate d (.int .i64 (-1)))) g (repV n (c + d)) := by
 have h1 := arr_setCells (List.replicate d (.int .i64 (-1))) _ c wr h
 rw [List.length_replicate, repV_fill n c d hd] at h1
 exact h1
theorem Tryz.inI : (Tryz.prog.info? 3).map (·.size) = some 1 := by kernel_rfl
set_option maxRecDepth 100000 in
set_option maxHeartbeats 4000000 in
theorem repeat_any (g0 n : Nat) (w : World) (hn : n ≤ 1000000) (h0 : w.cell? ⟨g0, 0, none⟩ = some (.int .i64 (-1))) :
 Calls Tryz.prog 89 #[.slice (some ⟨g0, 0, none⟩) 1 1, .int .i64 n] w fun r w' => ∃ g, r = .returned (.slice (some ⟨g, 0, none⟩) n n) ∧ Arr 3 w w' g (List.replicate n (.int .i64 (-1))) := by
 have hMul : ∀ W, Calls Tryz.prog 130 #[.int .u64 1, .int .u64 n] W fun e w' => e = .returned (.tuple #[.int .u64 0, .int .u64 n]) ∧ w' = W := fun W => by
  have h := Tryz.bits_Mul 1 n (by omega) (by omega) W
  have e1 : 1 * n / 18446744073709551616 = 0 := by omega
  have e2 : 1 * n % 18446744073709551616 = n := by omega
  rw [e1, e2] at h
  exact h
 have hmk := makeI n hn w
 obtain ⟨w1, hw1⟩ : ∃ w1, w1 = w.alloc (.cells (madeV (.int .i64 0) n) 3) := ⟨_, rfl⟩
 have hA1 := arr_new 3 (.int .i64 0) rfl n w
 rw [← hw1] at hmk hA1
 have hA1 : Arr 3 w w1 w.heap.size (repV n 0) := by unfold repV; simpa using hA1
 have h1 := cell_up h0 hA1.bl
 obtain ⟨w2, hc2, hA2⟩ : ∃ w2, (∀ ty, (Builtin.copy_ #[45, 45] ty #[.slice (some ⟨w.heap.size, 0, none⟩) n n, .slice (some ⟨g0, 0, none⟩) 1 1]).run Tryz.prog w1 = .ok (.int .i64 ((min n 1 : Nat) : Int)) w2) ∧ Arr 3 w w2 w.heap.size (repV n (min n 1)) := by
  by_cases hz : n = 0
  ·subst hz
   exact ⟨w1, fun ty => run_copy_none (P := Tryz.prog) w1 _ _ ty 3 _ _ 0 0 1 1 Tryz.underlying45 Tryz.inI (by decide), hA1⟩
  ·have e1 : min n 1 = 1 := by omega
   rw [e1]
   refine ⟨w1.setCells w.heap.size 0 (List.replicate 1 (.int .i64 (-1))), fun ty => ?_, by have := hA1.rep 1 (by omega); simpa using this⟩
   have h := run_copy_cells (P := Tryz.prog) w1 45 45 ty 3 w.heap.size 0 n n ⟨g0, 0, none⟩ 1 1 (List.replicate 1 (.int .i64 (-1))) Tryz.underlying45 Tryz.inI (by show 1 = Nat.min 1 n; exact (Nat.min_eq_left (by omega)).symm) (fun j x hx => by
    have hj : j = 0 := by have := (List.getElem?_eq_some_iff.1 hx).1; simpa using this
    subst hj
    have hx2 : x = .int .i64 (-1) := by simpa using hx.symm
    rw [hx2]; exact h1) (fun j hj => by
    have hj0 : j = 0 := by simpa using hj
    subst hj0
    obtain ⟨x, hx⟩ : ∃ x, (repV n 0)[0]? = some x := ⟨_, List.getElem?_eq_getElem (by rw [repV_len (Nat.zero_le _)]; omega)⟩
    rw [hA1.cell hx]; rfl) (fun j _ => hA1.free _) (fun v hv => by rw [List.eq_of_mem_replicate hv]; rfl)
   exact h
 have u1 : IntKind.u64.wrap (n : Int) = (n : Int) := by rw [IntKind.wrap_u64]; omega
 have u2 : IntKind.i64.wrap (n : Int) = (n : Int) := by rw [IntKind.wrap_i64]; omega
 have q1 : ¬ (n : Int) < 0 := by omega
 have q2 : ¬ (9223372036854775807 : Int) < (n : Int) := by omega
 have HM : Hid _ := And.intro hMul (And.intro hA2 hw1)
 clear hMul hA1 hA2 hw1 h0 h1
 go_enter Tryz.func89, Tryz.ntmps89
 go_wp2_with (go_at_call 130; refine Calls.mono (HM.out.1 _) ?_; rintro r w9 ⟨rfl, hw9⟩; obtain rfl := hw9.symm; clear hw9)
 go_loopg [8] (n - min n 1) (fun q cv wr => ∃ c : Nat, q = n - c ∧ c ≤ n ∧ (n = 0 ∨ 0 < c) ∧ cv = .int .i64 c ∧ Arr 3 w wr w.heap.size (repV n c))
 case atStart => exact ⟨min n 1, rfl, Nat.min_le_left _ _, by omega, rfl, HM.out.2.1⟩
 case round =>
  obtain ⟨c, rfl, hcn, hpos, rfl, hA⟩ := hrel
  clear hmk hc2
  by_cases hlt : c < n
  ·obtain ⟨d, hd⟩ : ∃ d, d = min c (n - c) := ⟨_, rfl⟩
   have hd1 : d ≤ n - c := by omega
   have hd2 : 0 < d := by omega
   have hd3 : d ≤ c := by omega
   have hAd : Arr 3 w wr.drew w.heap.size (repV n c) := hA.below (Below.refl _ _).drew
   have hcp : ∀ ty, (Builtin.copy_ #[45, 45] ty #[.slice (some ⟨w.heap.size, c, none⟩) (n - c) (n - c), .slice (some ⟨w.heap.size, 0, none⟩) c n]).run Tryz.prog wr.drew = .ok (.int .i64 ((d : Nat) : Int)) (wr.drew.setCells w.heap.size c (List.replicate d (.int .i64 (-1)))) := fun ty => by
    have h := run_copy_cells (P := Tryz.prog) wr.drew 45 45 ty 3 w.heap.size c (n - c) (n - c) ⟨w.heap.size, 0, none⟩ c n (List.replicate d (.int .i64 (-1))) Tryz.underlying45 Tryz.inI (by rw [List.length_replicate, hd]) (fun j x hx => by
     have hj : j < d := by have := (List.getElem?_eq_some_iff.1 hx).1; simpa using this
     have hx2 : x = .int .i64 (-1) := by rw [List.getElem?_replicate, if_pos hj] at hx; exact (Option.some.inj hx).symm
     rw [hx2, addz]
     exact hAd.cell (repV_at (by omega))) (fun j hj => by
     rw [List.length_replicate] at hj
     obtain ⟨x, hx⟩ : ∃ x, (repV n c)[c + j]? = some x := ⟨_, List.getElem?_eq_getElem (by rw [repV_len hcn]; omega)⟩
     rw [hAd.cell hx]; rfl) (fun j _ => hAd.free _) (fun v hv => by rw [List.eq_of_mem_replicate hv]; rfl)
    rw [List.length_replicate] at h
    exact h
   have hA3 := hAd.rep d (by omega)
   have p0 : (0 : Int) ≤ (c : Int) := by omega
   have p1 : (c : Int) < (n : Int) := by omega
   have p2 : (c : Int) ≤ (n : Int) := by omega
   have p3 : ¬ n = c := by omega
   have H3 : Hid _ := hA3
   clear hA hAd hA3 hd
   go_wp2_with fail
   go_region
   all_goals go_wp2_with fail
   all_goals
    go_roundg (n - (c + d))
    case measure => omega
    case rel => exact ⟨c + d, rfl, by omega, by omega, by go_num, by first | exact H3.out | exact H3.out.below (Below.refl _ _).drew⟩
  ·obtain rfl : c = n := by omega
   have p1 : ¬ (c : Int) < (c : Int) := by omega
   have H3 : Hid _ := hA
   clear hA
   go_wp2_with fail
   go_ret
   refine ⟨_, rfl, ?_⟩
   have h9 := H3.out
   unfold repV at h9
   simpa using h9
end Go.Proofs.YtplofbabfkkimaaGreatDoor
