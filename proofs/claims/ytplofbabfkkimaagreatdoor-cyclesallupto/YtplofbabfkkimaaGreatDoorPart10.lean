/- Texts of this claim, joined: TsEnd, SyNew, TsCol, SoInts, SyRch, SyEdg. -/
import Derived.Test.YtplofbabfkkimaaGreatDoorPart9
import Derived.Deep.DeepCutAuto
import Derived.Test.YtplofbabfkkimaaGreatDoorPart7
import Derived.Test.YtplofbabfkkimaaGreatDoorPart0
import Derived.Test.YtplofbabfkkimaaGreatDoorPart5
import Derived.Deep.RegionHeld3
import Derived.Test.YtplofbabfkkimaaGreatDoorPart2
import Derived.Sort.OwnSortedInts
import Derived.Deep.AppendLies
import Derived.Maps.AppendAt
/- tauscc: the contract of endsFirst. -/
namespace Go.Proofs.YtplofbabfkkimaaGreatDoor.Ts
open Go.RowKit Go.Maps
attribute [local go_sem ↓] Go.wp_at_zero Go.wp_at_succ
def L3 (n ga : Nat) (A : List Int) (vr : Value) (rd : List Nat) (vo : Value) (od : List Nat) : List (Value × List Int) := [(.slice (some ⟨ga, 0, none⟩) n n, A), (vr, cast rd), (vo, cast od)]
theorem qa_a {w : World} {B n ga : Nat} {A : List Int} {R : List (Value × List Int)} (h : QueAll w B ((.slice (some ⟨ga, 0, none⟩) n n, A) :: R)) {x : Nat} {z : Int} (hz : A[x]? = some z) : w.cell? ⟨ga, x, none⟩ = some (.int .i64 z) ∧ w.frozen? ⟨ga, x, none⟩ = false := by
 obtain ⟨g, off, cap, e, _, h1, h2⟩ := que_cell (h.q 0 _ rfl) hz
 simp only [Value.slice.injEq, Option.some.injEq, Addr.mk.injEq] at e
 obtain ⟨⟨rfl, rfl, _⟩, _⟩ := e
 rw [Nat.zero_add] at h1 h2
 exact ⟨h1, h2⟩
theorem qa_set {w : World} {B n ga : Nat} {A : List Int} {R : List (Value × List Int)} (h : QueAll w B ((.slice (some ⟨ga, 0, none⟩) n n, A) :: R)) {x : Nat} (hx : x < A.length) (z : Int) : QueAll (w.setCell ⟨ga, x, none⟩ (.int .i64 z)) B ((.slice (some ⟨ga, 0, none⟩) n n, A.set x z) :: R) := by
 have h1 := qall_set h (k := 0) rfl hx z
 rw [Nat.zero_add] at h1
 exact h1
theorem QueAll.init {w : World} {B : Nat} {L : List (Value × List Int)} {z : Value × List Int} (h : QueAll w B (L ++ [z])) : QueAll w B L := by
 have e : ∀ {i : Nat} {y : Value × List Int}, L[i]? = some y → (L ++ [z])[i]? = some y := fun hy => by rw [List.getElem?_append_left (List.getElem?_eq_some_iff.1 hy).1]; exact hy
 exact ⟨fun i y hy => h.q i y (e hy), fun i j y x b hi hj => h.ap i j y x b (e hi) (e hj)⟩
theorem que_base {w : World} {B B' : Nat} {v : Value} {zs : List Int} (h : Que w B v zs) (hb : B' ≤ B) : Que w B' v zs := by
 rcases h with h | ⟨g, off, cap, cur, e, hB, h⟩
 ·exact .inl h
 ·exact .inr ⟨g, off, cap, cur, e, Nat.le_trans hb hB, h⟩
theorem que_own0 {w : World} {B : Nat} {v : Value} {zs : List Int} (h : Que w B v zs) (h0 : At0 v) (hn : zs = [] → v = .slice none 0 0) : OwnI w B v zs := by
 by_cases e : zs = []
 ·rw [hn e, e]; exact World.ownsRow_nil _ _ _ _
 ·exact h.own h0 (List.length_pos_iff.2 e)
theorem awj_nil (out : Nat → List Nat) (x : Nat) : awj out [] [] x = (out x).length := by
 unfold awj aw
 simp
theorem rd_free {n : Nat} {out : Nat → List Nat} {od : List Nat} {t x : Nat} (hg : Grd n out od) (ht : Rd n out od t) (hx : t ∈ out x) : x ∉ od ++ [t] := by
 intro h
 rcases List.mem_append.1 h with h | h
 ·exact ht.2.1 (hg.shut x h t hx)
 ·rw [List.mem_singleton.1 h] at hx
  exact ht.2.1 (ht.2.2 t hx)
theorem RdL.snoc {p : Nat → Prop} {m : Nat} {rd : List Nat} (h : RdL (fun x => x < m ∧ p x) rd) (hp : p m) : RdL (fun x => x < m + 1 ∧ p x) (rd ++ [m]) := by
 refine ⟨List.pairwise_append.2 ⟨h.ris, List.pairwise_singleton _ _, fun a ha b hb => ?_⟩, fun x => ?_⟩
 ·rw [List.mem_singleton.1 hb]; exact ((h.mem a).1 ha).1
 ·rw [List.mem_append, List.mem_singleton, h.mem]
  constructor
  ·rintro (h1 | rfl)
   ·exact ⟨by omega, h1.2⟩
   ·exact ⟨by omega, hp⟩
  ·rintro ⟨h1, h2⟩
   by_cases e : x = m
   ·exact .inr e
   ·exact .inl ⟨by omega, h2⟩
theorem RdL.stay {p : Nat → Prop} {m : Nat} {rd : List Nat} (h : RdL (fun x => x < m ∧ p x) rd) (hp : ¬ p m) : RdL (fun x => x < m + 1 ∧ p x) rd := h.congr fun x => by
 constructor
 ·rintro ⟨h1, h2⟩
  exact ⟨Nat.lt_of_le_of_ne (by omega) (fun e => hp (e ▸ h2)), h2⟩
 ·rintro ⟨h1, h2⟩; exact ⟨by omega, h2⟩
theorem RdL.len {n : Nat} {p : Nat → Prop} {rd : List Nat} (h : RdL p rd) (hp : ∀ x, p x → x < n) : rd.length ≤ n := by
 have h3 := nodup_sub rd (List.range n) (h.ris.imp fun hab => Nat.ne_of_lt hab) fun x hx => List.mem_range.2 (hp x ((h.mem x).1 hx))
 rwa [List.length_range] at h3
theorem ins_put {W : World} {B : Nat} {v0 v4 : Value} {A : List Int} {rd : List Nat} {R : List (Value × List Int)} {x : Nat} (hQ : QueAll W B ((v0, A) :: (v4, cast rd) :: R)) (hl : rd.length ≤ 100000) (hB : B ≤ W.heap.size) :
 Calls Tryz.prog 98 #[v4, .int .i64 ((cast rd).countP (· < (x : Int)) : Nat), .slice (some ⟨W.heap.size, 0, none⟩) 1 1] (W.alloc (.cells #[.int .i64 (x : Int)] 3)) fun e w' => ∃ v', e = .returned v' ∧ Below B W w' ∧ QueAll w' B ((v0, A) :: (v', cast (insN rd x)) :: R) := by
 have hb8 : Below W.heap.size W (W.alloc (.cells #[.int .i64 (x : Int)] 3)) := (Below.refl _ _).alloc (Nat.le_refl _) _
 have hQ8 := hQ.below hb8
 have hs8 : (W.alloc (.cells #[.int .i64 (x : Int)] 3)).heap.size = W.heap.size + 1 := by rw [World.size_alloc]
 have hq : Que _ B v4 (cast rd) := hQ8.q 1 _ rfl
 have hlt : ∀ b, v4.ownBlock = some b → B ≤ b ∧ b < W.heap.size := (show Que W B v4 (cast rd) from hQ.q 1 _ rfl).lt
 refine (insert_any (vb := W.heap.size) (x : Int) _ hq List.countP_le_length (by rw [cast_length]; exact hl) (by omega) (heap_alloc_new W _) (fun e => by have := (hlt _ e).2; omega)).mono fun e w' h => ?_
 obtain ⟨v', rfl, h1, h2, h3⟩ := h
 refine ⟨v', rfl, (hb8.mono hB).trans (h2.below (by omega) fun b hb => (hlt b hb).1), ?_⟩
 rw [← (cast_ins rd x).1]
 exact hQ8.put (k := 1) rfl h2 h1 (h3.imp_right fun e b hb => by rw [e] at hb; cases hb; omega)
theorem rd_sorted {p : Nat → Prop} {rd : List Nat} (h : RdL p rd) : (cast rd).Pairwise (· ≤ ·) := by
 unfold cast
 rw [List.pairwise_map]
 exact h.ris.imp fun hab => by omega
set_option linter.unusedSimpArgs false in
set_option maxRecDepth 100000 in
set_option maxHeartbeats 4000000 in
theorem endsFirst_any {B g bs bb cs cb n : Nat} {k s : Int} {es : List Sy.Ed} (w : World) (hG : Gr w B g bs bb cs cb n k s es) :
 Calls Tryz.prog 31 #[.pointer (some ⟨g, 0, none⟩)] w fun e w' => ∃ u od, e = .returned u ∧ Grd n (sil n es) od ∧ (∀ x, ¬ Rd n (sil n es) od x) ∧ OwnI w' w.heap.size u (cast od) ∧ Below w.heap.size w w' := by
 have hS := states_any w hG
 have hsz := hG.sizes
 have hn : n ≤ 1000000 := by omega
 have hmk := makeI n hn w
 have hA0 := arr_new 3 (.int .i64 0) rfl n w
 have hrow := fun q (hq : q < n) => sil_row hG.right hsz.2 hq
 obtain ⟨w1, hw1⟩ : ∃ w1, w1 = w.alloc (.cells (madeV (.int .i64 0) n) 3) := ⟨_, rfl⟩
 rw [← hw1] at hmk hA0
 have H : Hid _ := And.intro hS (And.intro hG (And.intro hn (And.intro hsz.1 (And.intro hrow hA0))))
 clear hS hG hsz hn hrow hA0 hw1
 go_enter Tryz.func31, Tryz.ntmps31
 go_wp2_with (go_at_call 27; refine Calls.mono H.out.1 ?_; rintro r1 w1 ⟨rfl, hw⟩; obtain rfl := hw.symm; clear hw)
 clear hmk
 obtain ⟨ga, hga⟩ : ∃ ga, ga = w.heap.size := ⟨_, rfl⟩
 have hq1 : QueAll w1 w.heap.size (L3 n ga (List.replicate n 0) (.slice none 0 0) [] (.slice none 0 0) []) := by
  have h0 := que_arr H.out.2.2.2.2.2 H.out.2.2.1
  have h1 : Que w1 w.heap.size (.slice (some ⟨ga, 0, none⟩) n n) (List.replicate n 0) := by rw [hga]; exact h0
  refine ⟨fun i z hz => ?_, fun i j z y b hz hy hij hzb hyb => ?_⟩
  ·match i with
   | 0 => cases hz; exact h1
   | 1 => cases hz; exact Que.nil _ _
   | 2 => cases hz; exact Que.nil _ _
   | _ + 3 => cases hz
  ·match i, j with
   | 0, 0 => exact hij rfl
   | 1, _ => cases hz; cases hzb
   | 2, _ => cases hz; cases hzb
   | _ + 3, _ => cases hz
   | _, 1 => cases hy; cases hyb
   | _, 2 => cases hy; cases hyb
   | _, _ + 3 => cases hy
 have HQ : Hid _ := And.intro hq1 H.out.2.2.2.2.2.bl
 rw [← hga]
 clear hq1 hga
 go_loopg [4, 17] n (fun q vr iv wr => ∃ (m : Nat) (A : List Int) (rd : List Nat), q = n - m ∧ m ≤ n ∧ iv = .int .i64 m ∧ Below w.heap.size w wr ∧ QueAll wr w.heap.size (L3 n ga A vr rd (.slice none 0 0) []) ∧ A.length = n ∧ (∀ x, x < m → A[x]? = some (((sil n es x).length : Nat) : Int)) ∧ RdL (fun x => x < m ∧ (sil n es x).length = 0) rd)
 case atStart => exact ⟨0, _, [], rfl, Nat.zero_le _, rfl, HQ.out.2, HQ.out.1, List.length_replicate, fun x hx => absurd hx (Nat.not_lt_zero x), ⟨.nil, fun x => by simp⟩⟩
 case round =>
  obtain ⟨m, A, rd, rfl, hm, rfl, hbl, hQ, hAl, hAt, hRd⟩ := hrel
  by_cases hmn : m < n
  ·have q1 : (m : Int) < (n : Int) := by omega
   have p0 : (0 : Int) ≤ (m : Int) := by omega
   have p1 : IntKind.i64.wrap ((m : Int) + 1) = (m : Int) + 1 := by rw [IntKind.wrap_i64]; have := H.out.2.2.1; omega
   have hB := fun W (hb : Below wr.heap.size wr W) => (by_any (m : Int) 0 W (H.out.2.1.below (hbl.trans (hb.mono hbl.size))))
   obtain ⟨z0, hz0⟩ : ∃ z, A[m]? = some z := ⟨_, List.getElem?_eq_getElem (by omega)⟩
   obtain ⟨ln, hln⟩ : ∃ l, l = (sil n es m).length := ⟨_, rfl⟩
   have hle : (Sy.ends (Sy.rowOf n (Sy.nf es) (m : Int)) 0).length = ln := by rw [hln, ← (H.out.2.2.2.2.1 m hmn).1, cast_length]
   have HA : Hid _ := And.intro hbl (And.intro hQ (And.intro hAl (And.intro hAt (And.intro hRd (And.intro hB (And.intro hz0 (And.intro hln (And.intro hle hm))))))))
   clear hbl hQ hAl hAt hRd hB hz0 hln hle hm
   go_upto_region 7 with (go_at_call 90; refine Calls.mono (HA.out.2.2.2.2.2.1 _ (by repeat (first | exact Below.refl _ _ | refine Below.drew ?_))) ?_; rintro r5 w5 ⟨u, rfl, hO5, hb5⟩; obtain ⟨au, cu, hu⟩ := row_shape hO5; rw [HA.out.2.2.2.2.2.2.2.2.1] at hu; subst hu; have hQ5 := HA.out.2.1.below hb5; obtain ⟨bc, bf⟩ := qa_a hQ5 HA.out.2.2.2.2.2.2.1; have H5 : Hid _ := And.intro hb5 hQ5; clear hO5 hb5 hQ5)
   obtain ⟨w6, hw6⟩ : ∃ w6, w6 = w5.setCell ⟨ga, m, none⟩ (.int .i64 (ln : Int)) := ⟨_, rfl⟩
   rw [← hw6]
   have hml : m < A.length := by have := HA.out.2.2.1; omega
   have hQ6 : QueAll w6 w.heap.size (L3 n ga (A.set m (ln : Int)) u4 rd (.slice none 0 0) []) := by rw [hw6]; exact qa_set H5.out.2 hml _
   have hgw : w.heap.size ≤ ga := ((hQ6.q 0 _ rfl).lt ga rfl).1
   have hb6 : Below w.heap.size w w6 := by rw [hw6]; exact (HA.out.1.trans (H5.out.1.mono HA.out.1.size)).setCell hgw _
   have d6 := (qa_a hQ6 (List.getElem?_set_self hml)).1
   obtain ⟨ar, cr, hvr, _⟩ := (hQ6.q 1 _ rfl).shape
   simp only at hvr
   obtain ⟨nr, hnr⟩ : ∃ l, l = (cast rd).length := ⟨_, rfl⟩
   rw [← hnr] at hvr
   subst hvr
   have hlen : (cast rd).length ≤ 1000000 := by rw [cast_length]; have := HA.out.2.2.2.2.1.len (n := n) (fun x hx => by omega); have := H.out.2.2.1; omega
   have hAt6 : ∀ x, x < m + 1 → (A.set m (ln : Int))[x]? = some (((sil n es x).length : Nat) : Int) := fun x hx => by
    by_cases e : m = x
    ·subst e; rw [List.getElem?_set_self hml, HA.out.2.2.2.2.2.2.2.1]
    ·rw [List.getElem?_set_ne e]; exact HA.out.2.2.2.1 x (by omega)
   have hBw : w.heap.size ≤ (w6.alloc (.cells #[.int .i64 (m : Int)] 3)).heap.size := by have := hb6.size; rw [World.size_alloc]; omega
   have H6 : Hid _ := And.intro hQ6 (And.intro hb6 (And.intro hAt6 hnr))
   clear hQ6 hb6 hAt6 hw6 bc bf hgw hnr
   by_cases hl0 : ln = 0
   ·have e0 : (ln : Int) = 0 := by omega
    rw [e0] at d6
    have HL : Hid _ := And.intro hl0 e0
    rw [e0]
    clear hl0 e0
    go_wp2_with (at_builtin; refine wpList_que_append _ rfl _ _ rfl (.slice ar nr cr) (cast rd) w.heap.size rfl (que_alloc (H6.out.1.q 1 _ rfl) _) ⟨w6.heap.size, 0, none⟩ 1 (m : Int) rfl (one_cell _ _) hlen hBw ?_; intro vn wn hqn hgn han ha0; clear ha0; obtain ⟨an, nn, cn', rfl⟩ := que_slice hqn; have hkn := grown_alloc hgn; have HN : Hid _ := And.intro hqn (And.intro hkn (que_up han)); clear hqn hgn han hkn)
    go_roundg (n - (m + 1))
    case measure => omega
    case rel =>
     refine ⟨m + 1, _, rd ++ [m], rfl, by omega, by go_num, H6.out.2.1.trans (HN.out.2.1.below H6.out.2.1.size fun b hb => ((H6.out.1.q 1 _ rfl).lt b hb).1), ?_, by rw [List.length_set]; exact HA.out.2.2.1, H6.out.2.2.1, HA.out.2.2.2.2.1.snoc (by rw [← HA.out.2.2.2.2.2.2.2.1]; exact HL.out.1)⟩
     have h1 := H6.out.1.put (k := 1) rfl HN.out.2.1 HN.out.1 HN.out.2.2
     rw [← cast_snoc] at h1
     exact h1
   ·have e0 : ¬ (ln : Int) = 0 := by omega
    have e1 : ((ln : Int) == 0) = false := by simp [hl0]
    have e2 : ¬ ln = 0 := hl0
    go_wp2_with fail
    go_roundg (n - (m + 1))
    case measure => omega
    case rel => exact ⟨m + 1, _, rd, rfl, by omega, by go_num, H6.out.2.1, H6.out.1, by rw [List.length_set]; exact HA.out.2.2.1, H6.out.2.2.1, HA.out.2.2.2.2.1.stay (by rw [← HA.out.2.2.2.2.2.2.2.1]; exact hl0)⟩
  ·obtain rfl : n = m := by omega
   have q1 : ¬ (n : Int) < (n : Int) := by omega
   have hJ : EfJ n (sil n es) [] [] A rd := ⟨hAl, fun x hx => by rw [hAt x hx, awj_nil], hRd.congr fun x => by rw [awj_nil]; exact ⟨fun h => ⟨h.1, h.2.2⟩, fun h => ⟨h.1, by simp, h.2⟩⟩⟩
   obtain ⟨wA, rfl⟩ : ∃ wA, wA = wr := ⟨_, rfl⟩
   obtain ⟨v4, rfl⟩ : ∃ v4, v4 = u4 := ⟨_, rfl⟩
   have hnd : ∀ x, x < n → (sil n es x).Nodup := fun x hx => sil_nodup H.out.2.1.right H.out.2.1.sizes.2 hx
   have hpre := fun t (ht : t < n) => pre_row H.out.2.1.right ht
   have HA : Hid _ := And.intro hbl (And.intro hQ (And.intro hJ (And.intro hnd hpre)))
   clear hbl hQ hAl hAt hRd hm hJ hmn hnd hpre
   go_wp2_with fail
   go_loopg [4, 6] n (fun q s4 s6 wx => ∃ (A : List Int) (rd od : List Nat), q = n - od.length ∧ Grd n (sil n es) od ∧ EfJ n (sil n es) od [] A rd ∧ Below w.heap.size w wx ∧ QueAll wx w.heap.size (L3 n ga A s4 rd s6 od) ∧ At0 s6 ∧ (od = [] → s6 = .slice none 0 0))
   case atStart => exact ⟨A, rd, [], rfl, .nil, HA.out.2.2.1, HA.out.1, HA.out.2.1, at0_nil _ _, fun _ => rfl⟩
   case round =>
    clear q1
    obtain ⟨A, rd, od, rfl, hg, hJ, hbl, hQ, hat, hnil⟩ := hrel
    cases rd with
    | nil =>
      obtain ⟨ar, cr, hvr, _⟩ := (hQ.q 1 _ rfl).shape
      simp only at hvr
      have hvr2 : u4 = .slice ar 0 cr := hvr
      clear hvr
      subst hvr2
      have HB : Hid _ := And.intro hg (And.intro hJ (And.intro hbl (And.intro hQ (And.intro hat hnil))))
      clear hg hJ hbl hQ hat hnil
      go_wp2_with fail
      go_ret
      exact ⟨_, rfl, od, HB.out.1, fun x hx => by have h9 := (HB.out.2.1.fin.mem x).2 hx; simp at h9, que_own0 (HB.out.2.2.2.1.q 2 _ rfl) HB.out.2.2.2.2.1 (fun e => HB.out.2.2.2.2.2 (by cases od with | nil => rfl | cons a b => cases e)), HB.out.2.2.1⟩
    | cons t r =>
      obtain ⟨hRt, hleast, hJ2⟩ := hJ.take (P := pre n es t) HA.out.2.2.2.1 (fun x => (HA.out.2.2.2.2 t hJ.fin.least.1.1).2.2.1 x)
      have htn : t < n := hRt.1
      obtain ⟨ar, cr, hvr, hcr⟩ := (hQ.q 1 _ rfl).shape
      simp only at hvr hcr
      obtain ⟨nr, hnr⟩ : ∃ nr, nr = r.length := ⟨_, rfl⟩
      have hcl : (cast r).length = nr := by rw [cast_length, hnr]
      have hcl2 : (cast (t :: r)).length = nr + 1 := by rw [cast_length, hnr]; rfl
      rw [hcl2] at hvr hcr
      have hQ1 : Que wr w.heap.size u4 ((t : Int) :: cast r) := hQ.q 1 _ rfl
      subst hvr
      obtain ⟨gw, ow, hua, hfl, cw, hq1, hq0⟩ := hQ1.first
      subst hua
      rw [hcl] at hq1
      obtain ⟨ao, co, hvo, hco⟩ := (hQ.q 2 _ rfl).shape
      simp only at hvo hco
      obtain ⟨no, hno⟩ : ∃ no, no = (cast od).length := ⟨_, rfl⟩
      rw [← hno] at hvo hco
      subst hvo
      have hle := (hg.snoc hRt hleast).le
      have hlen : (cast od).length ≤ 1000000 := by rw [cast_length]; rw [List.length_append] at hle; have := H.out.2.2.1; omega
      have hF := fun W (hb : Below w.heap.size w W) => _root_.Go.Proofs.YtplofbabfkkimaaGreatDoor.from_any (t : Int) 0 W (H.out.2.1.below hb)
      have hP := HA.out.2.2.2.2 t htn
      have p2 : (0 : Int) < ((nr + 1 : Nat) : Int) := by omega
      have HB : Hid _ := And.intro hg (And.intro hRt (And.intro hleast (And.intro hJ2 (And.intro hbl (And.intro hQ (And.intro hat (And.intro hno (And.intro hle (And.intro hlen (And.intro hF hP))))))))))
      have HC : Hid _ := And.intro hq1 (And.intro hq0 (And.intro hnr hcl))
      clear hg hRt hleast hJ hJ2 hbl hQ hat hnil hno hle hlen hF hP hq1 hq0 hnr hcl hcl2 hQ1 hfl htn hco
      go_upto_region 13 with fail
      go_cut [4] (fun s4 wx => ∃ (o2 c2 : Nat), s4 = .slice (some ⟨gw, o2, none⟩) nr c2 ∧ Que wr w.heap.size s4 (cast r) ∧ wx = wr)
      case first =>
       by_cases hc : cr = 1
       ·have hn0 : nr = 0 := by omega
        subst hc
        subst hn0
        go_wp2_with fail
        go_meet
        exact ⟨ow, 0, rfl, by rw [(HC.out.2.1 (by first | trivial | rfl)).1]; exact (HC.out.2.1 (by first | trivial | rfl)).2, rfl⟩
       ·have hc0 : 0 < cr - 1 := by omega
        go_wp2_with fail
        go_meet
        exact ⟨ow + 1, cr - 1, rfl, HC.out.1 hc0, rfl⟩
      case rest =>
       obtain ⟨o2, c2, hs4, hQr, hw⟩ := hcut
       subst hs4
       obtain rfl := hw.symm
       clear hw cw hcr
       have hQ2 : QueAll wr w.heap.size (L3 n ga A (.slice (some ⟨gw, o2, none⟩) nr c2) r (.slice ao no co) od) := HB.out.2.2.2.2.2.1.put (k := 1) rfl (Kept.refl _ _) hQr (.inl rfl)
       have hBw : w.heap.size ≤ (wr.alloc (.cells #[.int .i64 (t : Int)] 3)).heap.size := by have := HB.out.2.2.2.2.1.size; rw [World.size_alloc]; omega
       have HD : Hid _ := And.intro hQ2 hBw
       clear hQ2 hBw hQr
       go_upto_region 15 with (at_builtin; refine wpList_que_append _ rfl _ _ rfl (.slice ao no co) (cast od) w.heap.size rfl (que_alloc (HD.out.1.q 2 _ rfl) _) ⟨wr.heap.size, 0, none⟩ 1 (t : Int) rfl (one_cell _ _) HB.out.2.2.2.2.2.2.2.2.2.1 HD.out.2 ?_; intro vn wn hqn hgn han ha0; obtain ⟨an, nn, cn', rfl⟩ := que_slice hqn; have hkn := grown_alloc hgn; have HN : Hid _ := And.intro hqn (And.intro hkn (And.intro (que_up han) (ha0 HB.out.2.2.2.2.2.2.1))); clear hqn hgn han hkn ha0)
       have hQ3 : QueAll wn w.heap.size (L3 n ga A (.slice (some ⟨gw, o2, none⟩) nr c2) r (.slice an nn cn') (od ++ [t])) := by
        have h1 := HD.out.1.put (k := 2) rfl HN.out.2.1 HN.out.1 HN.out.2.2.1
        rw [← cast_snoc] at h1
        exact h1
       have hb3 : Below w.heap.size w wn := HB.out.2.2.2.2.1.trans (HN.out.2.1.below HB.out.2.2.2.2.1.size fun b hb => ((HD.out.1.q 2 _ rfl).lt b hb).1)
       have hF3 := fun W (hb : Below wn.heap.size wn W) => HB.out.2.2.2.2.2.2.2.2.2.2.1 W (hb3.trans (hb.mono hb3.size))
       have HE : Hid _ := And.intro hQ3 (And.intro hb3 (And.intro hF3 HN.out.2.2.2))
       clear hQ3 hb3 hF3
       obtain ⟨L, hL⟩ : ∃ L, L = (pre n es t).length := ⟨_, rfl⟩
       have HP : Hid _ := And.intro HB.out.2.2.2.2.2.2.2.2.2.2.2 hL
       clear hL
       go_wp2_with (go_at_call 96; refine Calls.mono (HE.out.2.2.1 _ (by repeat (first | exact Below.refl _ _ | refine Below.drew ?_))) ?_; rintro r5 w5 ⟨u, rfl, hO5, hb5⟩; rw [← HP.out.1.1] at hO5; obtain ⟨au, cu, hu⟩ := row_shape hO5; rw [cast_length, ← HP.out.2] at hu; subst hu; have H5 : Hid _ := And.intro hO5 hb5; clear hO5 hb5)
       have hP := HP.out.1
       have hL := HP.out.2
       have hO5 := H5.out.1
       have hQ5 : QueAll w5 w.heap.size (L3 n ga A (.slice (some ⟨gw, o2, none⟩) nr c2) r (.slice an nn cn') (od ++ [t]) ++ [(.slice au L cu, cast (pre n es t))]) := HE.out.1.snoc H5.out.2 (que_base (Que.of_own hO5) HE.out.2.1.size) fun b hb => ((Que.of_own hO5).lt b hb).1
       have hb6 : Below w.heap.size w w5 := HE.out.2.1.trans (H5.out.2.mono HE.out.2.1.size)
       have HG : Hid _ := And.intro hP (And.intro hL (And.intro hQ5 hb6))
       clear hP hL hO5 hQ5 hb6 H5
       obtain ⟨wo, rfl⟩ : ∃ wo, wo = wr := ⟨_, rfl⟩
       go_loopg [4, 53] L (fun q s4 s53 wx => ∃ (j : Nat) (A : List Int) (rd : List Nat), q = L - j ∧ j ≤ L ∧ s53 = .int .i64 j ∧ EfJ n (sil n es) (od ++ [t]) ((pre n es t).drop j) A rd ∧ Below w.heap.size w wx ∧ QueAll wx w.heap.size (L3 n ga A s4 rd (.slice an nn cn') (od ++ [t]) ++ [(.slice au L cu, cast (pre n es t))]))
       case atStart => exact ⟨0, A, r, rfl, Nat.zero_le _, rfl, HB.out.2.2.2.1, HG.out.2.2.2, HG.out.2.2.1⟩
       case round =>
        obtain ⟨j, A2, rd, rfl, hj, rfl, hJ, hbl, hQ⟩ := hrel
        by_cases hlt : j < L
        ·obtain ⟨x, hx⟩ : ∃ x, (pre n es t)[j]? = some x := ⟨(pre n es t)[j]'(by have := HG.out.2.1; omega), List.getElem?_eq_getElem _⟩
         have hdrop : (pre n es t).drop j = x :: (pre n es t).drop (j + 1) := by obtain ⟨h8, h9⟩ := List.getElem?_eq_some_iff.1 hx; rw [List.drop_eq_getElem_cons h8, h9]
         rw [hdrop] at hJ
         have hxp := (HG.out.1.2.2.1 x).1 (List.mem_of_getElem? hx)
         have hnp : x ∉ (pre n es t).drop (j + 1) := by
          have h9 := HG.out.1.2.1.sublist (List.drop_sublist j _)
          rw [hdrop] at h9
          exact (List.nodup_cons.1 h9).1
         obtain ⟨hAx, hs1, hs2⟩ := hJ.step hxp.1 hnp (rd_free HB.out.1 HB.out.2.1 hxp.2)
         obtain ⟨k, hk⟩ : ∃ k, k = aw (sil n es) (od ++ [t]) x := ⟨_, rfl⟩
         rw [← hk] at hAx hs1 hs2
         obtain ⟨z1, hz1⟩ : ∃ z1, z1 = (k : Int) + 1 := ⟨_, rfl⟩
         rw [← hz1] at hAx
         obtain ⟨gu, ou, cu2, hue, _, du, _⟩ := que_cell (hQ.q 3 _ rfl) (show (cast (pre n es t))[j]? = some (x : Int) by unfold cast; rw [List.getElem?_map, hx]; rfl)
         simp only [Value.slice.injEq] at hue
         obtain ⟨rfl, -, -⟩ := hue
         obtain ⟨dA, fA⟩ := qa_a (show QueAll wr w.heap.size ((.slice (some ⟨ga, 0, none⟩) n n, A2) :: _) from hQ) hAx
         have hkn : k ≤ 100000 := by rw [hk]; have h8 := (H.out.2.2.2.2.1 x hxp.1).2.2; exact Nat.le_trans (by unfold aw; exact List.countP_le_length) h8
         have p0 : (0 : Int) ≤ (j : Int) := by omega
         have p1 : (j : Int) < (L : Int) := by omega
         have p2 : (0 : Int) ≤ (x : Int) := by omega
         have p3 : (x : Int) < (n : Int) := by have := hxp.1; omega
         have p4 : IntKind.i64.wrap (z1 - 1) = (k : Int) := by rw [IntKind.wrap_i64]; omega
         have p5 : IntKind.i64.wrap ((j : Int) + 1) = (j : Int) + 1 := by rw [IntKind.wrap_i64]; have := HG.out.2.1; have := HG.out.1.2.2.2; have := H.out.2.2.1; omega
         have hAl : x < A2.length := by rw [hJ.len]; exact hxp.1
         have hrl := hJ.rd.len (n := n) fun y hy => hy.1
         have hrs := rd_sorted hJ.rd
         have HJ : Hid _ := And.intro hbl (And.intro hQ (And.intro hs1 (And.intro hs2 (And.intro hAl (And.intro hrl (And.intro hrs (And.intro hz1 hxp)))))))
         clear hbl hQ hs1 hs2 hAl hrl hrs hz1 hxp hJ hdrop hx hnp hk hkn hAx
         go_upto_region 19 with fail
         obtain ⟨w6, hw6⟩ : ∃ w6, w6 = wr.setCell ⟨ga, x, none⟩ (.int .i64 (k : Int)) := ⟨_, rfl⟩
         rw [← hw6]
         have hQ6 : QueAll w6 w.heap.size (L3 n ga (A2.set x (k : Int)) u4 rd (.slice an nn cn') (od ++ [t]) ++ [(.slice (some ⟨gu, ou, none⟩) L cu, cast (pre n es t))]) := by rw [hw6]; exact qa_set (show QueAll wr w.heap.size ((.slice (some ⟨ga, 0, none⟩) n n, A2) :: _) from HJ.out.2.1) HJ.out.2.2.2.2.1 _
         have hgw : w.heap.size ≤ ga := ((hQ6.q 0 _ rfl).lt ga rfl).1
         have hb6 : Below w.heap.size w w6 := by rw [hw6]; exact HJ.out.1.setCell hgw _
         have d6 := (qa_a (show QueAll w6 w.heap.size ((.slice (some ⟨ga, 0, none⟩) n n, A2.set x (k : Int)) :: _) from hQ6) (List.getElem?_set_self HJ.out.2.2.2.2.1)).1
         obtain ⟨ar2, cr2, hv4, _⟩ := (hQ6.q 1 _ rfl).shape
         simp only at hv4
         obtain ⟨nr2, hnr2⟩ : ∃ l, l = (cast rd).length := ⟨_, rfl⟩
         rw [← hnr2] at hv4
         subst hv4
         obtain ⟨pl, hpl⟩ : ∃ p : Nat, p = (cast rd).countP (· < (x : Int)) := ⟨_, rfl⟩
         have hrl : rd.length ≤ 100000 := by have := HJ.out.2.2.2.2.2.1; have := H.out.2.1.sizes.1; omega
         have hS : ∀ W, Below w6.heap.size w6 W → Calls Tryz.prog 97 #[.slice ar2 nr2 cr2, .int .i64 (x : Int)] W fun e w' => ∃ b : Bool, e = .returned (.tuple #[.int .i64 (pl : Int), .bool b]) ∧ ∃ q, w' = W.drewN q := fun W hb => by
          rw [hpl]
          exact bsearch_any (x : Int) W ((hQ6.below hb).q 1 _ rfl) HJ.out.2.2.2.2.2.2.1 (by rw [cast_length]; exact hrl)
         have hI : ∀ W, Below w6.heap.size w6 W → Calls Tryz.prog 98 #[.slice ar2 nr2 cr2, .int .i64 (pl : Int), .slice (some ⟨W.heap.size, 0, none⟩) 1 1] (W.alloc (.cells #[.int .i64 (x : Int)] 3)) fun e w' => ∃ v', e = .returned v' ∧ Below w.heap.size W w' ∧ QueAll w' w.heap.size (L3 n ga (A2.set x (k : Int)) v' (insN rd x) (.slice an nn cn') (od ++ [t]) ++ [(.slice (some ⟨gu, ou, none⟩) L cu, cast (pre n es t))]) := fun W hb => by
          rw [hpl]
          exact ins_put (show QueAll W w.heap.size (_ :: (.slice ar2 nr2 cr2, cast rd) :: _) from hQ6.below hb) hrl (by have := hb6.size; have := hb.size; omega)
         have HK : Hid _ := And.intro hS (And.intro hI (And.intro hQ6 hb6))
         clear hS hI hQ6 hb6 hw6 hgw hpl hrl hnr2 dA fA
         by_cases hk0 : k = 0
         ·have e0 : (k : Int) = 0 := by omega
          rw [e0] at d6
          try rw [e0]
          have HL : Hid _ := And.intro hk0 e0
          clear hk0 e0
          go_upto_region 21 with (go_at_call 97; refine Calls.mono (HK.out.1 _ (by repeat (first | exact Below.refl _ _ | assumption | refine Below.drew ?_ | refine Below.setCell ?_ (by simp) _ | refine Below.alloc ?_ (by simp) _))) ?_; rintro r7 w7 ⟨b7, rfl, q7, hw7⟩; have hb7 := below_drewN (Below.refl w6.heap.size w6) q7; rw [← hw7] at hb7; have H7 : Hid _ := hb7; clear hw7 hb7)
          have hI7 := HK.out.2.1 w7 H7.out
          go_wp2_with (go_at_call 98; refine Calls.mono hI7 ?_; rintro r8 w8 ⟨v8, rfl, hb8, hQ8⟩; have hq8 := hQ8.q 1 _ rfl; obtain ⟨a8, n8, c8, rfl⟩ := que_slice hq8; have H8 : Hid _ := And.intro hb8 hQ8; clear hb8 hQ8 hq8 hI7)
          go_roundg (L - (j + 1))
          case measure => omega
          case rel => exact ⟨j + 1, _, insN rd x, rfl, by omega, by go_num, HJ.out.2.2.2.1 HL.out.1, HK.out.2.2.2.trans ((H7.out.mono HK.out.2.2.2.size).trans H8.out.1), H8.out.2⟩
         ·have e0 : ¬ (k : Int) = 0 := by omega
          have e1 : ((k : Int) == 0) = false := by simp [hk0]
          go_wp2_with fail
          go_roundg (L - (j + 1))
          case measure => omega
          case rel => exact ⟨j + 1, _, rd, rfl, by omega, by go_num, HJ.out.2.2.1 hk0, HK.out.2.2.2, HK.out.2.2.1⟩
        ·obtain rfl : L = j := by omega
         have p1 : ¬ (L : Int) < (L : Int) := by omega
         have HJ : Hid _ := And.intro hJ (And.intro hbl hQ)
         clear hJ hbl hQ hj hlt
         go_wp2_with fail
         go_roundg (n - (od ++ [t]).length)
         case measure => have := HB.out.2.2.2.2.2.2.2.2.1; rw [List.length_append] at this ⊢; simp only [List.length_singleton] at this ⊢; omega
         case rel => exact ⟨_, _, od ++ [t], rfl, HB.out.1.snoc HB.out.2.1 HB.out.2.2.1, by have h9 := HJ.out.1; rw [HG.out.2.1, List.drop_length] at h9; exact h9, HJ.out.2.1, QueAll.init HJ.out.2.2, HE.out.2.2.2, fun e => absurd e (by simp)⟩
end Go.Proofs.YtplofbabfkkimaaGreatDoor.Ts
/- Contract of the program's New: a graph of the system's one form. -/
namespace Go.Proofs.YtplofbabfkkimaaGreatDoor
open Go.RowKit Go.Maps
attribute [local go_sem ↓] Go.wp_at_zero Go.wp_at_succ
theorem inOrder_turn {es os : List Sy.Ed} (h : InOrder Sy.turn (Sy.nf es) os) : os.map Sy.turn = Sy.nf ((Sy.nf es).map Sy.turn) := by
 refine Sy.nf_of ?_ fun x => ?_
 ·have hnd : os.Nodup := by
   rw [h.1.nodup_iff]
   have hs := Sy.nf_str es
   generalize Sy.nf es = l at hs
   induction l with
   | nil => exact List.nodup_nil
   | cons a r ih =>
     refine List.nodup_cons.2 ⟨fun ha => ?_, ih hs.tail⟩
     have h1 := hs.head a ha
     rw [Sy.lt_irrefl] at h1
     cases h1
  have hp := h.2
  clear h
  induction os with
  | nil => trivial
  | cons a r ih =>
    obtain ⟨h1, h2⟩ := List.pairwise_cons.1 hp
    obtain ⟨h3, h4⟩ := List.nodup_cons.1 hnd
    rw [List.map_cons]
    refine Sy.Str.cons (ih h4 h2) fun x hx => ?_
    obtain ⟨b, hb, rfl⟩ := List.mem_map.1 hx
    have h5 := h1 b hb
    cases h6 : Sy.lt (Sy.turn a) (Sy.turn b) with
    | true => rfl
    | false =>
      have h7 := congrArg Sy.turn (Sy.eq_of_not h6 h5)
      rw [turn_turn, turn_turn] at h7
      rw [h7] at h3
      exact absurd hb h3
 ·rw [List.mem_map, List.mem_map]
  constructor
  ·rintro ⟨a, ha, rfl⟩; exact ⟨a, h.1.mem_iff.1 ha, rfl⟩
  ·rintro ⟨a, ha, rfl⟩; exact ⟨a, h.1.mem_iff.2 ha, rfl⟩
theorem rg_up4' {w2 wa wb : World} {a0 a1 a2 a3 : Addr} {x0 x1 x2 x3 : Value} (h : (wa.cell? a0 = some x0 ∧ wa.cell? a1 = some x1 ∧ wa.cell? a2 = some x2 ∧ wa.cell? a3 = some x3) ∧ Hid (Below w2.heap.size w2 wa)) (hb : Below wa.heap.size wa wb) : (wb.cell? a0 = some x0 ∧ wb.cell? a1 = some x1 ∧ wb.cell? a2 = some x2 ∧ wb.cell? a3 = some x3) ∧ Hid (Below w2.heap.size w2 wb) := rg_up4 hb h
def NewAt (a : Addr) (n k s : Int) (es : List Sy.Ed) (w : World) (r : Ending) (w' : World) : Prop :=
 if Sy.right n k s es = true then ∃ (g bs bb cs cb m : Nat), n = (m : Int) ∧ r = .returned (.tuple #[.pointer (some ⟨g, 0, none⟩), .nilIface]) ∧ Gr w' w.heap.size g bs bb cs cb m k s es ∧ Below w.heap.size w w'
 else ∃ x, r = .returned (.tuple #[.pointer none, x]) ∧ Chain w' 0 0 a [sysB] x ∧ Below w.heap.size w w'
set_option maxRecDepth 100000 in
set_option maxHeartbeats 8000000 in
theorem new_any {M : Nat} (hS : SortOk M) (n k s : Int) (v : Value) (es : List Sy.Ed) (a : Addr) (w : World) (hA : Sent w 13 a) (hv : BEdges.Has w v es) (hM : es.length ≤ M) (hm : es.length ≤ 100000) :
 Calls Tryz.prog 23 #[sysV n k s v] w (NewAt a n k s es w) := by
 obtain ⟨w1, hw1⟩ : ∃ w1, w1 = w.alloc (.cells #[.int .i64 n, .int .i64 k, .int .i64 s, v] 24) := ⟨_, rfl⟩
 have hb1 : Below w.heap.size w w1 := by rw [hw1]; exact (Below.refl _ _).alloc (Nat.le_refl _) _
 have hg1 : w1.heap[w.heap.size]? = some (.cells #[.int .i64 n, .int .i64 k, .int .i64 s, v] 24 (0, 0)) := by rw [hw1]; exact heap_alloc_new w _
 have hN := normal_any hS n k s v es a w1 (hA.below hb1) (hv.below hb1) hM (by omega)
 obtain ⟨ao, cap, rfl, _⟩ := hv
 obtain ⟨m0, hm0⟩ : ∃ m0, m0 = es.length := ⟨_, rfl⟩
 rw [← hm0] at hN hg1 hw1 ⊢
 unfold sysV at hN ⊢
 have H1 : Hid _ := And.intro hN (And.intro hb1 (And.intro hg1 (And.intro hw1 hS)))
 have HM : Hid _ := And.intro hM hm
 cases hq : Sy.right n k s es with
 | false =>
   rw [hq] at H1
   unfold NewAt
   rw [hq]
   clear hN hb1 hg1 hw1 hS hA hq hm0 hM hm
   go_enter Tryz.func23, Tryz.ntmps23
   go_wp2_with fail
   rw [← H1.out.2.2.2.1]
   refine Calls.mono H1.out.1 ?_
   rintro r w2 ⟨x, u, rfl, hx, _, hb2⟩
   have hch : Chain w2 0 0 a [sysB] x := by simpa [SErr] using hx
   obtain ⟨T, y, rfl⟩ := hch.iface
   have hg2 := (hb2.block _ (t_lt H1.out.2.2.1)).trans H1.out.2.2.1
   obtain ⟨y0, y1, y2, y3⟩ := four_cells hg2
   have z0 := blk_free hg2 0
   have z1 := blk_free hg2 1
   have z2 := blk_free hg2 2
   have z3 := blk_free hg2 3
   have hbw := H1.out.2.1.trans (hb2.mono H1.out.2.1.size)
   have H2 : Hid _ := And.intro hch (And.intro hbw hg2)
   clear hb2 hg2 hbw hch hx
   go_wp2_with fail
   have hbf := four_below H2.out.2.1 (b := w.heap.size) (Nat.le_refl _) (.int .i64 0) (.int .i64 0) (.int .i64 0) (.slice none 0 0)
   have hcf := chain_st4 H2.out.1 H2.out.2.2 (.int .i64 0) (.int .i64 0) (.int .i64 0) (.slice none 0 0)
   unfold st4 at hcf
   go_ret2
   exact ⟨_, rfl, hcf, hbf⟩
 | true =>
   rw [hq] at H1
   have hrp := right_parts hq
   obtain ⟨q, rfl⟩ : ∃ q : Nat, n = (q : Int) := ⟨n.toNat, by omega⟩
   have HQ : Hid _ := And.intro hq hrp
   unfold NewAt
   rw [hq]
   clear hN hb1 hg1 hw1 hS hA hq hm0 hM hm hrp
   go_enter Tryz.func23, Tryz.ntmps23
   go_wp2_with fail
   rw [← H1.out.2.2.2.1]
   refine Calls.mono H1.out.1 ?_
   rintro r w2 ⟨x, u, rfl, hx, hO, hb2⟩
   have hO := hO trivial
   obtain rfl : x = .nilIface := by simpa [SErr] using hx
   obtain ⟨au, cu, rfl⟩ := row_shape hO
   have hg2 := (hb2.block _ (t_lt H1.out.2.2.1)).trans H1.out.2.2.1
   obtain ⟨y0, y1, y2, y3⟩ := four_cells hg2
   have z0 := blk_free hg2 0
   have z1 := blk_free hg2 1
   have z2 := blk_free hg2 2
   have z3 := blk_free hg2 3
   have hbw := H1.out.2.1.trans (hb2.mono H1.out.2.1.size)
   obtain ⟨L, hL⟩ : ∃ L, L = (Sy.nf es).length := ⟨_, rfl⟩
   obtain ⟨w3, hw3⟩ : ∃ w3, w3 = (((w2.setCell ⟨w.heap.size, 0, none⟩ (.int .i64 q)).setCell ⟨w.heap.size, 1, none⟩ (.int .i64 k)).setCell ⟨w.heap.size, 2, none⟩ (.int .i64 s)).setCell ⟨w.heap.size, 3, none⟩ (.slice au L cu) := ⟨_, rfl⟩
   rw [← hL]
   have hg3 : w3.heap[w.heap.size]? = some (.cells #[.int .i64 q, .int .i64 k, .int .i64 s, .slice au L cu] 24 (0, 0)) := by rw [hw3]; exact four_set hg2
   have hb3 : Below w.heap.size w w3 := by rw [hw3]; exact four_below hbw (Nat.le_refl _) _ _ _ _
   have hO3 : BEdges.Own w3 w.heap.size (.slice au (Sy.nf es).length cu) (Sy.nf es) := by
    rw [hw3]
    refine row_base (trow_at hO fun b hb => ?_) H1.out.2.1.size
    have n1 : b ≠ w.heap.size := fun e => own_bk hO hg2 (by decide) (e ▸ hb)
    rw [set_other _ _ _ _ _ n1, set_other _ _ _ _ _ n1, set_other _ _ _ _ _ n1, set_other _ _ _ _ _ n1]
   have H3 : Hid _ := And.intro hb3 (And.intro hO3 (And.intro hg3 (And.intro hw3 hL)))
   clear hO hb2 hg2 hbw hx hg3 hb3 hO3 hw3 hL
   have hle : L ≤ 10000 := by have := HQ.out.2.2.2.1; have := Sy.nf_len es; have := H3.out.2.2.2.2; omega
   have hqn : q ≤ 1000 := by have := HQ.out.2.1; omega
   have hnr : ∀ e ∈ Sy.nf es, 0 ≤ e.1 ∧ e.1 < (q : Int) ∧ 0 ≤ e.2.2 ∧ e.2.2 < (q : Int) := fun e he => by
    have := HQ.out.2.2.2.2.2.2 e ((Sy.nf_mem es e).1 he)
    exact ⟨this.1, this.2.1, this.2.2.1, this.2.2.2.1⟩
   have hTf : ∀ W, Below w3.heap.size w3 W → Calls Tryz.prog 85 #[.int .i64 q, .slice au L cu, .func (.func 86) #[] #[]] W fun r w' => ∃ bs bb, r = .returned (.agg #[.slice (some ⟨bs, 0, none⟩) L L, .slice (some ⟨bb, 0, none⟩) (q + 1) (q + 1)]) ∧ Tb w' w.heap.size bs bb q (Sy.nf es) ∧ Below W.heap.size W w' := fun W hb => by
    have hLL := H3.out.2.2.2.2
    have hOW : BEdges.Has W (.slice au (Sy.nf es).length cu) (Sy.nf es) := H3.out.2.1.has.below hb
    have h9 := tableOf_any _ _ forward_at q (.slice au (Sy.nf es).length cu) (Sy.nf es) W (by omega) (by omega) hOW (by rw [List.map_id']; exact fun e he => ⟨(hnr e he).1, (hnr e he).2.1⟩) (by rw [List.map_id']; exact nf_rows es)
    rw [List.map_id'] at h9
    rw [← hLL] at h9
    refine h9.mono fun r w' ⟨bs, bb, hr, h1, h2⟩ => ⟨bs, bb, hr, ⟨(Blk.of_arr h1).base ?_, (Blk.of_arr h2).base ?_⟩, h1.bl⟩
    ·have := H3.out.1.size; have := hb.size; omega
    ·have := H3.out.1.size; have := hb.size; omega
   have hOr : ∀ W, Below w3.heap.size w3 W → Calls Tryz.prog 87 #[.slice au L cu, .func (.func 88) #[] #[]] W fun r w' => ∃ u os, r = .returned u ∧ InOrder Sy.turn (Sy.nf es) os ∧ BEdges.Own w' W.heap.size u os ∧ Below W.heap.size W w' := fun W hb => by
    have hLL := H3.out.2.2.2.2
    have hOW : BEdges.Has W (.slice au (Sy.nf es).length cu) (Sy.nf es) := H3.out.2.1.has.below hb
    have h9 := ordered_any H1.out.2.2.2.2 _ _ backward_at (.slice au (Sy.nf es).length cu) (Sy.nf es) W (by have := Sy.nf_len es; have := HM.out.1; omega) (by omega) hOW
    rw [← hLL] at h9
    exact h9
   have hTb : ∀ W u os B, Below w3.heap.size w3 W → InOrder Sy.turn (Sy.nf es) os → BEdges.Own W B u os → Calls Tryz.prog 85 #[.int .i64 q, u, .func (.func 88) #[] #[]] W fun r w' => ∃ bs bb, r = .returned (.agg #[.slice (some ⟨bs, 0, none⟩) L L, .slice (some ⟨bb, 0, none⟩) (q + 1) (q + 1)]) ∧ Tb w' w.heap.size bs bb q (Sy.nf ((Sy.nf es).map Sy.turn)) ∧ Below W.heap.size W w' := fun W u os B hb hI hO => by
    have hLL := H3.out.2.2.2.2
    have hlo := hI.1.length_eq
    have het := inOrder_turn hI
    have h9 := tableOf_any _ _ backward_at q u os W (by omega) (by omega) hO.has (by
     rw [het]
     intro e he
     rw [Sy.nf_mem] at he
     obtain ⟨x, hx, rfl⟩ := List.mem_map.1 he
     exact ⟨(hnr x hx).2.2.1, (hnr x hx).2.2.2⟩) (by rw [het]; exact nf_rows _)
    rw [het, hlo, ← hLL] at h9
    refine h9.mono fun r w' ⟨bs, bb, hr, h1, h2⟩ => ⟨bs, bb, hr, ⟨(Blk.of_arr h1).base ?_, (Blk.of_arr h2).base ?_⟩, h1.bl⟩
    ·have := H3.out.1.size; have := hb.size; omega
    ·have := H3.out.1.size; have := hb.size; omega
   have HT : Hid _ := And.intro hTf (And.intro hOr hTb)
   clear hTf hOr hTb hnr
   go_upto_region 4 with fail
   rw [← H3.out.2.2.2.1]
   clear y0 y1 y2 y3 z0 z1 z2 z3
   obtain ⟨x0, x1, x2, x3⟩ := four_cells H3.out.2.2.1
   go_region_held3 (fun w' => (w'.cell? ⟨w.heap.size, 0, none⟩ = some (.int .i64 q) ∧ w'.cell? ⟨w.heap.size, 1, none⟩ = some (.int .i64 k) ∧ w'.cell? ⟨w.heap.size, 2, none⟩ = some (.int .i64 s) ∧ w'.cell? ⟨w.heap.size, 3, none⟩ = some (.slice au L cu)) ∧ Hid (Below w3.heap.size w3 w')) (first | exact rg_up4' (by assumption) hba | exact rg_up4' (by assumption) hbb | exact rg_up4' (by assumption) hbc | exact rg_up4' (by assumption) ((Below.refl _ _).alloc (Nat.le_refl _) _) | exact ⟨⟨x0, x1, x2, x3⟩, ((Below.refl _ _).drew : Below w3.heap.size w3 w3.drew)⟩ | go_keep)
    ((first
      | (go_at_call_of 85 (Value.slice au L cu); refine (HT.out.1 _ (rg_b (by assumption))).mono ?_; rintro r wa ⟨bs, bb, rfl, hTa, hba⟩)
      | (go_at_call 87; refine (HT.out.2.1 _ (rg_b (by assumption))).mono ?_; rintro r wb ⟨u5, os, rfl, hIo, hOb, hbb⟩)
      | (go_at_call_of 85 u5; refine (HT.out.2.2 _ _ os _ (rg_b (by assumption)) hIo (by first | exact hOb | exact trow_at hOb fun b hb => hba.block _ (hOb.lt b hb).2)).mono ?_; rintro r wc ⟨cs, cb, rfl, hTc, hbc⟩)
      | fail))
   have hal : Below wc.heap.size wc (wc.alloc (.cells #[.int .i64 q, .int .i64 k, .int .i64 s, .slice (some ⟨bs, 0, none⟩) L L, .slice (some ⟨bb, 0, none⟩) (q + 1) (q + 1), .slice (some ⟨cs, 0, none⟩) L L, .slice (some ⟨cb, 0, none⟩) (q + 1) (q + 1)] 116)) := (Below.refl _ _).alloc (Nat.le_refl _) _
   have hbx := heap_alloc_new wc (.cells #[.int .i64 q, .int .i64 k, .int .i64 s, .slice (some ⟨bs, 0, none⟩) L L, .slice (some ⟨bb, 0, none⟩) (q + 1) (q + 1), .slice (some ⟨cs, 0, none⟩) L L, .slice (some ⟨cb, 0, none⟩) (q + 1) (q + 1)] 116)
   have hba' := below_of_drew3 hba
   have hsz : w.heap.size ≤ wc.heap.size := by have := H3.out.1.size; have := hba'.size; have := hbb.size; have := hbc.size; omega
   have hbw : Below w.heap.size w (wc.alloc (.cells #[.int .i64 q, .int .i64 k, .int .i64 s, .slice (some ⟨bs, 0, none⟩) L L, .slice (some ⟨bb, 0, none⟩) (q + 1) (q + 1), .slice (some ⟨cs, 0, none⟩) L L, .slice (some ⟨cb, 0, none⟩) (q + 1) (q + 1)] 116)) :=
    (((H3.out.1.trans (hba'.mono H3.out.1.size)).trans (hbb.mono (by have := H3.out.1.size; have := hba'.size; omega))).trans (hbc.mono (by have := H3.out.1.size; have := hba'.size; have := hbb.size; omega))).trans (hal.mono hsz)
   have hGr : Gr (wc.alloc (.cells #[.int .i64 q, .int .i64 k, .int .i64 s, .slice (some ⟨bs, 0, none⟩) L L, .slice (some ⟨bb, 0, none⟩) (q + 1) (q + 1), .slice (some ⟨cs, 0, none⟩) L L, .slice (some ⟨cb, 0, none⟩) (q + 1) (q + 1)] 116)) w.heap.size wc.heap.size bs bb cs cb q k s es :=
    ⟨by rw [← H3.out.2.2.2.2]; exact hbx, hsz, ((hTa.below hbb).below hbc).below hal, hTc.below hal, HQ.out.1⟩
   have HF : Hid _ := And.intro hGr hbw
   clear hal hbx hba' hbw hGr hba hbb hbc hTa hTc hOb hIo x0 x1 x2 x3
   rename_i hS9
   clear hS9
   go_wp2_with fail
   go_ret2
   exact ⟨_, _, _, _, _, q, rfl, rfl, HF.out.1, HF.out.2⟩
theorem new_ok {M : Nat} (hS : SortOk M) (n k s : Int) (v : Value) (es : List Sy.Ed) (a : Addr) (w : World) (hA : Sent w 13 a) (hv : BEdges.Has w v es) (hM : es.length ≤ M) (hm : es.length ≤ 100000) (hq : Sy.right n k s es = true) :
 Calls Tryz.prog 23 #[sysV n k s v] w fun r w' => ∃ (g bs bb cs cb m : Nat), n = (m : Int) ∧ r = .returned (.tuple #[.pointer (some ⟨g, 0, none⟩), .nilIface]) ∧ Gr w' w.heap.size g bs bb cs cb m k s es ∧ Below w.heap.size w w' :=
 (new_any hS n k s v es a w hA hv hM hm).mono fun r w' h => by unfold NewAt at h; rw [if_pos hq] at h; exact h
theorem new_bad {M : Nat} (hS : SortOk M) (n k s : Int) (v : Value) (es : List Sy.Ed) (a : Addr) (w : World) (hA : Sent w 13 a) (hv : BEdges.Has w v es) (hM : es.length ≤ M) (hm : es.length ≤ 100000) (hq : Sy.right n k s es = false) :
 Calls Tryz.prog 23 #[sysV n k s v] w fun r w' => ∃ x, r = .returned (.tuple #[.pointer none, x]) ∧ Chain w' 0 0 a [sysB] x ∧ Below w.heap.size w w' :=
 (new_any hS n k s v es a w hA hv hM hm).mono fun r w' h => by unfold NewAt at h; rw [if_neg (by rw [hq]; simp)] at h; exact h
end Go.Proofs.YtplofbabfkkimaaGreatDoor
/- tauscc: the contract of collapsed. -/
namespace Go.Proofs.YtplofbabfkkimaaGreatDoor.Ts
open Go.RowKit Go.Maps
attribute [local go_sem ↓] Go.wp_at_zero Go.wp_at_succ
structure Sml (w wx : World) (gm : Nat) (N k ue : Value) (L : List Sy.Ed) : Prop where
 bl : Below w.heap.size w wx
 box : wx.heap[gm]? = some (.cells #[N, k, .int .i64 0, ue] 24 (0, 0))
 gu : w.heap.size ≤ gm
 own : BEdges.Own wx w.heap.size ue L
theorem sml_of {w W : World} {gm : Nat} {x0 x1 x2 x3 ue : Value} {L : List Sy.Ed} (hb : Below w.heap.size w W) (hz : W.heap[gm]? = some (.cells #[x0, x1, x2, x3] 24 (0, 0))) (hg : w.heap.size ≤ gm) (hO : BEdges.Own W w.heap.size ue L) (N k : Value) : Sml w ((((W.setCell ⟨gm, 0, none⟩ N).setCell ⟨gm, 1, none⟩ k).setCell ⟨gm, 2, none⟩ (.int .i64 0)).setCell ⟨gm, 3, none⟩ ue) gm N k ue L := by
 refine ⟨four_below hb hg _ _ _ _, four_set hz, hg, trow_at hO fun b hb => ?_⟩
 have h1 := own_bk hO hz (by decide)
 have e1 : b ≠ gm := fun e => h1 (by rw [← e]; exact hb)
 rw [set_other _ _ _ _ _ e1, set_other _ _ _ _ _ e1, set_other _ _ _ _ _ e1, set_other _ _ _ _ _ e1]
theorem edge_lower {w : World} {B B' : Nat} {v : Value} {zs : List Sy.Ed} (h : BEdges.Own w B v zs) (hB : B' ≤ B) : BEdges.Own w B' v zs := by
 obtain ⟨h1, h2⟩ := h
 refine ⟨h1, ?_⟩
 rcases h2 with h2 | ⟨g, cap, cur, h3, h4, h5⟩
 ·exact .inl h2
 ·exact .inr ⟨g, cap, cur, h3, Nat.le_trans hB h4, h5⟩
set_option linter.unusedSimpArgs false in
set_option maxRecDepth 100000 in
set_option maxHeartbeats 4000000 in
theorem collapsed_bad {M : Nat} (hS : SortOk M) (n k s : Int) (v : Value) (es : List Sy.Ed) (a : Addr) (w : World) (hA : Sent w 13 a) (hv : BEdges.Has w v es) (hM : es.length ≤ M) (hm : es.length ≤ 100000) (hq : Sy.right n k s es = false) :
 Calls Tryz.prog 26 #[sysV n k s v] w fun r w' => ∃ x, r = .returned (.tuple #[.pointer none, .slice none 0 0, x]) ∧ Chain w' 0 0 a [sysB] x ∧ Below w.heap.size w w' := by
 have hb1 := fun o => (Below.refl w.heap.size w).alloc (Nat.le_refl _) o
 have hN := fun o => new_bad hS n k s v es a (w.alloc o) (hA.below (hb1 o)) (hv.below (hb1 o)) hM hm hq
 have H : Hid _ := And.intro hN hb1
 clear hN hb1 hA hv hM hm hq
 unfold sysV at H ⊢
 go_enter Tryz.func26, Tryz.ntmps26
 go_wp2_with (go_at_call 23; refine Calls.mono (H.out.1 _) ?_; rintro r1 w1 ⟨x, rfl, hx, hb⟩; obtain ⟨T, ad, rfl⟩ := hx.iface; have HX : Hid _ := And.intro hx hb; clear hx hb)
 refine bodyPost_ret (v := _) (by simp [results, Tryz.results26, go_sem]; rfl) rfl ?_
 exact ⟨_, rfl, HX.out.1, (H.out.2 _).trans (HX.out.2.mono (by rw [World.size_alloc]; omega))⟩
set_option linter.unusedSimpArgs false in
set_option maxRecDepth 100000 in
set_option maxHeartbeats 4000000 in
theorem collapsed_ok {M : Nat} (hS : SortOk M) (n : Nat) (k s : Int) (v : Value) (es : List Sy.Ed) (a : Addr) (w : World) (hA : Sent w 13 a) (hv : BEdges.Has w v es) (hM : es.length ≤ M) (hm : es.length ≤ 100000) (hq : Sy.right n k s es = true) :
 Calls Tryz.prog 26 #[sysV n k s v] w fun r w' => ∃ (g bs bb cs cb : Nat) (u : Value) (cl : List Nat), r = .returned (.tuple #[.pointer (some ⟨g, 0, none⟩), u, .nilIface]) ∧ Cl n es cl ∧ Gr w' w.heap.size g bs bb cs cb (tog cl) k (sta n cl s) (btw cl es) ∧ OwnI w' w.heap.size u (natI cl) ∧ Below w.heap.size w w' := by
 obtain ⟨w1, hw1⟩ : ∃ w1, w1 = w.alloc (.cells #[.int .i64 n, .int .i64 k, .int .i64 s, v] 24) := ⟨_, rfl⟩
 have hb1 : Below w.heap.size w w1 := by rw [hw1]; exact (Below.refl _ _).alloc (Nat.le_refl _) _
 have hg1 : w1.heap[w.heap.size]? = some (.cells #[.int .i64 n, .int .i64 k, .int .i64 s, v] 24 (0, 0)) := by rw [hw1]; exact heap_alloc_new w _
 have hN := new_ok hS n k s v es a w1 (hA.below hb1) (hv.below hb1) hM hm hq
 unfold sysV at hN ⊢
 have H : Hid _ := And.intro hN (And.intro hb1 (And.intro hg1 (And.intro hA (And.intro hv (And.intro hM (And.intro hm (And.intro hq hS)))))))
 have HW1 : Hid _ := hw1
 clear hN hb1 hg1 hA hv hM hm hq hw1
 go_enter Tryz.func26, Tryz.ntmps26
 go_upto_region 5 with (first | (go_at_call 23; rw [← HW1.out]; refine Calls.mono H.out.1 ?_; rintro r2 w2 ⟨g, bs, bb, cs, cb, m, hnm, rfl, hG, hb2⟩; obtain rfl : n = m := (by omega); clear hnm; have H2 : Hid _ := And.intro hG hb2; clear hG hb2) | (go_at_call 25; refine Calls.mono (cyclesOf_any _ H2.out.1) ?_; rintro r3 w3 ⟨u, zs, rfl, hZ, hO, hb3⟩; have hC := Cl.of hZ; obtain ⟨cl, hcl⟩ : ∃ cl, cl = Sy.canon zs := ⟨_, rfl⟩; rw [← hcl] at hC hO; obtain ⟨au, cu, hu⟩ := row_shape hO; have hlen : (natI cl).length = n := (by rw [← hC.len]; simp [natI]); rw [hlen] at hu; subst hu; have H3 : Hid _ := And.intro hC (And.intro hO hb3); clear hZ hO hb3 hC hcl hlen zs))
 have hb3 : Below w.heap.size w w3 := H.out.2.1.trans ((H2.out.2.trans (H3.out.2.2.mono H2.out.2.size)).mono H.out.2.1.size)
 have hb13 : Below w1.heap.size w1 w3 := H2.out.2.trans (H3.out.2.2.mono H2.out.2.size)
 have hg3 : w3.heap[w.heap.size]? = some (.cells #[.int .i64 n, .int .i64 k, .int .i64 s, v] 24 (0, 0)) := (hb13.block _ (t_lt H.out.2.2.1)).trans H.out.2.2.1
 obtain ⟨c0, c1, c2, c3⟩ := four_cells hg3
 have hT := fun W (hb : Below w3.heap.size w3 W) => pTogether _ (natI cl) W (H3.out.2.1.has.below hb) (by rw [show (natI cl).length = cl.length by simp [natI], H3.out.1.len]; have := right_parts H.out.2.2.2.2.2.2.2.1; omega) (nat_i64 H3.out.1 (by have := right_parts H.out.2.2.2.2.2.2.2.1; omega))
 have hB := fun W (hb : Below w3.heap.size w3 W) => between_any v _ es cl W (H.out.2.2.2.2.1.below (hb3.trans (hb.mono hb3.size))) (H3.out.2.1.has.below hb) H.out.2.2.2.2.2.2.1 (by rw [H3.out.1.len]; exact fun e he => by have h9 := (right_parts H.out.2.2.2.2.2.2.2.1).2.2.2.2.2 e he; exact ⟨h9.1, h9.2.1, h9.2.2.1, h9.2.2.2.1⟩)
 have HT : Hid _ := hT
 have HB : Hid _ := hB
 have HG : Hid _ := And.intro hb3 hg3
 clear hT hB hb3 hb13 hg3
 go_cut [8] (fun s8 wx => ∃ (gm : Nat) (ae : Option Addr) (le ce : Nat), s8 = .pointer (some ⟨gm, 0, none⟩) ∧ Sml w3 wx gm (.int .i64 (tog cl : Nat)) (.int .i64 k) (.slice ae le ce) (btw cl es))
 case first =>
  refine wp_region_held_drew (S := (fun w' => w'.cell? ⟨w.heap.size, 1, none⟩ = some (.int .i64 k) ∧ w'.cell? ⟨w.heap.size, 3, none⟩ = some v)) (by kernel_rfl) ?_ (fun hHeld => ?_)
  ·exact ⟨c1, c3⟩
  have hb0 : Below w3.heap.size w3 w3.drew := (Below.refl _ _).drew
  refine tk9 0 ?_ rfl (by kernel_rfl) (fun _ _ _ h => h) ⟨by rfl, ?_⟩ (by assumption) ?_; rotate_left; (focus (intro w hSw; (try dsimp only at hSw); go_simp; (try with_reducible rfl))); (try simp only [ty9, Act.put])
  refine tk9 2 ?_ rfl (by kernel_rfl) (fun _ _ _ h => h) ⟨by rfl, ?_⟩ (by assumption) ?_; rotate_left; (focus (intro w hSw; (try dsimp only at hSw); go_simp; (try with_reducible rfl))); (try simp only [ty9, Act.put])
  refine tk9 3 ?_ rfl (by kernel_rfl) (fun _ _ _ h => h) ⟨by rfl, ?_⟩ (by assumption) ?_; rotate_left; (focus (intro w hSw; (try dsimp only at hSw); go_simp; (try with_reducible rfl))); (try simp only [ty9, Act.put])
  refine tk9 4 ?_ rfl (by kernel_rfl) (fun _ _ _ h => h) ⟨by rfl, ?_⟩ (by assumption) ?_; rotate_left; (focus (intro w hSw; (try dsimp only at hSw); go_simp; (try with_reducible rfl))); (try simp only [ty9, Act.put])
  refine tk9 5 ?_ rfl (by kernel_rfl) (fun _ _ _ h => h) ⟨by rfl, ?_⟩ (by assumption) ?_; rotate_left; (focus (intro w hSw; (try dsimp only at hSw); go_simp; (try with_reducible rfl))); (try simp only [ty9, Act.put])
  refine tk9 6 ?_ rfl (by kernel_rfl) (fun _ _ _ h => h) ⟨by rfl, ?_⟩ (by assumption) ?_; rotate_left; (focus (intro w hSw; (try dsimp only at hSw); go_simp; (try with_reducible rfl))); (try simp only [ty9, Act.put])
  refine wpAnyH_ready (rs := [1, 9]) (by kernel_rfl) (by simp) ?_
  refine AllReadyH.cons (o := _) rfl (fun K hK => ?_) ?_
  ·(go_simp; go_at_call 93; refine Calls.mono (HT.out _ hb0) ?_; rintro r4 w4 ⟨rfl, hb⟩; have hb4 : Below w3.heap.size w3 w4 := hb0.trans (hb.mono hb0.size); have HB4 : Hid _ := And.intro hb (hb0.size); clear hb)
   (try go_wp2_with fail)
   refine hK.out _ _ ?_ (fun hHeld => ?_)
   ·exact ⟨cell_up c1 hb4, cell_up c3 hb4⟩
   clear hK K
   (try simp only [ty9, Act.put])
   refine wpAnyH_ready (rs := [7, 9]) (by kernel_rfl) (by simp) ?_
   refine AllReadyH.cons (o := _) rfl (fun K hK => ?_) ?_
   ·(go_simp; go_at_call 94; refine Calls.mono (HB.out _ hb4) ?_; rintro r5 w5 ⟨ue, rfl, hOe, hb⟩; have hb5 : Below w3.heap.size w3 w5 := hb4.trans (hb.mono hb4.size); obtain ⟨ae, ce, hue⟩ := row_shape hOe; obtain ⟨le, hle⟩ : ∃ l, l = (btw cl es).length := ⟨_, rfl⟩; rw [← hle] at hue; subst hue; have HE : Hid _ := And.intro (edge_lower hOe hb4.size) (And.intro hle hb); clear hb hOe hle)
    (try go_wp2_with fail)
    refine hK.out _ _ ?_ (fun hHeld => ?_)
    ·exact ⟨cell_up c1 hb5, cell_up c3 hb5⟩
    clear hK K
    (try simp only [ty9, Act.put])
    refine tk9 8 ?_ rfl (by kernel_rfl) (fun _ _ _ h => h) ⟨by rfl, ?_⟩ (by assumption) ?_; rotate_left; (focus (intro w hSw; (try dsimp only at hSw); go_simp; (try with_reducible rfl))); (try simp only [ty9, Act.put])
    refine wpAnyH_ready (rs := [9]) (by kernel_rfl) (by simp) ?_
    refine AllReadyH.cons (o := _) rfl (fun K hK => ?_) ?_
    ·(go_simp)
     (try go_wp2_with fail)
     refine hK.out _ _ ?_ (fun hHeld => ?_)
     ·exact ⟨cell_al hHeld.1 _, cell_al hHeld.2 _⟩
     clear hK K
     obtain ⟨wa, hwa⟩ : ∃ wa, wa = w5.alloc (.cells #[.int .i64 0, .int .i64 0, .int .i64 0, .slice none 0 0] 24) := ⟨_, rfl⟩
     obtain ⟨gm, hgm⟩ : ∃ gm, gm = w5.heap.size := ⟨_, rfl⟩
     have hza : wa.heap[gm]? = some (.cells #[.int .i64 0, .int .i64 0, .int .i64 0, .slice none 0 0] 24 (0, 0)) := (by rw [hwa, hgm]; exact heap_alloc_new w5 _)
     have hba : Below w3.heap.size w3 wa := (by rw [hwa]; exact (hb5.alloc hb5.size _))
     have hgu : w3.heap.size ≤ gm := (by rw [hgm]; exact hb5.size)
     have hbw : Below w5.heap.size w5 wa := (by rw [hwa]; exact ((Below.refl _ _).alloc (Nat.le_refl _) _))
     rw [← hwa, ← hgm]
     rw [← hwa] at hHeld
     clear hwa hgm
     (try simp only [ty9, Act.put])
     have hz : wa.heap[gm]? = some (.cells #[.int .i64 0, .int .i64 0, .int .i64 0, .slice none 0 0] 24 (0, 0)) := hza
     obtain ⟨z0, z1, z2, z3⟩ := four_cells hz
     have f0 := blk_free hz 0
     have f1 := blk_free hz 1
     have f2 := blk_free hz 2
     have f3 := blk_free hz 3
     have hO9 : BEdges.Own wa w3.heap.size (.slice ae le ce) (btw cl es) := trow_at HE.out.1 fun b hb => hbw.block b (HE.out.1.lt b hb).2
     have H9 := sml_of hba hz hgu hO9 (.int .i64 (tog cl : Nat)) (.int .i64 k)
     have HZ : Hid _ := H9
     clear H9 hz hO9
     refine wpAnyH_ready (rs := [10]) (by kernel_rfl) (by simp) ?_
     refine AllReadyH.cons (o := _) rfl (fun K hK => ?_) ?_
     ·(go_simp)
      (try go_wp2_with fail)
      refine hK.out _ _ ?_ (fun hHeld => ?_)
      ·exact ⟨cell_up c1 HZ.out.bl, cell_up c3 HZ.out.bl⟩
      clear hK K
      (try simp only [ty9, Act.put])
      refine wpAnyH_done (by kernel_rfl) ?_ _
      refine Met.intro ?_
      apply_assumption
      refine Met.intro ?_
      apply_assumption
      (repeat apply Exists.intro)
      refine ⟨?_, rfl⟩
      exact ⟨gm, ae, le, ce, rfl, HZ.out⟩
     exact AllReadyH.nil
    exact AllReadyH.nil
   refine AllReadyH.cons (o := _) rfl (fun K hK => ?_) ?_
   ·(go_simp)
    (try go_wp2_with fail)
    refine hK.out _ _ ?_ (fun hHeld => ?_)
    ·exact ⟨cell_al hHeld.1 _, cell_al hHeld.2 _⟩
    clear hK K
    obtain ⟨wa, hwa⟩ : ∃ wa, wa = w4.alloc (.cells #[.int .i64 0, .int .i64 0, .int .i64 0, .slice none 0 0] 24) := ⟨_, rfl⟩
    obtain ⟨gm, hgm⟩ : ∃ gm, gm = w4.heap.size := ⟨_, rfl⟩
    have hza : wa.heap[gm]? = some (.cells #[.int .i64 0, .int .i64 0, .int .i64 0, .slice none 0 0] 24 (0, 0)) := (by rw [hwa, hgm]; exact heap_alloc_new w4 _)
    have hba : Below w3.heap.size w3 wa := (by rw [hwa]; exact (hb4.alloc hb4.size _))
    have hgu : w3.heap.size ≤ gm := (by rw [hgm]; exact hb4.size)
    have hbw : Below w4.heap.size w4 wa := (by rw [hwa]; exact ((Below.refl _ _).alloc (Nat.le_refl _) _))
    rw [← hwa, ← hgm]
    rw [← hwa] at hHeld
    clear hwa hgm
    (try simp only [ty9, Act.put])
    refine wpAnyH_ready (rs := [7]) (by kernel_rfl) (by simp) ?_
    refine AllReadyH.cons (o := _) rfl (fun K hK => ?_) ?_
    ·(go_simp; go_at_call 94; refine Calls.mono (HB.out _ hba) ?_; rintro r5 w5 ⟨ue, rfl, hOe, hb⟩; have hb5 : Below w3.heap.size w3 w5 := hba.trans (hb.mono hba.size); obtain ⟨ae, ce, hue⟩ := row_shape hOe; obtain ⟨le, hle⟩ : ∃ l, l = (btw cl es).length := ⟨_, rfl⟩; rw [← hle] at hue; subst hue; have HE : Hid _ := And.intro (edge_lower hOe hba.size) (And.intro hle hb); clear hb hOe hle)
     (try go_wp2_with fail)
     refine hK.out _ _ ?_ (fun hHeld => ?_)
     ·exact ⟨cell_up c1 hb5, cell_up c3 hb5⟩
     clear hK K
     (try simp only [ty9, Act.put])
     refine tk9 8 ?_ rfl (by kernel_rfl) (fun _ _ _ h => h) ⟨by rfl, ?_⟩ (by assumption) ?_; rotate_left; (focus (intro w hSw; (try dsimp only at hSw); go_simp; (try with_reducible rfl))); (try simp only [ty9, Act.put])
     have hz : w5.heap[gm]? = some (.cells #[.int .i64 0, .int .i64 0, .int .i64 0, .slice none 0 0] 24 (0, 0)) := (HE.out.2.2.block _ (t_lt hza)).trans hza
     obtain ⟨z0, z1, z2, z3⟩ := four_cells hz
     have f0 := blk_free hz 0
     have f1 := blk_free hz 1
     have f2 := blk_free hz 2
     have f3 := blk_free hz 3
     have hO9 : BEdges.Own w5 w3.heap.size (.slice ae le ce) (btw cl es) := HE.out.1
     have H9 := sml_of hb5 hz hgu hO9 (.int .i64 (tog cl : Nat)) (.int .i64 k)
     have HZ : Hid _ := H9
     clear H9 hz hO9
     refine wpAnyH_ready (rs := [10]) (by kernel_rfl) (by simp) ?_
     refine AllReadyH.cons (o := _) rfl (fun K hK => ?_) ?_
     ·(go_simp)
      (try go_wp2_with fail)
      refine hK.out _ _ ?_ (fun hHeld => ?_)
      ·exact ⟨cell_up c1 HZ.out.bl, cell_up c3 HZ.out.bl⟩
      clear hK K
      (try simp only [ty9, Act.put])
      refine wpAnyH_done (by kernel_rfl) ?_ _
      refine Met.intro ?_
      apply_assumption
      refine Met.intro ?_
      apply_assumption
      (repeat apply Exists.intro)
      refine ⟨?_, rfl⟩
      exact ⟨gm, ae, le, ce, rfl, HZ.out⟩
     exact AllReadyH.nil
    exact AllReadyH.nil
   exact AllReadyH.nil
  refine AllReadyH.cons (o := _) rfl (fun K hK => ?_) ?_
  ·(go_simp)
   (try go_wp2_with fail)
   refine hK.out _ _ ?_ (fun hHeld => ?_)
   ·exact ⟨cell_al hHeld.1 _, cell_al hHeld.2 _⟩
   clear hK K
   obtain ⟨wa, hwa⟩ : ∃ wa, wa = (w3.alloc (.cells #[.int .i64 0, .int .i64 0, .int .i64 0, .slice none 0 0] 24)).drew := ⟨_, rfl⟩
   obtain ⟨gm, hgm⟩ : ∃ gm, gm = w3.heap.size := ⟨_, rfl⟩
   have hza : wa.heap[gm]? = some (.cells #[.int .i64 0, .int .i64 0, .int .i64 0, .slice none 0 0] 24 (0, 0)) := (by rw [hwa, hgm]; exact heap_alloc_new w3 _)
   have hba : Below w3.heap.size w3 wa := (by rw [hwa]; exact ((Below.refl w3.heap.size w3).alloc (Below.refl w3.heap.size w3).size _).drew)
   have hgu : w3.heap.size ≤ gm := (by rw [hgm]; exact (Below.refl w3.heap.size w3).size)
   have hbw : Below w3.heap.size w3 wa := (by rw [hwa]; exact ((Below.refl _ _).alloc (Nat.le_refl _) _).drew)
   rw [← hwa, ← hgm]
   rw [← hwa] at hHeld
   clear hwa hgm
   (try simp only [ty9, Act.put])
   refine wpAnyH_ready (rs := [1]) (by kernel_rfl) (by simp) ?_
   refine AllReadyH.cons (o := _) rfl (fun K hK => ?_) ?_
   ·(go_simp; go_at_call 93; refine Calls.mono (HT.out _ hba) ?_; rintro r4 w4 ⟨rfl, hb⟩; have hb4 : Below w3.heap.size w3 w4 := hba.trans (hb.mono hba.size); have HB4 : Hid _ := And.intro hb (hba.size); clear hb)
    (try go_wp2_with fail)
    refine hK.out _ _ ?_ (fun hHeld => ?_)
    ·exact ⟨cell_up c1 hb4, cell_up c3 hb4⟩
    clear hK K
    (try simp only [ty9, Act.put])
    refine wpAnyH_ready (rs := [7]) (by kernel_rfl) (by simp) ?_
    refine AllReadyH.cons (o := _) rfl (fun K hK => ?_) ?_
    ·(go_simp; go_at_call 94; refine Calls.mono (HB.out _ hb4) ?_; rintro r5 w5 ⟨ue, rfl, hOe, hb⟩; have hb5 : Below w3.heap.size w3 w5 := hb4.trans (hb.mono hb4.size); obtain ⟨ae, ce, hue⟩ := row_shape hOe; obtain ⟨le, hle⟩ : ∃ l, l = (btw cl es).length := ⟨_, rfl⟩; rw [← hle] at hue; subst hue; have HE : Hid _ := And.intro (edge_lower hOe hb4.size) (And.intro hle hb); clear hb hOe hle)
     (try go_wp2_with fail)
     refine hK.out _ _ ?_ (fun hHeld => ?_)
     ·exact ⟨cell_up c1 hb5, cell_up c3 hb5⟩
     clear hK K
     (try simp only [ty9, Act.put])
     refine tk9 8 ?_ rfl (by kernel_rfl) (fun _ _ _ h => h) ⟨by rfl, ?_⟩ (by assumption) ?_; rotate_left; (focus (intro w hSw; (try dsimp only at hSw); go_simp; (try with_reducible rfl))); (try simp only [ty9, Act.put])
     have hz : w5.heap[gm]? = some (.cells #[.int .i64 0, .int .i64 0, .int .i64 0, .slice none 0 0] 24 (0, 0)) := (HE.out.2.2.block _ (Nat.lt_of_lt_of_le (t_lt hza) HB4.out.1.size)).trans ((HB4.out.1.block _ (t_lt hza)).trans hza)
     obtain ⟨z0, z1, z2, z3⟩ := four_cells hz
     have f0 := blk_free hz 0
     have f1 := blk_free hz 1
     have f2 := blk_free hz 2
     have f3 := blk_free hz 3
     have hO9 : BEdges.Own w5 w3.heap.size (.slice ae le ce) (btw cl es) := HE.out.1
     have H9 := sml_of hb5 hz hgu hO9 (.int .i64 (tog cl : Nat)) (.int .i64 k)
     have HZ : Hid _ := H9
     clear H9 hz hO9
     refine wpAnyH_ready (rs := [10]) (by kernel_rfl) (by simp) ?_
     refine AllReadyH.cons (o := _) rfl (fun K hK => ?_) ?_
     ·(go_simp)
      (try go_wp2_with fail)
      refine hK.out _ _ ?_ (fun hHeld => ?_)
      ·exact ⟨cell_up c1 HZ.out.bl, cell_up c3 HZ.out.bl⟩
      clear hK K
      (try simp only [ty9, Act.put])
      refine wpAnyH_done (by kernel_rfl) ?_ _
      refine Met.intro ?_
      apply_assumption
      refine Met.intro ?_
      apply_assumption
      (repeat apply Exists.intro)
      refine ⟨?_, rfl⟩
      exact ⟨gm, ae, le, ce, rfl, HZ.out⟩
     exact AllReadyH.nil
    exact AllReadyH.nil
   exact AllReadyH.nil
  exact AllReadyH.nil
 case rest =>
  obtain ⟨gm, ae, le, ce, rfl, hM⟩ := hcut
  have hgc : wc.heap[w.heap.size]? = some (.cells #[.int .i64 n, .int .i64 k, .int .i64 s, v] 24 (0, 0)) := (hM.bl.block _ (t_lt HG.out.2)).trans HG.out.2
  obtain ⟨d0, d1, d2, d3⟩ := four_cells hgc
  have HM : Hid _ := And.intro hM hgc
  clear hM hgc c0 c1 c2 c3
  by_cases hn : 0 < n
  ·have n1 : (0 : Int) < (n : Int) := by omega
   have hr := right_parts H.out.2.2.2.2.2.2.2.1
   obtain ⟨p, hp⟩ : ∃ p : Nat, s = (p : Int) := ⟨s.toNat, by omega⟩
   obtain ⟨x, hx⟩ : ∃ x, cl[p]? = some x := ⟨_, List.getElem?_eq_getElem (by rw [H3.out.1.len]; omega)⟩
   have hI := H3.out.2.1.has.below HM.out.1.bl
   obtain ⟨ac, cc, hs1, x0⟩ := hasI_cell hI hx
   injection hs1 with s1 s2 s3
   have hsta : sta n cl s = (x : Int) := by unfold sta; rw [if_pos hn, hp, cla_at hx]
   have p0 : (0 : Int) ≤ (p : Int) := by omega
   have p1 : (p : Int) < (n : Int) := by omega
   rw [hp] at d2
   obtain ⟨m0, m1, m2, m3⟩ := four_cells HM.out.1.box
   have g2 := blk_free HM.out.1.box 2
   obtain ⟨w6, hw6⟩ : ∃ w6, w6 = wc.setCell ⟨gm, 2, none⟩ (.int .i64 x) := ⟨_, rfl⟩
   have hx6 : w6.heap[gm]? = some (.cells #[.int .i64 (tog cl : Nat), .int .i64 k, .int .i64 (sta n cl s), .slice ae le ce] 24 (0, 0)) := by
    rw [hw6, hsta]
    exact heap_setCell_same wc gm 2 _ _ _ HM.out.1.box
   have hb6 : Below w3.heap.size w3 w6 := by rw [hw6]; exact HM.out.1.bl.setCell HM.out.1.gu _
   have hO6 : BEdges.Own w6 w3.heap.size (.slice ae le ce) (btw cl es) := trow_at HM.out.1.own fun b hb => by
    have h1 := own_bk HM.out.1.own HM.out.1.box (by decide)
    rw [hw6]
    exact set_other _ _ _ _ _ fun e => h1 (by rw [← e]; exact hb)
   rw [s1]
   clear hr hp hx hI hsta s2 s3
   subst s1
   go_upto_region 8 with fail
   rw [← hw6]
   clear hw6 m0 m1 m2 m3 g2 x0 d0 d1 d2 d3
   obtain ⟨y0, y1, y2, y3⟩ := four_cells hx6
   have hN := new_ok H.out.2.2.2.2.2.2.2.2 (tog cl : Nat) k (sta n cl s) (.slice ae le ce) (btw cl es) a w6 (H.out.2.2.2.1.below (HG.out.1.trans (hb6.mono HG.out.1.size))) hO6.has (Nat.le_trans (btw_len cl es) H.out.2.2.2.2.2.1) (Nat.le_trans (btw_len cl es) H.out.2.2.2.2.2.2.1) (small_right H3.out.1 H.out.2.2.2.2.2.2.2.1)
   unfold sysV at hN
   obtain ⟨st, hst⟩ : ∃ st, st = sta n cl s := ⟨_, rfl⟩
   rw [← hst] at hN y2
   have HN : Hid _ := And.intro hN (And.intro hb6 hst)
   clear hN hb6 hx6 hO6 hst
   go_wp2_with (go_at_call 23; refine Calls.mono HN.out.1 ?_; rintro r7 w7 ⟨g7, bs7, bb7, cs7, cb7, m7, hm7, rfl, hG7, hb7⟩; obtain rfl : tog cl = m7 := (by omega); clear hm7; have H7 : Hid _ := And.intro hG7 hb7; clear hG7 hb7)
   refine bodyPost_ret (v := .tuple #[.pointer (some ⟨g7, 0, none⟩), .slice (some ac) n cu, .nilIface]) (by simp [results, Tryz.results26, go_sem]) rfl ?_
   have hb37 : Below w3.heap.size w3 w7 := HN.out.2.1.trans (H7.out.2.mono HN.out.2.1.size)
   refine ⟨g7, bs7, bb7, cs7, cb7, _, cl, rfl, H3.out.1, ?_, ?_, HG.out.1.trans (hb37.mono HG.out.1.size)⟩
   ·rw [← HN.out.2.2]; exact Gr.lower H7.out.1 (Nat.le_trans HG.out.1.size HN.out.2.1.size)
   ·exact own_lower (trow_at H3.out.2.1 fun b hb => hb37.block b (H3.out.2.1.lt b hb).2) (Nat.le_trans H.out.2.1.size H2.out.2.size)
  ·have n1 : ¬ (0 : Int) < (n : Int) := by omega
   have hsta : sta n cl s = 0 := by unfold sta; rw [if_neg hn]
   obtain ⟨w6, hw6⟩ : ∃ w6, w6 = wc := ⟨_, rfl⟩
   have hx6 : w6.heap[gm]? = some (.cells #[.int .i64 (tog cl : Nat), .int .i64 k, .int .i64 (sta n cl s), .slice ae le ce] 24 (0, 0)) := by
    rw [hw6, hsta]
    exact HM.out.1.box
   have hb6 : Below w3.heap.size w3 w6 := by rw [hw6]; exact HM.out.1.bl
   have hO6 : BEdges.Own w6 w3.heap.size (.slice ae le ce) (btw cl es) := by rw [hw6]; exact HM.out.1.own
   clear hsta
   go_upto_region 8 with fail
   rw [← hw6]
   clear hw6 d0 d1 d2 d3
   obtain ⟨y0, y1, y2, y3⟩ := four_cells hx6
   have hN := new_ok H.out.2.2.2.2.2.2.2.2 (tog cl : Nat) k (sta n cl s) (.slice ae le ce) (btw cl es) a w6 (H.out.2.2.2.1.below (HG.out.1.trans (hb6.mono HG.out.1.size))) hO6.has (Nat.le_trans (btw_len cl es) H.out.2.2.2.2.2.1) (Nat.le_trans (btw_len cl es) H.out.2.2.2.2.2.2.1) (small_right H3.out.1 H.out.2.2.2.2.2.2.2.1)
   unfold sysV at hN
   obtain ⟨st, hst⟩ : ∃ st, st = sta n cl s := ⟨_, rfl⟩
   rw [← hst] at hN y2
   have HN : Hid _ := And.intro hN (And.intro hb6 hst)
   clear hN hb6 hx6 hO6 hst
   go_wp2_with (go_at_call 23; refine Calls.mono HN.out.1 ?_; rintro r7 w7 ⟨g7, bs7, bb7, cs7, cb7, m7, hm7, rfl, hG7, hb7⟩; obtain rfl : tog cl = m7 := (by omega); clear hm7; have H7 : Hid _ := And.intro hG7 hb7; clear hG7 hb7)
   refine bodyPost_ret (v := .tuple #[.pointer (some ⟨g7, 0, none⟩), .slice au n cu, .nilIface]) (by simp [results, Tryz.results26, go_sem]) rfl ?_
   have hb37 : Below w3.heap.size w3 w7 := HN.out.2.1.trans (H7.out.2.mono HN.out.2.1.size)
   refine ⟨g7, bs7, bb7, cs7, cb7, _, cl, rfl, H3.out.1, ?_, ?_, HG.out.1.trans (hb37.mono HG.out.1.size)⟩
   ·rw [← HN.out.2.2]; exact Gr.lower H7.out.1 (Nat.le_trans HG.out.1.size HN.out.2.1.size)
   ·exact own_lower (trow_at H3.out.2.1 fun b hb => hb37.block b (H3.out.2.1.lt b hb).2) (Nat.le_trans H.out.2.1.size H2.out.2.size)
end Go.Proofs.YtplofbabfkkimaaGreatDoor.Ts
/- slices.Sort of a list of numbers that is the call's own. -/
namespace Go.Proofs.YtplofbabfkkimaaGreatDoor
open Go.RowKit Go.Maps
end Go.Proofs.YtplofbabfkkimaaGreatDoor
/- Contracts of the program's Degree and Reach. -/
namespace Go.Proofs.YtplofbabfkkimaaGreatDoor
open Go.RowKit Go.Maps
attribute [local go_sem ↓] Go.wp_at_zero Go.wp_at_succ
def Sy.degTo (l : List Sy.Ed) : Nat → Nat
 | 0 => 0
 | st + 1 => max (Sy.degTo l st) (Sy.steps l (st : Int)).length
theorem rowOf_in {n q : Nat} (l : List Sy.Ed) (h : q < n) : Sy.rowOf n l (q : Int) = Sy.steps l q := by
 unfold Sy.rowOf
 rw [if_pos ⟨by omega, by omega⟩]
def Sy.marked (bs : List Bool) : List Int := ((List.range bs.length).filter fun p => bs[p]? == some true).map fun (p : Nat) => (p : Int)
structure RpAt (w wr : World) (gi : Nat) (u : Value) (zs : List Int) (bs : List Bool) : Prop where
 inn : Arr 4 w wr gi (bC bs)
 lst : OwnI wr w.heap.size u zs
end Go.Proofs.YtplofbabfkkimaaGreatDoor
/- Contract of the program's Edges. -/
namespace Go.Proofs.YtplofbabfkkimaaGreatDoor
open Go.RowKit Go.Maps
attribute [local go_sem ↓] Go.wp_at_zero Go.wp_at_succ
def Sy.es1 (st : Int) (zs : List BSteps.El) : List Sy.Ed := zs.map fun x => (st, x.1, x.2)
theorem Sy.es1_steps (l : List Sy.Ed) (st : Int) : Sy.es1 st (Sy.steps l st) = l.filter fun e => e.1 == st := by
 unfold Sy.es1 Sy.steps
 rw [List.map_map]
 have h : ∀ e ∈ l.filter (fun e => e.1 == st), ((fun x : BSteps.El => (st, x.1, x.2)) ∘ fun e : Sy.Ed => (e.2.1, e.2.2)) e = e := fun e he => by
  have := (List.mem_filter.1 he).2
  simp at this
  obtain ⟨a, b, c⟩ := e
  simp at this
  simp [this]
 rw [List.map_congr_left h]
 simp
theorem Sy.take_row {l : List Sy.Ed} (h : Sy.Rows l) (st : Int) : l.take (Sy.cnt l st) ++ Sy.es1 st (Sy.steps l st) = l.take (Sy.cnt l (st + 1)) := by
 rw [Sy.es1_steps, Sy.row_piece h st]
 have h1 := Sy.cnt_mono l st
 conv => rhs; rw [show Sy.cnt l (st + 1) = Sy.cnt l st + (Sy.cnt l (st + 1) - Sy.cnt l st) by omega, List.take_add]
theorem Sy.es1_snoc {st : Int} {zs : List BSteps.El} {k : Nat} {x : BSteps.El} (h : zs[k]? = some x) : Sy.es1 st (zs.take (k + 1)) = Sy.es1 st (zs.take k) ++ [(st, x.1, x.2)] := by
 rw [take_succ_of h]
 simp [Sy.es1]
theorem Sy.es1_len (st : Int) (zs : List BSteps.El) : (Sy.es1 st zs).length = zs.length := by simp [Sy.es1]
theorem Sy.take_all {n k s : Int} {es : List Sy.Ed} (h : Sy.right n k s es = true) : (Sy.nf es).take (Sy.cnt (Sy.nf es) n) = Sy.nf es := by
 rw [Sy.cnt_all fun e he => ((right_parts h).2.2.2.2.2 e ((Sy.nf_mem es e).1 he)).2.1, List.take_length]
theorem Sy.take_none {n k s : Int} {es : List Sy.Ed} (h : Sy.right n k s es = true) : (Sy.nf es).take (Sy.cnt (Sy.nf es) 0) = [] := by
 rw [Sy.cnt_none fun e he => by have := ((right_parts h).2.2.2.2.2 e ((Sy.nf_mem es e).1 he)).1; omega]
 rfl
set_option maxRecDepth 100000 in
set_option maxHeartbeats 8000000 in
theorem edges_any {B g bs bb cs cb n : Nat} {k s : Int} {es : List Sy.Ed} (w : World) (h : Gr w B g bs bb cs cb n k s es) : Calls Tryz.prog 30 #[.pointer (some ⟨g, 0, none⟩)] w fun r w' => ∃ u, r = .returned u ∧ BEdges.Own w' w.heap.size u (Sy.nf es) ∧ Below w.heap.size w w' := by
 obtain ⟨i0, hi0, hz0, hz1, hz2⟩ := info_parts BEdges.Tryz.infoE
 have hSt := states_any w h
 have hs := h.sizes
 have HG : Hid _ := And.intro h (And.intro hSt hs)
 have hn : n ≤ 1000 := hs.1
 obtain ⟨l, hl⟩ : ∃ l, l = Sy.nf es := ⟨_, rfl⟩
 have HL : Hid (l = Sy.nf es ∧ Sy.Rows l ∧ l.take (Sy.cnt l 0) = [] ∧ l.take (Sy.cnt l n) = l) := (by rw [hl]; exact ⟨rfl, nf_rows es, Sy.take_none h.right, Sy.take_all h.right⟩ : l = Sy.nf es ∧ Sy.Rows l ∧ l.take (Sy.cnt l 0) = [] ∧ l.take (Sy.cnt l n) = l)
 rw [← hl]
 clear h hSt hs hl
 go_enter Tryz.func30, Tryz.ntmps30
 go_wp2_with (go_at_call 27; refine Calls.mono HG.out.2.1 ?_; rintro r w1 ⟨rfl, hw⟩; obtain rfl := hw.symm)
 go_loopg [3, 9] n (fun q uv iv wr => ∃ st : Nat, q = n - st ∧ st ≤ n ∧ iv = .int .i64 st ∧ BEdges.Own wr w.heap.size uv (l.take (Sy.cnt l (st : Int))) ∧ Below w.heap.size w wr)
 case atStart => exact ⟨0, rfl, Nat.zero_le _, rfl, by show BEdges.Own w w.heap.size _ (l.take (Sy.cnt l 0)); rw [HL.out.2.2.1]; exact World.ownsRow_nil _ _ _ _, Below.refl _ _⟩
 case round =>
  obtain ⟨st, rfl, hst, rfl, hO, hb⟩ := hrel
  obtain ⟨wq, rfl⟩ : ∃ wq, wq = wr := ⟨_, rfl⟩
  by_cases hlt : st < n
  ·have hG := HG.out.1.below hb
   obtain ⟨_, _, _, ⟨c0, c1⟩, _, _⟩ := hG.cells
   have hR := hG.row (st : Int)
   have hT := hG.out
   obtain ⟨L, hL⟩ : ∃ L, L = (Sy.nf es).length := ⟨_, rfl⟩
   have hl1 := Sy.steps_len (Sy.nf es) (st : Int)
   have hsz := HG.out.2.2.2
   rw [rowOf_in _ hlt] at hR
   have HR : Hid _ := And.intro hR (And.intro hb (And.intro hO (And.intro hL hT)))
   rw [← hL] at HR c0 hsz hl1
   have r1 : (st : Int) < (n : Int) := by omega
   clear hG hR hb hL hT hO
   go_wp2_with fail
   refine Calls.mono HR.out.1 ?_
   rintro r w1 ⟨v, rfl, hv, hb1⟩
   obtain ⟨av, cv, rfl, _⟩ := hv wq HR.out.2.2.2.2
   obtain ⟨M, hM⟩ : ∃ M, M = (Sy.steps (Sy.nf es) (st : Int)).length := ⟨_, rfl⟩
   rw [← hM]
   rw [← hM] at hv hl1
   have H1 : Hid _ := And.intro hv (And.intro hb1 hM)
   clear hv hb1 hM c0 c1
   go_wp2_with fail
   go_loopg [3, 19] M (fun q uv kv wr => ∃ k2 : Nat, q = M - k2 ∧ k2 ≤ M ∧ kv = .int .i64 k2 ∧ BEdges.Own wr w.heap.size uv (l.take (Sy.cnt l (st : Int)) ++ Sy.es1 st ((Sy.steps l st).take k2)) ∧ Below w.heap.size w wr)
   case atStart =>
    refine ⟨0, rfl, Nat.zero_le _, rfl, ?_, HR.out.2.1.trans (H1.out.2.1.mono HR.out.2.1.size)⟩
    have h1 : l.take (Sy.cnt l (st : Int)) ++ Sy.es1 st ((Sy.steps l st).take 0) = l.take (Sy.cnt l (st : Int)) := by simp [Sy.es1]
    rw [h1]
    exact trow_at HR.out.2.2.1 fun b hb => H1.out.2.1.block b (HR.out.2.2.1.lt b hb).2
   case round =>
    obtain ⟨k2, rfl, hk, rfl, hO, hb⟩ := hrel
    obtain ⟨ys, hys⟩ : ∃ ys, ys = l.take (Sy.cnt l (st : Int)) ++ Sy.es1 st ((Sy.steps l st).take k2) := ⟨_, rfl⟩
    rw [← hys] at hO
    obtain ⟨au, cu, hu⟩ := row_shape hO
    obtain ⟨N, hN⟩ : ∃ N, N = ys.length := ⟨_, rfl⟩
    rw [← hN] at hu
    subst hu
    have hys1 : N ≤ 100000 := by
     have h2 := List.length_take_le (Sy.cnt l (st : Int)) l
     have h3 := Sy.cnt_le l (st : Int)
     have h4 := List.length_take_le k2 (Sy.steps l st)
     have h5 := HG.out.2.2.2
     rw [← HL.out.1] at h5
     rw [hN, hys, List.length_append, Sy.es1_len]
     omega
    by_cases hkm : k2 < M
    ·obtain ⟨x, hx⟩ : ∃ x, (Sy.steps l st)[k2]? = some x := ⟨(Sy.steps l st)[k2]'(by have := H1.out.2.2; rw [← HL.out.1] at this; omega), List.getElem?_eq_getElem _⟩
     have hx' := hx
     rw [HL.out.1] at hx'
     obtain ⟨a, rfl, d0, d1⟩ := step_at (H1.out.1 wr (HG.out.1.out.below hb)) hx'
     have hs1 := Sy.es1_snoc (st := (st : Int)) hx
     obtain ⟨x1, x2⟩ := x
     simp only at d0 d1 hs1
     obtain ⟨wb, hwb⟩ : ∃ wb, wb = wr.alloc (.cells #[.int .i64 x1, .int .i64 x2] 128) := ⟨_, rfl⟩
     have hbb : Below wr.heap.size wr wb := by rw [hwb]; exact (Below.refl _ _).alloc (Nat.le_refl _) _
     have hgb : wb.heap[wr.heap.size]? = some (.cells #[.int .i64 x1, .int .i64 x2] 128 (0, 0)) := by rw [hwb]; exact heap_alloc_new wr _
     have f0 : wb.cell? ⟨wr.heap.size, 0, none⟩ = some (.int .i64 x1) := cell0_of hgb rfl
     have f1 : wb.cell? ⟨wr.heap.size, 1, none⟩ = some (.int .i64 x2) := cell0_of hgb rfl
     have hOb : BEdges.Own wb w.heap.size (.slice au N cu) ys := trow_at hO fun b hb => hbb.block b (hO.lt b hb).2
     have hOz : wb.ownsRow w.heap.size 61 3 (.slice au N cu) N (BEdges.C ys) := by have h1 := hOb; unfold BEdges.Own at h1; rw [← hN] at h1; exact h1
     have hbw : Below w.heap.size w wb := hb.trans (hbb.mono hb.size)
     have hle : w.heap.size ≤ (wb.alloc (.cells #[.int .i64 st, .int .i64 x1, .int .i64 x2] 61)).heap.size := by have := hbw.size; simp; omega
     have hml : N + 1 ≤ maxLen := by unfold maxLen; omega
     have hby : (N + 1) * 24 ≤ 140737488355328 := by omega
     have k0 : (0 : Int) ≤ (k2 : Int) := by omega
     have k1 : (k2 : Int) < (M : Int) := by omega
     have HZ : Hid _ := And.intro hOz (And.intro hbw (And.intro hwb (And.intro hys (And.intro hs1 hN))))
     clear hO hOb hOz hbw hwb hbb hgb hys hs1 hN hx hx' hb
     go_upto_region 8 with fail
     rw [← HZ.out.2.2.1]
     go_wp2_with (at_builtin; refine wpList_append_own_at _ rfl _ _ 22 rfl w.heap.size 61 i0 (.agg #[.int .i64 0, .int .i64 0, .int .i64 0]) 3 24 Tryz.underlying22 hi0 hz0 hz1 hz2 rfl (by decide) (.slice au N cu) N (BEdges.C ys) rfl (HZ.out.1.alloc _) ⟨wb.heap.size, 0, none⟩ 1 1 [.int .i64 st, .int .i64 x1, .int .i64 x2] rfl rfl (World.news_of_block (cs := #[.int .i64 st, .int .i64 x1, .int .i64 x2]) (t := 61) (fr := (0, 0)) (heap_alloc_new wb _)) (by simp [Value.oneCell']) hml hby hle ?_; intro v5 w5 hO5 hg5 hnil5 hat5; have H2 : Hid _ := And.intro hO5 hg5; clear hO5 hg5 hnil5 hat5)
     go_roundg (M - (k2 + 1))
     case measure => omega
     case rel =>
      refine ⟨k2 + 1, rfl, by omega, by go_num, ?_, ?_⟩
      ·rw [HZ.out.2.2.2.2.1, ← List.append_assoc, ← HZ.out.2.2.2.1]
       unfold BEdges.Own
       rw [BEdges.C_snoc, List.length_append, ← HZ.out.2.2.2.2.2]
       exact H2.out.1
      ·exact HZ.out.2.1.trans ((grown_alloc H2.out.2).below HZ.out.2.1.size fun b hb => (HZ.out.1.lt b hb).1)
    ·obtain rfl : k2 = M := by omega
     have k1 : ¬ (k2 : Int) < (k2 : Int) := by omega
     have hfull : ys = l.take (Sy.cnt l ((st : Int) + 1)) := by
      have ht : (Sy.steps l st).take k2 = Sy.steps l st := List.take_of_length_le (by have := H1.out.2.2; rw [← HL.out.1] at this; omega)
      rw [hys, ht]
      exact Sy.take_row HL.out.2.1 st
     have HJ : Hid _ := And.intro hO (And.intro hfull (And.intro hb hN))
     clear hO hfull hb hN hys
     go_wp2_with fail
     go_roundg (n - (st + 1))
     case measure => omega
     case rel =>
      refine ⟨st + 1, rfl, by omega, by go_num, ?_, HJ.out.2.2.1⟩
      rw [show (((st + 1 : Nat) : Int)) = (st : Int) + 1 by omega, ← HJ.out.2.1]
      exact HJ.out.1
  ·obtain rfl : st = n := by omega
   have r1 : ¬ (st : Int) < (st : Int) := by omega
   rw [HL.out.2.2.2] at hO
   have HJ : Hid _ := And.intro hO hb
   obtain ⟨au, cu, hu⟩ := row_shape hO
   obtain ⟨N, hN⟩ : ∃ N, N = l.length := ⟨_, rfl⟩
   rw [← hN] at hu
   subst hu
   clear hO hb hN
   go_wp2_with fail
   go_ret
   exact ⟨_, rfl, HJ.out.1, HJ.out.2⟩
end Go.Proofs.YtplofbabfkkimaaGreatDoor
