/- Texts of this claim, joined: SgReplay, SgEnd, HaStr, RoDs0, RoDs, RoDSame, RoAll, RoDNext0, RoDNext, SyOut, RoDRnd, SgDRpA, SgDRp, SgRepB. -/
import Derived.Test.YtkiapldehlnndaaGreatDoorPart14
import Derived.Test.YtkiapldehlnndaaGreatDoorPart13
import Derived.Test.YtkiapldehlnndaaGreatDoorPart7
import Derived.Test.YtkiapldehlnndaaGreatDoorPart5
import Derived.Deep.AppendLies
import Derived.Maps.AppendAt
import Derived.RangeFuncBox
import Derived.BigQuiet
import Derived.Test.YtkiapldehlnndaaGreatDoorPart2
import Derived.Test.YtkiapldehlnndaaGreatDoorPart0
import Derived.Test.YtkiapldehlnndaaGreatDoorPart3
import Derived.BigRegion
/- strong: contract of Replay: a run is played as the plain one is. -/
namespace Go.Proofs.YtkiapldehlnndaaGreatDoor
open Go.RowKit Go.Maps
attribute [local go_sem ↓] Go.wp_at_zero Go.wp_at_succ
def HasR (w : World) (vt : Value) (tk : List (List Int)) : Prop := ∃ ao cap, vt = .slice ao tk.length cap ∧ ∀ (i : Nat) (zs : List Int), tk[i]? = some zs → ∃ a v, ao = some a ∧ w.cell? (a.add i) = some v ∧ HasI w v zs
theorem HasR.below {w w' : World} {vt : Value} {tk : List (List Int)} (h : HasR w vt tk) (hb : Below w.heap.size w w') : HasR w' vt tk := by
 obtain ⟨ao, cap, h1, h2⟩ := h
 refine ⟨ao, cap, h1, fun i zs hi => ?_⟩
 obtain ⟨a, v, e1, e2, e3⟩ := h2 i zs hi
 exact ⟨a, v, e1, fcell e2 hb, e3.below hb⟩
structure EnvS (w : World) (aS aC a1 a3 : Addr) : Prop where
 sy : Sent w 0 aS
 cl : Sent w 1 aC
 re : EnvR w a1 a3
theorem EnvS.below {w w' : World} {aS aC a1 a3 : Addr} (h : EnvS w aS aC a1 a3) (hb : Below w.heap.size w w') : EnvS w' aS aC a1 a3 := ⟨h.sy.below hb, h.cl.below hb, h.re.below hb⟩
def gp (m kk : Nat) (s : Int) (es : List Sy.Ed) : Gp := ⟨0, 0, 0, 0, 0, m, kk, s, es⟩
theorem gp_replay (G : Gp) (tk : List (List Int)) : Sg.mReplay G tk = Sg.mReplay (gp G.n G.kk G.st G.es) tk := rfl
def RepAt (w w' : World) (aC : Addr) (e : Ending) (o : Option (List Nat)) : Prop := Below w.heap.size w w' ∧ match o with
 | some cl => ∃ u, e = .returned (.tuple #[u, .nilIface]) ∧ OwnI w' w.heap.size u (natI cl)
 | none => ∃ b, e = .returned (.tuple #[.slice none 0 0, .iface 76 (.pointer (some ⟨b, 0, none⟩))]) ∧ Chain w' 0 0 aC [strB] (.iface 76 (.pointer (some ⟨b, 0, none⟩)))
theorem new_play (m : Nat) {x : Rv} {G : Gp} (hx : x.Zero m) : Sg.Play G [] (Pst.new m).O (hOf (Pst.new m) x) x.ks.length := by
 have h1 : hOf (Pst.new m) x = fun _ => 0 := funext fun e => hx.1 _
 have h2 : (Pst.new m).O = fun _ => 0 := rfl
 rw [h1, h2, hx.2]
 exact Sg.Play.nil G
set_option linter.unusedSimpArgs false in
set_option maxRecDepth 100000 in
set_option maxHeartbeats 8000000 in
theorem replay_ok (hS : SortOk 1000000) (m kk : Nat) (s : Int) (v vt : Value) (es : List Sy.Ed) (tk : List (List Int)) (aS aC a1 a3 : Addr) (w : World) (hE : EnvS w aS aC a1 a3) (hv : BEdges.Has w v es) (ht : HasR w vt tk) (hm : es.length ≤ 100000) (htl : tk.length ≤ 1000000) (hq : Sy.right m kk s es = true) :
 Calls Tryz.prog 19 #[sysV m kk s v, vt] w fun e w' => RepAt w w' aC e (Sg.mReplay (gp m kk s es) tk) := by
 have hv0 := hv
 obtain ⟨ao, cap, rfl, _⟩ := hv0
 obtain ⟨L, hL⟩ : ∃ L, L = es.length := ⟨_, rfl⟩
 have ht0 := ht
 obtain ⟨ta, tc, rfl, _⟩ := ht0
 obtain ⟨N, hN⟩ : ∃ N, N = tk.length := ⟨_, rfl⟩
 obtain ⟨w1, hw1⟩ : ∃ w1, w1 = w.alloc (.cells #[.int .i64 m, .int .i64 kk, .int .i64 s, .slice ao L cap] 24) := ⟨_, rfl⟩
 have hb1 : Below w.heap.size w w1 := by rw [hw1]; exact (Below.refl _ _).alloc (Nat.le_refl _) _
 have hg1 : w1.heap[w.heap.size]? = some (.cells #[.int .i64 m, .int .i64 kk, .int .i64 s, .slice ao L cap] 24 (0, 0)) := by rw [hw1]; exact heap_alloc_new w _
 have hBg := begin_ok hS m kk s _ es aS w1 (hE.sy.below hb1) (hv.below hb1) hm hq
 rw [← hL] at hBg ⊢
 rw [← hN] at ht htl ⊢
 unfold sysV at hBg ⊢
 obtain ⟨x0, x1, x2, x3⟩ := four_cellsB hg1
 have hm1 : m ≤ 1000 := by have := (right_parts hq).1; omega
 have H1 : Hid _ := And.intro hw1 (And.intro hb1 (And.intro hBg (And.intro hE (And.intro ht (And.intro hN (And.intro hq hm1))))))
 clear hE hv ht hm hq hw1 hb1 hg1 hBg hL hN hm1
 go_enter Tryz.func19, Tryz.ntmps19
 go_upto_region 1 with fail
 rw [← H1.out.1]
 go_upto_region 4 with (go_at_call 37; refine Calls.mono H1.out.2.2.1 ?_; rintro r2 w2 ⟨w0, r, g, p, mb, nm, G, x, rfl, hR, hx, hG, hnm, hb0, hb2⟩; have H2 : Hid _ := And.intro hR (And.intro hx (And.intro hG (And.intro hnm (And.intro hb0 hb2)))); clear hR hx hG hnm hb0 hb2 x0 x1 x2 x3)
 have hr : Sy.right G.n (G.kk : Int) G.st G.es = true := by obtain ⟨g1, g2, g3, g4⟩ := H2.out.2.2.1; rw [g1, g2, g3, g4]; exact H1.out.2.2.2.2.2.2.1
 have hmod : Sg.mReplay (gp m kk s es) tk = Sg.mReplay G tk := by obtain ⟨g1, g2, g3, g4⟩ := H2.out.2.2.1; rw [gp_replay G, g1, g2, g3, g4]
 have hGn : G.n ≤ 1000 := by have := H2.out.2.2.1.1; have := H1.out.2.2.2.2.2.2.2; omega
 have HG : Hid _ := And.intro hr (And.intro hmod hGn)
 clear hr hmod hGn
 go_wp2_with fail
 go_loopg [23] N (fun q iv wr => ∃ (i nm1 : Nat) (s1 : Pst) (x1 : Rv), q = N - i ∧ i ≤ N ∧ iv = .int .i64 i ∧ RunAt w0 wr r g p mb nm1 G s1 x1 ∧ Sg.Play G (tk.take i) s1.O (hOf s1 x1) x1.ks.length ∧ nm1 ≤ 10000 + x1.ks.length * 10000000)
 case atStart => exact ⟨0, nm, Pst.new m, x, rfl, Nat.zero_le _, rfl, H2.out.1, new_play m H2.out.2.1, by have := H2.out.2.2.2.1; omega⟩
 case round =>
  obtain ⟨i, nm1, s1, x1, rfl, hi, rfl, hR, hPl, hnm1⟩ := hrel
  obtain ⟨wo, hwo⟩ : ∃ wo, wo = wr := ⟨_, rfl⟩
  rw [← hwo] at hR ⊢
  clear hwo
  have hbw : Below w.heap.size w wo := H1.out.2.1.trans ((H2.out.2.2.2.2.1.trans (hR.up.mono H2.out.2.2.2.2.1.size)).mono H1.out.2.1.size)
  have hkl := hPl.hist.heaps
  have hEo := H1.out.2.2.2.1.below hbw
  by_cases hlt : i < N
  ·have q0 : (0 : Int) ≤ (i : Int) := by omega
   have q1 : (i : Int) < (N : Int) := by omega
   obtain ⟨zs, hzs⟩ : ∃ zs, tk[i]? = some zs := ⟨tk[i]'(by have := H1.out.2.2.2.2.2.1; omega), List.getElem?_eq_getElem _⟩
   obtain ⟨ta', tc', e1, hrows⟩ := H1.out.2.2.2.2.1.below hbw
   have e4 : ta = ta' := by injection e1
   obtain ⟨a, vz, e2, hcz, hIz⟩ := hrows i zs hzs
   have e3 : ta = some a := e4.trans e2
   clear e1 e2 e4 hrows
   subst e3
   obtain ⟨za, zc, hvz, _⟩ := id hIz
   subst hvz
   obtain ⟨zn, hzn⟩ : ∃ zn, zn = zs.length := ⟨_, rfl⟩
   have hFd := find_any hR (.slice za zs.length zc) zs a1 a3 hEo.re hIz
   rw [← hzn] at hFd hcz
   have htk : tk.take (i + 1) = tk.take i ++ [zs] := by rw [List.take_add_one, hzs]; rfl
   have HA : Hid _ := And.intro hR (And.intro hPl (And.intro hnm1 (And.intro hbw (And.intro hkl (And.intro hEo (And.intro hFd (And.intro hzs htk)))))))
   clear hR hPl hnm1 hbw hkl hEo hFd hzs htk hIz hzn
   go_upto_region 8 with (go_at_call 39; refine Calls.mono HA.out.2.2.2.2.2.2.1 ?_; rintro r3 w3 ⟨b, is, rfl, hb3, hyes, hno⟩; have H3 : Hid _ := And.intro hb3 (And.intro hyes hno); clear hb3 hyes hno)
   have hR3 := HA.out.1.below H3.out.1
   have hn3 := hR3.n
   have hstop : (∀ e0, e0 < G.n → zs = Sg.memb G.n s1.O (s1.O e0) → ¬ (hOf s1 x1 e0 = 0 ∨ 2 * Sg.bc G.n s1.O (s1.O e0) ≤ hc G.n (hOf s1 x1) (hOf s1 x1 e0))) → Sg.mReplay G tk = none := fun hst => by
    have h1 := Sg.Play.stop HA.out.2.1 (l := zs) hst
    rw [← HA.out.2.2.2.2.2.2.2.2] at h1
    have h2 := Sg.mReplay_none (r := tk.drop (i + 1)) (fun e => by have h9 := congrArg List.length e; rw [HA.out.2.2.2.2.2.2.2.2] at h9; simp at h9) h1
    rw [List.take_append_drop] at h2
    exact h2
   have hEr : ∀ w4, Below w3.heap.size w3 w4 → Calls Tryz.prog 38 #[.iface 287 (.pointer (some aC))] w4 fun r' w' => ∃ b, r' = .returned (.iface 76 (.pointer (some ⟨b, 0, none⟩))) ∧ Chain w' 0 0 aC [strB] (.iface 76 (.pointer (some ⟨b, 0, none⟩))) ∧ Below w4.heap.size w4 w' := fun w4 _ => sfault_any _ _ w4 aC [] rfl
   have hgc : ∀ w4, Below w3.heap.size w3 w4 → w4.cell? ⟨1, 0, none⟩ = some (.iface 287 (.pointer (some aC))) := fun w4 hb4 => ((HA.out.2.2.2.2.2.1.below H3.out.1).below hb4).cl.1
   have HE : Hid _ := And.intro hR3 (And.intro hn3 (And.intro hstop (And.intro hEr hgc)))
   clear hR3 hn3 hstop hEr hgc
   cases is with
   | false =>
     have gc := HE.out.2.2.2.2 w3 (Below.refl _ _)
     go_wp2_with (go_at_call 38; refine Calls.mono (HE.out.2.2.2.1 w3 (Below.refl _ _)) ?_; rintro r4 w4 ⟨b4, rfl, hC4, hb4⟩; have H4 : Hid _ := And.intro hC4 hb4; clear hC4 hb4)
     go_ret2
     have hnone := HE.out.2.2.1 (fun e0 he0 hl _ => H3.out.2.2 (by first | rfl | trivial) (s1.O e0) (HE.out.1.ok.o e0 (by have := HE.out.2.1; omega)).1 (by rw [memb_eq, HE.out.2.1]; exact hl))
     unfold RepAt
     rw [HG.out.2.1, hnone]
     exact ⟨(HA.out.2.2.2.1.trans (H3.out.1.mono HA.out.2.2.2.1.size)).trans (H4.out.2.mono (Nat.le_trans HA.out.2.2.2.1.size H3.out.1.size)), b4, rfl, H4.out.1⟩
   | true =>
     obtain ⟨hbl, hzm⟩ := H3.out.2.1 (by first | rfl | trivial)
     have hMy := may_all HE.out.1 hbl
     obtain ⟨e0, he0, hOe⟩ := block_state HE.out.1.ok hbl
     have heG : e0 < G.n := by rw [← HE.out.2.1]; exact he0
     have HB : Hid _ := And.intro hMy (And.intro hbl (And.intro hzm (And.intro heG hOe)))
     clear hMy hbl hzm heG hOe he0
     go_upto_if 40 with (go_at_call 40; refine Calls.mono HB.out.1 ?_; rintro r4 w4 ⟨ok, rfl, hb4, hok⟩; have H4 : Hid _ := And.intro hb4 hok; clear hb4 hok)
     cases ok with
     | false =>
       have gc := HE.out.2.2.2.2 w4 H4.out.1
       go_wp2_with (go_at_call 38; refine Calls.mono (HE.out.2.2.2.1 w4 H4.out.1) ?_; rintro r5 w5 ⟨b5, rfl, hC5, hb5⟩; have H5 : Hid _ := And.intro hC5 hb5; clear hC5 hb5)
       go_ret2
       have hnone := HE.out.2.2.1 (fun e1 he1 hl hh => by
        have h1 : s1.O e1 = b := by
         have h2 : ((e1 : Nat) : Int) ∈ s1.mem b := by rw [← HB.out.2.2.1, hl]; exact Sg.memb_mem.2 ⟨e1, he1, rfl, rfl⟩
         obtain ⟨e2, _, h3, h4⟩ := mem_mem.1 h2
         have h5 : e1 = e2 := by omega
         rw [h5]; exact h3
        have h6 := (H4.out.2 e1 he1 h1).2 (by rw [h1] at hh; exact hh)
        cases h6)
       unfold RepAt
       rw [HG.out.2.1, hnone]
       have h7 := HA.out.2.2.2.1.trans (H3.out.1.mono HA.out.2.2.2.1.size)
       have h8 := h7.trans (H4.out.1.mono h7.size)
       exact ⟨h8.trans (H5.out.2.mono h8.size), b5, rfl, H5.out.1⟩
     | true =>
       have hR4 := HE.out.1.below H4.out.1
       have hTk := take_any w0 r g p mb nm1 G s1 x1 b w4 hR4 HB.out.2.1 (by have := HA.out.2.2.1; have := HA.out.2.2.2.2.1; have := HG.out.2.2; omega) (by have := HA.out.2.2.2.2.1; have := HG.out.2.2; omega)
       have HT : Hid _ := And.intro hTk trivial
       clear hR4 hTk
       go_wp2_with (go_at_call 41; refine Calls.mono HT.out.1 ?_; rintro r5 w5 ⟨rfl, nm2, s2, x2, hR5, hA5⟩; have H5 : Hid _ := And.intro hR5 hA5; clear hR5 hA5)
       go_roundg (N - (i + 1))
       case measure => omega
       case rel =>
        have hh := (H4.out.2 e0 HB.out.2.2.2.1 HB.out.2.2.2.2).1 (by first | rfl | trivial)
        have hA := H5.out.2
        have hn := HE.out.2.1
        have hst := Sg.Play.step (O' := s2.O) (H' := hOf s2 x2) HG.out.1 HA.out.2.1 HB.out.2.2.2.1 (by rw [HB.out.2.2.2.2]; exact hh) (by
         have h2 := hA.sp
         rw [hn] at h2
         have h3 : hOf s1 x1 e0 = x1.of b := by unfold hOf; rw [HB.out.2.2.2.2]
         rw [HB.out.2.2.2.2, h3]
         exact h2) (fun e hE => by rw [hA.hp e (by rw [hn]; exact hE), HB.out.2.2.2.2])
        have h4 : zs = Sg.memb G.n s1.O (s1.O e0) := by rw [HB.out.2.2.2.2, HB.out.2.2.1, memb_eq, hn]
        rw [← h4, ← HA.out.2.2.2.2.2.2.2.2, ← hA.ks] at hst
        exact ⟨i + 1, nm2, s2, x2, rfl, by omega, by go_num, H5.out.1, hst, by have h5 := hA.nm; have h6 := HA.out.2.2.1; rw [hA.ks]; omega⟩
  ·obtain rfl : i = N := by omega
   have q1 : ¬ (i : Int) < (i : Int) := by omega
   have hall : tk.take i = tk := by rw [H1.out.2.2.2.2.2.1]; exact List.take_length
   rw [hall] at hPl
   have hk0 : 0 < x1.ks.length := by have := hPl.hist.inv.len; omega
   have hDn := isDone_any hR hk0 (by have := HG.out.2.2; omega)
   have hfin := Sg.Play.fin hR.ok hR.n hPl
   obtain ⟨d, hd⟩ : ∃ d, d = decide (s1.nb = x1.ks.length - 1) := ⟨_, rfl⟩
   rw [← hd] at hDn
   have HA : Hid _ := And.intro hR (And.intro hPl (And.intro hbw (And.intro hEo (And.intro hDn (And.intro hfin hd)))))
   clear hR hPl hbw hEo hDn hfin hd hall hk0 hkl hnm1
   cases d with
   | false =>
     go_wp2_with (first
      | (go_at_call 42; refine Calls.mono HA.out.2.2.2.2.1 ?_; rintro r3 w3 ⟨rfl, hb3⟩; have gc := (HA.out.2.2.2.1.below hb3).cl.1; have H3 : Hid _ := And.intro hb3 (sfault_any _ _ w3 aC [] rfl); clear hb3)
      | (go_at_call 38; refine Calls.mono H3.out.2 ?_; rintro r4 w4 ⟨b4, rfl, hC4, hb4⟩; have H4 : Hid _ := And.intro hC4 hb4; clear hC4 hb4))
     go_ret2
     unfold RepAt
     rw [HG.out.2.1, HA.out.2.2.2.2.2.1, if_neg (of_decide_eq_false HA.out.2.2.2.2.2.2.symm)]
     have h7 := HA.out.2.2.1.trans (H3.out.1.mono HA.out.2.2.1.size)
     exact ⟨h7.trans (H4.out.2.mono h7.size), b4, rfl, H4.out.1⟩
   | true =>
     obtain ⟨c, hP, hLy⟩ := HA.out.1.c
     have hCl := fun W (hb : Below wo.heap.size wo W) => classes_all p c s1 w0 W (hP.below hb) hLy HA.out.1.ok
     have HC : Hid _ := And.intro hCl trivial
     clear hCl hP hLy
     go_wp2_with (first
      | (go_at_call 42; refine Calls.mono HA.out.2.2.2.2.1 ?_; rintro r3 w3 ⟨rfl, hb3⟩; have c1 := (seven_cells (HA.out.1.below hb3).m.box).2.1; have H3 : Hid _ := And.intro hb3 trivial; clear hb3)
      | (go_at_call 43; refine Calls.mono (HC.out.1 w3 H3.out.1) ?_; rintro r4 w4 ⟨u, rfl, hu, hb4⟩; have H4 : Hid _ := And.intro hu hb4; clear hu hb4))
     go_ret2
     unfold RepAt
     rw [HG.out.2.1, HA.out.2.2.2.2.2.1, if_pos (of_decide_eq_true HA.out.2.2.2.2.2.2.symm)]
     have h7 := HA.out.2.2.1.trans (H3.out.1.mono HA.out.2.2.1.size)
     refine ⟨h7.trans (H4.out.2.mono h7.size), _, rfl, ?_⟩
     have h8 : Sy.canon s1.own = Ro.num ((List.range G.n).map s1.O) := by
      rw [← Sg.canon_nat]
      unfold Pst.own
      rw [HA.out.1.n, List.map_map]
      rfl
     rw [← h8]
     exact row_base H4.out.1 h7.size
end Go.Proofs.YtkiapldehlnndaaGreatDoor
/- A run that is played is one of takings, one behind the other; where it is done it ends in the classes. Plain facts. -/
namespace Go.Proofs.YtkiapldehlnndaaGreatDoor
open Ro
namespace Sg
theorem split_ex (n : Nat) (S : (Nat → Prop) → Prop) (O : Nat → Nat) : ∃ O' : Nat → Nat, Split n S O O' := by
 classical
 obtain ⟨E, hE⟩ : ∃ E : Nat → Nat → Prop, E = fun p q => O p = O q ∧ ∀ X, S X → (X p ↔ X q) := ⟨_, rfl⟩
 have key : ∀ p q, E p = E q ↔ (O p = O q ∧ ∀ X, S X → (X p ↔ X q)) := fun p q => by
  constructor
  ·intro h
   have h1 : E p q = E q q := by rw [h]
   have h2 : E q q := by rw [hE]; exact ⟨rfl, fun _ _ => Iff.rfl⟩
   rw [← h1, hE] at h2
   exact h2
  ·rintro ⟨h1, h2⟩
   funext r
   rw [hE]
   apply propext
   constructor
   ·rintro ⟨a, b⟩; exact ⟨h1.symm.trans a, fun X hX => (h2 X hX).symm.trans (b X hX)⟩
   ·rintro ⟨a, b⟩; exact ⟨h1.trans a, fun X hX => (h2 X hX).trans (b X hX)⟩
 refine ⟨fun p => (num ((List.range n).map E)).getD p 0, fun p q hp hq => ?_⟩
 have hl : (num ((List.range n).map E)).length = n := by rw [num_len]; simp
 have at' : ∀ i, i < n → ((List.range n).map E)[i]? = some (E i) := fun i hi => by rw [List.getElem?_map, List.getElem?_range hi]; rfl
 exact (num_eq (at' p hp) (at' q hq) (getD_at (by rw [hl]; exact hp)) (getD_at (by rw [hl]; exact hq))).trans (key p q)
theorem mRun_hist {G : Gp} (hr : Sy.right G.n (G.kk : Int) G.st G.es = true) (tk : List (List Int)) : ∀ st, mRun G tk = some st → ∃ O H, Hist G tk O H (st.h + 1) ∧ Rl G O H (st.h + 1) st := by
 refine snoc_ind (P := fun tk => ∀ st, mRun G tk = some st → ∃ O H, Hist G tk O H (st.h + 1) ∧ Rl G O H (st.h + 1) st) (fun st h => by cases h) (fun t l ih st h => ?_) tk
 by_cases ht : t = []
 ·subst ht
  have h1 : mFirst G l = some st := h
  unfold mFirst at h1
  split at h1
  ·rename_i hc
   cases h1
   obtain ⟨O', sp⟩ := split_ex G.n (By (outG G) (fun t => (fun _ => 0 : Nat → Nat) t = (fun _ => 0 : Nat → Nat) 0) fun t => (fun _ => 0 : Nat → Int) t = (fun _ => 0 : Nat → Int) 0 ∧ ¬ (fun _ => 0 : Nat → Nat) t = (fun _ => 0 : Nat → Nat) 0) (fun _ => 0)
   have hp : ∀ e, e < G.n → (fun _ => ((1 : Nat) : Int) : Nat → Int) e = if (fun _ => 0 : Nat → Nat) e = (fun _ => 0 : Nat → Nat) 0 then ((1 : Nat) : Int) else (fun _ => 0 : Nat → Int) e := fun e _ => by simp
   have hs := Hist.step (G := G) (O' := O') (H' := fun _ => ((1 : Nat) : Int)) 0 Hist.nil hc.1 (.inl rfl) sp hp
   rw [memb_all (n := G.n) (O := fun _ => 0) (b := (fun _ => 0 : Nat → Nat) 0) (fun e _ => rfl), ← hc.2] at hs
   exact ⟨O', _, hs, first_rl (e0 := 0) hr hc.1 (fun e _ => ⟨rfl, rfl⟩) sp hp⟩
  ·cases h1
 ·rw [mRun_snoc G ht] at h
  cases hm : mRun G t with
  | none => rw [hm] at h; cases h
  | some s0 =>
    rw [hm] at h
    have h1 : mNext G s0 l = some st := h
    obtain ⟨O, H, hh, hR⟩ := ih s0 hm
    cases l with
    | nil => cases h1
    | cons z r =>
      have h2 : mGo G s0 (s0.O.getD z.toNat 0) (s0.H.getD z.toNat 0) (z :: r) z = some st := h1
      clear h1
      unfold mGo at h2
      split at h2
      ·rename_i hc
       cases h2
       obtain ⟨⟨z0, z1⟩, hl, hle⟩ := hc
       have he : z.toNat < G.n := by omega
       rw [mBlock_eq hR he] at hl
       rw [mHeap_eq hR he] at hle
       have hlen : (memb G.n O (O z.toNat)).length = bc G.n O (O z.toNat) := by unfold memb bc; rw [List.length_map, List.countP_eq_length_filter]
       rw [hl, hlen] at hle
       obtain ⟨O', sp⟩ := split_ex G.n (By (outG G) (fun t => O t = O z.toNat) fun t => H t = H z.toNat ∧ ¬ O t = O z.toNat) O
       have hp : ∀ e, e < G.n → (fun e => if O e = O z.toNat then ((s0.h + 1 : Nat) : Int) else H e) e = if O e = O z.toNat then ((s0.h + 1 : Nat) : Int) else H e := fun e _ => rfl
       have hs := Hist.step (O' := O') (H' := fun e => if O e = O z.toNat then ((s0.h + 1 : Nat) : Int) else H e) z.toNat hh he (.inr hle) sp hp
       rw [← hl] at hs
       exact ⟨O', _, hs, next_rl hr he hR (hh.even hr ht) sp hp⟩
      ·cases h2
theorem heaps_dd {G : Gp} {tk : List (List Int)} {O : Nat → Nat} {H : Nat → Int} {h : Nat} (hi : HistI G tk O H h) (ht : tk ≠ []) : (dd ((List.range G.n).map H)).length = h - 1 := by
 have hn : ((List.range (h - 1)).map fun o : Nat => ((o + 1 : Nat) : Int)).Nodup := List.pairwise_map.2 (List.nodup_range.imp fun {a b} hne e => hne (by omega))
 refine Nat.le_antisymm ?_ ?_
 ·have h1 := nodup_sub (dd ((List.range G.n).map H)) ((List.range (h - 1)).map fun o : Nat => ((o + 1 : Nat) : Int)) (dd_nodup _) fun a ha => by
   obtain ⟨e, he, rfl⟩ := List.mem_map.1 ((mem_dd _).1 ha)
   have h2 := hi.rng e (List.mem_range.1 he)
   have h3 := h2.2 ht
   exact List.mem_map.2 ⟨(H e - 1).toNat, List.mem_range.2 (by omega), by omega⟩
  simpa using h1
 ·have h1 := nodup_sub ((List.range (h - 1)).map fun o : Nat => ((o + 1 : Nat) : Int)) (dd ((List.range G.n).map H)) hn fun a ha => by
   obtain ⟨o, ho, rfl⟩ := List.mem_map.1 ha
   have h2 := List.mem_range.1 ho
   obtain ⟨e, he, hb⟩ := hi.full (o + 1) (by omega) (by omega)
   exact (mem_dd _).2 (List.mem_map.2 ⟨e, List.mem_range.2 he, hb⟩)
  simpa using h1
theorem ends_iff {G : Gp} {tk : List (List Int)} {O : Nat → Nat} {H : Nat → Int} {h : Nat} (hi : HistI G tk O H h) (ht : tk ≠ []) : (dd ((List.range G.n).map O)).length = h - 1 ↔ ∀ a b, a < G.n → b < G.n → H a = H b → O a = O b := by
 have f1 := finer ((List.range G.n).map fun e => (O e, H e)) fun p hp q hq e => by
  obtain ⟨a, ha, rfl⟩ := List.mem_map.1 hp
  obtain ⟨b, hb, rfl⟩ := List.mem_map.1 hq
  exact hi.fn a b (List.mem_range.1 ha) (List.mem_range.1 hb) e
 simp only [List.map_map] at f1
 have e1 : ((List.range G.n).map ((fun x : Nat × Int => x.1) ∘ fun e => (O e, H e))) = (List.range G.n).map O := rfl
 have e2 : ((List.range G.n).map ((fun x : Nat × Int => x.2) ∘ fun e => (O e, H e))) = (List.range G.n).map H := rfl
 rw [e1, e2, heaps_dd hi ht] at f1
 have hO : ∀ i, i < G.n → ((List.range G.n).map O)[i]? = some (O i) := fun i hi => by rw [List.getElem?_map, List.getElem?_range hi]; rfl
 have hH : ∀ i, i < G.n → ((List.range G.n).map H)[i]? = some (H i) := fun i hi => by rw [List.getElem?_map, List.getElem?_range hi]; rfl
 constructor
 ·intro hd a b ha hb e
  have h2 := f1.2 hd.symm
  have l1 : (num ((List.range G.n).map O)).length = G.n := by rw [num_len]; simp
  have u1 := getD_at (l := num ((List.range G.n).map O)) (i := a) (by rw [l1]; exact ha)
  have u2 := getD_at (l := num ((List.range G.n).map O)) (i := b) (by rw [l1]; exact hb)
  refine (num_eq (hO a ha) (hO b hb) u1 u2).1 ?_
  rw [h2] at u1 u2
  rw [h2]
  exact (num_eq (hH a ha) (hH b hb) u1 u2).2 e
 ·intro hall
  have f2 := finer ((List.range G.n).map fun e => (H e, O e)) fun p hp q hq e => by
   obtain ⟨a, ha, rfl⟩ := List.mem_map.1 hp
   obtain ⟨b, hb, rfl⟩ := List.mem_map.1 hq
   exact hall a b (List.mem_range.1 ha) (List.mem_range.1 hb) e
  simp only [List.map_map] at f2
  have e3 : ((List.range G.n).map ((fun x : Int × Nat => x.2) ∘ fun e => (H e, O e))) = (List.range G.n).map O := rfl
  have e4 : ((List.range G.n).map ((fun x : Int × Nat => x.1) ∘ fun e => (H e, O e))) = (List.range G.n).map H := rfl
  rw [e3, e4, heaps_dd hi ht] at f2
  omega
theorem replay_end {G : Gp} (hr : Sy.right G.n (G.kk : Int) G.st G.es = true) {R : Nat} (hR : Last G.n (outG G) R) {tk : List (List Int)} {cl : List Nat} (h : mReplay G tk = some cl) : cl = rnd G.n (outG G) R := by
 unfold mReplay at h
 split at h
 ·rename_i h0
  split at h
  ·cases h
   have h1 := rnd_len G.n (outG G) R
   rw [h0] at h1
   exact (List.length_eq_zero_iff.1 (by rw [h0]; exact h1)).symm
  ·cases h
 ·cases hm : mRun G tk with
  | none => rw [hm] at h; cases h
  | some st =>
    rw [hm] at h
    simp only at h
    split at h
    ·rename_i hd
     cases h
     obtain ⟨O, H, hh, hRl⟩ := mRun_hist hr tk st hm
     have ht : tk ≠ [] := fun e => by rw [e] at hm; cases hm
     obtain ⟨d1, d2⟩ := rl_dd hRl
     rw [d2]
     exact hh.ends hr hR ht ((ends_iff hh.inv ht).1 (by rw [← d1, hd]; simp))
    ·cases h
end Sg
end Go.Proofs.YtkiapldehlnndaaGreatDoor
/- Contracts of what the document tells of a system that is none, and of the law's Light. -/
namespace Go.Proofs.YtkiapldehlnndaaGreatDoor
open Go.RowKit Go.Maps
attribute [local go_sem ↓] Go.wp_at_zero Go.wp_at_succ
def strB1 : ByteArray := ⟨#[115, 116, 114, 111, 110, 103, 32]⟩
def strB2 : ByteArray := ⟨#[115, 116, 114, 111, 110, 103, 32, 115, 121, 115, 116, 101, 109, 32]⟩
theorem str_join1 : joinS ⟨#[]⟩ [strB] = strB1 := by decide
theorem str_join2 : joinS ⟨#[]⟩ [strB, sysB] = strB2 := by decide
def hndStr (ok : Bool) : Value := if ok then .agg #[.int .i64 0, .int .i64 0, .int .i64 0, .string ⟨#[]⟩] else .agg #[.int .i64 14, .int .i64 0, .int .i64 0, .string strB2]
set_option maxHeartbeats 1000000 in
theorem badStr (k : Int) (w : World) : Calls Tryz.prog 44 #[.string ⟨#[115, 116, 114, 111, 110, 103]⟩, .int .i64 k] w fun e w' => e = .returned (.agg #[.int .i64 k, .int .i64 0, .int .i64 0, .string strB1]) ∧ Below w.heap.size w w' := by
 have zs : (⟨#[115, 116, 114, 111, 110, 103]⟩ ++ ⟨#[32]⟩ : ByteArray) = strB1 := by decide
 go_enter Tryz.func44, Tryz.ntmps44
 go_wp2
 exact bodyPost_ret (v := .agg #[.int .i64 k, .int .i64 0, .int .i64 0, .string strB1]) (by simp [results, Tryz.results44, go_sem]) rfl ⟨rfl, (Below.refl _ _).alloc (Nat.le_refl _) _⟩
set_option maxRecDepth 100000 in
set_option maxHeartbeats 2000000 in
theorem on_str (ok : Bool) (w : World) : Calls Tryz.prog 32 #[.string ⟨#[115, 116, 114, 111, 110, 103]⟩, chkV ok] w fun e w' => e = .returned (hndStr ok) ∧ Below w.heap.size w w' := by
 cases ok with
 | true =>
   show Calls Tryz.prog 32 #[.string ⟨#[115, 116, 114, 111, 110, 103]⟩, .agg #[.int .i64 0, .int .i64 0, .int .i64 0, .string ⟨#[]⟩]] w fun e w' => e = .returned (.agg #[.int .i64 0, .int .i64 0, .int .i64 0, .string ⟨#[]⟩]) ∧ Below w.heap.size w w'
   go_enter Tryz.func32, Tryz.ntmps32
   go_wp2
   refine bodyPost_ret (v := .agg #[.int .i64 0, .int .i64 0, .int .i64 0, .string ⟨#[]⟩]) (by simp [results, Tryz.results32, go_sem]) rfl ⟨rfl, ?_⟩
   first
    | exact ((Below.refl _ _).alloc (Nat.le_refl _) _).alloc (by simp) _
    | exact four_below (((Below.refl _ _).alloc (Nat.le_refl _) _).alloc (by simp) _) (by simp) _ _ _ _
 | false =>
   have zs : (⟨#[115, 116, 114, 111, 110, 103]⟩ ++ ⟨#[32]⟩ : ByteArray) = strB1 := by decide
   have zt : strB1 ++ sysB1 = strB2 := by decide
   show Calls Tryz.prog 32 #[.string ⟨#[115, 116, 114, 111, 110, 103]⟩, .agg #[.int .i64 14, .int .i64 0, .int .i64 0, .string sysB1]] w fun e w' => e = .returned (.agg #[.int .i64 14, .int .i64 0, .int .i64 0, .string strB2]) ∧ Below w.heap.size w w'
   go_enter Tryz.func32, Tryz.ntmps32
   go_wp2
   refine bodyPost_ret (v := .agg #[.int .i64 14, .int .i64 0, .int .i64 0, .string strB2]) (by simp [results, Tryz.results32, go_sem]) rfl ⟨rfl, ?_⟩
   first
    | exact ((Below.refl _ _).alloc (Nat.le_refl _) _).alloc (by simp) _
    | exact (((Below.refl _ _).alloc (Nat.le_refl _) _).alloc (by simp) _).setCell (by simp) _
    | exact four_below (((((Below.refl _ _).alloc (Nat.le_refl _) _).alloc (by simp) _)).setCell (by simp) _) (by simp) _ _ _ _
set_option maxRecDepth 100000 in
set_option maxHeartbeats 2000000 in
theorem handed_str (n k s : Int) (v : Value) (es : List Sy.Ed) (w : World) (hv : BEdges.Has w v es) :
 Calls Tryz.prog 13 #[.string ⟨#[115, 116, 114, 111, 110, 103]⟩, sysV n k s v] w fun e w' => e = .returned (hndStr (Sy.right n k s es)) ∧ Below w.heap.size w w' := by
 obtain ⟨w1, hw1⟩ : ∃ w1, w1 = (w.alloc (.cells #[.int .i64 n, .int .i64 k, .int .i64 s, v] 24)).alloc (.cells #[.int .i64 0, .int .i64 0, .int .i64 0, .string ⟨#[]⟩] 34) := ⟨_, rfl⟩
 have hb1 : Below w.heap.size w w1 := by rw [hw1]; exact ((Below.refl _ _).alloc (Nat.le_refl _) _).alloc (by simp) _
 have hR := refCheck_any n k s v es w1 (hv.below hb1)
 have hg : w1.heap[w.heap.size + 1]? = some (.cells #[.int .i64 0, .int .i64 0, .int .i64 0, .string ⟨#[]⟩] 34 (0, 0)) := by rw [hw1]; exact two_alloc w _ _
 obtain ⟨ok, hok⟩ : ∃ ok, ok = Sy.right n k s es := ⟨_, rfl⟩
 rw [← hok] at hR ⊢
 have H1 : Hid _ := And.intro hR (And.intro hb1 (And.intro hg hw1))
 obtain ⟨ao, cap, rfl, _⟩ := hv
 clear hR hb1 hg hw1 hok
 unfold sysV at H1 ⊢
 go_enter Tryz.func13, Tryz.ntmps13
 go_wp2_with fail
 rw [← H1.out.2.2.2]
 refine Calls.mono H1.out.1 ?_
 rintro e w2 ⟨rfl, hb2⟩
 have H2 : Hid (Below w1.heap.size w1 w2) := hb2
 clear hb2
 go_wp2_with fail
 refine Calls.mono (on_str ok w2) ?_
 rintro e w3 ⟨rfl, hb3⟩
 have hb13 := bel6 hb3 H2.out
 have hg2 := (hb13.block _ (t_lt H1.out.2.2.1)).trans H1.out.2.2.1
 obtain ⟨y0, y1, y2, y3⟩ := four_cells hg2
 have z0 := blk_free hg2 0
 have z1 := blk_free hg2 1
 have z2 := blk_free hg2 2
 have z3 := blk_free hg2 3
 have H3 : Hid _ := And.intro (bel6 hb13 H1.out.2.1) hg2
 clear hb3 hb13 hg2
 cases ok with
 | true =>
   rw [show hndStr true = .agg #[.int .i64 0, .int .i64 0, .int .i64 0, .string ⟨#[]⟩] from rfl]
   go_wp2_with fail
   have hgf := four_set (a0 := .int .i64 0) (a1 := .int .i64 0) (a2 := .int .i64 0) (a3 := .string ⟨#[]⟩) H3.out.2
   have hbf := four_below H3.out.1 (b := w.heap.size + 1) (by omega) (.int .i64 0) (.int .i64 0) (.int .i64 0) (.string ⟨#[]⟩)
   generalize ((((w3.setCell ⟨w.heap.size + 1, 0, none⟩ (.int .i64 0)).setCell ⟨w.heap.size + 1, 1, none⟩ (.int .i64 0)).setCell ⟨w.heap.size + 1, 2, none⟩ (.int .i64 0)).setCell ⟨w.heap.size + 1, 3, none⟩ (.string ⟨#[]⟩)) = wf at hgf hbf ⊢
   obtain ⟨c0, c1, c2, c3⟩ := four_cells hgf
   exact bodyPost_ret (v := .agg #[.int .i64 0, .int .i64 0, .int .i64 0, .string ⟨#[]⟩]) (by simp [results, Tryz.results13, go_sem, c0, c1, c2, c3]) rfl ⟨rfl, hbf⟩
 | false =>
   rw [show hndStr false = .agg #[.int .i64 14, .int .i64 0, .int .i64 0, .string strB2] from rfl]
   go_wp2_with fail
   have hgf := four_set (a0 := .int .i64 14) (a1 := .int .i64 0) (a2 := .int .i64 0) (a3 := .string strB2) H3.out.2
   have hbf := four_below H3.out.1 (b := w.heap.size + 1) (by omega) (.int .i64 14) (.int .i64 0) (.int .i64 0) (.string strB2)
   generalize ((((w3.setCell ⟨w.heap.size + 1, 0, none⟩ (.int .i64 14)).setCell ⟨w.heap.size + 1, 1, none⟩ (.int .i64 0)).setCell ⟨w.heap.size + 1, 2, none⟩ (.int .i64 0)).setCell ⟨w.heap.size + 1, 3, none⟩ (.string strB2)) = wf at hgf hbf ⊢
   obtain ⟨c0, c1, c2, c3⟩ := four_cells hgf
   exact bodyPost_ret (v := .agg #[.int .i64 14, .int .i64 0, .int .i64 0, .string strB2]) (by simp [results, Tryz.results13, go_sem, c0, c1, c2, c3]) rfl ⟨rfl, hbf⟩
def lightB (n : Int) (m : Nat) (ok : Bool) : Bool := decide (n ≤ 200) && decide (m ≤ 1500) || !ok && decide (m ≤ 11000)
set_option maxRecDepth 100000 in
set_option maxHeartbeats 2000000 in
theorem light_any (n k s : Int) (v : Value) (es : List Sy.Ed) (w : World) (hv : BEdges.Has w v es) :
 Calls Tryz.prog 9 #[sysV n k s v] w fun e w' => e = .returned (.bool (lightB n es.length (Sy.right n k s es))) ∧ Below w.heap.size w w' := by
 obtain ⟨w1, hw1⟩ : ∃ w1, w1 = w.alloc (.cells #[.int .i64 n, .int .i64 k, .int .i64 s, v] 24) := ⟨_, rfl⟩
 have hb1 : Below w.heap.size w w1 := by rw [hw1]; exact (Below.refl _ _).alloc (Nat.le_refl _) _
 have hg1 : w1.heap[w.heap.size]? = some (.cells #[.int .i64 n, .int .i64 k, .int .i64 s, v] 24 (0, 0)) := by rw [hw1]; exact heap_alloc_new w _
 have hR := right_any n k s v es w1 (hv.below hb1)
 obtain ⟨ok, hok⟩ : ∃ ok, ok = Sy.right n k s es := ⟨_, rfl⟩
 obtain ⟨m, hm⟩ : ∃ m, m = es.length := ⟨_, rfl⟩
 obtain ⟨ao, cap, rfl, _⟩ := hv
 rw [← hok] at hR ⊢
 rw [← hm] at hR hw1 hg1 ⊢
 have H1 : Hid _ := And.intro hR (And.intro hb1 (And.intro hw1 hg1))
 obtain ⟨x0, x1, x2, x3⟩ := four_cells hg1
 clear hR hb1 hw1 hok hm hg1
 unfold sysV at H1 ⊢
 by_cases h1 : n ≤ 200
 ·by_cases h2 : m ≤ 1500
  ·have e1 : decide (n ≤ 200) = true := decide_eq_true h1
   have e2 : decide (m ≤ 1500) = true := decide_eq_true h2
   have e3 : decide ((m : Int) ≤ 1500) = true := by simp; omega
   have e4 : lightB n m ok = true := by unfold lightB; rw [e1, e2]; rfl
   rw [e4]
   clear h1 h2 e4
   go_enter Tryz.func9, Tryz.ntmps9
   go_upto_region 1 with fail
   rw [← H1.out.2.2.1]
   go_wp2_with fail
   go_ret
   exact ⟨rfl, H1.out.2.1⟩
  ·have e1 : decide (n ≤ 200) = true := decide_eq_true h1
   have e2 : decide (m ≤ 1500) = false := decide_eq_false h2
   have e3 : decide ((m : Int) ≤ 1500) = false := by simp; omega
   cases ok with
   | true =>
     have e4 : lightB n m true = false := by unfold lightB; rw [e1, e2]; rfl
     rw [e4]
     clear h1 h2 e4
     go_enter Tryz.func9, Tryz.ntmps9
     go_upto_region 1 with fail
     rw [← H1.out.2.2.1]
     go_wp2_with fail
     refine Calls.mono H1.out.1 ?_
     rintro r w2 ⟨rfl, hb2⟩
     have HB : Hid (Below w1.heap.size w1 w2) := hb2
     clear hb2
     go_wp2_with fail
     go_ret
     exact ⟨rfl, bel6 HB.out H1.out.2.1⟩
   | false =>
     have e4 : lightB n m false = decide ((m : Int) ≤ 11000) := by unfold lightB; rw [e1, e2]; simp; omega
     rw [e4]
     clear h1 h2 e4
     go_enter Tryz.func9, Tryz.ntmps9
     go_upto_region 1 with fail
     rw [← H1.out.2.2.1]
     go_wp2_with fail
     refine Calls.mono H1.out.1 ?_
     rintro r w2 ⟨rfl, hb2⟩
     obtain ⟨y0, y1, y2, y3⟩ := four_cells (res_up6 hb2 H1.out.2.2.2)
     have HB : Hid (Below w1.heap.size w1 w2) := hb2
     clear hb2
     go_wp2_with fail
     go_ret
     exact ⟨rfl, bel6 HB.out H1.out.2.1⟩
 ·have e1 : decide (n ≤ 200) = false := decide_eq_false h1
  have e2 : decide (m ≤ 1500) = decide (m ≤ 1500) := rfl
  have h2 : True := trivial
  cases ok with
  | true =>
    have e4 : lightB n m true = false := by unfold lightB; rw [e1]; simp
    rw [e4]
    clear h1 h2 e4
    go_enter Tryz.func9, Tryz.ntmps9
    go_upto_region 1 with fail
    rw [← H1.out.2.2.1]
    go_wp2_with fail
    refine Calls.mono H1.out.1 ?_
    rintro r w2 ⟨rfl, hb2⟩
    have HB : Hid (Below w1.heap.size w1 w2) := hb2
    clear hb2
    go_wp2_with fail
    go_ret
    exact ⟨rfl, bel6 HB.out H1.out.2.1⟩
  | false =>
    have e4 : lightB n m false = decide ((m : Int) ≤ 11000) := by unfold lightB; rw [e1]; simp; omega
    rw [e4]
    clear h1 h2 e4
    go_enter Tryz.func9, Tryz.ntmps9
    go_upto_region 1 with fail
    rw [← H1.out.2.2.1]
    go_wp2_with fail
    refine Calls.mono H1.out.1 ?_
    rintro r w2 ⟨rfl, hb2⟩
    obtain ⟨y0, y1, y2, y3⟩ := four_cells (res_up6 hb2 H1.out.2.2.2)
    have HB : Hid (Below w1.heap.size w1 w2) := hb2
    clear hb2
    go_wp2_with fail
    go_ret
    exact ⟨rfl, bel6 HB.out H1.out.2.1⟩
end Go.Proofs.YtkiapldehlnndaaGreatDoor
/- The document's insertion of a number into rising numbers: plain facts, and what it writes. -/
namespace Go.Proofs.YtkiapldehlnndaaGreatDoor
open Go.RowKit Go.Maps
def Ro.putAt (O : List Int) (k : Nat) (v : Int) : List Int := O.take k ++ v :: O.drop k
end Go.Proofs.YtkiapldehlnndaaGreatDoor
/- Contract of the document's signature: the ends of steps as rising numbers, each once. -/
namespace Go.Proofs.YtkiapldehlnndaaGreatDoor
open Go.RowKit Go.Maps
attribute [local go_sem ↓] Go.wp_at_zero Go.wp_at_succ
end Go.Proofs.YtkiapldehlnndaaGreatDoor
/- Contract of the document's SameInts. -/
namespace Go.Proofs.YtkiapldehlnndaaGreatDoor
open Go.RowKit Go.Maps
end Go.Proofs.YtkiapldehlnndaaGreatDoor
/- Contract of the program's All: the classes of all rounds. -/
namespace Go.Proofs.YtkiapldehlnndaaGreatDoor
open Go.RowKit Go.Maps Go.Shelf
attribute [local go_sem] Oper.semAt_some
structure RwAt (W : World) (B m : Nat) (out : Nat → List Ro.St) (pre : List Rd) : Prop where
 row : ∀ (j : Nat) (x : Rd), pre[j]? = some x → x.1 = j ∧ B ≤ x.2 ∧ ∃ cs : Array Value, W.heap[x.2]? = some (.cells cs 3 (0, 0)) ∧ cs.toList = natC (Ro.rnd m out j)
 up : pre.Pairwise fun y x => y.2 < x.2
def hdr (m : Nat) (x : Rd) : Value := .slice (some ⟨x.2, 0, none⟩) m m
def OwnRs (W : World) (B m : Nat) (v : Value) (xs : List Rd) : Prop := W.ownsRow B 28 1 v xs.length (xs.map (hdr m))
theorem Tryz.infoRI : (Tryz.prog.info? 28).map (fun i => (i.zero, i.size, i.bytes)) = some (some (.slice none 0 0), 1, 24) := by kernel_rfl
end Go.Proofs.YtkiapldehlnndaaGreatDoor
/- What the document's Next has in memory. -/
namespace Go.Proofs.YtkiapldehlnndaaGreatDoor
open Go.RowKit Go.Maps
def Ro.keys (n : Nat) (out : Nat → List Ro.St) (c : List Nat) : List (Int × List Int) := (List.range n).map (Ro.key out c)
def Ro.sgn (out : Nat → List Ro.St) (c : List Nat) (j : Nat) : List Int := Ro.sd (Ro.ends 1001 c (out j))
structure NxAt (w wr : World) (n i r : Nat) (out : Nat → List Ro.St) (c : List Nat) (fv : Value) (Fn : List Nat) : Prop where
 cls : Arr 3 w wr w.heap.size (natC (Ro.num ((Ro.keys n out c).take i)) ++ List.replicate (n - i) (.int .i64 0))
 sg : ∃ vs, Arr 28 w wr (w.heap.size + 1) vs ∧ vs.length = n ∧ ∀ j, j < r → ∃ u, vs[j]? = some u ∧ OwnI wr (w.heap.size + 2) u (Ro.sgn out c j) ∧ ∀ b, u.ownBlock = some b → fv.ownBlock ≠ some b
 fst : OwnI wr (w.heap.size + 2) fv (natI Fn)
structure FsAt (n i : Nat) (out : Nat → List Ro.St) (c : List Nat) (Fn : List Nat) : Prop where
 fe : Ro.dd ((Ro.keys n out c).take i) = Fn.map (Ro.key out c)
 fl : ∀ f ∈ Fn, f < i
end Go.Proofs.YtkiapldehlnndaaGreatDoor
/- Contract of the document's Next: the classes of the round behind one. -/
namespace Go.Proofs.YtkiapldehlnndaaGreatDoor
open Go.RowKit Go.Maps
attribute [local go_sem ↓] Go.wp_at_zero Go.wp_at_succ
end Go.Proofs.YtkiapldehlnndaaGreatDoor
/- Contract of the document's Out: of each state its steps. -/
namespace Go.Proofs.YtkiapldehlnndaaGreatDoor
open Go.RowKit Go.Maps
attribute [local go_sem ↓] Go.wp_at_zero Go.wp_at_succ
structure Outs (w : World) (B : Nat) (us : List Value) (n : Nat) (f : Nat → List BSteps.El) : Prop where
 len : us.length = n
 row : ∀ i, i < n → ∃ u, us[i]? = some u ∧ BSteps.Own w B u (f i)
 ap : ∀ (i j : Nat) (u x : Value) (b : Nat), us[i]? = some u → us[j]? = some x → i ≠ j → u.ownBlock = some b → x.ownBlock ≠ some b
end Go.Proofs.YtkiapldehlnndaaGreatDoor
/- Contract of the document's Rounds: the classes of all rounds. -/
namespace Go.Proofs.YtkiapldehlnndaaGreatDoor
open Go.RowKit Go.Maps
attribute [local go_sem ↓] Go.wp_at_zero Go.wp_at_succ
theorem Sy.place_Ro (c : Int) (l : List Int) : Sy.place c l = Ro.place c l := by
 induction l with
 | nil => rfl
 | cons a r ih => simp only [Sy.place, Ro.place, ih]
theorem seenG_foldl (l : List Int) : ∀ seen, Sy.seenG seen l = l.foldl (fun s c => Ro.more c s) seen := by
 induction l with
 | nil => intro seen; rfl
 | cons c r ih =>
   intro seen
   simp only [Sy.seenG, List.foldl_cons, ih, Sy.place_Ro]
   congr 1
   unfold Ro.more
   by_cases h : c ∈ seen
   ·rw [if_pos h, if_pos (Ro.place_lt.2 h)]
   ·rw [if_neg h, if_neg (fun h1 => h (Ro.place_lt.1 h1))]
theorem more_map {A B : Type} [DecidableEq A] [DecidableEq B] (f : A → B) (hf : ∀ x y, f x = f y → x = y) (c : A) (l : List A) : Ro.more (f c) (l.map f) = (Ro.more c l).map f := by
 unfold Ro.more
 by_cases h : c ∈ l
 ·rw [if_pos h, if_pos (List.mem_map.2 ⟨c, h, rfl⟩)]
 ·rw [if_neg h, if_neg (fun h1 => by obtain ⟨y, hy, e⟩ := List.mem_map.1 h1; exact h (hf _ _ e ▸ hy))]
  simp
theorem dd_map {A B : Type} [DecidableEq A] [DecidableEq B] (f : A → B) (hf : ∀ x y, f x = f y → x = y) (l : List A) : Ro.dd (l.map f) = (Ro.dd l).map f := by
 refine Ro.snoc_ind (P := fun l => Ro.dd (l.map f) = (Ro.dd l).map f) rfl (fun l x ih => ?_) l
 rw [List.map_append, List.map_cons, List.map_nil, Ro.dd_snoc, ih, more_map f hf, Ro.dd_snoc]
theorem together_nat (c : List Nat) : Sy.together (natI c) = (Ro.dd c).length := by
 rw [Sy.together_eq, seenG_foldl]
 show (Ro.dd (natI c)).length = _
 unfold natI
 rw [dd_map _ (fun x y e => by omega), List.length_map]
structure DrAt (w2 wr : World) (m : Nat) (out : Nat → List Ro.St) (av : Value) (xs : List Rd) : Prop where
 bl : Below w2.heap.size w2 wr
 row : wr.ownsRow w2.heap.size 28 1 av xs.length (xs.map (hdr m))
 rows : RwAt wr w2.heap.size m out xs
end Go.Proofs.YtkiapldehlnndaaGreatDoor
/- Towards the document's Replay: what it has in memory. -/
namespace Go.Proofs.YtkiapldehlnndaaGreatDoor
open Go.RowKit Go.Maps
attribute [local go_sem ↓] Go.wp_at_zero Go.wp_at_succ
structure DrM (w wr : World) (m kk : Nat) (s : Int) (ao : Option Addr) (L cap : Nat) (gb gh : Nat) (wh : World) (H : List Nat) : Prop where
 bl : Below w.heap.size w wr
 sb : wr.heap[w.heap.size]? = some (.cells #[.int .i64 m, .int .i64 kk, .int .i64 s, .slice ao L cap] 24 (0, 0))
 rb : wr.heap[w.heap.size + 1]? = some (.cells #[.int .i64 0, .int .i64 0, .int .i64 0, .string ⟨#[]⟩] 34 (0, 0))
 bb : wr.heap[gb]? = some (.cells #[.int .i64 15, .int .i64 0, .int .i64 0, .string strB1] 34 (0, 0))
 hp : Arr 3 wh wr gh (natC H)
 lo : w.heap.size + 1 < gb ∧ gb < wh.heap.size
theorem DrM.below {w wr w' : World} {m kk : Nat} {s : Int} {ao : Option Addr} {L cap gb gh : Nat} {wh : World} {H : List Nat} (h : DrM w wr m kk s ao L cap gb gh wh H) (hb : Below wr.heap.size wr w') : DrM w w' m kk s ao L cap gb gh wh H :=
 ⟨bel6 hb h.bl, res_up6 hb h.sb, res_up6 hb h.rb, res_up6 hb h.bb, h.hp.below hb, h.lo⟩
theorem DrM.put {w wr : World} {m kk : Nat} {s : Int} {ao : Option Addr} {L cap gb gh : Nat} {wh : World} {H : List Nat} (h : DrM w wr m kk s ao L cap gb gh wh H) (i n : Nat) : DrM w (wr.setCell ⟨gh, i, none⟩ (.int .i64 n)) m kk s ao L cap gb gh wh (H.set i n) := by
 have h1 := h.hp.gu
 have h2 := h.lo
 have h3 := (h.hp.set i (.int .i64 (n : Int)))
 rw [← natC_set] at h3
 exact ⟨h.bl.setCell (show w.heap.size ≤ gh by omega) _, (set_other _ _ _ _ _ (by omega)).trans h.sb, (set_other _ _ _ _ _ (by omega)).trans h.rb, (set_other _ _ _ _ _ (by omega)).trans h.bb, h3, h.lo⟩
def FarV (g : Nat) (v : Value) : Prop := ∀ a n c, v = .slice (some a) n c → a.block ≠ g
theorem HasI.far {w : World} {v : Value} {zs : List Int} {g i : Nat} {x : Value} (h : HasI w v zs) (hf : FarV g v) : HasI (w.setCell ⟨g, i, Option.none⟩ x) v zs := by
 obtain ⟨ao, cap, rfl, hc⟩ := h
 refine ⟨ao, cap, rfl, fun j z hz => ?_⟩
 obtain ⟨a, rfl, h2⟩ := hc j z hz
 refine ⟨a, rfl, ?_⟩
 have hne : (a.add j).block ≠ g := by
  have := hf a _ _ rfl
  simpa [Addr.add] using (by unfold Addr.add; split <;> simpa using this : (a.add j).block ≠ g)
 exact (World.cell?_of_block (a := a.add j) (set_other _ _ _ _ _ hne)).trans h2
theorem own_far {w : World} {B : Nat} {v : Value} {zs : List Int} (h : OwnI w B v zs) {g : Nat} (hg : g < B) : FarV g v := fun a n c e => by
 subst e
 rcases h.2 with ⟨h5, _⟩ | ⟨g', cap', cur, h5, h6, _⟩
 ·injection h5 with h7
  cases h7
 ·injection h5 with h7
  injection h7 with h7
  rw [h7]
  show g' ≠ g
  omega
theorem HasB.far {w : World} {v : Value} {m : Nat} {X : Nat → Bool} {g i : Nat} {x : Value} (h : HasB w v m X) (hf : FarV g v) : HasB (w.setCell ⟨g, i, none⟩ x) v m X := by
 obtain ⟨b, rfl, h2⟩ := h
 have hne : b ≠ g := hf ⟨b, 0, none⟩ _ _ rfl
 exact ⟨b, rfl, fun j hj => (World.cell?_of_block (a := ⟨b, j, none⟩) (set_other _ _ _ _ _ hne)).trans (h2 j hj)⟩
def DrAns (w w' : World) (e : Ending) (o : Option (List Nat)) : Prop := Below w.heap.size w w' ∧ match o with
 | some cl => ∃ a n c, e = .returned (.tuple #[.slice a n c, .agg #[.int .i64 0, .int .i64 0, .int .i64 0, .string ⟨#[]⟩]]) ∧ HasI w' (.slice a n c) (natI cl)
 | none => e = .returned (.tuple #[.slice none 0 0, .agg #[.int .i64 15, .int .i64 0, .int .i64 0, .string strB1]])
theorem hasE_hasR {w w' : World} {v : Value} {es : List Sy.Ed} (h : HasE w v es) (hb : Below w.heap.size w w') : BEdges.Has w' v es := by
 obtain ⟨_, _, _, _, h⟩ := h
 exact h.below hb
theorem mRun_len {G : Gp} {tk : List (List Int)} {st : Sg.Ms} (hr : Sy.right G.n (G.kk : Int) G.st G.es = true) (h : Sg.mRun G tk = some st) : st.O.length = G.n := by
 obtain ⟨_, _, _, hR⟩ := Sg.mRun_hist hr tk st h
 exact hR.lo
theorem mRun_pos {G : Gp} {tk : List (List Int)} {st : Sg.Ms} (hr : Sy.right G.n (G.kk : Int) G.st G.es = true) (h : Sg.mRun G tk = some st) : 0 < G.n := by
 obtain ⟨_, _, hh, _⟩ := Sg.mRun_hist hr tk st h
 exact hh.inv.one fun e => by rw [e] at h; cases h
theorem HasR.row {w w' : World} {ta : Option Addr} {N tc : Nat} {tk : List (List Int)} (h : HasR w (.slice ta N tc) tk) (hb : Below w.heap.size w w') {k : Nat} {l : List Int} (hl : tk[k]? = some l) : ∃ a al cl, ta = some a ∧ w'.cell? (a.add k) = some (.slice al l.length cl) ∧ HasI w' (.slice al l.length cl) l := by
 obtain ⟨ta', tc', hv, hc⟩ := h
 injection hv with e1 e2 e3
 subst e1
 obtain ⟨a, v, h1, h2, h3⟩ := hc k l hl
 obtain ⟨al, cl, rfl, _⟩ := id h3
 exact ⟨a, al, cl, h1, (hb.cell (World.block_lt_of_cell? w _ h2)).trans h2, h3.below hb⟩
end Go.Proofs.YtkiapldehlnndaaGreatDoor
/- Contract of the document's Replay. -/
namespace Go.Proofs.YtkiapldehlnndaaGreatDoor
open Go.RowKit Go.Maps
attribute [local go_sem ↓] Go.wp_at_zero Go.wp_at_succ
set_option linter.unusedSimpArgs false in
set_option maxRecDepth 100000 in
set_option maxHeartbeats 16000000 in
theorem docReplay_any (m kk : Nat) (s : Int) (v vt : Value) (es : List Sy.Ed) (tk : List (List Int)) (w : World) (hv : HasE w v es) (ht : HasR w vt tk) (htl : tk.length ≤ 1000000) (hzl : ∀ zs ∈ tk, zs.length ≤ 1000000) (hq : Sy.right m kk s es = true) :
 Calls Tryz.prog 20 #[sysV m kk s v, vt] w fun e w' => DrAns w w' e (Sg.mReplay (gp m kk s es) tk) := by
 have hm : m ≤ 1000 := by have := (right_parts hq).1; omega
 have hvs := hv
 obtain ⟨ao, cap, rfl, hcap, hH⟩ := hvs
 obtain ⟨ta, tc, rfl, _⟩ := id ht
 obtain ⟨L, hL⟩ : ∃ L, L = es.length := ⟨_, rfl⟩
 obtain ⟨N, hN⟩ : ∃ N, N = tk.length := ⟨_, rfl⟩
 obtain ⟨w1, hw1⟩ : ∃ w1, w1 = (w.alloc (.cells #[.int .i64 m, .int .i64 kk, .int .i64 s, .slice ao L cap] 24)).alloc (.cells #[.int .i64 0, .int .i64 0, .int .i64 0, .string ⟨#[]⟩] 34) := ⟨_, rfl⟩
 have hb1 : Below w.heap.size w w1 := by rw [hw1]; exact ((Below.refl _ _).alloc (Nat.le_refl _) _).alloc (by simp) _
 have hg1 : w1.heap[w.heap.size]? = some (.cells #[.int .i64 m, .int .i64 kk, .int .i64 s, .slice ao L cap] 24 (0, 0)) := by
  rw [hw1]
  exact res_up6 ((Below.refl _ _).alloc (Nat.le_refl _) _) (heap_alloc_new w _)
 have hg2 : w1.heap[w.heap.size + 1]? = some (.cells #[.int .i64 0, .int .i64 0, .int .i64 0, .string ⟨#[]⟩] 34 (0, 0)) := by rw [hw1]; exact two_alloc w _ _
 have hsz1 : w1.heap.size = w.heap.size + 2 := by rw [hw1]; simp
 have hRi := right_any m kk s _ es w1 (hH.below hb1)
 rw [hq] at hRi
 rw [← hL] at hRi hv ⊢
 rw [← hN] at ht htl ⊢
 unfold sysV at hRi ⊢
 have H1 : Hid _ := And.intro hw1 (And.intro hb1 (And.intro hg1 (And.intro hg2 (And.intro hRi (And.intro hv (And.intro ht (And.intro hN (And.intro hzl (And.intro hq hsz1)))))))))
 obtain ⟨x0, x1, x2, x3⟩ := four_cells hg1
 clear hv ht hH hcap hw1 hb1 hg1 hg2 hRi hN hzl hq hL hsz1
 go_enter Tryz.func20, Tryz.ntmps20
 go_upto_region 1 with fail
 rw [← H1.out.1]
 go_wp2_with fail
 refine Calls.mono H1.out.2.2.2.2.1 ?_
 rintro r w2 ⟨rfl, hb2⟩
 have H2 : Hid (Below w1.heap.size w1 w2) := hb2
 clear hb2 x0 x1 x2 x3
 go_wp2_with fail
 refine Calls.mono (badStr 15 w2) ?_
 rintro r w3 ⟨rfl, hb3⟩
 have H3 : Hid _ := And.intro (bel6 hb3 H2.out) hb3
 clear hb3
 go_upto_region 4 with fail
 obtain ⟨w4, hw4⟩ : ∃ w4, w4 = w3.alloc (.cells #[.int .i64 15, .int .i64 0, .int .i64 0, .string strB1] 34) := ⟨_, rfl⟩
 rw [← hw4]
 have hb4 : Below w3.heap.size w3 w4 := by rw [hw4]; exact (Below.refl _ _).alloc (Nat.le_refl _) _
 have hg4 : w4.heap[w3.heap.size]? = some (.cells #[.int .i64 15, .int .i64 0, .int .i64 0, .string strB1] 34 (0, 0)) := by rw [hw4]; exact heap_alloc_new w3 _
 have hsz4 : w4.heap.size = w3.heap.size + 1 := by rw [hw4]; simp
 obtain ⟨gb, hgb⟩ : ∃ gb, gb = w3.heap.size := ⟨_, rfl⟩
 rw [← hgb] at hg4 hsz4 ⊢
 have hb14 := bel6 hb4 H3.out.1
 obtain ⟨x0, x1, x2, x3⟩ := four_cells (res_up6 hb14 H1.out.2.2.1)
 have hmk := makeI m (by omega) w4
 have hD : DrM w ((w4.alloc (.cells (madeV (.int .i64 0) m) 3)).alloc (.cells (madeV (.int .i64 0) m) 3)) m kk s ao L cap gb (w4.heap.size + 1) (w4.alloc (.cells (madeV (.int .i64 0) m) 3)) (List.replicate m 0) := by
  have hba : Below w4.heap.size w4 ((w4.alloc (.cells (madeV (.int .i64 0) m) 3)).alloc (.cells (madeV (.int .i64 0) m) 3)) := ((Below.refl _ _).alloc (Nat.le_refl _) _).alloc (by simp) _
  have h1a := bel6 hba hb14
  have hz := H3.out.1.size
  have hz2 := H1.out.2.2.2.2.2.2.2.2.2.2
  refine ⟨bel6 h1a H1.out.2.1, res_up6 h1a H1.out.2.2.1, res_up6 h1a H1.out.2.2.2.1, res_up6 hba hg4, ?_, by simp; omega⟩
  have h5 := arr_new 3 (.int .i64 0) rfl m (w4.alloc (.cells (madeV (.int .i64 0) m) 3))
  rw [World.size_alloc] at h5
  simpa [natC] using h5
 have hB0 : HasI ((w4.alloc (.cells (madeV (.int .i64 0) m) 3)).alloc (.cells (madeV (.int .i64 0) m) 3)) (.slice (some ⟨w4.heap.size, 0, none⟩) m m) (natI (List.replicate m 0)) := by
  have h5 := (arr_new 3 (.int .i64 0) rfl m w4).below ((Below.refl _ _).alloc (Nat.le_refl _) (.cells (madeV (.int .i64 0) m) 3))
  obtain ⟨cs, h6, h7⟩ := h5.ids
  exact hasI_blk (by simp) h6 (by rw [h7]; simp [natC])
 have H4 : Hid _ := And.intro hD hB0
 clear hD hB0 hw4 hb4 hg4 hb14 hsz4 hgb
 go_upto_region 5 with fail
 clear hmk
 obtain ⟨gh, hgh⟩ : ∃ gh, gh = w4.heap.size + 1 := ⟨_, rfl⟩
 obtain ⟨wh, hwh⟩ : ∃ wh, wh = w4.alloc (.cells (madeV (.int .i64 0) m) 3) := ⟨_, rfl⟩
 have hbh : Below w4.heap.size w4 wh := by rw [hwh]; exact (Below.refl _ _).alloc (Nat.le_refl _) _
 have hszh : wh.heap.size = gh := by rw [hwh, hgh]; simp
 rw [← hgh, ← hwh] at H4
 rw [← hwh]
 have xh0 := cell_up x0 hbh
 have hmk2 := makeI m (by omega) wh
 rw [hszh] at hmk2
 have HF0 : Hid (FarV gh (.slice (some ⟨w4.heap.size, 0, none⟩) m m)) := (fun a n c h => by injection h with h1; injection h1 with h1; rw [← h1, hgh]; simp : FarV gh (.slice (some ⟨w4.heap.size, 0, none⟩) m m))
 clear x0 x1 x2 x3 hbh hszh hwh hgh
 go_wp2_with fail
 clear hmk2 xh0
 obtain ⟨w5, hw5⟩ : ∃ w5, w5 = wh.alloc (.cells (madeV (.int .i64 0) m) 3) := ⟨_, rfl⟩
 rw [← hw5] at H4
 rw [← hw5]
 clear hw5
 go_loopg [7, 9, 10] N (fun q bv nv kv wr => ∃ (k n : Nat) (O H : List Nat), q = N - k ∧ k ≤ N ∧ nv = .int .i64 n ∧ kv = .int .i64 k ∧ HasI wr bv (natI O) ∧ FarV gh bv ∧ DrM w wr m kk s ao L cap gb gh wh H ∧ Sg.Mdl (gp m kk s es) tk k O H n)
 case atStart => exact ⟨0, 1, _, _, rfl, Nat.zero_le _, rfl, rfl, H4.out.2, HF0.out, H4.out.1, Sg.Mdl.begin (gp m kk s es) tk⟩
 case round =>
  obtain ⟨k, n, O, H, rfl, hk, rfl, rfl, hI, hF, hD, hM⟩ := hrel
  obtain ⟨w6, rfl⟩ : ∃ w6, w6 = wr := ⟨_, rfl⟩
  obtain ⟨a7, c7, rfl, _⟩ := id hI
  have hOn : (natI O).length = m := by simp [natI]; exact hM.lo
  rw [hOn] at hI hF ⊢
  have hnb : n ≤ 1000001 := by have := hM.nb; omega
  by_cases hkN : k < N
  ·obtain ⟨l, hl⟩ : ∃ l, tk[k]? = some l := ⟨tk[k]'(by have := H1.out.2.2.2.2.2.2.2.1; omega), List.getElem?_eq_getElem _⟩
   obtain ⟨at_, al, cl, hta, ct, hIl⟩ := H1.out.2.2.2.2.2.2.1.row hD.bl hl
   subst hta
   have hll := H1.out.2.2.2.2.2.2.2.2.1 l (List.mem_of_getElem? hl)
   obtain ⟨Ln, hLn⟩ : ∃ Ln, Ln = l.length := ⟨_, rfl⟩
   rw [← hLn] at ct hIl
   have hHI : HasI w6 (.slice (some ⟨gh, 0, none⟩) m m) (natI H) := by
    obtain ⟨cs, h6, h7⟩ := hD.hp.ids
    exact hasI_blk hM.lh h6 h7
   have hTk := fun first => docTaking_any (.slice al Ln cl) (.slice a7 m c7) (.slice (some ⟨gh, 0, none⟩) m m) l O H m first w6 hIl hI hHI hm hM.lo hM.lh hll
   have q0 : (0 : Int) ≤ (k : Int) := by omega
   have q1 : (k : Int) < (N : Int) := by omega
   have HR : Hid _ := And.intro hI (And.intro hF (And.intro hD (And.intro hM (And.intro hTk hl))))
   clear hI hF hD hM hTk hIl hHI hll hl hLn hOn
   by_cases hk0 : k = 0
   ·have d0 : ((k : Int) == 0) = true := by simp; omega
    have HK : Hid _ := hk0
    clear hk0
    go_wp2_with fail
    refine Calls.mono (HR.out.2.2.2.2.1 true) ?_
    rintro r w7 ⟨vi, vr, ok, rfl, ⟨ai, ni, ci, rfl, hfi⟩, ⟨ar, nr, cr, rfl, hfr⟩, hb7, hiff, hB⟩
    cases ok with
    | false =>
      have hD7 := HR.out.2.2.1.below hb7
      have hno := HR.out.2.2.2.1.stop HR.out.2.2.2.2.2 (by rw [decide_eq_true HK.out]; exact fun h => by have := hiff.2 h; cases this)
      have HZ : Hid _ := And.intro hD7 hno
      obtain ⟨y0, y1, y2, y3⟩ := four_cells hD7.bb
      obtain ⟨t0, t1, t2, t3⟩ := four_cells hD7.rb
      have z0 := blk_free hD7.rb 0
      have z1 := blk_free hD7.rb 1
      have z2 := blk_free hD7.rb 2
      have z3 := blk_free hD7.rb 3
      have n0 : ¬ gb = w.heap.size + 1 := by have := hD7.lo; omega
      have n1 : ¬ w.heap.size + 1 = gb := by have := hD7.lo; omega
      clear hD7 hno hb7 hiff hB hfi hfr
      go_wp2_with fail
      go_region
      have hgf := four_set (a0 := .int .i64 15) (a1 := .int .i64 0) (a2 := .int .i64 0) (a3 := .string strB1) HZ.out.1.rb
      have hbf := four_below HZ.out.1.bl (b := w.heap.size + 1) (by omega) (.int .i64 15) (.int .i64 0) (.int .i64 0) (.string strB1)
      generalize ((((w7.setCell ⟨w.heap.size + 1, 0, none⟩ (.int .i64 15)).setCell ⟨w.heap.size + 1, 1, none⟩ (.int .i64 0)).setCell ⟨w.heap.size + 1, 2, none⟩ (.int .i64 0)).setCell ⟨w.heap.size + 1, 3, none⟩ (.string strB1)) = wf at hgf hbf ⊢
      obtain ⟨c0, c1, c2, c3⟩ := four_cells hgf
      (try go_wp2_with fail)
      refine bodyPost_ret (v := .tuple #[.slice none 0 0, .agg #[.int .i64 15, .int .i64 0, .int .i64 0, .string strB1]]) (by simp [results, Tryz.results20, go_sem, c0, c1, c2, c3]) rfl ?_
      unfold DrAns
      rw [HZ.out.2]
      exact ⟨hbf.drew, rfl⟩
    | true =>
      obtain ⟨hBi, hBr⟩ := hB rfl
      obtain ⟨gi, hgi, hci⟩ := id hBi
      injection hgi with e1 e2 e3
      have e2' := e2.symm
      have e3' := e3.symm
      clear e2 e3
      subst e1; subst e2'; subst e3'
      have hTok := hiff.1 rfl
      have hSp := docSplit_any m kk s (.slice ao L cap) (.slice a7 m c7) (.slice (some ⟨gi, 0, none⟩) m m) es O (Sg.inB l) w7 (hasE_hasR H1.out.2.2.2.2.2.1 (bel6 hb7 HR.out.2.2.1.bl)) (HR.out.1.below hb7) hBi HR.out.2.2.2.1.lo HR.out.2.2.2.1.le H1.out.2.2.2.2.2.2.2.2.2.1
      unfold sysV at hSp
      obtain ⟨x0, x1, x2, x3⟩ := four_cells (HR.out.2.2.1.below hb7).sb
      have HS : Hid _ := And.intro hSp (And.intro hb7 hTok)
      clear hSp hb7 hiff hB hBi hBr hfi hfr hci hTok
      go_wp2_with fail
      refine Calls.mono HS.out.1 ?_
      rintro r w8 ⟨u, O', rfl, hI8, hE8, hb8, hf8⟩
      obtain ⟨au, cu, hu, _⟩ := id hI8
      subst hu
      have hfar : FarV gh (.slice au (natI O').length cu) := by
       rcases hf8 with h | h
       ·rw [h]; exact HR.out.2.1
       ·intro a n c e
        have h1 := h a n c e
        have h2 := HR.out.2.2.1.hp.lt
        have h3 := HS.out.2.1.size
        omega
      have H8 : Hid _ := And.intro hI8 (And.intro hfar (And.intro ((HR.out.2.2.1.below HS.out.2.1).below hb8) hE8))
      clear hI8 hE8 hb8 hf8 hfar x0 x1 x2 x3
      obtain ⟨nu, hnu⟩ : ∃ nu, nu = (natI O').length := ⟨_, rfl⟩
      rw [← hnu] at H8 ⊢
      clear hnu
      go_wp2_with fail
      go_roundg (N - (k + 1))
      case measure => omega
      case rel =>
       refine ⟨k + 1, n, O', H, rfl, by omega, rfl, by go_num, H8.out.1, H8.out.2.1, H8.out.2.2.1, ?_⟩
       have h1 := HR.out.2.2.2.1
       have h2 := HR.out.2.2.2.2.2
       rw [HK.out] at h1 h2 ⊢
       exact h1.first H1.out.2.2.2.2.2.2.2.2.2.1 h2 HS.out.2.2 H8.out.2.2.2
   ·have d0 : ((k : Int) == 0) = false := by simp; omega
    have HK : Hid _ := hk0
    clear hk0
    go_wp2_with fail
    refine Calls.mono (HR.out.2.2.2.2.1 false) ?_
    rintro r w7 ⟨vi, vr, ok, rfl, ⟨ai, ni, ci, rfl, hfi⟩, ⟨ar, nr, cr, rfl, hfr⟩, hb7, hiff, hB⟩
    cases ok with
    | false =>
      have hD7 := HR.out.2.2.1.below hb7
      have hno := HR.out.2.2.2.1.stop HR.out.2.2.2.2.2 (by rw [decide_eq_false HK.out]; exact fun h => by have := hiff.2 h; cases this)
      have HZ : Hid _ := And.intro hD7 hno
      obtain ⟨y0, y1, y2, y3⟩ := four_cells hD7.bb
      obtain ⟨t0, t1, t2, t3⟩ := four_cells hD7.rb
      have z0 := blk_free hD7.rb 0
      have z1 := blk_free hD7.rb 1
      have z2 := blk_free hD7.rb 2
      have z3 := blk_free hD7.rb 3
      have n0 : ¬ gb = w.heap.size + 1 := by have := hD7.lo; omega
      have n1 : ¬ w.heap.size + 1 = gb := by have := hD7.lo; omega
      clear hD7 hno hb7 hiff hB hfi hfr
      go_wp2_with fail
      go_region
      have hgf := four_set (a0 := .int .i64 15) (a1 := .int .i64 0) (a2 := .int .i64 0) (a3 := .string strB1) HZ.out.1.rb
      have hbf := four_below HZ.out.1.bl (b := w.heap.size + 1) (by omega) (.int .i64 15) (.int .i64 0) (.int .i64 0) (.string strB1)
      generalize ((((w7.setCell ⟨w.heap.size + 1, 0, none⟩ (.int .i64 15)).setCell ⟨w.heap.size + 1, 1, none⟩ (.int .i64 0)).setCell ⟨w.heap.size + 1, 2, none⟩ (.int .i64 0)).setCell ⟨w.heap.size + 1, 3, none⟩ (.string strB1)) = wf at hgf hbf ⊢
      obtain ⟨c0, c1, c2, c3⟩ := four_cells hgf
      (try go_wp2_with fail)
      refine bodyPost_ret (v := .tuple #[.slice none 0 0, .agg #[.int .i64 15, .int .i64 0, .int .i64 0, .string strB1]]) (by simp [results, Tryz.results20, go_sem, c0, c1, c2, c3]) rfl ?_
      unfold DrAns
      rw [HZ.out.2]
      exact ⟨hbf.drew, rfl⟩
    | true =>
      obtain ⟨hBi, hBr⟩ := hB rfl
      obtain ⟨gi, hgi, _⟩ := id hBi
      injection hgi with e1 e2 e3
      have e2' := e2.symm
      have e3' := e3.symm
      clear e2 e3
      subst e1; subst e2'; subst e3'
      obtain ⟨gr, hgr, _⟩ := id hBr
      injection hgr with e1 e2 e3
      have e2' := e2.symm
      have e3' := e3.symm
      clear e2 e3
      subst e1; subst e2'; subst e3'
      have hTok := hiff.1 rfl
      have hg7 := HR.out.2.2.1.hp.lt
      have hfi7 : FarV gh (.slice (some ⟨gi, 0, none⟩) m m) := fun a n c e => by
       injection e with h1; injection h1 with h1; rw [← h1]
       have := hfi ⟨gi, 0, none⟩ rfl
       simp at this ⊢; omega
      have hfr7 : FarV gh (.slice (some ⟨gr, 0, none⟩) m m) := fun a n c e => by
       injection e with h1; injection h1 with h1; rw [← h1]
       have := hfr ⟨gr, 0, none⟩ rfl
       simp at this ⊢; omega
      have hD7 := HR.out.2.2.1.below hb7
      rw [← Sg.hUp_zero l n HR.out.2.2.2.1.lh] at hD7
      have HS : Hid _ := And.intro hD7 (And.intro (HR.out.1.below hb7) (And.intro hBi (And.intro hBr (And.intro hfi7 (And.intro hfr7 hTok)))))
      clear hD7 hb7 hiff hB hBi hBr hfi hfr hTok hfi7 hfr7 hg7
      go_wp2_with fail
      go_loopg [14] m (fun q iv wr => ∃ i : Nat, q = m - i ∧ i ≤ m ∧ iv = .int .i64 i ∧ DrM w wr m kk s ao L cap gb gh wh (Sg.hUp m H l n i) ∧ HasI wr (.slice a7 m c7) (natI O) ∧ HasB wr (.slice (some ⟨gi, 0, none⟩) m m) m (Sg.inB l) ∧ HasB wr (.slice (some ⟨gr, 0, none⟩) m m) m (Sg.restB H l (l.headD 0).toNat))
      case atStart => exact ⟨0, rfl, Nat.zero_le _, rfl, HS.out.1, HS.out.2.1, HS.out.2.2.1, HS.out.2.2.2.1⟩
      case round =>
       obtain ⟨i, rfl, hi, rfl, hD, hI, hBi, hBr⟩ := hrel
       obtain ⟨w8, rfl⟩ : ∃ w8, w8 = wr := ⟨_, rfl⟩
       obtain ⟨x0, x1, x2, x3⟩ := four_cells hD.sb
       by_cases him : i < m
       ·obtain ⟨g', hg', hci⟩ := id hBi
        injection hg' with e1 e2 e3
        injection e1 with e1
        injection e1 with e1
        subst e1
        have ci := hci i him
        have cx := hD.hp.cell (i := i) (by unfold natC; rw [List.getElem?_map, Sg.hUp_at _ _ _ _ him]; rfl)
        have cf := hD.hp.free i
        obtain ⟨bi, hbi⟩ : ∃ bi, bi = Sg.inB l i := ⟨_, rfl⟩
        rw [← hbi] at ci
        have q2 : (0 : Int) ≤ (i : Int) := by omega
        have q3 : (i : Int) < (m : Int) := by omega
        have HD : Hid _ := And.intro hD (And.intro hI (And.intro hBi (And.intro hBr hbi)))
        clear hD hI hBi hBr hbi hci e2 e3
        cases bi with
        | true =>
          go_wp2_with fail
          go_roundg (m - (i + 1))
          case measure => omega
          case rel => exact ⟨i + 1, rfl, by omega, by go_num, by rw [Sg.hUp_yes him HD.out.2.2.2.2.symm]; exact HD.out.1.put i n, HD.out.2.1.far HR.out.2.1, HD.out.2.2.1.far HS.out.2.2.2.2.1, HD.out.2.2.2.1.far HS.out.2.2.2.2.2.1⟩
        | false =>
          go_wp2_with fail
          go_roundg (m - (i + 1))
          case measure => omega
          case rel => exact ⟨i + 1, rfl, by omega, by go_num, by rw [Sg.hUp_no HD.out.2.2.2.2.symm]; exact HD.out.1, HD.out.2.1, HD.out.2.2.1, HD.out.2.2.2.1⟩
       ·obtain rfl : i = m := by omega
        have q3 : ¬ (i : Int) < (i : Int) := by omega
        have hSp1 := fun W (hb : Below w8.heap.size w8 W) => docSplit_any i kk s (.slice ao L cap) (.slice a7 i c7) (.slice (some ⟨gi, 0, none⟩) i i) es O (Sg.inB l) W (hasE_hasR H1.out.2.2.2.2.2.1 (bel6 hb hD.bl)) (hI.below hb) (hBi.below hb) HR.out.2.2.2.1.lo HR.out.2.2.2.1.le H1.out.2.2.2.2.2.2.2.2.2.1
        have hSp2 := fun W u O1 (hb : Below w8.heap.size w8 W) (hu : HasI W u (natI O1)) (hE : Sg.EqO i es (Sg.inB l) O O1 kk) => docSplit_any i kk s (.slice ao L cap) u (.slice (some ⟨gr, 0, none⟩) i i) es O1 (Sg.restB H l (l.headD 0).toNat) W (hasE_hasR H1.out.2.2.2.2.2.1 (bel6 hb hD.bl)) hu (hBr.below hb) hE.len hE.le H1.out.2.2.2.2.2.2.2.2.2.1
        unfold sysV at hSp1 hSp2
        have HD : Hid _ := And.intro hD (And.intro hSp1 hSp2)
        clear hD hI hBi hBr hSp1 hSp2
        go_upto_region 21 with fail
        refine wp_region_held_drew (S := (fun w' => w'.cell? ⟨w.heap.size, 0, none⟩ = some (.int .i64 i) ∧ w'.cell? ⟨w.heap.size, 1, none⟩ = some (.int .i64 kk) ∧ w'.cell? ⟨w.heap.size, 2, none⟩ = some (.int .i64 s) ∧ w'.cell? ⟨w.heap.size, 3, none⟩ = some (.slice ao L cap))) (by kernel_rfl) ?_ (fun hHeld => ?_)
        ·exact ⟨x0, x1, x2, x3⟩
        refine tk9 0 ?_ rfl (by kernel_rfl) (fun _ _ _ h => h) ⟨by rfl, ?_⟩ (by assumption) ?_; rotate_left; (focus (intro w hSw; (try dsimp only at hSw); go_simp; (try with_reducible rfl))); (try simp only [ty9, Act.put])
        refine tk9 1 ?_ rfl (by kernel_rfl) (fun _ _ _ h => h) ⟨by rfl, ?_⟩ (by assumption) ?_; rotate_left; (focus (intro w hSw; (try dsimp only at hSw); go_simp; (try with_reducible rfl))); (try simp only [ty9, Act.put])
        refine tk9 2 ?_ rfl (by kernel_rfl) (fun _ _ _ h => h) ⟨by rfl, ?_⟩ (by assumption) ?_; rotate_left; (focus (intro w hSw; (try dsimp only at hSw); go_simp; (try with_reducible rfl))); (try simp only [ty9, Act.put])
        refine tk9 3 ?_ rfl (by kernel_rfl) (fun _ _ _ h => h) ⟨by rfl, ?_⟩ (by assumption) ?_; rotate_left; (focus (intro w hSw; (try dsimp only at hSw); go_simp; (try with_reducible rfl))); (try simp only [ty9, Act.put])
        refine tk9 5 ?_ rfl (by kernel_rfl) (fun _ _ _ h => h) ⟨by rfl, ?_⟩ (by assumption) ?_; rotate_left; (focus (intro w hSw; (try dsimp only at hSw); go_simp; (try with_reducible rfl))); (try simp only [ty9, Act.put])
        refine wpAnyH_ready (rs := [4]) (by kernel_rfl) (by simp) ?_
        refine AllReadyH.cons (o := _) rfl (fun K hK => ?_) ?_
        ·(go_simp; go_at_call 46; refine Calls.mono (HD.out.2.1 _ ((Below.refl _ _).drew)) ?_; rintro r w9 ⟨u, O1, rfl, hI9, hE9, hb9, hf9⟩; obtain ⟨au, cu, hu, _⟩ := id hI9; subst hu; have H9 : Hid _ := And.intro hI9 (And.intro hE9 (And.intro ((Below.refl w8.heap.size w8).drew.trans hb9) hf9)); clear hI9 hE9 hb9 hf9; have hD9 := HD.out.1.below H9.out.2.2.1; obtain ⟨x0, x1, x2, x3⟩ := four_cells hD9.sb; obtain ⟨n9, hn9⟩ : ∃ n9, n9 = (natI O1).length := ⟨_, rfl⟩; rw [← hn9] at H9 ⊢; clear hn9 hD9)
         (try go_wp2_with fail)
         refine hK.out _ _ ?_ (fun hHeld => ?_)
         ·exact ⟨x0, x1, x2, x3⟩
         clear hK K
         (try simp only [ty9, Act.put])
         refine wpAnyH_ready (rs := [6]) (by kernel_rfl) (by simp) ?_
         refine AllReadyH.cons (o := _) rfl (fun K hK => ?_) ?_
         ·(go_simp; go_at_call 46; refine Calls.mono (HD.out.2.2 _ _ _ H9.out.2.2.1 H9.out.1 H9.out.2.1) ?_; rintro r wa ⟨u, O2, rfl, hIa, hEa, hba, hfa⟩; obtain ⟨au2, cu2, hu, _⟩ := id hIa; subst hu; have H10 : Hid _ := And.intro hIa (And.intro hEa (And.intro hba hfa)); clear hIa hEa hba hfa; have hDa := (HD.out.1.below H9.out.2.2.1).below H10.out.2.2.1; obtain ⟨x0, x1, x2, x3⟩ := four_cells hDa.sb; obtain ⟨na, hna⟩ : ∃ na, na = (natI O2).length := ⟨_, rfl⟩; rw [← hna] at H10 ⊢; have HDa : Hid _ := hDa; clear hna hDa)
          (try go_wp2_with fail)
          refine hK.out _ _ ?_ (fun hHeld => ?_)
          ·exact ⟨x0, x1, x2, x3⟩
          clear hK K
          (try simp only [ty9, Act.put])
          refine tk9 7 ?_ rfl (by kernel_rfl) (fun _ _ _ h => h) ⟨by rfl, ?_⟩ (by assumption) ?_; rotate_left; (focus (intro w hSw; (try dsimp only at hSw); go_simp; (try with_reducible rfl))); (try simp only [ty9, Act.put])
          refine wpAnyH_done (by kernel_rfl) ?_ _
          (try go_simp)
          go_wp2_with fail
          go_roundg (N - (k + 1))
          case measure => omega
          case rel =>
           refine ⟨k + 1, n + 1, O2, _, rfl, by omega, by go_num, by go_num, H10.out.1, ?_, HDa.out, HR.out.2.2.2.1.next H1.out.2.2.2.2.2.2.2.2.2.1 (Nat.pos_of_ne_zero HK.out) HR.out.2.2.2.2.2 HS.out.2.2.2.2.2.2 H9.out.2.1 H10.out.2.1⟩
           have g1 := HR.out.2.2.1.hp.lt
           have g2 := HD.out.1.hp.lt
           have g3 := H9.out.2.2.1.size
           rcases H10.out.2.2.2 with h | h
           ·rw [h]
            rcases H9.out.2.2.2 with h5 | h5
            ·rw [h5]; exact HR.out.2.1
            ·intro a n c e; have h1 := h5 a n c e; simp at h1; omega
           ·intro a n c e; have h1 := h a n c e; omega
         exact AllReadyH.nil
        exact AllReadyH.nil
  ·obtain rfl : k = N := by omega
   have q1 : ¬ (k : Int) < (k : Int) := by omega
   have hKl := H1.out.2.2.2.2.2.2.2.1
   rw [hKl] at hM
   have hfin := hM.fin (fun h0 ht st hst => (mRun_len H1.out.2.2.2.2.2.2.2.2.2.1 hst))
   rw [← hKl] at hM
   have hTg := refTogether_any (.slice a7 m c7) (natI O) w6 hI (by rw [hOn]; omega)
   rw [together_nat] at hTg
   obtain ⟨x0, x1, x2, x3⟩ := four_cells hD.sb
   obtain ⟨dn, hdn⟩ : ∃ dn, dn = (Ro.dd O).length := ⟨_, rfl⟩
   rw [← hdn] at hTg
   have hCn := fun W (hb : Below w6.heap.size w6 W) => refCanon_any (.slice a7 m c7) (natI O) W (hI.below hb) (by rw [hOn]; omega)
   rw [show Sy.canon (natI O) = Ro.num O from Sg.canon_nat O] at hCn
   have HE : Hid _ := And.intro hI (And.intro hD (And.intro hM (And.intro hfin (And.intro hTg (And.intro hdn (And.intro hKl (And.intro hOn hCn)))))))
   clear hI hF hD hM hfin hTg hdn hKl hOn hCn
   by_cases hm0 : m = 0
   ·have g1 : decide ((0 : Int) < (m : Int)) = false := by simp; omega
    have g2 : decide (0 < m) = false := by simp; omega
    have htk : tk = [] := by
     have h1 := HE.out.2.2.2.2.2.2.1
     by_cases h2 : tk = []
     ·exact h2
     ·have h3 : 0 < k := by rw [h1]; cases tk with | nil => exact absurd rfl h2 | cons a r => simp
      obtain ⟨st, hst, _⟩ := HE.out.2.2.1.pos h3
      have h4 := mRun_pos H1.out.2.2.2.2.2.2.2.2.2.1 hst
      have h5 : (gp m kk s es).n = m := rfl
      omega
    have hok : Sg.mReplay (gp m kk s es) tk = some (Ro.num O) := by
     rw [HE.out.2.2.2.1, if_pos (show (gp m kk s es).n = 0 from hm0), if_pos htk]
     have h1 := HE.out.2.2.1.lo
     have h2 : O = [] := List.length_eq_zero_iff.1 (h1.trans hm0)
     rw [h2]; rfl
    have HOK : Hid _ := hok
    clear hm0 htk hok
    go_wp2_with fail
    refine Calls.mono (HE.out.2.2.2.2.2.2.2.2 w6 (Below.refl _ _)) ?_
    rintro r w8 ⟨u, rfl, hu, hb8⟩
    obtain ⟨au, cu, hs⟩ := row_shape hu
    subst hs
    have hD8 := (HE.out.2.1.below (Below.refl _ _)).below hb8
    have hfu : FarV (w.heap.size + 1) (.slice au (natI (Ro.num O)).length cu) := own_far hu (by have h7 := t_lt HE.out.2.1.rb; have h8 := ((Below.refl _ _) : Below w6.heap.size w6 _).size; omega)
    have HZ : Hid _ := And.intro hD8 hu.has
    obtain ⟨t0, t1, t2, t3⟩ := four_cells hD8.rb
    have z0 := blk_free hD8.rb 0
    have z1 := blk_free hD8.rb 1
    have z2 := blk_free hD8.rb 2
    have z3 := blk_free hD8.rb 3
    obtain ⟨nu, hnu⟩ : ∃ nu, nu = (natI (Ro.num O)).length := ⟨_, rfl⟩
    rw [← hnu] at HZ hfu ⊢
    have HFu : Hid _ := hfu
    clear hD8 hu hb8 hnu hfu
    go_wp2_with fail
    have hgf := four_set (a0 := .int .i64 0) (a1 := .int .i64 0) (a2 := .int .i64 0) (a3 := .string ⟨#[]⟩) HZ.out.1.rb
    have hbf := four_below HZ.out.1.bl (b := w.heap.size + 1) (by omega) (.int .i64 0) (.int .i64 0) (.int .i64 0) (.string ⟨#[]⟩)
    have hIf : HasI ((((w8.setCell ⟨w.heap.size + 1, 0, none⟩ (.int .i64 0)).setCell ⟨w.heap.size + 1, 1, none⟩ (.int .i64 0)).setCell ⟨w.heap.size + 1, 2, none⟩ (.int .i64 0)).setCell ⟨w.heap.size + 1, 3, none⟩ (.string ⟨#[]⟩)) (.slice au nu cu) (natI (Ro.num O)) := (((HZ.out.2.far HFu.out).far HFu.out).far HFu.out).far HFu.out
    generalize ((((w8.setCell ⟨w.heap.size + 1, 0, none⟩ (.int .i64 0)).setCell ⟨w.heap.size + 1, 1, none⟩ (.int .i64 0)).setCell ⟨w.heap.size + 1, 2, none⟩ (.int .i64 0)).setCell ⟨w.heap.size + 1, 3, none⟩ (.string ⟨#[]⟩)) = wf at hgf hbf hIf ⊢
    obtain ⟨c0, c1, c2, c3⟩ := four_cells hgf
    (try go_wp2_with fail)
    refine bodyPost_ret (v := .tuple #[.slice au nu cu, .agg #[.int .i64 0, .int .i64 0, .int .i64 0, .string ⟨#[]⟩]]) (by simp [results, Tryz.results20, go_sem, c0, c1, c2, c3]) rfl ?_
    unfold DrAns
    rw [HOK.out]
    exact ⟨hbf, _, _, _, rfl, hIf⟩
   ·have g1 : decide ((0 : Int) < (m : Int)) = true := by simp; omega
    have g2 : decide (0 < m) = true := by simp; omega
    by_cases hk0 : k = 0
    ·have d0 : ((k : Int) == 0) = true := by simp; omega
     have hno : Sg.mReplay (gp m kk s es) tk = none := by
      rw [HE.out.2.2.2.1, if_neg (show ¬ (gp m kk s es).n = 0 from hm0), if_pos (.inl (List.length_eq_zero_iff.1 (HE.out.2.2.2.2.2.2.1.symm.trans hk0)))]
     have hD7 := HE.out.2.1
     have HZ : Hid _ := And.intro hD7 hno
     obtain ⟨y0, y1, y2, y3⟩ := four_cells hD7.bb
     obtain ⟨t0, t1, t2, t3⟩ := four_cells hD7.rb
     have z0 := blk_free hD7.rb 0
     have z1 := blk_free hD7.rb 1
     have z2 := blk_free hD7.rb 2
     have z3 := blk_free hD7.rb 3
     have n0 : ¬ gb = w.heap.size + 1 := by have := hD7.lo; omega
     have n1 : ¬ w.heap.size + 1 = gb := by have := hD7.lo; omega
     clear hD7 hno hm0 hk0
     go_wp2_with fail
     go_region
     have hgf := four_set (a0 := .int .i64 15) (a1 := .int .i64 0) (a2 := .int .i64 0) (a3 := .string strB1) HZ.out.1.rb
     have hbf := four_below HZ.out.1.bl (b := w.heap.size + 1) (by omega) (.int .i64 15) (.int .i64 0) (.int .i64 0) (.string strB1)
     generalize ((((w6.setCell ⟨w.heap.size + 1, 0, none⟩ (.int .i64 15)).setCell ⟨w.heap.size + 1, 1, none⟩ (.int .i64 0)).setCell ⟨w.heap.size + 1, 2, none⟩ (.int .i64 0)).setCell ⟨w.heap.size + 1, 3, none⟩ (.string strB1)) = wf at hgf hbf ⊢
     obtain ⟨c0, c1, c2, c3⟩ := four_cells hgf
     (try go_wp2_with fail)
     refine bodyPost_ret (v := .tuple #[.slice none 0 0, .agg #[.int .i64 15, .int .i64 0, .int .i64 0, .string strB1]]) (by simp [results, Tryz.results20, go_sem, c0, c1, c2, c3]) rfl ?_
     unfold DrAns
     rw [HZ.out.2]
     exact ⟨hbf.drew, rfl⟩
    ·have d0 : ((k : Int) == 0) = false := by simp; omega
     have htk : tk ≠ [] := fun h => hk0 (by rw [HE.out.2.2.2.2.2.2.1, h]; rfl)
     by_cases hdn : dn = n
     ·have d1 : ((dn : Int) != (n : Int)) = false := by simp [hdn]
      have hok : Sg.mReplay (gp m kk s es) tk = some (Ro.num O) := by
       rw [HE.out.2.2.2.1, if_neg (show ¬ (gp m kk s es).n = 0 from hm0), if_neg (fun h => h.elim htk (fun h => h (by rw [← HE.out.2.2.2.2.2.1]; exact hdn)))]
      have HOK : Hid _ := hok
      clear hm0 htk hok hk0 hdn
      go_wp2_with fail
      refine Calls.mono HE.out.2.2.2.2.1 ?_
      rintro r w7 ⟨rfl, hb7⟩
      have HB7 : Hid _ := hb7
      clear hb7
      go_wp2_with fail
      refine Calls.mono (HE.out.2.2.2.2.2.2.2.2 w7 HB7.out) ?_
      rintro r w8 ⟨u, rfl, hu, hb8⟩
      obtain ⟨au, cu, hs⟩ := row_shape hu
      subst hs
      have hD8 := (HE.out.2.1.below HB7.out).below hb8
      have hfu : FarV (w.heap.size + 1) (.slice au (natI (Ro.num O)).length cu) := own_far hu (by have h7 := t_lt HE.out.2.1.rb; have h8 := (HB7.out : Below w6.heap.size w6 _).size; omega)
      have HZ : Hid _ := And.intro hD8 hu.has
      obtain ⟨t0, t1, t2, t3⟩ := four_cells hD8.rb
      have z0 := blk_free hD8.rb 0
      have z1 := blk_free hD8.rb 1
      have z2 := blk_free hD8.rb 2
      have z3 := blk_free hD8.rb 3
      obtain ⟨nu, hnu⟩ : ∃ nu, nu = (natI (Ro.num O)).length := ⟨_, rfl⟩
      rw [← hnu] at HZ hfu ⊢
      have HFu : Hid _ := hfu
      clear hD8 hu hb8 hnu hfu
      go_wp2_with fail
      have hgf := four_set (a0 := .int .i64 0) (a1 := .int .i64 0) (a2 := .int .i64 0) (a3 := .string ⟨#[]⟩) HZ.out.1.rb
      have hbf := four_below HZ.out.1.bl (b := w.heap.size + 1) (by omega) (.int .i64 0) (.int .i64 0) (.int .i64 0) (.string ⟨#[]⟩)
      have hIf : HasI ((((w8.setCell ⟨w.heap.size + 1, 0, none⟩ (.int .i64 0)).setCell ⟨w.heap.size + 1, 1, none⟩ (.int .i64 0)).setCell ⟨w.heap.size + 1, 2, none⟩ (.int .i64 0)).setCell ⟨w.heap.size + 1, 3, none⟩ (.string ⟨#[]⟩)) (.slice au nu cu) (natI (Ro.num O)) := (((HZ.out.2.far HFu.out).far HFu.out).far HFu.out).far HFu.out
      generalize ((((w8.setCell ⟨w.heap.size + 1, 0, none⟩ (.int .i64 0)).setCell ⟨w.heap.size + 1, 1, none⟩ (.int .i64 0)).setCell ⟨w.heap.size + 1, 2, none⟩ (.int .i64 0)).setCell ⟨w.heap.size + 1, 3, none⟩ (.string ⟨#[]⟩)) = wf at hgf hbf hIf ⊢
      obtain ⟨c0, c1, c2, c3⟩ := four_cells hgf
      (try go_wp2_with fail)
      refine bodyPost_ret (v := .tuple #[.slice au nu cu, .agg #[.int .i64 0, .int .i64 0, .int .i64 0, .string ⟨#[]⟩]]) (by simp [results, Tryz.results20, go_sem, c0, c1, c2, c3]) rfl ?_
      unfold DrAns
      rw [HOK.out]
      exact ⟨hbf, _, _, _, rfl, hIf⟩
     ·have d1 : ((dn : Int) != (n : Int)) = true := by simp; omega
      have hno : Sg.mReplay (gp m kk s es) tk = none := by
       rw [HE.out.2.2.2.1, if_neg (show ¬ (gp m kk s es).n = 0 from hm0), if_pos (.inr (by rw [← HE.out.2.2.2.2.2.1]; exact hdn))]
      clear hm0 htk hk0 hdn
      go_wp2_with fail
      refine Calls.mono HE.out.2.2.2.2.1 ?_
      rintro r w7 ⟨rfl, hb7⟩
      have hD7 := HE.out.2.1.below hb7
      have HZ : Hid _ := And.intro hD7 hno
      obtain ⟨y0, y1, y2, y3⟩ := four_cells hD7.bb
      obtain ⟨t0, t1, t2, t3⟩ := four_cells hD7.rb
      have z0 := blk_free hD7.rb 0
      have z1 := blk_free hD7.rb 1
      have z2 := blk_free hD7.rb 2
      have z3 := blk_free hD7.rb 3
      have n0 : ¬ gb = w.heap.size + 1 := by have := hD7.lo; omega
      have n1 : ¬ w.heap.size + 1 = gb := by have := hD7.lo; omega
      clear hD7 hno hb7
      go_wp2_with fail
      go_region
      have hgf := four_set (a0 := .int .i64 15) (a1 := .int .i64 0) (a2 := .int .i64 0) (a3 := .string strB1) HZ.out.1.rb
      have hbf := four_below HZ.out.1.bl (b := w.heap.size + 1) (by omega) (.int .i64 15) (.int .i64 0) (.int .i64 0) (.string strB1)
      generalize ((((w7.setCell ⟨w.heap.size + 1, 0, none⟩ (.int .i64 15)).setCell ⟨w.heap.size + 1, 1, none⟩ (.int .i64 0)).setCell ⟨w.heap.size + 1, 2, none⟩ (.int .i64 0)).setCell ⟨w.heap.size + 1, 3, none⟩ (.string strB1)) = wf at hgf hbf ⊢
      obtain ⟨c0, c1, c2, c3⟩ := four_cells hgf
      (try go_wp2_with fail)
      refine bodyPost_ret (v := .tuple #[.slice none 0 0, .agg #[.int .i64 15, .int .i64 0, .int .i64 0, .string strB1]]) (by simp [results, Tryz.results20, go_sem, c0, c1, c2, c3]) rfl ?_
      unfold DrAns
      rw [HZ.out.2]
      exact ⟨hbf.drew, rfl⟩
set_option maxRecDepth 100000 in
set_option maxHeartbeats 4000000 in
theorem docReplay_bad (n k s : Int) (v vt : Value) (es : List Sy.Ed) (tk : List (List Int)) (w : World) (hv : HasE w v es) (ht : HasR w vt tk) (hq : Sy.right n k s es = false) :
 Calls Tryz.prog 20 #[sysV n k s v, vt] w fun e w' => e = .returned (.tuple #[.slice none 0 0, .agg #[.int .i64 14, .int .i64 0, .int .i64 0, .string strB2]]) ∧ Below w.heap.size w w' := by
 obtain ⟨ao, cap, rfl, hcap, hH⟩ := hv
 obtain ⟨ta, tc, rfl, _⟩ := ht
 obtain ⟨L, hL⟩ : ∃ L, L = es.length := ⟨_, rfl⟩
 obtain ⟨N, hN⟩ : ∃ N, N = tk.length := ⟨_, rfl⟩
 obtain ⟨w1, hw1⟩ : ∃ w1, w1 = (w.alloc (.cells #[.int .i64 n, .int .i64 k, .int .i64 s, .slice ao L cap] 24)).alloc (.cells #[.int .i64 0, .int .i64 0, .int .i64 0, .string ⟨#[]⟩] 34) := ⟨_, rfl⟩
 have hb1 : Below w.heap.size w w1 := by rw [hw1]; exact ((Below.refl _ _).alloc (Nat.le_refl _) _).alloc (by simp) _
 have hg1 : w1.heap[w.heap.size]? = some (.cells #[.int .i64 n, .int .i64 k, .int .i64 s, .slice ao L cap] 24 (0, 0)) := by
  rw [hw1]
  exact res_up6 ((Below.refl _ _).alloc (Nat.le_refl _) _) (heap_alloc_new w _)
 have hg2 : w1.heap[w.heap.size + 1]? = some (.cells #[.int .i64 0, .int .i64 0, .int .i64 0, .string ⟨#[]⟩] 34 (0, 0)) := by rw [hw1]; exact two_alloc w _ _
 have hRi := right_any n k s _ es w1 (hH.below hb1)
 have hHd := fun W (hb : Below w1.heap.size w1 W) => handed_str n k s _ es W ((hH.below hb1).below hb)
 rw [hq] at hRi hHd
 rw [← hL] at hRi hHd ⊢
 rw [← hN]
 unfold sysV at hRi hHd ⊢
 have H1 : Hid _ := And.intro hw1 (And.intro hb1 (And.intro hg1 (And.intro hg2 (And.intro hRi hHd))))
 obtain ⟨x0, x1, x2, x3⟩ := four_cells hg1
 clear hH hcap hw1 hb1 hg1 hg2 hRi hN hHd hq hL
 go_enter Tryz.func20, Tryz.ntmps20
 go_upto_region 1 with fail
 rw [← H1.out.1]
 go_wp2_with fail
 refine Calls.mono H1.out.2.2.2.2.1 ?_
 rintro r w2 ⟨rfl, hb2⟩
 have H2 : Hid (Below w1.heap.size w1 w2) := hb2
 clear x0 x1 x2 x3
 obtain ⟨x0, x1, x2, x3⟩ := four_cells (res_up6 hb2 H1.out.2.2.1)
 clear hb2
 go_wp2_with fail
 refine Calls.mono (H1.out.2.2.2.2.2 w2 H2.out) ?_
 rintro r w3 ⟨rfl, hb3⟩
 rw [show hndStr false = .agg #[.int .i64 14, .int .i64 0, .int .i64 0, .string strB2] from rfl]
 have hg3 := res_up6 (bel6 hb3 H2.out) H1.out.2.2.2.1
 obtain ⟨t0, t1, t2, t3⟩ := four_cells hg3
 have z0 := blk_free hg3 0
 have z1 := blk_free hg3 1
 have z2 := blk_free hg3 2
 have z3 := blk_free hg3 3
 have HZ : Hid _ := And.intro (bel6 (bel6 hb3 H2.out) H1.out.2.1) hg3
 clear hb3 hg3 x0 x1 x2 x3
 go_wp2_with fail
 have hgf := four_set (a0 := .int .i64 14) (a1 := .int .i64 0) (a2 := .int .i64 0) (a3 := .string strB2) HZ.out.2
 have hbf := four_below HZ.out.1 (b := w.heap.size + 1) (by omega) (.int .i64 14) (.int .i64 0) (.int .i64 0) (.string strB2)
 generalize ((((w3.setCell ⟨w.heap.size + 1, 0, none⟩ (.int .i64 14)).setCell ⟨w.heap.size + 1, 1, none⟩ (.int .i64 0)).setCell ⟨w.heap.size + 1, 2, none⟩ (.int .i64 0)).setCell ⟨w.heap.size + 1, 3, none⟩ (.string strB2)) = wf at hgf hbf ⊢
 obtain ⟨c0, c1, c2, c3⟩ := four_cells hgf
 exact bodyPost_ret (v := .tuple #[.slice none 0 0, .agg #[.int .i64 14, .int .i64 0, .int .i64 0, .string strB2]]) (by simp [results, Tryz.results20, go_sem, c0, c1, c2, c3]) rfl ⟨rfl, hbf⟩
end Go.Proofs.YtkiapldehlnndaaGreatDoor
/- strong: Replay of what is no system. -/
namespace Go.Proofs.YtkiapldehlnndaaGreatDoor
open Go.RowKit Go.Maps
attribute [local go_sem ↓] Go.wp_at_zero Go.wp_at_succ
set_option linter.unusedSimpArgs false in
set_option maxRecDepth 100000 in
set_option maxHeartbeats 4000000 in
theorem replay_bad (hS : SortOk 1000000) (n k s : Int) (v : Value) (ta : Option Addr) (tn tc : Nat) (es : List Sy.Ed) (a : Addr) (w : World) (hA : Sent w 0 a) (hv : BEdges.Has w v es) (hm : es.length ≤ 100000) (hq : Sy.right n k s es = false) :
 Calls Tryz.prog 19 #[sysV n k s v, .slice ta tn tc] w fun r w' => ∃ b, r = .returned (.tuple #[.slice none 0 0, .iface 76 (.pointer (some ⟨b, 0, none⟩))]) ∧ Chain w' 0 0 a [strB, sysB] (.iface 76 (.pointer (some ⟨b, 0, none⟩))) ∧ Below w.heap.size w w' := by
 have hv0 := hv
 obtain ⟨ao, cap, rfl, _⟩ := hv0
 obtain ⟨L, hL⟩ : ∃ L, L = es.length := ⟨_, rfl⟩
 obtain ⟨w1, hw1⟩ : ∃ w1, w1 = w.alloc (.cells #[.int .i64 n, .int .i64 k, .int .i64 s, .slice ao L cap] 24) := ⟨_, rfl⟩
 have hb1 : Below w.heap.size w w1 := by rw [hw1]; exact (Below.refl _ _).alloc (Nat.le_refl _) _
 have hg1 : w1.heap[w.heap.size]? = some (.cells #[.int .i64 n, .int .i64 k, .int .i64 s, .slice ao L cap] 24 (0, 0)) := by rw [hw1]; exact heap_alloc_new w _
 have hN := begin_bad hS n k s _ es a w1 (hA.below hb1) (hv.below hb1) hm hq
 rw [← hL] at hN ⊢
 unfold sysV at hN ⊢
 obtain ⟨x0, x1, x2, x3⟩ := four_cellsB hg1
 have H1 : Hid _ := And.intro hw1 (And.intro hb1 hN)
 clear hA hv hm hq hw1 hb1 hg1 hN hL
 go_enter Tryz.func19, Tryz.ntmps19
 go_upto_region 1 with fail
 rw [← H1.out.1]
 go_upto_region 3 with (go_at_call 37; refine Calls.mono H1.out.2.2 ?_; rintro r2 w2 ⟨T, u, rfl, hC2, hb2⟩; have H2 : Hid _ := And.intro hC2 hb2; clear hC2 hb2)
 have hFa := sfault_any T u w2 a [sysB] H2.out.1
 go_wp2_with (go_at_call 38; refine Calls.mono hFa ?_; rintro r3 w3 ⟨b, rfl, hC3, hb3⟩; have H3 : Hid _ := And.intro hC3 hb3; clear hC3 hb3)
 go_ret2
 exact ⟨b, rfl, H3.out.1, H1.out.2.1.trans ((H2.out.2.trans (H3.out.2.mono H2.out.2.size)).mono H1.out.2.1.size)⟩
end Go.Proofs.YtkiapldehlnndaaGreatDoor
