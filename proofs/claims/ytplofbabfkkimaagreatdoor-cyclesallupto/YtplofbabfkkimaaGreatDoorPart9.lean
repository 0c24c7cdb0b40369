/- Texts of this claim, joined: TsCyc2, TsBtw, TsCol0, TsOrd0, Shelf2, TsIns, TsEnd0, TsPre. -/
import Derived.Test.YtplofbabfkkimaaGreatDoorPart0
import Derived.Test.YtplofbabfkkimaaGreatDoorPart3
import Derived.Test.YtplofbabfkkimaaGreatDoorPart8
import Derived.Deep.LoopGhost
import Derived.Test.YtplofbabfkkimaaGreatDoorPart4
import Derived.Deep.AppendLies
import Derived.Ground.Names2Prog
import Derived.Shelf.Slices.SearchI
import Derived.Shelf.Slices.Empties
import Derived.Shelf.Spec.SlicesInsert
import Derived.Shelf.Spec.SlicesInsertGrow
import Derived.Test.YtplofbabfkkimaaGreatDoorProg
import Derived.Test.YtplofbabfkkimaaGreatDoorPart1
/- tauscc: the contract of cyclesOf. -/
namespace Go.Proofs.YtplofbabfkkimaaGreatDoor.Ts
open Go.RowKit Go.Maps
attribute [local go_sem ↓] Go.wp_at_zero Go.wp_at_succ
def sil (n : Nat) (es : List Sy.Ed) (q : Nat) : List Nat := (Sy.ends (Sy.rowOf n (Sy.nf es) q) 0).map Int.toNat
theorem row_in {n : Nat} {es : List Sy.Ed} {i : Int} {z : BSteps.El} (hi : 0 ≤ i ∧ i < (n : Int)) : z ∈ Sy.rowOf n (Sy.nf es) i ↔ (i, z.1, z.2) ∈ es := by
 unfold Sy.rowOf
 rw [if_pos hi]
 unfold Sy.steps
 rw [List.mem_map]
 constructor
 ·rintro ⟨e, he, rfl⟩
  obtain ⟨h1, h2⟩ := List.mem_filter.1 he
  have h3 : e.1 = i := by simpa using h2
  rw [← h3]
  exact (Sy.nf_mem es e).1 h1
 ·intro h
  exact ⟨_, List.mem_filter.2 ⟨(Sy.nf_mem es _).2 h, by simp⟩, rfl⟩
theorem ends_in {l : List BSteps.El} {b z : Int} : z ∈ Sy.ends l b ↔ (b, z) ∈ l := by
 unfold Sy.ends
 rw [List.mem_map]
 constructor
 ·rintro ⟨e, he, rfl⟩
  obtain ⟨h1, h2⟩ := List.mem_filter.1 he
  have h3 : e.1 = b := by simpa using h2
  rw [← h3]
  exact h1
 ·intro h
  exact ⟨_, List.mem_filter.2 ⟨h, by simp⟩, rfl⟩
theorem ends_short (l : List BSteps.El) (b : Int) : (Sy.ends l b).length ≤ l.length := by
 unfold Sy.ends
 rw [List.length_map]
 exact List.length_filter_le _ _
theorem cast_toNat {l : List Int} (h : ∀ z ∈ l, 0 ≤ z) : cast (l.map Int.toNat) = l := by
 unfold cast
 rw [List.map_map]
 exact (List.map_congr_left (fun z hz => Int.toNat_of_nonneg (h z hz))).trans (List.map_id _)
theorem sil_mem {n : Nat} {k s : Int} {es : List Sy.Ed} (hr : Sy.right n k s es = true) {q t : Nat} (hq : q < n) : t ∈ sil n es q ↔ ((q : Int), (0 : Int), (t : Int)) ∈ es := by
 unfold sil
 rw [List.mem_map]
 constructor
 ·rintro ⟨z, hz, rfl⟩
  have h1 := (row_in (n := n) (es := es) ⟨Int.natCast_nonneg q, by omega⟩).1 (ends_in.1 hz)
  have h2 := (right_parts hr).2.2.2.2.2 _ h1
  simp only at h1 h2
  rw [Int.toNat_of_nonneg h2.2.2.1]
  exact h1
 ·intro h
  exact ⟨(t : Int), ends_in.2 ((row_in (n := n) (es := es) ⟨Int.natCast_nonneg q, by omega⟩).2 h), by simp⟩
theorem sil_row {n : Nat} {k s : Int} {es : List Sy.Ed} (hr : Sy.right n k s es = true) (hl : (Sy.nf es).length ≤ 10000) {q : Nat} (hq : q < n) : cast (sil n es q) = Sy.ends (Sy.rowOf n (Sy.nf es) q) 0 ∧ (∀ t ∈ sil n es q, t < n) ∧ (sil n es q).length ≤ 100000 := by
 refine ⟨cast_toNat fun z hz => ?_, fun t ht => ?_, ?_⟩
 ·have h1 := (row_in (n := n) (es := es) ⟨Int.natCast_nonneg q, by omega⟩).1 (ends_in.1 hz)
  exact ((right_parts hr).2.2.2.2.2 _ h1).2.2.1
 ·have h2 := (right_parts hr).2.2.2.2.2 _ ((sil_mem hr hq).1 ht)
  simp only at h2
  omega
 ·unfold sil
  rw [List.length_map]
  have h1 := ends_short (Sy.rowOf n (Sy.nf es) q) 0
  have h2 := rowOf_len n (Sy.nf es) (q : Int)
  omega
theorem own_lower {w : World} {B B' : Nat} {v : Value} {zs : List Int} (h : OwnI w B v zs) (hB : B' ≤ B) : OwnI w B' v zs := by
 obtain ⟨h1, h2⟩ := h
 refine ⟨h1, ?_⟩
 rcases h2 with h2 | ⟨g, cap, cur, h3, h4, h5⟩
 ·exact .inl h2
 ·exact .inr ⟨g, cap, cur, h3, Nat.le_trans hB h4, h5⟩
theorem cyc_i64 {n : Nat} {out : Nat → List Nat} {zs : List Int} (h : Cyc n out zs) (hn : n ≤ 1000) : I64s zs := fun z hz => by
 have h1 := h.rng z hz
 simp only [Lit.wf, IntKind.min, IntKind.max, IntKind.signed, IntKind.bits]
 simp
 omega
theorem que_hasI {w : World} {B : Nat} {v : Value} {zs : List Int} (h : Que w B v zs) : HasI w v zs := by
 rcases h.shape with ⟨ao, cap, rfl, hl⟩
 refine ⟨ao, cap, rfl, fun i z hz => ?_⟩
 obtain ⟨g, off, cap', e, _, hc, _⟩ := que_cell h hz
 injection e with e1 e2 e3
 exact ⟨⟨g, off, none⟩, e1, by
  have e9 : (⟨g, off, none⟩ : Addr).add i = ⟨g, off + i, none⟩ := by simp only [Addr.add]; split <;> simp_all
  rw [e9]; exact hc⟩
set_option linter.unusedSimpArgs false in
set_option maxRecDepth 100000 in
set_option maxHeartbeats 4000000 in
theorem cyclesOf_any {B g bs bb cs cb n : Nat} {k s : Int} {es : List Sy.Ed} (w : World) (hG : Gr w B g bs bb cs cb n k s es) :
 Calls Tryz.prog 25 #[.pointer (some ⟨g, 0, none⟩)] w fun e w' => ∃ u zs, e = .returned u ∧ Cyc n (sil n es) zs ∧ OwnI w' w.heap.size u (natI (Sy.canon zs)) ∧ Below w.heap.size w w' := by
 have hS := states_any w hG
 have hsz := hG.sizes
 have hn : n ≤ 1000000 := by omega
 have hrow := fun q (hq : q < n) => sil_row hG.right hsz.2 hq
 have H : Hid _ := And.intro hS (And.intro hG (And.intro hn (And.intro hsz.1 hrow)))
 clear hS hG hsz hn hrow
 go_enter Tryz.func25, Tryz.ntmps25
 go_upto_region 2 with (go_at_call 27; refine Calls.mono H.out.1 ?_; rintro r1 w1 ⟨rfl, hw⟩; obtain rfl := hw.symm; clear hw)
 go_cut [4] (fun s4 wx => ∃ r gs gn gl gc : Nat, s4 = .pointer (some ⟨r, 0, none⟩) ∧ CyL w wx r gs gn gl gc n 0 (sil n es))
 case first =>
  refine reg2_any (g := g) (n := n) (out := sil n es) (by kernel_rfl) H.out.2.2.1 ⟨?_, fun d _ _ _ _ h => (by cases d <;> exact h)⟩ _ _ _ _ ⟨rfl, rfl, rfl, rfl⟩
  rintro v10 v11 v13 v15 v16 v18 v19 W r ⟨gs, gn, gl, gc, hL⟩
  unfold fr2
  refine Met.intro ?_
  apply_assumption
  refine Met.intro ?_
  apply_assumption
  (repeat apply Exists.intro)
  refine ⟨?rel, rfl⟩
  exact ⟨r, gs, gn, gl, gc, rfl, hL⟩
 case rest =>
  obtain ⟨r, gs, gn, gl, gc, rfl, hL⟩ := hcut
  have HL : Hid _ := hL
  clear hL
  go_wp2_with fail
  go_loopg [22] n (fun g i wr => ∃ m : Nat, g = n - m ∧ m ≤ n ∧ i = .int .i64 m ∧ CyL w wr r gs gn gl gc n m (sil n es))
  case atStart => exact ⟨0, rfl, Nat.zero_le _, rfl, HL.out⟩
  case round =>
   obtain ⟨m, rfl, hm, rfl, hL⟩ := hrel
   by_cases hmn : m < n
   ·have q1 : (m : Int) < (n : Int) := by omega
    have p0 : (0 : Int) ≤ (m : Int) := by omega
    have p1 : IntKind.i64.wrap ((m : Int) + 1) = (m : Int) + 1 := by rw [IntKind.wrap_i64]; have := H.out.2.2.1; omega
    obtain ⟨c0, _⟩ := seven_cells hL.mm.box
    obtain ⟨cs9, hcs, hsz⟩ := hL.row
    have hB := fun W (hb : Below wr.heap.size wr W) => (by_any (m : Int) 0 W (H.out.2.1.below (hL.bl.trans (hb.mono hL.bl.size))))
    have HL : Hid _ := And.intro hL trivial
    obtain ⟨v9, hv9⟩ : ∃ v9, cs9[m]? = some v9 := ⟨_, Array.getElem?_eq_getElem (by omega)⟩
    have HC : Hid _ := And.intro hcs (And.intro hsz hv9)
    have HB : Hid _ := hB
    have hS5 : ∀ (W : World) (u : Value), W.cell? ⟨r, 0, none⟩ = some (.slice (some ⟨gs, 0, none⟩) n n) → (W.setCell ⟨gs, m, none⟩ u).cell? ⟨r, 0, none⟩ = some (.slice (some ⟨gs, 0, none⟩) n n) := fun W u h => (World.cell?_of_block (a := ⟨r, 0, none⟩) (set_other _ _ _ _ _ (fun e => hL.far.1 e.symm))).trans h
    have HS5 : Hid _ := hS5
    have HC0 : Hid _ := c0
    have hoo := (H.out.2.2.2.2 m hmn).1
    have HO5 : Hid _ := hoo
    clear hL hcs hsz hB hm hv9 hS5 hoo
    go_upto_region 6 with fail
    refine wp_region_held_drew (S := (fun w' => w'.cell? ⟨r, 0, none⟩ = some (.slice (some ⟨gs, 0, none⟩) n n))) (by kernel_rfl) ?_ (fun hHeld => ?_)
    ·exact c0
    refine tk9 0 ?_ rfl (by kernel_rfl) (fun _ _ _ h => h) ⟨by rfl, ?_⟩ (by assumption) ?_; rotate_left; (focus (intro w hSw; (try dsimp only at hSw); go_simp; (try with_reducible rfl))); (try simp only [ty9, Act.put])
    refine tk9 1 ?_ rfl (by kernel_rfl) (fun _ _ _ h => h) ⟨by rfl, ?_⟩ (by assumption) ?_; rotate_left; (focus (intro w hSw; (try dsimp only at hSw); go_simp; (try with_reducible rfl))); (try simp only [ty9, Act.put])
    refine tk9 2 ?_ rfl (by kernel_rfl) (fun _ _ _ h => h) ⟨by rfl, ?_⟩ (by assumption) ?_; rotate_left; (focus (intro w hSw; (try dsimp only at hSw); go_simp; (try with_reducible rfl))); (try simp only [ty9, Act.put])
    refine tk9 3 ?_ rfl (by kernel_rfl) (fun _ _ _ h => h) ⟨by rfl, ?_⟩ (by assumption) ?_; rotate_left; (focus (intro w hSw; (try dsimp only at hSw); go_simp; (try with_reducible rfl))); (try simp only [ty9, Act.put])
    refine tk9 4 ?_ rfl (by kernel_rfl) (fun _ _ _ h => h) ⟨by rfl, ?_⟩ (by assumption) ?_; rotate_left; (focus (intro w hSw; (try dsimp only at hSw); go_simp; (try with_reducible rfl))); (try simp only [ty9, Act.put])
    refine tk9 5 ?_ rfl (by kernel_rfl) (fun _ _ _ h => h) ⟨by rfl, ?_⟩ (by assumption) ?_; rotate_left; (focus (intro w hSw; (try dsimp only at hSw); go_simp; (try with_reducible rfl))); (try simp only [ty9, Act.put])
    refine tk9 6 ?_ rfl (by kernel_rfl) (fun _ _ _ h => h) ⟨by rfl, ?_⟩ (by assumption) ?_; rotate_left; (focus (intro w hSw; (try dsimp only at hSw); go_simp; (try with_reducible rfl))); (try simp only [ty9, Act.put])
    refine wpAnyH_ready (rs := [7]) (by kernel_rfl) (by simp) ?_
    refine AllReadyH.cons (o := _) rfl (fun K hK => ?_) ?_
    ·(go_simp; go_at_call 90; refine Calls.mono (HB.out _ (by repeat (first | exact Below.refl _ _ | refine Below.drew ?_))) ?_; rintro r5 w5 ⟨u, rfl, hO4, hb4⟩; have hb5 : Below wr.heap.size wr w5 := ((Below.refl _ _).drew).trans hb4; have hO5 : OwnI w5 wr.heap.size u (cast (sil n es m)) := (by rw [HO5.out]; exact hO4); clear hO4 hb4; obtain ⟨au, cu, hu⟩ := row_shape hO5; obtain ⟨lu, hlu⟩ : ∃ l, l = (cast (sil n es m)).length := ⟨_, rfl⟩; rw [← hlu] at hu; subst hu; have hbk := (hb5.block gs (t_lt HC.out.1)).trans HC.out.1; have bf := blk_free hbk m; have bc := cell0_of hbk HC.out.2.2; have H5 : Hid _ := And.intro hO5 hb5; clear hO5 hb5 hbk hlu)
     (try go_wp2_with fail)
     refine hK.out _ _ ?_ (fun hHeld => ?_)
     ·exact cell_up HC0.out H5.out.2
     clear hK K
     (try simp only [ty9, Act.put])
     refine tk9 8 ?_ rfl (by kernel_rfl) (fun _ _ _ h => h) ⟨by rfl, ?_⟩ (by assumption) ?_; rotate_left; (focus (intro w hSw; (try dsimp only at hSw); go_simp; (try with_reducible rfl))); (try simp only [ty9, Act.put])
     refine wpAnyH_ready (rs := [9]) (by kernel_rfl) (by simp) ?_
     refine AllReadyH.cons (o := _) rfl (fun K hK => ?_) ?_
     ·(go_simp)
      (try go_wp2_with fail)
      refine hK.out _ _ ?_ (fun hHeld => ?_)
      ·exact HS5.out w5 _ hHeld
      clear hK K
      (try simp only [ty9, Act.put])
      refine wpAnyH_done (by kernel_rfl) ?_ _
      (try go_simp)
      go_wp2_with fail
      go_roundg (n - (m + 1))
      case measure => omega
      case rel => exact ⟨m + 1, rfl, by omega, by go_num, (HL.out.1.next hmn H5.out.2 H5.out.1)⟩
     exact AllReadyH.nil
    exact AllReadyH.nil
   ·obtain rfl : n = m := by omega
    have q1 : ¬ (n : Int) < (n : Int) := by omega
    have hM := hL.done
    have HM : Hid _ := hM
    clear hL hM HL
    go_wp2_with fail
    go_loopg [36] n (fun g i wr => ∃ (m : Nat) (x : Wk), g = n - m ∧ m ≤ n ∧ i = .int .i64 m ∧ CyM w wr r gs n m (sil n es) x)
    case atStart => exact ⟨0, _, rfl, Nat.zero_le _, rfl, HM.out⟩
    case round =>
     obtain ⟨m, x, rfl, hm, rfl, hA⟩ := hrel
     obtain ⟨_, _, _, _, c4, _, c6⟩ := seven_cells hA.mm.box
     obtain ⟨os, pd, hW⟩ := hA.wi
     by_cases hmn : m < n
     ·have q1 : (m : Int) < (n : Int) := by omega
      have p0 : (0 : Int) ≤ (m : Int) := by omega
      have p1 : IntKind.i64.wrap ((m : Int) + 1) = (m : Int) + 1 := by rw [IntKind.wrap_i64]; have := H.out.2.2.1; omega
      obtain ⟨z, hz⟩ : ∃ z, x.ns[m]? = some z := ⟨_, List.getElem?_eq_getElem (by rw [hW.ns]; exact hmn)⟩
      obtain ⟨gN, oN, cN, hvn, _, hcN, _⟩ := que_cell (hA.mm.q.q 1 (x.vn, x.ns) rfl) hz
      simp only at hvn
      rw [hW.ns] at hvn
      rw [hvn] at c4
      by_cases hz1 : z = -1
      ·subst hz1
       have hC := from_any w.heap.size r n gs 0 n x (sil n es) m os pd wr hA.mm hA.sl hW hA.ps hmn hz H.out.2.2.2.1 (fun q hq => (H.out.2.2.2.2 q hq).2.1) (fun q hq => (H.out.2.2.2.2 q hq).2.2) hA.ct
       have HA : Hid _ := And.intro hA hC
       clear hA hC hW hz hvn hm c6
       go_wp2_with (go_at_call 91; refine Calls.mono HA.out.2 ?_; rintro r2 w2 ⟨rfl, x2, hF, hnd⟩; have HF : Hid _ := And.intro hF hnd; clear hF hnd)
       go_roundg (n - (m + 1))
       case measure => omega
       case rel => exact ⟨m + 1, x2, rfl, by omega, by go_num, HA.out.1.next HF.out.1 HF.out.2⟩
      ·have hz2 : (z == -1) = false := by simp [hz1]
       have hA1 := hA.skip ⟨z, hz, hz1⟩
       have HA : Hid _ := And.intro hA1 trivial
       clear hA hA1 hW hz hvn hm c6
       go_wp2_with fail
       go_roundg (n - (m + 1))
       case measure => omega
       case rel => exact ⟨m + 1, x, rfl, by omega, by go_num, HA.out.1⟩
     ·obtain rfl : n = m := by omega
      have q1 : ¬ (n : Int) < (n : Int) := by omega
      have hE := hA.end
      have hC := pCanon x.vc x.cs wr (que_hasI (hA.mm.q.q 3 (x.vc, x.cs) rfl)) (by rw [hE.len]; have := H.out.2.2.2.1; omega) (cyc_i64 hE H.out.2.2.2.1)
      have HA : Hid _ := And.intro hA (And.intro hE hC)
      clear hA hE hC hW c4 hm
      go_wp2_with (go_at_call 92; refine Calls.mono HA.out.2.2 ?_; rintro r2 w2 ⟨u, rfl, hO, hb⟩; have HO : Hid _ := And.intro hO hb; clear hO hb)
      go_ret
      exact ⟨u, x.cs, rfl, HA.out.2.1, own_lower HO.out.1 HA.out.1.bl.size, HA.out.1.bl.trans (HO.out.2.mono HA.out.1.bl.size)⟩
end Go.Proofs.YtplofbabfkkimaaGreatDoor.Ts
/- tauscc: the contract of between. -/
namespace Go.Proofs.YtplofbabfkkimaaGreatDoor.Ts
open Go.RowKit Go.Maps
attribute [local go_sem ↓] Go.wp_at_zero Go.wp_at_succ
def cla (cl : List Nat) (z : Int) : Int := ((cl[z.toNat]?.getD 0 : Nat) : Int)
theorem cla_at {cl : List Nat} {p x : Nat} (h : cl[p]? = some x) : cla cl (p : Int) = (x : Int) := by unfold cla; rw [Int.toNat_natCast, h]; rfl
def keep (cl : List Nat) (e : Sy.Ed) : Bool := !(decide (e.2.1 = 0) && decide (cla cl e.1 = cla cl e.2.2))
def onto (cl : List Nat) (e : Sy.Ed) : Sy.Ed := (cla cl e.1, e.2.1, cla cl e.2.2)
def btw (cl : List Nat) (es : List Sy.Ed) : List Sy.Ed := (es.filter (keep cl)).map (onto cl)
theorem btw_snoc (cl : List Nat) (es : List Sy.Ed) (e : Sy.Ed) : btw cl (es ++ [e]) = if keep cl e = true then btw cl es ++ [onto cl e] else btw cl es := by
 unfold btw
 rw [List.filter_append, List.map_append]
 by_cases h : keep cl e = true <;> simp [h]
theorem btw_len (cl : List Nat) (es : List Sy.Ed) : (btw cl es).length ≤ es.length := by
 unfold btw
 rw [List.length_map]
 exact List.length_filter_le _ _
theorem hasI_cell {w : World} {vc : Value} {cl : List Nat} (hv : HasI w vc (natI cl)) {t x : Nat} (h : cl[t]? = some x) : ∃ a cap, vc = .slice (some a) cl.length cap ∧ w.cell? (a.add t) = some (.int .i64 x) := by
 obtain ⟨ao, cap, rfl, h2⟩ := hv
 obtain ⟨a, rfl, hc⟩ := h2 t (x : Int) (by simp [natI, h])
 exact ⟨a, cap, by simp [natI], hc⟩
theorem cell_al {w : World} {a : Addr} {v : Value} (c : w.cell? a = some v) (o : Obj) : (w.alloc o).cell? a = some v := (World.cell?_of_block (a := a) (((Below.refl _ w).alloc (Nat.le_refl _) o).block _ (World.block_lt_of_cell? w _ c))).trans c
theorem edges_grow {w wr w4 : World} {au : Option Addr} {N cu : Nat} {u : Value} {L : List Sy.Ed} (hbl : Below w.heap.size w wr) (hO : BEdges.Own wr w.heap.size (.slice au N cu) L) (hN : N = L.length) (z : Sy.Ed) (hown : w4.ownsRow w.heap.size 61 3 u (N + 1) (BEdges.C L ++ [.int .i64 z.1, .int .i64 z.2.1, .int .i64 z.2.2])) (hk : Kept (fun b => (Value.slice au N cu).ownBlock = some b) wr w4) : Below w.heap.size w w4 ∧ BEdges.Own w4 w.heap.size u (L ++ [z]) := by
 refine ⟨hbl.trans (hk.below hbl.size fun b hb => (hO.lt b hb).1), ?_⟩
 unfold BEdges.Own
 have e1 : (L ++ [z]).length = N + 1 := by rw [List.length_append, hN]; rfl
 rw [e1, BEdges.C_app]
 exact hown
set_option linter.unusedSimpArgs false in
set_option maxRecDepth 100000 in
set_option maxHeartbeats 4000000 in
theorem between_any (v vc : Value) (es : List Sy.Ed) (cl : List Nat) (w : World) (hv : BEdges.Has w v es) (hc : HasI w vc (natI cl)) (hm : es.length ≤ 100000) (hin : ∀ e ∈ es, 0 ≤ e.1 ∧ e.1 < (cl.length : Int) ∧ 0 ≤ e.2.2 ∧ e.2.2 < (cl.length : Int)) :
 Calls Tryz.prog 94 #[v, vc] w fun e w' => ∃ u, e = .returned u ∧ BEdges.Own w' w.heap.size u (btw cl es) ∧ Below w.heap.size w w' := by
 obtain ⟨i0, hi0, hz0, hz1, hz2⟩ := info_parts BEdges.Tryz.infoE
 have hv0 := hv
 obtain ⟨ao, cap, rfl, _⟩ := hv0
 have hc0 := hc
 obtain ⟨aco, capc, rfl, _⟩ := hc0
 rw [show (natI cl).length = cl.length by simp [natI]] at hc ⊢
 obtain ⟨m, hmm⟩ : ∃ m, m = es.length := ⟨_, rfl⟩
 obtain ⟨n, hnn⟩ : ∃ n, n = cl.length := ⟨_, rfl⟩
 rw [← hmm] at hv hm ⊢
 rw [← hnn] at hc hin ⊢
 have H : Hid _ := And.intro hv (And.intro hc (And.intro hin (And.intro hmm hnn)))
 clear hv hc hin hmm hnn
 go_enter Tryz.func94, Tryz.ntmps94
 go_wp2_with fail
 go_loopg [5, 12] m (fun q u jv wr => ∃ j : Nat, q = m - j ∧ j ≤ m ∧ jv = .int .i64 j ∧ BEdges.Own wr w.heap.size u (btw cl (es.take j)) ∧ Below w.heap.size w wr)
 case atStart => exact ⟨0, rfl, Nat.zero_le _, rfl, World.ownsRow_nil _ _ _ _, Below.refl _ _⟩
 case round =>
  obtain ⟨j, rfl, hj, rfl, hO, hbl⟩ := hrel
  by_cases hlt : j < m
  ·obtain ⟨e, he⟩ : ∃ e, es[j]? = some e := ⟨es[j]'(by have := H.out.2.2.2.1; omega), List.getElem?_eq_getElem _⟩
   obtain ⟨a0, ha0, e0, e1, e2⟩ := edge_at (H.out.1.below hbl) he
   have hr := H.out.2.2.1 e (List.mem_of_getElem? he)
   obtain ⟨p, hp⟩ : ∃ p : Nat, e.1 = (p : Int) := ⟨e.1.toNat, by omega⟩
   obtain ⟨q, hq⟩ : ∃ q : Nat, e.2.2 = (q : Int) := ⟨e.2.2.toNat, by omega⟩
   obtain ⟨x, hx⟩ : ∃ x, cl[p]? = some x := ⟨_, List.getElem?_eq_getElem (by have := H.out.2.2.2.2; omega)⟩
   obtain ⟨y, hy⟩ : ∃ y, cl[q]? = some y := ⟨_, List.getElem?_eq_getElem (by have := H.out.2.2.2.2; omega)⟩
   obtain ⟨ac, capc1, hs1, d0⟩ := hasI_cell (H.out.2.1.below hbl) hx
   obtain ⟨ac2, capc2, hs2, d1⟩ := hasI_cell (H.out.2.1.below hbl) hy
   injection hs1 with s1 s2 s3
   injection hs2 with s4 s5 s6
   rw [s1] at s4
   obtain rfl := Option.some.inj s4
   subst ha0
   subst s1
   have x0 : ∀ o, (wr.alloc o).cell? (ac.add p) = some (.int .i64 x) := fun o => cell_al d0 o
   have x1 : ∀ o, (wr.alloc o).cell? (ac.add q) = some (.int .i64 y) := fun o => cell_al d1 o
   have p0 : (0 : Int) ≤ (p : Int) := by omega
   have p1 : (p : Int) < (n : Int) := by omega
   have p2 : (0 : Int) ≤ (q : Int) := by omega
   have p3 : (q : Int) < (n : Int) := by omega
   have p4 : IntKind.i64.wrap ((j : Int) + 1) = (j : Int) + 1 := by rw [IntKind.wrap_i64]; omega
   have q0 : (0 : Int) ≤ (j : Int) := by omega
   have q1 : (j : Int) < (m : Int) := by omega
   obtain ⟨l, hl⟩ : ∃ l, l = e.2.1 := ⟨_, rfl⟩
   rw [hp] at e0
   rw [hq] at e2
   rw [← hl] at e1
   obtain ⟨au, cu, hu⟩ := row_shape hO
   obtain ⟨N, hN⟩ : ∃ N, N = (btw cl (es.take j)).length := ⟨_, rfl⟩
   rw [← hN] at hu
   subst hu
   have HA : Hid _ := And.intro hO (And.intro hbl (And.intro he (And.intro hp (And.intro hq (And.intro hl (And.intro hx (And.intro hy hN)))))))
   clear hO hbl he hr hp hq hl hx hy hN s2 s3 s4 s5 s6 d0 d1 hj
   go_upto_region 5 with fail
   go_region
   obtain ⟨w1, hw1⟩ : ∃ w1, w1 = (wr.alloc (.cells #[.int .i64 p, .int .i64 l, .int .i64 q] 61)).drew := ⟨_, rfl⟩
   rw [← hw1]
   have hb1 : Below wr.heap.size wr w1 := by rw [hw1]; exact ((Below.refl _ _).alloc (Nat.le_refl _) _).drew
   have f1 : w1.cell? ⟨wr.heap.size, 1, none⟩ = some (.int .i64 l) := by
    have h1 : w1.heap[wr.heap.size]? = some (.cells #[.int .i64 p, .int .i64 l, .int .i64 q] 61 (0, 0)) := by rw [hw1]; exact heap_alloc_new wr _
    exact cell0_of h1 rfl
   have hO1 : w1.ownsRow w.heap.size 61 3 (.slice au N cu) N (BEdges.C (btw cl (es.take j))) := by
    have h1 := HA.out.1
    unfold BEdges.Own at h1
    rw [← HA.out.2.2.2.2.2.2.2.2] at h1
    exact trow_at h1 fun b hb => hb1.block b (h1.lt b hb).2
   have hl1 : w.heap.size ≤ w1.heap.size := Nat.le_trans HA.out.2.1.size hb1.size
   have HW : Hid _ := And.intro hb1 (And.intro hO1 hl1)
   clear hw1 hb1 hO1 hl1 x0 x1 e0 e1 e2
   have hN1 : N ≤ j := by
    have h1 := btw_len cl (es.take j)
    rw [List.length_take] at h1
    have := HA.out.2.2.2.2.2.2.2.2
    omega
   have hml : N + 1 ≤ maxLen := by unfold maxLen; omega
   have hby : (N + 1) * 24 ≤ 140737488355328 := by omega
   have hle : w.heap.size ≤ (w1.alloc (.cells #[.int .i64 x, .int .i64 l, .int .i64 y] 61)).heap.size := by have := HW.out.2.2; rw [World.size_alloc]; omega
   have htk : es.take (j + 1) = es.take j ++ [e] := by rw [List.take_add_one, HA.out.2.2.1]; rfl
   have hon : onto cl e = ((x : Int), l, (y : Int)) := by unfold onto; rw [HA.out.2.2.2.1, HA.out.2.2.2.2.1, cla_at HA.out.2.2.2.2.2.2.1, cla_at HA.out.2.2.2.2.2.2.2.1, HA.out.2.2.2.2.2.1]
   have hke : keep cl e = !(decide (l = 0) && decide ((x : Int) = (y : Int))) := by unfold keep; rw [HA.out.2.2.2.1, HA.out.2.2.2.2.1, cla_at HA.out.2.2.2.2.2.2.1, cla_at HA.out.2.2.2.2.2.2.2.1, HA.out.2.2.2.2.2.1]
   have HT : Hid _ := And.intro htk (And.intro hon hke)
   clear htk hon hke hN1
   by_cases hl0 : l = 0
   ·subst hl0
    by_cases hxy : (x : Int) = (y : Int)
    ·rw [hxy]
     have e9 : ((y : Int) != (y : Int)) = false := by simp
     have HK : Hid _ := (by rw [HT.out.2.2, hxy]; simp : keep cl e = false)
     have HX : Hid _ := hxy
     clear hxy
     go_wp2_with fail
     go_roundg (m - (j + 1))
     case measure => omega
     case rel =>
      refine ⟨j + 1, rfl, by omega, by go_num, ?_, HA.out.2.1.trans (HW.out.1.mono HA.out.2.1.size)⟩
      rw [HT.out.1, btw_snoc, if_neg (by rw [HK.out]; simp)]
      unfold BEdges.Own
      rw [← HA.out.2.2.2.2.2.2.2.2]
      exact HW.out.2.1
    ·have e9 : ((x : Int) != (y : Int)) = true := by simp [hxy]
     have HK : Hid _ := (by rw [HT.out.2.2]; simp [hxy] : keep cl e = true)
     go_wp2_with (at_builtin; refine wpList_append_own_at _ rfl _ _ 22 rfl w.heap.size 61 i0 (.agg #[.int .i64 0, .int .i64 0, .int .i64 0]) 3 24 Tryz.underlying22 hi0 hz0 hz1 hz2 rfl (by decide) (.slice au N cu) N (BEdges.C (btw cl (es.take j))) rfl (HW.out.2.1.alloc _) ⟨w1.heap.size, 0, none⟩ 1 1 [.int .i64 x, .int .i64 0, .int .i64 y] rfl rfl (World.news_of_block (cs := #[.int .i64 x, .int .i64 0, .int .i64 y]) (t := 61) (fr := (0, 0)) (heap_alloc_new w1 _)) (by simp [Value.oneCell']) hml hby hle ?_; intro v7 w7 hO7 hg7 hnil7 hat7; have hk7 := grown_alloc hg7; have H7 : Hid _ := And.intro hO7 hk7; clear hO7 hg7 hk7 hnil7 hat7)
     go_roundg (m - (j + 1))
     case measure => omega
     case rel =>
      have h1 := edges_grow (HA.out.2.1.trans (HW.out.1.mono HA.out.2.1.size)) (L := btw cl (es.take j)) (by unfold BEdges.Own; rw [← HA.out.2.2.2.2.2.2.2.2]; exact HW.out.2.1) HA.out.2.2.2.2.2.2.2.2 ((x : Int), 0, (y : Int)) H7.out.1 H7.out.2
      refine ⟨j + 1, rfl, by omega, by go_num, ?_, h1.1⟩
      rw [HT.out.1, btw_snoc, if_pos HK.out, HT.out.2.1]
      exact h1.2
   ·have e9 : (l != 0) = true := by simp [hl0]
    have HK : Hid _ := (by rw [HT.out.2.2]; simp [hl0] : keep cl e = true)
    go_wp2_with (at_builtin; refine wpList_append_own_at _ rfl _ _ 22 rfl w.heap.size 61 i0 (.agg #[.int .i64 0, .int .i64 0, .int .i64 0]) 3 24 Tryz.underlying22 hi0 hz0 hz1 hz2 rfl (by decide) (.slice au N cu) N (BEdges.C (btw cl (es.take j))) rfl (HW.out.2.1.alloc _) ⟨w1.heap.size, 0, none⟩ 1 1 [.int .i64 x, .int .i64 l, .int .i64 y] rfl rfl (World.news_of_block (cs := #[.int .i64 x, .int .i64 l, .int .i64 y]) (t := 61) (fr := (0, 0)) (heap_alloc_new w1 _)) (by simp [Value.oneCell']) hml hby hle ?_; intro v7 w7 hO7 hg7 hnil7 hat7; have hk7 := grown_alloc hg7; have H7 : Hid _ := And.intro hO7 hk7; clear hO7 hg7 hk7 hnil7 hat7)
    go_roundg (m - (j + 1))
    case measure => omega
    case rel =>
     have h1 := edges_grow (HA.out.2.1.trans (HW.out.1.mono HA.out.2.1.size)) (L := btw cl (es.take j)) (by unfold BEdges.Own; rw [← HA.out.2.2.2.2.2.2.2.2]; exact HW.out.2.1) HA.out.2.2.2.2.2.2.2.2 ((x : Int), l, (y : Int)) H7.out.1 H7.out.2
     refine ⟨j + 1, rfl, by omega, by go_num, ?_, h1.1⟩
     rw [HT.out.1, btw_snoc, if_pos HK.out, HT.out.2.1]
     exact h1.2
  ·obtain rfl : m = j := by omega
   have q1 : ¬ (m : Int) < (m : Int) := by omega
   have hO1 := hO
   rw [List.take_of_length_le (by have := H.out.2.2.2.1; omega)] at hO1
   have HA : Hid _ := And.intro hO1 hbl
   clear hO hO1 hbl
   go_wp2_with fail
   go_ret
   exact ⟨_, rfl, HA.out.1, HA.out.2⟩
end Go.Proofs.YtplofbabfkkimaaGreatDoor.Ts
/- tauscc: the collapsed system: plain facts. -/
namespace Go.Proofs.YtplofbabfkkimaaGreatDoor.Ts
open Go.RowKit Go.Maps
structure Cl (n : Nat) (es : List Sy.Ed) (cl : List Nat) : Prop where
 len : cl.length = n
 form : Sy.canon (natI cl) = cl
 iff : ∀ u v, u < n → v < n → (cl[u]? = cl[v]? ↔ Rt (sil n es) u v ∧ Rt (sil n es) v u)
def tog (cl : List Nat) : Nat := Sy.together (natI cl)
theorem Cl.of {n : Nat} {es : List Sy.Ed} {zs : List Int} (h : Cyc n (sil n es) zs) : Cl n es (Sy.canon zs) := by
 have hl : (Sy.canon zs).length = n := by unfold Sy.canon; rw [Sy.canonG_len]; exact h.len
 refine ⟨hl, Sy.canon_idem zs, fun u v hu hv => ?_⟩
 rw [← h.iff u v hu hv]
 have lu : u < zs.length := by rw [h.len]; exact hu
 have lv : v < zs.length := by rw [h.len]; exact hv
 have gu : u < (Sy.canon zs).length := by rw [hl]; exact hu
 have gv : v < (Sy.canon zs).length := by rw [hl]; exact hv
 have e := Sy.canon_eq (l := zs) (i := u) (k := v) (List.getElem?_eq_getElem lu) (List.getElem?_eq_getElem lv) (u := (((Sy.canon zs)[u] : Nat) : Int)) (v := (((Sy.canon zs)[v] : Nat) : Int)) (by simp [natI, gu]) (by simp [natI, gv])
 rw [List.getElem?_eq_getElem lu, List.getElem?_eq_getElem lv, List.getElem?_eq_getElem gu, List.getElem?_eq_getElem gv, Option.some.injEq, Option.some.injEq, ← e]
 omega
theorem tog_eq (cl : List Nat) : tog cl = (Sy.seenG [] (natI cl)).length := Sy.together_eq _
theorem tog_le (cl : List Nat) : tog cl ≤ cl.length := by
 rw [tog_eq]
 have := Sy.seenG_len (natI cl) []
 simpa [natI] using this
theorem Cl.lt {n : Nat} {es : List Sy.Ed} {cl : List Nat} (h : Cl n es cl) {u x : Nat} (hx : cl[u]? = some x) : x < tog cl := by
 rw [tog_eq]
 have h1 : (Sy.canon (natI cl))[u]? = some x := by rw [h.form]; exact hx
 rw [Sy.canon_map, List.getElem?_map] at h1
 have h2 : (natI cl)[u]? = some (x : Int) := by simp [natI, hx]
 rw [h2] at h1
 have h3 := Option.some.inj h1
 simp only at h3
 rw [← h3]
 exact Sy.place_lt.2 (Sy.seenG_mem _ _ _ (List.mem_of_getElem? h2))
theorem Cl.cla {n : Nat} {es : List Sy.Ed} {cl : List Nat} (h : Cl n es cl) {z : Int} (h0 : 0 ≤ z) (h1 : z < n) : 0 ≤ cla cl z ∧ cla cl z < (tog cl : Int) := by
 obtain ⟨p, rfl⟩ : ∃ p : Nat, z = (p : Int) := ⟨z.toNat, by omega⟩
 have hp : p < cl.length := by rw [h.len]; omega
 have hx := List.getElem?_eq_getElem hp
 have h2 := h.lt hx
 rw [cla_at hx]
 omega
theorem nat_i64 {n : Nat} {es : List Sy.Ed} {cl : List Nat} (h : Cl n es cl) (hn : n ≤ 1000) : I64s (natI cl) := fun z hz => by
 unfold natI at hz
 obtain ⟨x, hx, rfl⟩ := List.mem_map.1 hz
 obtain ⟨u, hu⟩ := List.mem_iff_getElem?.1 hx
 have h1 := h.lt hu
 have h2 := tog_le cl
 rw [h.len] at h2
 simp only [Lit.wf, IntKind.min, IntKind.max, IntKind.signed, IntKind.bits]
 simp
 omega
def sta (n : Nat) (cl : List Nat) (s : Int) : Int := if 0 < n then cla cl s else 0
theorem small_right {n : Nat} {k s : Int} {es : List Sy.Ed} {cl : List Nat} (h : Cl n es cl) (hr : Sy.right n k s es = true) : Sy.right (tog cl) k (sta n cl s) (btw cl es) = true := by
 obtain ⟨⟨h1, h2⟩, ⟨h3, h4⟩, h5, h6, h7, h8⟩ := right_parts hr
 have ht := tog_le cl
 rw [h.len] at ht
 have hl := btw_len cl es
 have hmem : ∀ e ∈ btw cl es, ∃ d ∈ es, e = onto cl d := fun e he => by
  unfold btw at he
  obtain ⟨d, hd, rfl⟩ := List.mem_map.1 he
  exact ⟨d, (List.mem_filter.1 hd).1, rfl⟩
 unfold Sy.right
 simp only [Bool.and_eq_true, decide_eq_true_eq, List.all_eq_true]
 have hst : ((tog cl : Int) = 0 → sta n cl s = 0) ∧ (0 < (tog cl : Int) → 0 ≤ sta n cl s ∧ sta n cl s < (tog cl : Int)) := by
  unfold sta
  by_cases hn : 0 < n
  ·rw [if_pos hn]
   have h9 := h7 (by omega)
   have h10 := h.cla h9.1 h9.2
   exact ⟨fun e => by omega, fun _ => h10⟩
  ·rw [if_neg hn]
   exact ⟨fun _ => rfl, fun e => by omega⟩
 refine ⟨⟨⟨by omega, by omega, by omega, by omega, by omega⟩, hst⟩, fun e he => ?_⟩
 obtain ⟨d, hd, rfl⟩ := hmem e he
 have h9 := h8 d hd
 have h10 := h.cla h9.1 h9.2.1
 have h11 := h.cla h9.2.2.1 h9.2.2.2.1
 exact ⟨h10.1, h10.2, h11.1, h11.2, h9.2.2.2.2.1, h9.2.2.2.2.2⟩
theorem Gr.lower {w : World} {B B' g bs bb cs cb n : Nat} {k s : Int} {es : List Sy.Ed} (h : Gr w B g bs bb cs cb n k s es) (hB : B' ≤ B) : Gr w B' g bs bb cs cb n k s es :=
 ⟨h.box, Nat.le_trans hB h.up, ⟨Blk.base h.out.steps hB, Blk.base h.out.nums hB⟩, ⟨Blk.base h.inn.steps hB, Blk.base h.inn.nums hB⟩, h.right⟩
end Go.Proofs.YtplofbabfkkimaaGreatDoor.Ts
/- tauscc: the members of classes: plain facts. -/
namespace Go.Proofs.YtplofbabfkkimaaGreatDoor.Ts
theorem canonG_onto (l : List Int) : ∀ (seen : List Int) (x : Nat), seen.length ≤ x → x < (Sy.seenG seen l).length → ∃ u : Nat, (Sy.canonG seen l)[u]? = some x := by
 induction l with
 | nil => intro seen x h1 h2; simp only [Sy.seenG] at h2; omega
 | cons c r ih =>
   intro seen x h1 h2
   simp only [Sy.seenG] at h2
   simp only [Sy.canonG]
   by_cases hp : Sy.place c seen < seen.length
   ·rw [if_pos hp] at h2 ⊢
    obtain ⟨u, hu⟩ := ih seen x h1 h2
    exact ⟨u + 1, by rw [List.getElem?_cons_succ]; exact hu⟩
   ·rw [if_neg hp] at h2 ⊢
    by_cases e : x = seen.length
    ·have h3 : c ∉ seen := fun h3 => hp (Sy.place_lt.2 h3)
     exact ⟨0, by rw [List.getElem?_cons_zero, Sy.place_not h3, e]⟩
    ·obtain ⟨u, hu⟩ := ih (seen ++ [c]) x (by rw [List.length_append, List.length_singleton]; omega) h2
     exact ⟨u + 1, by rw [List.getElem?_cons_succ]; exact hu⟩
theorem Cl.onto {n : Nat} {es : List Sy.Ed} {cl : List Nat} (h : Cl n es cl) {x : Nat} (hx : x < tog cl) : ∃ u : Nat, cl[u]? = some x := by
 rw [tog_eq] at hx
 obtain ⟨u, hu⟩ := canonG_onto (natI cl) [] x (Nat.zero_le _) hx
 refine ⟨u, ?_⟩
 have h1 : Sy.canonG [] (natI cl) = cl := h.form
 rw [← h1]
 exact hu
def memI (l : List Nat) (c : Nat) : List Int := (l.zipIdx.filter fun p => p.1 == c).map fun p => (p.2 : Int)
theorem memI_snoc (l : List Nat) (x c : Nat) : memI (l ++ [x]) c = if c = x then memI l c ++ [(l.length : Int)] else memI l c := by
 unfold memI
 rw [List.zipIdx_append, List.filter_append, List.map_append]
 by_cases e : c = x
 ·subst e
  simp
 ·have e2 : ¬ x = c := fun h => e h.symm
  simp [e, e2]
theorem memI_next {l : List Nat} {i x : Nat} (hx : l[i]? = some x) (c : Nat) : (if c = x then memI (l.take i) x ++ [(i : Int)] else memI (l.take i) c) = memI (l.take (i + 1)) c := by
 obtain ⟨h1, h2⟩ := List.getElem?_eq_some_iff.1 hx
 rw [List.take_succ_eq_append_getElem h1, h2, memI_snoc, List.length_take, Nat.min_eq_left (Nat.le_of_lt h1)]
 by_cases e : c = x
 ·subst e; rfl
 ·rw [if_neg e, if_neg e]
theorem memI_len (l : List Nat) (c : Nat) : (memI l c).length ≤ l.length := by
 unfold memI
 rw [List.length_map]
 exact Nat.le_trans (List.length_filter_le _ _) (by rw [List.length_zipIdx]; exact Nat.le_refl _)
theorem memI_mem {l : List Nat} {c : Nat} {z : Int} : z ∈ memI l c ↔ ∃ u : Nat, l[u]? = some c ∧ z = (u : Int) := by
 unfold memI
 rw [List.mem_map]
 constructor
 ·rintro ⟨p, hp, rfl⟩
  obtain ⟨h1, h2⟩ := List.mem_filter.1 hp
  have h3 : p.1 = c := by simpa using h2
  exact ⟨p.2, by rw [← h3]; exact List.mem_zipIdx_iff_getElem?.1 h1, rfl⟩
 ·rintro ⟨u, hu, rfl⟩
  exact ⟨(c, u), List.mem_filter.2 ⟨List.mem_zipIdx_iff_getElem?.2 hu, by simp⟩, rfl⟩
theorem memI_some {n : Nat} {es : List Sy.Ed} {cl : List Nat} (h : Cl n es cl) {x : Nat} (hx : x < tog cl) : 0 < (memI cl x).length := by
 obtain ⟨u, hu⟩ := h.onto hx
 exact List.length_pos_iff_exists_mem.2 ⟨_, memI_mem.2 ⟨u, hu, rfl⟩⟩
end Go.Proofs.YtplofbabfkkimaaGreatDoor.Ts
/- Two functions of Go's library at this program (slices.BinarySearch, slices.Insert), laid by the shelf's own tools in plain words. -/
namespace Go.Proofs
open Go.Shelf
def Tryz.laysQ25_ren : Go.Shelf.Ren := ⟨fun | 25 => 97 | 31 => 135 | 32 => 136 | 37 => 155 | n => n, fun | 22 => 45 | 3 => 3 | 4 => 4 | 40 => 170 | 0 => 0 | n => n, fun | n => n⟩
theorem Tryz.laysQ25 : Go.Proofs.Lays2.n25 Tryz.prog Tryz.laysQ25_ren := {
 mixed := by kernel_rfl
 f25 := Tryz.func97.trans (congrArg some (by kernel_rfl))
 f31 := Tryz.func135.trans (congrArg some (by kernel_rfl))
 f32 := Tryz.func136.trans (congrArg some (by kernel_rfl))
 f37 := Tryz.func155.trans (congrArg some (by kernel_rfl))
 t0 := Tryz.underlying0
 a0 := Tryz.isAgg0
 z0 := Tryz.sizeOf0
 v0 := Tryz.zeroValue0
 t3 := Tryz.underlying3
 a3 := Tryz.isAgg3
 z3 := Tryz.sizeOf3
 v3 := Tryz.zeroValue3
 t4 := Tryz.underlying4
 a4 := Tryz.isAgg4
 z4 := Tryz.sizeOf4
 v4 := Tryz.zeroValue4
 t22 := Tryz.underlying45
 a22 := Tryz.isAgg45
 z22 := Tryz.sizeOf45
 v22 := Tryz.zeroValue45
 t40 := Tryz.underlying170
 a40 := Tryz.isAgg170
 z40 := Tryz.sizeOf170
 v40 := Tryz.zeroValue170 }
def Tryz.laysQ21_ren : Go.Shelf.Ren := ⟨fun | 21 => 98 | 27 => 137 | 28 => 138 | 35 => 156 | 39 => 169 | n => n, fun | 22 => 45 | 3 => 3 | 4 => 4 | 0 => 0 | n => n, fun | n => n⟩
theorem Tryz.laysQ21 : Go.Proofs.Lays2.n21 Tryz.prog Tryz.laysQ21_ren := {
 mixed := by kernel_rfl
 f21 := Tryz.func98.trans (congrArg some (by kernel_rfl))
 f27 := Tryz.func137.trans (congrArg some (by kernel_rfl))
 f28 := Tryz.func138.trans (congrArg some (by kernel_rfl))
 f35 := Tryz.func156.trans (congrArg some (by kernel_rfl))
 f39 := Tryz.func169.trans (congrArg some (by kernel_rfl))
 t0 := Tryz.underlying0
 a0 := Tryz.isAgg0
 z0 := Tryz.sizeOf0
 v0 := Tryz.zeroValue0
 t3 := Tryz.underlying3
 a3 := Tryz.isAgg3
 z3 := Tryz.sizeOf3
 v3 := Tryz.zeroValue3
 t4 := Tryz.underlying4
 a4 := Tryz.isAgg4
 z4 := Tryz.sizeOf4
 v4 := Tryz.zeroValue4
 t22 := Tryz.underlying45
 a22 := Tryz.isAgg45
 z22 := Tryz.sizeOf45
 v22 := Tryz.zeroValue45
 i3 := by kernel_rfl }
end Go.Proofs
/- tauscc: slices.BinarySearch and slices.Insert at lists of numbers. -/
namespace Go.Proofs.YtplofbabfkkimaaGreatDoor.Ts
open Go.RowKit Go.Maps
theorem cells_set (b : Nat) (t : TypeId) : ∀ (vs : List Value) (o : Nat) (w : World) (cur : Array Value), w.heap[b]? = some (.cells cur t (0, 0)) → ∃ cur', (w.setCells b o vs).heap[b]? = some (.cells cur' t (0, 0)) ∧ cur'.size = cur.size ∧ ∀ k, cur'[k]? = if o ≤ k ∧ k < o + vs.length ∧ k < cur.size then vs[k - o]? else cur[k]?
 | [], o, w, cur, h => ⟨cur, h, rfl, fun k => by rw [if_neg (by simp; omega)]⟩
 | v :: vs, o, w, cur, h => by
   obtain ⟨cur', h1, h2, h3⟩ := cells_set b t vs (o + 1) (w.setCell ⟨b, o, none⟩ v) _ (Go.heap_setCell_same w b o cur t v h)
   refine ⟨cur', h1, by rw [h2]; simp, fun k => ?_⟩
   rw [h3]
   simp only [Array.size_setIfInBounds, List.length_cons]
   by_cases e : k = o
   ·subst e
    rw [if_neg (by omega)]
    by_cases hk : k < cur.size
    ·rw [if_pos (by omega)]; simp [hk]
    ·rw [if_neg (by omega)]; simp [hk]
   ·rw [Array.getElem?_setIfInBounds_ne (fun e2 => e e2.symm)]
    by_cases hk : o + 1 ≤ k ∧ k < o + 1 + vs.length ∧ k < cur.size
    ·rw [if_pos hk, if_pos (by omega)]
     obtain ⟨d, rfl⟩ : ∃ d, k = o + 1 + d := ⟨k - (o + 1), by omega⟩
     rw [show o + 1 + d - (o + 1) = d by omega, show o + 1 + d - o = d + 1 by omega, List.getElem?_cons_succ]
    ·rw [if_neg hk, if_neg (by omega)]
theorem kept_set (b : Nat) : ∀ (vs : List Value) (o : Nat) (w : World), Kept (fun x => x = b) w (w.setCells b o vs)
 | [], _, w => Kept.refl _ w
 | v :: vs, o, w => (Kept.setCell w b o v).trans (kept_set b vs (o + 1) _)
theorem que_of {w : World} {B g off cap : Nat} {cur : Array Value} {zs : List Int} (hB : B ≤ g) (hg : w.heap[g]? = some (.cells cur 3 (0, 0))) (hl : zs.length ≤ cap) (hm : off + cap ≤ maxLen) (hs : off + cap = cur.size ∨ cap = 0 ∧ off ≤ cur.size) (hc : ∀ (j : Nat) (z : Int), zs[j]? = some z → cur[off + j]? = some (.int .i64 z)) : Que w B (.slice (some ⟨g, off, none⟩) zs.length cap) zs := by
 refine .inr ⟨g, off, cap, cur, rfl, hB, hg, hl, hm, hs, ?_⟩
 refine List.ext_getElem? fun j => ?_
 by_cases hj : j < zs.length
 ·rw [List.getElem?_take_of_lt hj, List.getElem?_drop, Array.getElem?_toList, hc j zs[j] (List.getElem?_eq_getElem hj)]
  simp [iC, hj]
 ·rw [List.getElem?_eq_none (by rw [List.length_take]; omega), List.getElem?_eq_none (by simp [iC]; omega)]
theorem que_of2 {w : World} {B g off cap n : Nat} {cur : Array Value} {zs : List Int} (hn : zs.length = n) (hB : B ≤ g) (hg : w.heap[g]? = some (.cells cur 3 (0, 0))) (hl : n ≤ cap) (hm : off + cap ≤ maxLen) (hs : off + cap = cur.size ∨ cap = 0 ∧ off ≤ cur.size) (hc : ∀ (j : Nat) (z : Int), zs[j]? = some z → cur[off + j]? = some (.int .i64 z)) : Que w B (.slice (some ⟨g, off, none⟩) n cap) zs := by
 subst hn
 exact que_of hB hg hl hm hs hc
theorem que_at {cur : Array Value} {off : Nat} {zs : List Int} (h : (cur.toList.drop off).take zs.length = iC zs) {j : Nat} {z : Int} (hz : zs[j]? = some z) : cur[off + j]? = some (.int .i64 z) := by
 have hl := (List.getElem?_eq_some_iff.1 hz).1
 rw [← Array.getElem?_toList]
 have h9 : ((cur.toList.drop off).take zs.length)[j]? = (iC zs)[j]? := by rw [h]
 rw [List.getElem?_take_of_lt hl, List.getElem?_drop] at h9
 rw [h9]
 simp [iC, hz]
def insI (zs : List Int) (i : Nat) (x : Int) : List Int := zs.take i ++ x :: zs.drop i
theorem insI_len {zs : List Int} {i : Nat} (hi : i ≤ zs.length) (x : Int) : (insI zs i x).length = zs.length + 1 := by unfold insI; simp; omega
theorem insI_at {zs : List Int} {i : Nat} (hi : i ≤ zs.length) (x : Int) (j : Nat) : (insI zs i x)[j]? = if j < i then zs[j]? else if j = i then some x else zs[j - 1]? := by
 unfold insI
 have hl : (zs.take i).length = i := by rw [List.length_take]; omega
 by_cases h1 : j < i
 ·rw [if_pos h1, List.getElem?_append_left (by omega), List.getElem?_take_of_lt h1]
 ·rw [if_neg h1, List.getElem?_append_right (by omega), hl]
  by_cases h2 : j = i
  ·rw [if_pos h2, h2, Nat.sub_self]; rfl
  ·rw [if_neg h2]
   obtain ⟨d, rfl⟩ : ∃ d, j = i + (d + 1) := ⟨j - i - 1, by omega⟩
   rw [show i + (d + 1) - i = d + 1 by omega, List.getElem?_cons_succ, List.getElem?_drop, show i + (d + 1) - 1 = i + d by omega]
theorem grow_at {l : List Value} {Z : Array Value} {j : Nat} {u : Value} (h : l[j]? = some u) : (l.toArray ++ Z)[0 + j]? = some u := by
 have hl := (List.getElem?_eq_some_iff.1 h).1
 rw [Nat.zero_add, Array.getElem?_append_left (by simpa using hl)]
 simpa using h
theorem iC_at {zs : List Int} {j : Nat} {u : Value} (h : (iC zs)[j]? = some u) : ∃ z, zs[j]? = some z ∧ u = .int .i64 z := by
 simp only [iC, List.getElem?_map, Option.map_eq_some_iff] at h
 obtain ⟨z, h1, h2⟩ := h
 exact ⟨z, h1, h2.symm⟩
theorem bsearch_any {B : Nat} {v : Value} {zs : List Int} (x : Int) (w : World) (h : Que w B v zs) (hs : zs.Pairwise (· ≤ ·)) (hl : zs.length ≤ 100000) : Calls Tryz.prog 97 #[v, .int .i64 x] w fun e w' => ∃ b : Bool, e = .returned (.tuple #[.int .i64 (zs.countP (· < x) : Nat), .bool b]) ∧ ∃ q, w' = w.drewN q := by
 rcases h with ⟨rfl, rfl⟩ | ⟨g, off, cap, cur, rfl, hB, hg, hn, hm, hsz, ht⟩
 ·exact (Any.slices_BinarySearch_int_empty Tryz.laysQ25 none 0 x w).mono fun e w' h => ⟨false, h.1, 0, h.2⟩
 ·refine (Any.slices_BinarySearch_int Tryz.laysQ25 g off zs.length cap zs x w (Nat.le_refl _) (by omega) (fun j hj => ?_) (by rw [List.take_of_length_le (Nat.le_refl _)]; exact hs)).mono fun e w' h => ?_
  ·have h1 := que_at ht (List.getElem?_eq_getElem hj)
   have h2 := cell0_of hg h1
   simpa [hj] using h2
  ·rw [List.take_of_length_le (Nat.le_refl _)] at h
   exact ⟨_, h.1, h.2⟩
set_option maxRecDepth 100000 in
theorem insert_any {B vb : Nat} {v : Value} {zs : List Int} {i : Nat} (x : Int) (w : World) (h : Que w B v zs) (hi : i ≤ zs.length) (hl : zs.length ≤ 100000) (hBw : B ≤ w.heap.size) (hvb : w.heap[vb]? = some (.cells #[.int .i64 x] 3 (0, 0))) (hne : v.ownBlock ≠ some vb) : Calls Tryz.prog 98 #[v, .int .i64 i, .slice (some ⟨vb, 0, none⟩) 1 1] w fun e w' => ∃ v', e = .returned v' ∧ Que w' B v' (insI zs i x) ∧ Kept (fun b => v.ownBlock = some b) w w' ∧ (v'.ownBlock = v.ownBlock ∨ v'.ownBlock = some w.heap.size) := by
 have hcv : ∀ (j : Nat) (u : Value), [Value.int .i64 x][j]? = some u → w.cell? ⟨vb, 0 + j, none⟩ = some u := fun j u hu => by
  match j with
  | 0 => cases hu; exact cell0_of hvb rfl
  | _ + 1 => cases hu
 have h1v : ∀ u ∈ [Value.int .i64 x], u.oneCell' = true := fun u hu => by rw [List.mem_singleton.1 hu]; rfl
 have h1c : ∀ u ∈ iC zs, u.oneCell' = true := fun u hu => by
  simp only [iC, List.mem_map] at hu
  obtain ⟨z, _, rfl⟩ := hu
  rfl
 have hic : (iC zs).length = zs.length := by simp [iC]
 have hcz : (Value.int .i64 0).cells.size = 1 := rfl
 have hil := insI_len hi x
 rcases h with ⟨rfl, rfl⟩ | ⟨g, off, cap, cur, rfl, hB, hg, hn, hm, hsz, ht⟩
 ·obtain rfl : i = 0 := by simpa using hi
  have hge := grownCap_ge w (0 + 1) 0 3
  have hle := grownCap_le_maxLen w (0 + 1) 0 3 (by unfold maxLen; omega)
  refine (Any2.slices_Insert_int_end_grow Tryz.laysQ21 none 0 0 vb 0 1 1 [] [.int .i64 x] w (by decide) (by decide) (by decide) (by decide) rfl rfl (fun _ => rfl) (fun a ha => by cases ha) hcv h1v).mono fun e w' hh => ?_
  obtain ⟨rfl, rfl⟩ := hh
  refine ⟨_, rfl, ?_, Kept.of_below ((Below.refl _ _).drew.alloc (Nat.le_refl _) _), .inr rfl⟩
  refine que_of (zs := insI [] 0 x) hBw (heap_alloc_new w.drew _) hge (by rw [Nat.zero_add]; exact hle) (.inl ?_) fun j z hz => ?_
  ·rw [Array.size_append, size_zeroCells, hcz]
   simp only [List.nil_append, List.size_toArray, List.length_singleton]
   show 0 + grownCap w (0 + 1) 0 3 = 1 + (grownCap w (0 + 1) 0 3 - (0 + 1)) * 1
   omega
  ·refine grow_at ?_
   match j with
   | 0 => cases hz; rfl
   | _ + 1 => cases hz
 ·have hg0 : ∀ {j z}, zs[j]? = some z → cur[off + j]? = some (.int .i64 z) := fun hz => que_at ht hz
  have hcs : ∀ (j : Nat) (u : Value), (iC zs)[j]? = some u → w.cell? ⟨g, off + j, none⟩ = some u := fun j u hu => by
   obtain ⟨z, hz, rfl⟩ := iC_at hu
   exact cell0_of hg (hg0 hz)
  have hvg : vb ≠ g := fun e => hne (by rw [e]; rfl)
  by_cases hroom : zs.length + 1 ≤ cap
  ·have hfull : off + cap = cur.size := by omega
   have hsome : ∀ k, k < off + cap → (w.cell? ⟨g, k, none⟩).isSome = true := fun k hk => by
    rw [cell0_of hg (Array.getElem?_eq_getElem (show k < cur.size by omega))]; rfl
   by_cases hin : i < zs.length
   ·refine (Any2.slices_Insert_int_shift Tryz.laysQ21 g off zs.length cap i vb 0 1 1 (iC zs) [.int .i64 x] w hin (by decide) hroom (by unfold maxLen at hm; omega) hvg hic rfl hcs (fun j hj => hsome _ (by omega)) (fun j hj => blk_free hg _) hcv h1c h1v 3 3 1 cur.size (by simp [World.shape?, hvb]) (by simp [World.shape?, hg]) (by omega) (blk_free hvb _) (blk_free hvb _)).mono fun e w' hh => ?_
    obtain ⟨rfl, rfl⟩ := hh
    obtain ⟨cur1, g1, s1, a1⟩ := cells_set g 3 ((iC zs).drop i) (off + (i + 1)) w.drew cur hg
    obtain ⟨cur2, g2, s2, a2⟩ := cells_set g 3 [.int .i64 x] (off + i) _ cur1 g1
    refine ⟨_, rfl, ?_, ((Kept.of_below (Below.refl _ _).drew).trans ((kept_set g _ _ _).trans (kept_set g _ _ _))).mono fun b _ e => by rw [e]; rfl, .inl rfl⟩
    rw [← hil]
    refine que_of hB g2 (by omega) hm (.inl (by omega)) fun j z hz => ?_
    rw [insI_at hi x j] at hz
    rw [a2]
    by_cases h1 : j < i
    ·rw [if_pos h1] at hz
     rw [if_neg (by omega), a1, if_neg (by omega)]
     exact hg0 hz
    ·rw [if_neg h1] at hz
     by_cases h2 : j = i
     ·rw [if_pos h2] at hz
      subst h2
      have hjs : off + j < cur1.size := by omega
      rw [if_pos (by simp; omega)]
      simpa using hz
     ·rw [if_neg h2] at hz
      have hjl := (List.getElem?_eq_some_iff.1 hz).1
      rw [if_neg (by simp; omega), a1, if_pos (by rw [List.length_drop, hic]; omega), List.getElem?_drop, show i + (off + j - (off + (i + 1))) = j - 1 by omega]
      simp [iC, hz]
   ·obtain rfl : i = zs.length := by omega
    refine (Any2.slices_Insert_int_end_room Tryz.laysQ21 g off zs.length cap vb 0 1 1 [.int .i64 x] w (by decide) hroom (by unfold maxLen at hm; omega) rfl (fun j hj => hsome _ (by omega)) (fun j hj => blk_free hg _) hcv h1v).mono fun e w' hh => ?_
    obtain ⟨rfl, rfl⟩ := hh
    obtain ⟨cur2, g2, s2, a2⟩ := cells_set g 3 [.int .i64 x] (off + zs.length) w cur hg
    refine ⟨_, rfl, ?_, (kept_set g _ _ _).mono fun b _ e => by rw [e]; rfl, .inl rfl⟩
    rw [← hil]
    refine que_of hB g2 (by omega) hm (.inl (by omega)) fun j z hz => ?_
    rw [insI_at hi x j] at hz
    rw [a2]
    by_cases h1 : j < zs.length
    ·rw [if_pos h1] at hz
     rw [if_neg (by omega)]
     exact hg0 hz
    ·rw [if_neg h1] at hz
     by_cases h2 : j = zs.length
     ·rw [if_pos h2] at hz
      subst h2
      rw [if_pos (by simp; omega)]
      simpa using hz
     ·rw [if_neg h2] at hz
      have hjl := (List.getElem?_eq_some_iff.1 hz).1
      omega
  ·have hge := grownCap_ge w (zs.length + 1) cap 3
   have hle := grownCap_le_maxLen w (zs.length + 1) cap 3 (by unfold maxLen; omega)
   by_cases hin : i < zs.length
   ·refine (Any2.slices_Insert_int_grow Tryz.laysQ21 g off zs.length cap i vb 0 1 1 (iC zs) [.int .i64 x] w hin (by decide) hn (by omega) (by omega) hic rfl hcs hcv h1c h1v).mono fun e w' hh => ?_
    obtain ⟨rfl, rfl⟩ := hh
    obtain ⟨cap', hcap'⟩ : ∃ c, c = grownCap w (zs.length + 1) cap 3 := ⟨_, rfl⟩
    obtain ⟨C0, hC0⟩ : ∃ C0, C0 = ((iC zs).take i).toArray ++ Builtin.zeroCells (Value.int .i64 0).cells (zs.length + 1 - i) ++ Builtin.zeroCells (Value.int .i64 0).cells (cap' - (zs.length + 1)) := ⟨_, rfl⟩
    have hz0 : C0.size = cap' := by
     rw [hC0, Array.size_append, Array.size_append, size_zeroCells, size_zeroCells, hcz]
     simp only [List.size_toArray, List.length_take, hic]
     omega
    have hc0 : ∀ j z, j < i → zs[j]? = some z → C0[j]? = some (.int .i64 z) := fun j z hj hz => by
     rw [hC0, Array.append_assoc]
     have h1 := grow_at (l := (iC zs).take i) (Z := Builtin.zeroCells (Value.int .i64 0).cells (zs.length + 1 - i) ++ Builtin.zeroCells (Value.int .i64 0).cells (cap' - (zs.length + 1))) (j := j) (u := .int .i64 z) (by rw [List.getElem?_take_of_lt hj]; simp [iC, hz])
     rw [Nat.zero_add] at h1
     exact h1
    show ∃ v', Ending.returned (.slice (some ⟨w.heap.size, 0, none⟩) (zs.length + 1) (grownCap w (zs.length + 1) cap 3)) = Ending.returned v' ∧ Que ((((w.alloc (.cells (((iC zs).take i).toArray ++ Builtin.zeroCells (Value.int .i64 0).cells (zs.length + 1 - i) ++ Builtin.zeroCells (Value.int .i64 0).cells (grownCap w (zs.length + 1) cap 3 - (zs.length + 1))) 3)).drew.setCells w.heap.size i [.int .i64 x]).drew).setCells w.heap.size (i + 1) ((iC zs).drop i)) B v' (insI zs i x) ∧ _ ∧ _
    rw [← hcap', ← hC0]
    have hgn : (w.alloc (.cells C0 3)).drew.heap[w.heap.size]? = some (.cells C0 3 (0, 0)) := heap_alloc_new w _
    obtain ⟨cur1, g1, s1, a1⟩ := cells_set w.heap.size 3 [.int .i64 x] i (w.alloc (.cells C0 3)).drew C0 hgn
    obtain ⟨cur2, g2, s2, a2⟩ := cells_set w.heap.size 3 ((iC zs).drop i) (i + 1) ((w.alloc (.cells C0 3)).drew.setCells w.heap.size i [.int .i64 x]).drew cur1 g1
    refine ⟨_, rfl, ?_, ((Kept.of_below (F := fun x => x = w.heap.size) ((Below.refl _ _).alloc (Nat.le_refl _) _).drew).trans ((kept_set w.heap.size _ _ _).trans ((Kept.of_below (Below.refl _ _).drew).trans (kept_set w.heap.size _ _ _)))).mono fun b hb e => absurd e (by omega), .inr rfl⟩
    rw [← hil]
    refine que_of hBw g2 (by omega) (by omega) (.inl (by omega)) fun j z hz => ?_
    rw [insI_at hi x j] at hz
    rw [Nat.zero_add, a2]
    by_cases h1 : j < i
    ·rw [if_pos h1] at hz
     rw [if_neg (by omega), a1, if_neg (by omega)]
     exact hc0 j z h1 hz
    ·rw [if_neg h1] at hz
     by_cases h2 : j = i
     ·rw [if_pos h2] at hz
      subst h2
      rw [if_neg (by omega), a1, if_pos (by simp; omega)]
      simpa using hz
     ·rw [if_neg h2] at hz
      have hjl := (List.getElem?_eq_some_iff.1 hz).1
      rw [if_pos (by rw [List.length_drop, hic]; omega), List.getElem?_drop, show i + (j - (i + 1)) = j - 1 by omega]
      simp [iC, hz]
   ·obtain rfl : i = zs.length := by omega
    refine (Any2.slices_Insert_int_end_grow Tryz.laysQ21 (some ⟨g, off, none⟩) zs.length cap vb 0 1 1 (iC zs) [.int .i64 x] w (by decide) hn (by omega) (by omega) hic rfl (fun e => by cases e) (fun a ha j u hu => by
     cases ha
     have e9 : (⟨g, off, none⟩ : Addr).add j = ⟨g, off + j, none⟩ := by simp only [Addr.add]; split <;> simp_all
     rw [e9]
     exact hcs j u hu) hcv h1v).mono fun e w' hh => ?_
    obtain ⟨rfl, rfl⟩ := hh
    refine ⟨_, rfl, ?_, Kept.of_below ((Below.refl _ _).drew.alloc (Nat.le_refl _) _), .inr rfl⟩
    refine que_of2 hil hBw (heap_alloc_new w.drew _) hge (by rw [Nat.zero_add]; exact hle) (.inl ?_) fun j z hz => ?_
    ·rw [Array.size_append, size_zeroCells, hcz]
     simp only [List.size_toArray, List.length_append, hic, List.length_singleton]
     show 0 + grownCap w (zs.length + 1) cap 3 = zs.length + 1 + (grownCap w (zs.length + 1) cap 3 - (zs.length + 1)) * 1
     omega
    ·refine grow_at ?_
     rw [insI_at hi x j] at hz
     by_cases h1 : j < zs.length
     ·rw [if_pos h1] at hz
      rw [List.getElem?_append_left (by omega)]
      simp [iC, hz]
     ·rw [if_neg h1] at hz
      by_cases h2 : j = zs.length
      ·rw [if_pos h2] at hz
       subst h2
       rw [List.getElem?_append_right (by omega), hic, Nat.sub_self]
       simpa using hz
      ·rw [if_neg h2] at hz
       have hjl := (List.getElem?_eq_some_iff.1 hz).1
       omega
end Go.Proofs.YtplofbabfkkimaaGreatDoor.Ts
/- tauscc: the order of a collapsed system's states: plain facts. -/
namespace Go.Proofs.YtplofbabfkkimaaGreatDoor.Ts
def Rd (n : Nat) (out : Nat → List Nat) (od : List Nat) (x : Nat) : Prop := x < n ∧ x ∉ od ∧ ∀ y ∈ out x, y ∈ od
inductive Grd (n : Nat) (out : Nat → List Nat) : List Nat → Prop
 | nil : Grd n out []
 | snoc {od : List Nat} {t : Nat} : Grd n out od → Rd n out od t → (∀ x, x < t → ¬ Rd n out od x) → Grd n out (od ++ [t])
theorem Grd.lt {n : Nat} {out : Nat → List Nat} {od : List Nat} (h : Grd n out od) : ∀ x ∈ od, x < n := by
 induction h with
 | nil => intro x hx; cases hx
 | snoc h1 h2 h3 ih =>
   intro x hx
   rcases List.mem_append.1 hx with hx | hx
   ·exact ih x hx
   ·rw [List.mem_singleton.1 hx]; exact h2.1
theorem Grd.nodup {n : Nat} {out : Nat → List Nat} {od : List Nat} (h : Grd n out od) : od.Nodup := by
 induction h with
 | nil => exact .nil
 | snoc h1 h2 h3 ih =>
   refine List.nodup_append.2 ⟨ih, List.nodup_cons.2 ⟨by simp, .nil⟩, fun a ha b hb e => ?_⟩
   rw [List.mem_singleton.1 hb] at e
   rw [e] at ha
   exact h2.2.1 ha
theorem Grd.shut {n : Nat} {out : Nat → List Nat} {od : List Nat} (h : Grd n out od) : ∀ x ∈ od, ∀ y ∈ out x, y ∈ od := by
 induction h with
 | nil => intro x hx; cases hx
 | snoc h1 h2 h3 ih =>
   intro x hx y hy
   refine List.mem_append_left _ ?_
   rcases List.mem_append.1 hx with hx | hx
   ·exact ih x hx y hy
   ·rw [List.mem_singleton.1 hx] at hy; exact h2.2.2 y hy
theorem Grd.le {n : Nat} {out : Nat → List Nat} {od : List Nat} (h : Grd n out od) : od.length ≤ n := by
 have h3 := nodup_sub od (List.range n) h.nodup fun x hx => List.mem_range.2 (h.lt x hx)
 rwa [List.length_range] at h3
theorem Grd.one {n : Nat} {out : Nat → List Nat} {od : List Nat} (h : Grd n out od) : ∀ {od' : List Nat}, Grd n out od' → od.length = od'.length → od = od' := by
 induction h with
 | nil => intro od' _ e; exact (List.length_eq_zero_iff.1 e.symm).symm
 | @snoc od t h1 h2 h3 ih =>
   intro od' h' e
   cases h' with
   | nil => simp at e
   | @snoc od2 t2 g1 g2 g3 =>
     have e2 := ih g1 (by simpa using e)
     subst e2
     have e3 : t = t2 := by
      rcases Nat.lt_trichotomy t t2 with h4 | h4 | h4
      ·exact absurd h2 (g3 t h4)
      ·exact h4
      ·exact absurd g2 (h3 t2 h4)
     rw [e3]
def aw (out : Nat → List Nat) (od : List Nat) (x : Nat) : Nat := (out x).countP fun y => decide (y ∉ od)
theorem aw_zero {out : Nat → List Nat} {od : List Nat} {x : Nat} : aw out od x = 0 ↔ ∀ y ∈ out x, y ∈ od := by
 unfold aw
 rw [List.countP_eq_zero]
 exact ⟨fun h y hy => by simpa using h y hy, fun h y hy => by simpa using h y hy⟩
theorem aw_snoc {out : Nat → List Nat} {od : List Nat} {x t : Nat} (hnd : (out x).Nodup) (ht : t ∉ od) : aw out od x = aw out (od ++ [t]) x + if t ∈ out x then 1 else 0 := by
 unfold aw
 generalize out x = l at hnd
 induction l with
 | nil => rfl
 | cons a r ih =>
   obtain ⟨h1, h2⟩ := List.nodup_cons.1 hnd
   have h3 := ih h2
   rw [List.countP_cons, List.countP_cons, h3]
   by_cases e : a = t
   ·subst e
    rw [if_neg h1]
    simp [ht]
   ·have e2 : t ≠ a := fun e3 => e e3.symm
    by_cases hm : a ∈ od
    ·simp [hm, e2]
    ·simp [hm, e, e2]; omega
def awj (out : Nat → List Nat) (od P : List Nat) (x : Nat) : Nat := aw out od x + if x ∈ P then 1 else 0
structure RdL (p : Nat → Prop) (rd : List Nat) : Prop where
 ris : rd.Pairwise (· < ·)
 mem : ∀ x, x ∈ rd ↔ p x
def insN (rd : List Nat) (x : Nat) : List Nat := rd.take (rd.countP (· < x)) ++ x :: rd.drop (rd.countP (· < x))
theorem insN_cons {a x : Nat} {r : List Nat} (h : (a :: r).Pairwise (· < ·)) : insN (a :: r) x = if a < x then a :: insN r x else x :: a :: r := by
 unfold insN
 by_cases hx : a < x
 ·rw [if_pos hx, List.countP_cons_of_pos (by simpa using hx), List.take_succ_cons, List.drop_succ_cons]; rfl
 ·rw [if_neg hx]
  have h1 : (a :: r).countP (· < x) = 0 := List.countP_eq_zero.2 fun y hy => by
   rcases List.mem_cons.1 hy with rfl | hy
   ·simpa using hx
   ·have := (List.pairwise_cons.1 h).1 y hy
    simp; omega
  rw [h1]; rfl
theorem insN_mem (rd : List Nat) (x y : Nat) : y ∈ insN rd x ↔ y = x ∨ y ∈ rd := by
 unfold insN
 rw [List.mem_append, List.mem_cons]
 have h : y ∈ rd ↔ y ∈ rd.take (rd.countP (· < x)) ∨ y ∈ rd.drop (rd.countP (· < x)) := by rw [← List.mem_append, List.take_append_drop]
 rw [h]
 constructor
 ·rintro (h | h | h)
  ·exact .inr (.inl h)
  ·exact .inl h
  ·exact .inr (.inr h)
 ·rintro (h | h | h)
  ·exact .inr (.inl h)
  ·exact .inl h
  ·exact .inr (.inr h)
theorem insN_ris {rd : List Nat} {x : Nat} (h : rd.Pairwise (· < ·)) (hx : x ∉ rd) : (insN rd x).Pairwise (· < ·) := by
 induction rd with
 | nil => exact List.pairwise_singleton _ _
 | cons a r ih =>
   rw [insN_cons h]
   obtain ⟨h1, h2⟩ := List.pairwise_cons.1 h
   by_cases ha : a < x
   ·rw [if_pos ha]
    refine List.pairwise_cons.2 ⟨fun y hy => ?_, ih h2 fun e => hx (List.mem_cons_of_mem _ e)⟩
    rcases (insN_mem r x y).1 hy with rfl | hy
    ·exact ha
    ·exact h1 y hy
   ·rw [if_neg ha]
    have hne : x ≠ a := fun e => hx (by rw [e]; exact List.mem_cons_self)
    refine List.pairwise_cons.2 ⟨fun y hy => ?_, h⟩
    rcases List.mem_cons.1 hy with rfl | hy
    ·omega
    ·have := h1 y hy; omega
theorem RdL.ins {p q : Nat → Prop} {rd : List Nat} {x : Nat} (h : RdL p rd) (hx : ¬ p x) (hq : ∀ y, q y ↔ y = x ∨ p y) : RdL q (insN rd x) :=
 ⟨insN_ris h.ris fun e => hx ((h.mem x).1 e), fun y => by rw [insN_mem, hq, h.mem]⟩
theorem RdL.congr {p q : Nat → Prop} {rd : List Nat} (h : RdL p rd) (hq : ∀ y, q y ↔ p y) : RdL q rd := ⟨h.ris, fun y => (h.mem y).trans (hq y).symm⟩
theorem RdL.tail {p : Nat → Prop} {t : Nat} {r : List Nat} (h : RdL p (t :: r)) : RdL (fun x => p x ∧ x ≠ t) r := by
 obtain ⟨h1, h2⟩ := List.pairwise_cons.1 h.ris
 refine ⟨h2, fun x => ⟨fun hx => ⟨(h.mem x).1 (List.mem_cons_of_mem _ hx), fun e => ?_⟩, fun hx => ?_⟩⟩
 ·have := h1 x hx; omega
 ·rcases List.mem_cons.1 ((h.mem x).2 hx.1) with e | e
  ·exact absurd e hx.2
  ·exact e
theorem RdL.least {p : Nat → Prop} {t : Nat} {r : List Nat} (h : RdL p (t :: r)) : p t ∧ ∀ x, x < t → ¬ p x := by
 obtain ⟨h1, h2⟩ := List.pairwise_cons.1 h.ris
 refine ⟨(h.mem t).1 List.mem_cons_self, fun x hx hp => ?_⟩
 rcases List.mem_cons.1 ((h.mem x).2 hp) with e | e
 ·omega
 ·have := h1 x e; omega
structure EfJ (n : Nat) (out : Nat → List Nat) (od P : List Nat) (A : List Int) (rd : List Nat) : Prop where
 len : A.length = n
 at_ : ∀ x, x < n → A[x]? = some ((awj out od P x : Nat) : Int)
 rd : RdL (fun x => x < n ∧ x ∉ od ∧ awj out od P x = 0) rd
theorem EfJ.fin {n : Nat} {out : Nat → List Nat} {od : List Nat} {A : List Int} {rd : List Nat} (h : EfJ n out od [] A rd) : RdL (Rd n out od) rd :=
 h.rd.congr fun y => by
  unfold Rd awj
  rw [← aw_zero]
  simp
theorem EfJ.take {n : Nat} {out : Nat → List Nat} {od P : List Nat} {A : List Int} {t : Nat} {r : List Nat} (h : EfJ n out od [] A (t :: r)) (hnd : ∀ x, x < n → (out x).Nodup) (hP : ∀ x, x ∈ P ↔ x < n ∧ t ∈ out x) : Rd n out od t ∧ (∀ x, x < t → ¬ Rd n out od x) ∧ EfJ n out (od ++ [t]) P A r := by
 obtain ⟨h1, h2⟩ := h.fin.least
 have e : ∀ x, x < n → awj out od [] x = awj out (od ++ [t]) P x := fun x hx => by
  unfold awj
  rw [aw_snoc (hnd x hx) h1.2.1]
  have : x ∈ P ↔ t ∈ out x := by rw [hP]; exact ⟨fun h => h.2, fun h => ⟨hx, h⟩⟩
  simp [this]
 refine ⟨h1, h2, h.len, fun x hx => by rw [h.at_ x hx, e x hx], h.rd.tail.congr fun y => ?_⟩
 constructor
 ·rintro ⟨g1, g2, g3⟩
  have g4 : y ∉ od ∧ y ≠ t := by simpa using g2
  exact ⟨⟨g1, g4.1, by rw [e y g1]; exact g3⟩, g4.2⟩
 ·rintro ⟨⟨g1, g2, g3⟩, g4⟩
  exact ⟨g1, by simp [g2, g4], by rw [← e y g1]; exact g3⟩
theorem EfJ.step {n : Nat} {out : Nat → List Nat} {od P : List Nat} {A : List Int} {rd : List Nat} {x : Nat} (h : EfJ n out od (x :: P) A rd) (hx : x < n) (hnp : x ∉ P) (hno : x ∉ od) : A[x]? = some ((aw out od x : Nat) + 1 : Int) ∧ (aw out od x ≠ 0 → EfJ n out od P (A.set x (aw out od x : Nat)) rd) ∧ (aw out od x = 0 → EfJ n out od P (A.set x (aw out od x : Nat)) (insN rd x)) := by
 have e0 : awj out od (x :: P) x = aw out od x + 1 := by unfold awj; simp
 have e1 : awj out od P x = aw out od x := by unfold awj; simp [hnp]
 have e2 : ∀ y, y ≠ x → awj out od (x :: P) y = awj out od P y := fun y hy => by unfold awj; simp [hy]
 have hA : (A.set x (aw out od x : Nat)).length = n := by rw [List.length_set]; exact h.len
 have hat : ∀ y, y < n → (A.set x ((aw out od x : Nat) : Int))[y]? = some ((awj out od P y : Nat) : Int) := fun y hy => by
  by_cases e : x = y
  ·subst e; rw [List.getElem?_set_self (by rw [h.len]; exact hy), e1]
  ·rw [List.getElem?_set_ne e, h.at_ y hy, e2 y fun e3 => e e3.symm]
 refine ⟨by rw [h.at_ x hx, e0]; simp, fun hz => ⟨hA, hat, h.rd.congr fun y => ?_⟩, fun hz => ⟨hA, hat, h.rd.ins (fun hp => ?_) fun y => ?_⟩⟩
 ·by_cases e : y = x
  ·subst e
   rw [e0, e1]
   constructor
   ·rintro ⟨_, _, g⟩; exact absurd g hz
   ·rintro ⟨_, _, g⟩; omega
  ·rw [e2 y e]
 ·have := hp.2.2
  rw [e0] at this
  omega
 ·by_cases e : y = x
  ·subst e
   rw [e0, e1]
   exact ⟨fun _ => .inl rfl, fun _ => ⟨hx, hno, hz⟩⟩
  ·rw [e2 y e]
   exact ⟨fun g => .inr g, fun g => g.elim (fun e3 => absurd e3 e) fun g => g⟩
theorem cast_ins (rd : List Nat) (x : Nat) : insI (cast rd) ((cast rd).countP (· < (x : Int))) (x : Int) = cast (insN rd x) ∧ (cast rd).countP (· < (x : Int)) = rd.countP (· < x) := by
 have h1 : (cast rd).countP (· < (x : Int)) = rd.countP (· < x) := by
  unfold cast
  rw [List.countP_map]
  congr 1
  funext y
  simp
 refine ⟨?_, h1⟩
 rw [h1]
 unfold insI insN cast
 rw [List.map_append, List.map_cons, List.map_take, List.map_drop]
end Go.Proofs.YtplofbabfkkimaaGreatDoor.Ts
/- tauscc: the states that silent steps lead from: plain facts. -/
namespace Go.Proofs.YtplofbabfkkimaaGreatDoor.Ts
theorem row_rise {l : List Sy.Ed} (h : Sy.Str l) (n : Nat) (i b : Int) : (Sy.ends (Sy.rowOf n l i) b).Pairwise (· < ·) := by
 unfold Sy.ends Sy.rowOf
 split
 ·unfold Sy.steps
  rw [List.filter_map, List.map_map, List.pairwise_map]
  refine (((Sy.str_pair h).filter _).filter _).imp_of_mem ?_
  intro x y hx hy hl
  obtain ⟨hx1, hx2⟩ := List.mem_filter.1 hx
  obtain ⟨hy1, hy2⟩ := List.mem_filter.1 hy
  have h1 : x.1 = i := by simpa using (List.mem_filter.1 hx1).2
  have h2 : y.1 = i := by simpa using (List.mem_filter.1 hy1).2
  have h3 : x.2.1 = b := by simpa using hx2
  have h4 : y.2.1 = b := by simpa using hy2
  rw [Sy.lt_iff] at hl
  show x.2.2 < y.2.2
  omega
 ·exact .nil
theorem nodup_cast {l : List Nat} (h : (cast l).Pairwise (· < ·)) : l.Nodup := by
 unfold cast at h
 rw [List.pairwise_map] at h
 exact h.imp fun hab e => by subst e; omega
theorem sil_nodup {n : Nat} {k s : Int} {es : List Sy.Ed} (hr : Sy.right n k s es = true) (hl : (Sy.nf es).length ≤ 10000) {q : Nat} (hq : q < n) : (sil n es q).Nodup := by
 refine nodup_cast ?_
 rw [(sil_row hr hl hq).1]
 exact row_rise (Sy.nf_str _) n q 0
def pre (n : Nat) (es : List Sy.Ed) (t : Nat) : List Nat := (Sy.ends (Sy.rowOf n (Sy.nf ((Sy.nf es).map Sy.turn)) t) 0).map Int.toNat
theorem pre_in {n : Nat} {es : List Sy.Ed} {t : Nat} (ht : t < n) {z : Int} : z ∈ Sy.ends (Sy.rowOf n (Sy.nf ((Sy.nf es).map Sy.turn)) t) 0 ↔ (z, (0 : Int), (t : Int)) ∈ es := by
 rw [ends_in, row_in (n := n) (es := (Sy.nf es).map Sy.turn) ⟨Int.natCast_nonneg t, by omega⟩, List.mem_map]
 constructor
 ·rintro ⟨e, he, h⟩
  rw [Sy.nf_mem] at he
  obtain ⟨e1, e2, e3⟩ := e
  simp only [Sy.turn, Prod.mk.injEq] at h
  obtain ⟨rfl, rfl, rfl⟩ := h
  exact he
 ·intro h
  exact ⟨_, (Sy.nf_mem _ _).2 h, rfl⟩
theorem pre_row {n : Nat} {k s : Int} {es : List Sy.Ed} (hr : Sy.right n k s es = true) {t : Nat} (ht : t < n) : cast (pre n es t) = Sy.ends (Sy.rowOf n (Sy.nf ((Sy.nf es).map Sy.turn)) t) 0 ∧ (pre n es t).Nodup ∧ (∀ x, x ∈ pre n es t ↔ x < n ∧ t ∈ sil n es x) ∧ (pre n es t).length ≤ n := by
 have e1 : cast (pre n es t) = Sy.ends (Sy.rowOf n (Sy.nf ((Sy.nf es).map Sy.turn)) t) 0 := cast_toNat fun z hz => by
  exact ((right_parts hr).2.2.2.2.2 _ ((pre_in ht).1 hz)).1
 have e2 : (pre n es t).Nodup := nodup_cast (by rw [e1]; exact row_rise (Sy.nf_str _) n t 0)
 have e3 : ∀ x, x ∈ pre n es t ↔ x < n ∧ t ∈ sil n es x := fun x => by
  have h1 : x ∈ pre n es t ↔ ((x : Int), (0 : Int), (t : Int)) ∈ es := by
   rw [← pre_in ht, ← e1]
   unfold cast
   rw [List.mem_map]
   constructor
   ·intro h; exact ⟨x, h, rfl⟩
   ·rintro ⟨y, hy, e⟩
    have : y = x := Int.ofNat.inj e
    subst this
    exact hy
  rw [h1]
  constructor
  ·intro h
   have h2 := (right_parts hr).2.2.2.2.2 _ h
   simp only at h2
   have hx : x < n := by omega
   exact ⟨hx, (sil_mem hr hx).2 h⟩
  ·rintro ⟨hx, h⟩
   exact (sil_mem hr hx).1 h
 refine ⟨e1, e2, e3, ?_⟩
 have h3 := nodup_sub (pre n es t) (List.range n) e2 fun x hx => List.mem_range.2 ((e3 x).1 hx).1
 rwa [List.length_range] at h3
end Go.Proofs.YtplofbabfkkimaaGreatDoor.Ts
