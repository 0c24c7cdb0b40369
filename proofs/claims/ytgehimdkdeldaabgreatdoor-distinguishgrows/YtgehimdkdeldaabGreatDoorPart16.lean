/- Texts of this claim, joined: SgRef1, SgCls0, SgRef, SgCan, SgClasses, DiAlike, BXNodes, DiWrite, DiCmp, DiBd. -/
import Derived.Test.YtgehimdkdeldaabGreatDoorPart15
import Derived.Test.YtgehimdkdeldaabGreatDoorPart8
import Derived.Test.YtgehimdkdeldaabGreatDoorPart0
import Derived.Maps.AppendAt
import Derived.Laws.ResultCell
import Derived.Test.YtgehimdkdeldaabGreatDoorPart1
import Derived.Test.YtgehimdkdeldaabGreatDoorPart7
import Derived.Deep.QuietTactic
import Derived.BigQuiet
import Derived.Test.YtgehimdkdeldaabGreatDoorPart5
import Derived.Deep.LoopGhost
namespace Go.Proofs.YtgehimdkdeldaabGreatDoor
section
open Go.RowKit Go.Maps
theorem RunAt.kept {w0 w w' : World} {r g p mb nm : Nat} {G : Gp} {s : Pst} {x : Rv} {F : Nat -> Prop} (h : RunAt w0 w r g p mb nm G s x) (hk : Kept F w w') (hF : ∀ b, F b -> w0.heap.size <= b /\ b ≠ p /\ b ≠ r /\ b ≠ mb /\ ¬ x.foot b) : RunAt w0 w' r g p mb nm G s x := by
 obtain ⟨c, h1, h2⟩ := h.c
 exact ⟨h.m.kept hk (fun e => (hF r e).2.2.1 rfl) (fun b hb e => (hF b e).2.2.2.2 hb), ⟨c, h1.kept hk fun b hb => ⟨(hF b hb).1, (hF b hb).2.1⟩, h2⟩, h.ok, h.bare, h.n, h.i, h.gr, h.mu, h.cnt.kept hk fun e => (hF mb e).2.2.2.1 rfl, h.ksv⟩
theorem told_far {w0 wS w : World} {r g p mb tb nm : Nat} {G : Gp} {s : Pst} {x : Rv} {vT vG : Value} {gz : List Int} {tk : List (Value × List Int)} (hR : RunAt w0 w r g p mb nm G s x) (hT : Told w wS.heap.size tb vT vG gz tk) (hlo : p < wS.heap.size /\ r < wS.heap.size /\ mb < wS.heap.size) (h0 : w0.heap.size <= wS.heap.size) : ∀ b, (b = tb \/ vT.ownBlock = some b) -> w0.heap.size <= b /\ b ≠ p /\ b ≠ r /\ b ≠ mb /\ ¬ x.foot b := fun b hb => by
 have hup := hT.up
 rcases hb with rfl | hb
 ·exact ⟨by omega, by omega, by omega, by omega, hR.m.foot_ne hT.box (by decide) (by decide)⟩
 ·have h1 := (hT.row.lt b hb).1
  obtain ⟨cs, hc⟩ := row_cells hT.row hb
  exact ⟨by omega, by omega, by omega, by omega, hR.m.foot_ne hc (by decide) (by decide)⟩
theorem Told.tell {w4 w7 : World} {B tb n7 c7 K : Nat} {vT vG u : Value} {a7 : Option Addr} {gz ms : List Int} {tk : List (Value × List Int)} {tmp : Obj} (h : Told w4 B tb vT vG gz tk) (hu : OwnI w4 B u ms) (hun : ∀ b, u.ownBlock = some b -> ¬ Foot ((vG, gz) :: tk) b) (hK : K = tk.length + 1) (hO : w7.ownsRow B 39 1 (.slice a7 n7 c7) K (tk.map (·.1) ++ [u])) (hg : (w4.alloc tmp).grownBy w7 vT.ownBlock) (hat : (Value.slice a7 n7 c7).ownBlock = vT.ownBlock \/ (Value.slice a7 n7 c7).ownBlock = some (w4.heap.size + 1)) :
 Told (w7.setCell ⟨tb, 1, none⟩ (.slice a7 n7 c7)) B tb (.slice a7 n7 c7) vG gz (tk ++ [(u, ms)]) /\ Kept (fun b => b = tb \/ vT.ownBlock = some b) w4 (w7.setCell ⟨tb, 1, none⟩ (.slice a7 n7 c7)) /\ OwnI (w7.setCell ⟨tb, 1, none⟩ (.slice a7 n7 c7)) B u ms := by
 subst hK
 have hk7 : Kept (fun b => vT.ownBlock = some b) w4 w7 := grown_alloc hg
 have hk8 : Kept (fun b => b = tb \/ vT.ownBlock = some b) w4 (w7.setCell ⟨tb, 1, none⟩ (.slice a7 n7 c7)) := (hk7.mono fun _ _ e => .inr e).trans ((Kept.setCell w7 tb 1 _).mono fun _ _ e => .inl e)
 have hint : ∀ {b : Nat} {cs : Array Value}, w4.heap[b]? = some (.cells cs 3 (0, 0)) -> ¬ (b = tb \/ vT.ownBlock = some b) := fun {b cs} hc e => by
  rcases e with e | e
  ·have h1 := h.box
   rw [<- e, hc] at h1
   injection h1 with h1
   injection h1 with _ h2
   exact absurd h2 (by decide)
  ·exact own_bk h.row hc (by decide) e
 have hvT : vT.ownBlock ≠ some tb := fun e => own_bk h.row h.box (by decide) e
 have hL : ((vG, gz) :: (tk ++ [(u, ms)])) = ((vG, gz) :: tk) ++ [(u, ms)] := rfl
 have hq : QueAll w4 B ((vG, gz) :: (tk ++ [(u, ms)])) := by
  rw [hL]
  have hN : ∀ (i : Nat) (z : Value × List Int), (((vG, gz) :: tk) ++ [(u, ms)])[i]? = some z -> (i < ((vG, gz) :: tk).length /\ ((vG, gz) :: tk)[i]? = some z) \/ (i = ((vG, gz) :: tk).length /\ z = (u, ms)) := fun i z hz => by
   rcases Nat.lt_or_ge i ((vG, gz) :: tk).length with h1 | h1
   ·rw [List.getElem?_append_left h1] at hz; exact .inl ⟨h1, hz⟩
   ·rw [List.getElem?_append_right h1] at hz
    have h2 := (List.getElem?_eq_some_iff.1 hz).1
    simp only [List.length_cons, List.length_nil] at h2 h1
    have h3 : i = ((vG, gz) :: tk).length := by simp only [List.length_cons]; omega
    rw [h3, Nat.sub_self] at hz
    exact .inr ⟨h3, (Option.some.inj hz).symm⟩
  refine ⟨fun i z hz => ?_, fun i j z y b hz hy hne hzb hyb => ?_⟩
  ·rcases hN i z hz with ⟨_, h1⟩ | ⟨_, rfl⟩
   ·exact h.q.q i z h1
   ·exact Que.of_own hu
  ·rcases hN i z hz with ⟨_, h1⟩ | ⟨e1, rfl⟩
   ·rcases hN j y hy with ⟨_, h2⟩ | ⟨_, rfl⟩
    ·exact h.q.ap i j z y b h1 h2 hne hzb hyb
    ·exact hun b hyb ⟨z, List.mem_of_getElem? h1, hzb⟩
   ·rcases hN j y hy with ⟨_, h2⟩ | ⟨e2, rfl⟩
    ·exact hun b hzb ⟨y, List.mem_of_getElem? h2, hyb⟩
    ·exact hne (e1.trans e2.symm)
 have hv' : (Value.slice a7 n7 c7).ownBlock ≠ some tb := fun e => by
  rcases hat with h1 | h1
  ·exact hvT (by rw [<- h1]; exact e)
  ·rw [h1] at e
   have := t_lt h.box
   injection e with e
   omega
 refine ⟨⟨?_, ?_, hq.kept hk8 fun b hb => ?_, fun z hz => ?_, h.up⟩, hk8, own_up hu hk8 fun b hb => ?_⟩
 ·exact box_put ((hk7.block tb (t_lt h.box) hvT).trans h.box) _
 ·rw [List.map_append, List.length_append]
  exact own_up hO (Kept.setCell w7 tb 1 _) fun b hb e => hv' (by rw [<- e]; exact hb)
 ·obtain ⟨cs, hc⟩ := hq.typed hb
  exact hint hc
 ·rw [hL] at hz
  rcases List.mem_append.1 hz with h1 | h1
  ·exact h.fl z h1
  ·rw [List.mem_singleton.1 h1]; exact hu.at0
 ·obtain ⟨cs, hc⟩ := row_cells hu hb
  exact hint hc
theorem Told.bump {W : World} {B tb gb n m cap : Nat} {vT : Value} {gz : List Int} {tk : List (Value × List Int)} (h : Told W B tb vT (.slice (some ⟨gb, 0, none⟩) m cap) gz tk) {k : Nat} (hk : k < gz.length) (z : Int) (hn : gb = n) : Told (W.setCell ⟨gb, k, none⟩ (.int .i64 z)) B tb vT (.slice (some ⟨gb, 0, none⟩) m cap) (gz.set k z) tk /\ Kept (fun b => b = n) W (W.setCell ⟨gb, k, none⟩ (.int .i64 z)) := by
 subst hn
 have hkp := Kept.setCell W gb k (.int .i64 z)
 have hf : Foot ((Value.slice (some ⟨gb, 0, none⟩) m cap, gz) :: tk) gb := ⟨_, List.mem_cons_self, rfl⟩
 obtain ⟨cs, hc⟩ := h.q.typed hf
 refine ⟨⟨(hkp.block tb (t_lt h.box) fun e => ?_).trans h.box, own_up h.row hkp fun b hb e => ?_, ?_, fun y hy => ?_, h.up⟩, hkp⟩
 ·have h1 := h.box
  rw [e, hc] at h1
  injection h1 with h1
  injection h1 with _ h2
  exact absurd h2 (by decide)
 ·exact own_bk h.row hc (by decide) (by rw [<- e]; exact hb)
 ·have h1 := h.q.setAt (k := 0) (g := gb) (off := 0) (n := m) (cap := cap) (zs := gz) rfl hk z
  rw [Nat.zero_add] at h1
  exact h1
 ·rcases List.mem_cons.1 hy with rfl | hy
  ·exact at0_of _ _ _
  ·exact h.fl y (List.mem_cons_of_mem _ hy)
theorem next_all {w0 w : World} {r g p mb nm : Nat} {G : Gp} {s : Pst} {x : Rv} (h : RunAt w0 w r g p mb nm G s x) : Calls Tryz.prog 66 #[.pointer (some ⟨r, 0, none⟩)] w fun e w' => ∃ (k : Nat) (u : Value) (b9 : Nat) (is9 : Bool), e = .returned (.tuple #[.int .i64 (b9 : Int), .bool is9]) /\ NextAt w w' w0.heap.size r g p mb x k u /\ (is9 = true -> MayTake G s x b9) /\ (is9 = false -> AllOne G s x) := by
 refine (next_any w0.heap.size r g p mb x w h.m h.i.wtn (fun hv hh b hb => ?_)).mono fun e w' ⟨k, u, hN, hres⟩ => ?_
 ·obtain ⟨o, ho⟩ := List.mem_iff_getElem?.1 hh
  have h1 : (x.H.map (·.2))[o]? = some hv.2 := by rw [List.getElem?_map, ho]; rfl
  obtain ⟨c, e1, e2, _⟩ := (h.i.hs o hv.2 h1 b).1 hb
  exact ⟨c, e1, by rw [h.i.sz]; exact e2⟩
 ·rcases hres with ⟨hk, rfl⟩ | ⟨o, a1, b1, v1, bs1, y1, z1, _, hH1, hy1, hz1, rfl⟩
  ·exact ⟨k, u, 0, false, rfl, hN, (fun h => by cases h), fun _ => next_no h hN hk⟩
  ·exact ⟨k, u, _, true, rfl, hN, fun _ => next_yes h hH1 hy1 hz1, (fun h => by cases h)⟩
theorem RfL.next {w0 wS wr w' : World} {r g p mb tb nm k : Nat} {G : Gp} {s : Pst} {x : Rv} {vT vG u : Value} {tk : List (Value × List Int)} (h : RfL w0 wS wr r g p mb tb nm G s x vT vG tk) (hN : NextAt wr w' w0.heap.size r g p mb x k u) : RfL w0 wS w' r g p mb tb nm G s (x.wait k u) vT vG tk := by
 have hup := h.told.up
 have hl := h.lo
 refine ⟨h.run.next hN, h.told.kept hN.gw.kp (fun e => ?_) (fun b hb e => ?_) (fun b hb e => ?_), fun b hb hb2 => ?_, h.lo, h.hist, h.nmb⟩
 ·rcases e with e | e
  ·omega
  ·exact h.run.m.foot_ne h.told.box (by decide) (by decide) e
 ·have h1 := (h.told.row.lt b hb).1
  obtain ⟨cs, hc⟩ := row_cells h.told.row hb
  rcases e with e | e
  ·omega
  ·exact h.run.m.foot_ne hc (by decide) (by decide) e
 ·have h1 := (h.told.q.lt hb).1
  rcases e with e | e
  ·omega
  ·exact h.far b e hb
 ·rcases hN.gw.ft b hb with h1 | h1
  ·exact h.far b h1 hb2
  ·have := (h.told.q.lt hb2).2
   omega
end
section
open Go.RowKit Go.Maps
attribute [local go_sem ↓] Go.wp_at_zero Go.wp_at_succ
set_option maxRecDepth 100000 in
set_option maxHeartbeats 4000000 in
theorem classes_none (g : Nat) (c : Nat -> Int) (w0 w : World) (hP : Pt w0 w g c) (h0 : c 0 = 0) :
 Calls Tryz.prog 69 #[.pointer (some ⟨g, 0, none⟩)] w fun r w' => ∃ u, r = .returned u /\ OwnI w' w.heap.size u [] /\ Below w.heap.size w w' := by
 have c0 := hP.cell (i := 0) (by omega)
 rw [h0] at c0
 have hCn : ∀ (ao : Option Addr) W, Below w.heap.size w W -> Calls Tryz.prog 98 #[.slice ao 0 0] W fun r w' => ∃ u, r = .returned u /\ OwnI w' W.heap.size u [] /\ Below W.heap.size W w' := fun ao W hW =>
  pCanon (.slice ao 0 0) [] W ⟨ao, 0, rfl, fun i z hz => by simp at hz⟩ (by simp) (fun z hz => by simp at hz)
 have H : Hid _ := And.intro hCn trivial
 clear hCn hP h0
 go_enter Tryz.func69, Tryz.ntmps69
 go_upto_region 3 with fail
 go_region_held3 (fun w' => (w'.cell? ⟨g, 0, none⟩ = some (.int .i64 0) /\ w'.cell? ⟨g, 0, none⟩ = some (.int .i64 0)) /\ Hid (Below w.heap.size w w')) (first | exact rgu2 hb5 (by assumption) | exact ⟨⟨c0, c0⟩, ((Below.refl _ _).drew : Below w.heap.size w w.drew)⟩ | go_keep)
  ((first
    | (go_at_call 98; refine Calls.mono (H.out.1 _ _ (rgb3 (by assumption))) ?_; rintro r w5 ⟨u, rfl, hO5, hb5⟩)
    | fail))
 have hbw : Below w.heap.size w w5 := rgb3 (by assumption)
 have HB : Hid (OwnI w5 w.heap.size u [] /\ Below w.heap.size w w5) := ⟨hO5, hbw⟩
 go_wp2_with fail
 go_ret
 exact ⟨_, rfl, HB.out.1, HB.out.2⟩
theorem classes_all (g : Nat) (c : Nat -> Int) (s : Pst) (w0 w : World) (hP : Pt w0 w g c) (hL : Lay c s) (hO : s.Ok) :
 Calls Tryz.prog 69 #[.pointer (some ⟨g, 0, none⟩)] w fun r w' => ∃ u, r = .returned u /\ OwnI w' w.heap.size u (natI (Sy.canon s.own)) /\ Below w.heap.size w w' := by
 rcases Nat.eq_zero_or_pos s.n with h | h
 ·have h1 := classes_none g c w0 w hP (by rw [hL.n, h]; rfl)
  have h2 : natI (Sy.canon s.own) = [] := by
   have h3 : s.own = [] := by unfold Pst.own; rw [h]; rfl
   rw [h3]; rfl
  rw [h2]
  exact h1
 ·exact classes_any g c s w0 w hP hL hO h
end
section
open Go.RowKit Go.Maps
attribute [local go_sem ↓] Go.wp_at_zero Go.wp_at_succ
theorem makeG (n : Nat) (hn : n <= 1000000) (w : World) : (Instr.makeSlice 39 (.int .i64 (n : Int)) (.int .i64 (n : Int))).run Tryz.prog w = .ok (.slice (some ⟨w.heap.size, 0, none⟩) n n) (w.alloc (.cells (madeV (.int .i64 0) n) 3)) := make_of _ _ _ 8 Tryz.underlying39 Tryz.infoI3 n hn (by decide) w
theorem Tryz.infoRow : (Tryz.prog.info? 39).map (fun i => (i.zero, i.size, i.bytes)) = some (some (.slice none 0 0), 1, 24) := by kernel_rfl
def EndAt (G : Gp) (tk : List (List Int)) (O : Nat -> Nat) (H : Nat -> Int) : Prop := (G.n = 0 /\ tk = []) \/ (tk ≠ [] /\ ∀ a b, a < G.n -> b < G.n -> H a = H b -> O a = O b)
structure RefAt (w w' : World) (G : Gp) (u vT vG : Value) (tk : List (Value × List Int)) (O : Nat -> Nat) : Prop where
 cls : OwnI w' w.heap.size u (natI (Sy.canon ((List.range G.n).map fun e : Nat => (O e : Int))))
 row : w'.ownsRow w.heap.size 39 1 vT tk.length (tk.map (·.1))
 q : QueAll w' w.heap.size ((vG, gOf G.n (gz1 (tk.map (·.2)))) :: tk)
 fl : ∀ z ∈ (vG, gOf G.n (gz1 (tk.map (·.2)))) :: tk, At0 z.1
 far : ∀ b, u.ownBlock = some b -> ¬ Foot ((vG, gOf G.n (gz1 (tk.map (·.2)))) :: tk) b
 hist : ∃ H h, Sg.Hist G (tk.map (·.2)) O H h /\ EndAt G (tk.map (·.2)) O H
 bl : Below w.heap.size w w'
theorem QueAll.base {w : World} {B B' : Nat} {L : List (Value × List Int)} (h : QueAll w B L) (hb : B' <= B) : QueAll w B' L :=
 ⟨fun i z hz => by
  rcases h.q i z hz with h1 | ⟨g, off, cap, cur, e, h1, h2⟩
  ·exact .inl h1
  ·exact .inr ⟨g, off, cap, cur, e, by omega, h2⟩, h.ap⟩
theorem told_first {w2 w3 : World} {m : Nat} (hm : m <= 1000) (hw3 : w3 = (w2.alloc (.cells (madeV (.int .i64 0) m) 3)).alloc (.cells #[.slice none 0 0, .slice none 0 0, .slice (some ⟨w2.heap.size, 0, none⟩) m m] 124)) : Told w3 w2.heap.size (w2.heap.size + 1) (.slice none 0 0) (.slice (some ⟨w2.heap.size, 0, none⟩) m m) (gOf m (gz1 [])) [] /\ Below w2.heap.size w2 w3 := by
 have hA := arr_new 3 (.int .i64 0) rfl m w2
 obtain ⟨wx, hwx⟩ : ∃ wx, wx = w2.alloc (.cells (madeV (.int .i64 0) m) 3) := ⟨_, rfl⟩
 rw [<- hwx] at hA hw3
 have hbx : Below wx.heap.size wx w3 := by rw [hw3]; exact (Below.refl _ _).alloc (Nat.le_refl _) _
 have hsx : wx.heap.size = w2.heap.size + 1 := by rw [hwx]; simp
 obtain ⟨cs, hc, hcl⟩ := hA.ids
 have hc3 := bup hbx hc
 have hz : iC (gOf m (gz1 [])) = List.replicate m (.int .i64 0) := by
  unfold iC gOf
  rw [List.map_map]
  apply List.ext_getElem?
  intro i
  rcases Nat.lt_or_ge i m with h | h
  ·rw [List.getElem?_map, List.getElem?_range h, List.getElem?_replicate, if_pos h]; rfl
  ·rw [List.getElem?_eq_none (by simp; exact h), List.getElem?_eq_none (by simp; exact h)]
 have hsz : cs.size = m := by rw [<- Array.length_toList, hcl, List.length_replicate]
 refine ⟨⟨?_, World.ownsRow_nil _ _ _ _, ⟨fun i z hi => ?_, fun i j z y b h1 h2 hne _ => ?_⟩, fun z hz => ?_, by omega⟩, hA.bl.trans (hbx.mono hA.bl.size)⟩
 ·rw [hw3, <- hsx]; exact heap_alloc_new wx _
 ·match i, hi with
  | 0, hi =>
    cases hi
    refine .inr ⟨w2.heap.size, 0, m, cs, by rw [gOf_len], Nat.le_refl _, hc3, by rw [gOf_len]; exact Nat.le_refl _, by unfold maxLen; omega, .inl (by omega), ?_⟩
    rw [List.drop_zero, gOf_len, hcl, hz]
    exact List.take_of_length_le (by simp)
  | i + 1, hi => simp at hi
 ·have a1 := (List.getElem?_eq_some_iff.1 h1).1
  have a2 := (List.getElem?_eq_some_iff.1 h2).1
  simp at a1 a2
  omega
 ·rw [List.mem_singleton.1 hz]; exact at0_of _ _ _
set_option linter.unusedSimpArgs false in
set_option maxRecDepth 100000 in
set_option maxHeartbeats 16000000 in
theorem refine_ok (hS : SortOk 1000000) (m kk : Nat) (s : Int) (v : Value) (es : List Sy.Ed) (a : Addr) (w : World) (hA : Sent w 5 a) (hv : BEdges.Has w v es) (hm : es.length <= 100000) (hq : Sy.right m kk s es = true) :
 Calls Tryz.prog 44 #[sysV m kk s v] w fun e w' => ∃ (u vT vG : Value) (G : Gp) (tk : List (Value × List Int)) (O : Nat -> Nat), e = .returned (.tuple #[.agg #[u, vT, vG], .nilIface]) /\ (G.n = m /\ G.kk = kk /\ G.st = s /\ G.es = es) /\ RefAt w w' G u vT vG tk O := by
 obtain ⟨i0, hi0, hz0, hz1, hz2⟩ := info_parts Tryz.infoRow
 have hv0 := hv
 obtain ⟨ao, cap, rfl, _⟩ := hv0
 obtain ⟨L, hL⟩ : ∃ L, L = es.length := ⟨_, rfl⟩
 obtain ⟨w1, hw1⟩ : ∃ w1, w1 = (w.alloc (.cells #[.int .i64 m, .int .i64 kk, .int .i64 s, .slice ao L cap] 27)).alloc (.cells #[.slice none 0 0, .slice none 0 0, .slice none 0 0] 124) := ⟨_, rfl⟩
 have hb1 : Below w.heap.size w w1 := by rw [hw1]; exact ((Below.refl _ _).alloc (Nat.le_refl _) _).alloc (by simp) _
 have hg1 : w1.heap[w.heap.size]? = some (.cells #[.int .i64 m, .int .i64 kk, .int .i64 s, .slice ao L cap] 27 (0, 0)) := by
  rw [hw1]
  exact bup ((Below.refl _ _).alloc (Nat.le_refl _) _) (heap_alloc_new w _)
 have hrc : w1.heap[w.heap.size + 1]? = some (.cells #[.slice none 0 0, .slice none 0 0, .slice none 0 0] 124 (0, 0)) := by
  rw [hw1]
  have h := heap_alloc_new (w.alloc (.cells #[.int .i64 m, .int .i64 kk, .int .i64 s, .slice ao L cap] 27)) (.cells #[.slice none 0 0, .slice none 0 0, .slice none 0 0] 124)
  rw [World.size_alloc] at h
  exact h
 have hN := begin_ok hS m kk s _ es a w1 (hA.below hb1) (hv.below hb1) hm hq
 rw [<- hL] at hN ⊢
 unfold sysV at hN ⊢
 have hm1 : m <= 1000 := by have := (right_parts hq).1; omega
 have H1 : Hid _ := And.intro hw1 (And.intro hb1 (And.intro hg1 (And.intro hrc hN)))
 obtain ⟨x0, x1, x2, x3⟩ := four_cellsB hg1
 obtain ⟨isb, hisb⟩ : ∃ b, b = decide (0 < m) := ⟨_, rfl⟩
 have HIS : Hid _ := hisb
 clear hA hv hm hq hw1 hb1 hg1 hrc hN hL
 go_enter Tryz.func44, Tryz.ntmps44
 go_upto_region 1 with fail
 rw [<- H1.out.1]
 go_upto_region 4 with (go_at_call 64; refine Calls.mono H1.out.2.2.2.2 ?_; rintro r2 w2 ⟨w0, r, g, p, mb, nm, G, x, rfl, hR, hx, hG, hnm, hb0, hb2⟩; clear x0 x1 x2 x3; have hg2 := bup hb2 H1.out.2.2.1; obtain ⟨x0, x1, x2, x3⟩ := four_cellsB hg2; have H2 : Hid _ := And.intro hR (And.intro hx (And.intro hG (And.intro hnm (And.intro hb0 (And.intro hb2 hg2))))); clear hR hx hG hnm hb0 hb2 hg2)
 have hmk := makeG m (by omega) w2
 go_upto_region 5 with fail
 obtain ⟨w3, hw3⟩ : ∃ w3, w3 = (w2.alloc (.cells (madeV (.int .i64 0) m) 3)).alloc (.cells #[.slice none 0 0, .slice none 0 0, .slice (some ⟨w2.heap.size, 0, none⟩) m m] 124) := ⟨_, rfl⟩
 rw [<- hw3]
 obtain ⟨hT3, hb3⟩ := told_first hm1 hw3
 clear hmk hw3 x1 x2 x3 x0
 obtain ⟨x0, _⟩ := four_cellsB (bup hb3 H2.out.2.2.2.2.2.2)
 have hR3 := H2.out.1.below hb3
 have hn3 : G.n = m := H2.out.2.2.1.1
 have hlo : p < w2.heap.size /\ r < w2.heap.size /\ mb < w2.heap.size := by
  obtain ⟨c, hP, _⟩ := H2.out.1.c
  exact ⟨Arr.lt hP, t_lt H2.out.1.m.box, H2.out.1.cnt.lt⟩
 have hF : RfL w0 w2 w3 r g p mb (w2.heap.size + 1) nm G (Pst.new m) x (.slice none 0 0) (.slice (some ⟨w2.heap.size, 0, none⟩) m m) [] := by
  refine ⟨hR3, ?_, fun b hb hb2 => ?_, hlo, ?_, ?_⟩
  ·rw [hn3]; exact hT3
  ·rw [hn3] at hb2
   have h1 := (hT3.q.lt hb2).1
   have h2 := (H2.out.1.m.foot_lt hb).2
   omega
  ·have h1 : hOf (Pst.new m) x = fun _ => 0 := funext fun e => H2.out.2.1.1 _
   have h2 : (Pst.new m).O = fun _ => 0 := rfl
   rw [h1, h2, H2.out.2.1.2]
   exact Sg.Hist.nil
  ·rw [H2.out.2.1.2]
   have := H2.out.2.2.2.1
   simp only [List.length_cons, List.length_nil]
   omega
 obtain ⟨tb, htb⟩ : ∃ tb, tb = w2.heap.size + 1 := ⟨_, rfl⟩
 obtain ⟨gb, hgb⟩ : ∃ gb, gb = w2.heap.size := ⟨_, rfl⟩
 rw [<- htb, <- hgb] at hF
 rw [<- htb, <- hgb]
 have hks : x.ks.length = 1 := by rw [H2.out.2.1.2]; rfl
 have hfirst : isb = true -> MayTake G (Pst.new m) x 0 := fun e => by
  have h0 : 0 < m := of_decide_eq_true (hisb.symm.trans e)
  exact ⟨by show 0 < (if m = 0 then 0 else 1); rw [if_neg (by omega)]; omega, 0, by omega, rfl, .inl (H2.out.2.1.1 _)⟩
 have hlast : isb = false -> EndAt G [] (Pst.new m).O (hOf (Pst.new m) x) := fun e => by
  have h0 : ¬ 0 < m := of_decide_eq_false (hisb.symm.trans e)
  exact .inl ⟨by omega, rfl⟩
 have h02 : w0.heap.size <= w2.heap.size := H2.out.1.up.size
 have H3 : Hid _ := And.intro hF (And.intro hks (And.intro hfirst (And.intro hlast (And.intro hn3 (And.intro hb3 (And.intro h02 hgb))))))
 clear hT3 hb3 hR3 hn3 hlo hF hks hfirst hlast htb hgb h02 hisb
 have hd : decide (0 < m) = isb := HIS.out.symm
 have hd2 : decide ((m : Int) > 0) = isb := by rw [<- hd]; exact decide_eq_decide.2 ⟨fun h => by omega, fun h => by omega⟩
 refine wp_region_held_drew (S := (fun w' => w'.cell? ⟨w.heap.size, 0, none⟩ = some (.int .i64 (m : Int)))) (by kernel_rfl) ?_ (fun hHeld => ?_)
 ·exact x0
 refine tk8 0 rfl ?_; (try simp only [ty9, Act.put])
 refine tk8 1 rfl ?_; (try simp only [ty9, Act.put])
 refine tk8 2 rfl ?_; (try simp only [ty9, Act.put])
 refine tk8 3 rfl ?_; (try simp only [ty9, Act.put])
 refine tk8 4 rfl ?_; (try simp only [ty9, Act.put])
 refine wpAnyH_done (by kernel_rfl) ?_ _
 (try go_simp)
 clear hHeld
 obtain ⟨wq, hwq⟩ : ∃ wq, wq = w3.drew := ⟨_, rfl⟩
 have hbq : Below w3.heap.size w3 wq := by rw [hwq]; exact (Below.refl _ _).drew
 rw [<- hwq]
 clear hwq
 have hFq : RfL w0 w2 wq r g p mb tb nm G (Pst.new m) x (.slice none 0 0) (.slice (some ⟨gb, 0, none⟩) m m) [] := ⟨H3.out.1.run.below hbq, H3.out.1.told.below hbq, H3.out.1.far, H3.out.1.lo, H3.out.1.hist, H3.out.1.nmb⟩
 have H4 : Hid _ := And.intro hFq hbq
 clear hFq hbq
 go_wp2_with fail
 clear hd hd2 x0
 go_loopg [7, 8] (m + 1) (fun q bv iv wr => ∃ (nm : Nat) (s1 : Pst) (x1 : Rv) (vT : Value) (tk : List (Value × List Int)) (bl : Nat) (is : Bool), q = m + 2 - x1.ks.length /\ bv = .int .i64 bl /\ iv = .bool is /\ RfL w0 w2 wr r g p mb tb nm G s1 x1 vT (.slice (some ⟨gb, 0, none⟩) m m) tk /\ (is = true -> MayTake G s1 x1 bl) /\ (is = false -> EndAt G (tk.map (·.2)) s1.O (hOf s1 x1)))
 case atStart => exact ⟨nm, Pst.new m, x, .slice none 0 0, [], 0, isb, by rw [H3.out.2.1]; omega, rfl, rfl, H4.out.1, H3.out.2.2.1, H3.out.2.2.2.1⟩
 case round =>
  obtain ⟨nm1, s1, x1, vT, tk, bl, is, rfl, rfl, rfl, hF, hyes, hno⟩ := hrel
  obtain ⟨wo, hwo⟩ : ∃ wo, wo = wr := ⟨_, rfl⟩
  rw [<- hwo] at hF ⊢
  clear hwo
  cases is with
  | true =>
    have hMay := hyes rfl
    obtain ⟨c, hP, hL⟩ := hF.run.c
    have hMem := rmembers_any w0 w0.heap.size r g p mb x1 c s1 bl wo hF.run.m hP hL hF.run.ok hMay.1
    have hheaps := hF.hist.heaps
    have HF : Hid _ := And.intro hF (And.intro hMay (And.intro hMem hheaps))
    clear hF hMay hMem hyes hno hP hL hheaps
    go_upto_region 9 with (go_at_call 67; refine Calls.mono HF.out.2.2.1 ?_; rintro r4 w4 ⟨u, rfl, hu, hb4⟩; obtain ⟨au, cu, hve⟩ := row_shape hu; obtain ⟨M, hM⟩ : ∃ M, M = (s1.mem bl).length := ⟨_, rfl⟩; rw [<- hM] at hve; subst hve; have H4 : Hid _ := And.intro hu (And.intro hb4 hM); clear hu hb4 hM)
    have hT4 := HF.out.1.told.below H4.out.2.1
    have hR4 := HF.out.1.run.below H4.out.2.1
    have hM1 : M <= 1000 := by
     rw [H4.out.2.2, mem_len HF.out.1.run.ok HF.out.2.1.1]
     have h1 := HF.out.1.run.ok.iv bl HF.out.2.1.1
     have h2 := HF.out.1.run.ok.n1
     omega
    obtain ⟨aT, cT, hvT⟩ := row_shape hT4.row
    have t1 : w4.cell? ⟨tb, 1, none⟩ = some vT := cell0_of hT4.box rfl
    have tf := blk_free hT4.box 1
    obtain ⟨N, hN⟩ : ∃ N, N = tk.length := ⟨_, rfl⟩
    have hNl : N <= 1001 := by
     have h1 := HF.out.1.hist.inv.len
     have h2 := HF.out.2.2.2
     have h3 := H3.out.2.2.2.2.1
     rw [List.length_map] at h1
     omega
    have hrow4 : w4.ownsRow w2.heap.size 39 1 vT N (tk.map (·.1)) := by rw [hN]; exact hT4.row
    have hml : N + 1 <= maxLen := by unfold maxLen; omega
    have hby : (N + 1) * 24 <= 140737488355328 := by omega
    have hle : w2.heap.size <= (w4.alloc (.cells #[.slice au M cu] 39)).heap.size := by
     have h1 := hT4.up
     have h2 := t_lt hT4.box
     rw [World.size_alloc]
     omega
    rw [<- hN] at hvT
    subst hvT
    have H5 : Hid _ := And.intro hT4 (And.intro hR4 (And.intro hN (And.intro hrow4 (World.size_alloc w4 (.cells #[.slice au M cu] 39)))))
    clear hT4 hR4 hN hrow4
    go_upto_region 10 with (at_builtin; refine wpList_append_own_at _ rfl _ _ 52 rfl w2.heap.size 39 i0 (.slice none 0 0) 1 24 Tryz.underlying52 hi0 hz0 hz1 hz2 rfl (by decide) (.slice aT N cT) N (tk.map (·.1)) rfl (H5.out.2.2.2.1.alloc _) ⟨w4.heap.size, 0, none⟩ 1 1 [.slice au M cu] rfl rfl (World.news_of_block (cs := #[.slice au M cu]) (t := 39) (fr := (0, 0)) (heap_alloc_new w4 _)) (by simp [Value.oneCell']) hml hby hle ?_; intro v7 w7 hO7 hg7 hnil7 hat7; obtain ⟨a7, c7, hv7⟩ := row_shape hO7; subst hv7; have t7 : w7.cell? ⟨tb, 1, none⟩ = some (.slice aT N cT) := (World.cell?_of_block (a := ⟨tb, 1, none⟩) ((grown_alloc hg7).block tb (t_lt H5.out.1.box) (fun e => own_bk H5.out.1.row H5.out.1.box (by decide) e))).trans t1; have tf7 : w7.frozen? ⟨tb, 1, none⟩ = false := (World.frozen?_of_block ((grown_alloc hg7).block tb (t_lt H5.out.1.box) (fun e => own_bk H5.out.1.row H5.out.1.box (by decide) e))).trans tf; have H7 : Hid _ := And.intro hO7 (And.intro hg7 hat7); clear hO7 hg7 hnil7 hat7)
    obtain ⟨w8, hw8⟩ : ∃ w8, w8 = w7.setCell ⟨tb, 1, none⟩ (.slice a7 (N + 1) c7) := ⟨_, rfl⟩
    rw [<- hw8]
    have hT8 : Told w8 w2.heap.size tb (.slice a7 (N + 1) c7) (.slice (some ⟨gb, 0, none⟩) m m) (gOf G.n (gz1 (tk.map (·.2)))) (tk ++ [(.slice au M cu, s1.mem bl)]) /\ Kept (fun b => b = tb \/ (Value.slice aT N cT).ownBlock = some b) w4 w8 /\ OwnI w8 w2.heap.size (.slice au M cu) (s1.mem bl) := by
     rw [hw8]
     have h2 : w2.heap.size <= wo.heap.size := Nat.le_trans HF.out.1.told.up (Nat.le_of_lt (t_lt HF.out.1.told.box))
     have h3 := H7.out.2.2
     rw [H5.out.2.2.2.2] at h3
     have h4 : OwnI w4 w2.heap.size (.slice au M cu) (s1.mem bl) := row_base H4.out.1 h2
     refine H5.out.1.tell h4 (fun b hb hf => ?_) (by rw [H5.out.2.2.1]) H7.out.1 H7.out.2.1 h3
     have h5 := (H4.out.1.lt b hb).1
     have h6 := (HF.out.1.told.q.lt hf).2
     omega
    have hR8 : RunAt w0 w8 r g p mb nm1 G s1 x1 := H5.out.2.1.kept hT8.2.1 fun b hb => told_far (wS := w2) H5.out.2.1 H5.out.1 HF.out.1.lo H3.out.2.2.2.2.2.2.1 b hb
    have hbl8 : ∀ b, x1.foot b -> b < wo.heap.size := fun b hb => (HF.out.1.run.m.foot_lt hb).2
    have H8 : Hid _ := And.intro hT8 (And.intro hR8 hbl8)
    clear hT8 hR8 hw8 t7 tf7 t1 tf hml hby hle hbl8
    go_wp2_with fail
    go_loopg [46] M (fun q iv wr => ∃ (i : Nat) (f : Nat -> Int), q = M - i /\ i <= M /\ iv = .int .i64 i /\ Told wr w2.heap.size tb (.slice a7 (N + 1) c7) (.slice (some ⟨gb, 0, none⟩) m m) (gOf G.n f) (tk ++ [(.slice au M cu, s1.mem bl)]) /\ Kept (fun b => b = gb) w8 wr /\ ∀ e, f e = gz1 (tk.map (·.2)) e + (((s1.mem bl).take i).count (e : Int) : Nat))
    case atStart => exact ⟨0, gz1 (tk.map (·.2)), rfl, Nat.zero_le _, rfl, H8.out.1.1, Kept.refl _ _, fun e => by simp⟩
    case round =>
     obtain ⟨i, f, rfl, hi, rfl, hT, hKp, hf⟩ := hrel
     have hgT : gb < w4.heap.size /\ wo.heap.size <= w4.heap.size := by
      refine ⟨?_, H4.out.2.1.size⟩
      have h1 := H5.out.1.q.lt (b := gb) ⟨_, List.mem_cons_self, rfl⟩
      exact h1.2
     have hgo : gb < wo.heap.size := (HF.out.1.told.q.lt (b := gb) ⟨_, List.mem_cons_self, rfl⟩).2
     by_cases hlt : i < M
     ·have q0 : (0 : Int) <= (i : Int) := by omega
      have q1 : (i : Int) < (M : Int) := by omega
      obtain ⟨z, hz⟩ : ∃ z, (s1.mem bl)[i]? = some z := ⟨(s1.mem bl)[i]'(by rw [<- H4.out.2.2]; exact hlt), List.getElem?_eq_getElem _⟩
      obtain ⟨e, he, hOe, rfl⟩ := mem_mem.1 (List.mem_of_getElem? hz)
      have hem : e < m := by have := HF.out.1.run.n; have := H3.out.2.2.2.2.1; omega
      have hOw : OwnI wr w2.heap.size (.slice au M cu) (s1.mem bl) := own_up H8.out.1.2.2 hKp fun b hb e9 => by
       have h5 := (H4.out.1.lt b hb).1
       omega
      obtain ⟨gs, rfl, hce⟩ := own_num hOw hz
      have t2 : wr.cell? ⟨tb, 2, none⟩ = some (.slice (some ⟨gb, 0, none⟩) m m) := cell0_of hT.box rfl
      have hge : (gOf G.n f)[e]? = some (f e) := gOf_at (by rw [H3.out.2.2.2.2.1]; exact hem)
      obtain ⟨gc, gf⟩ := Que.cellAt (hT.q.q 0 _ rfl) hge
      rw [Nat.zero_add] at gc gf
      have hfe := hf e
      have hgz : gz1 (tk.map (·.2)) e <= 1001 /\ 0 <= gz1 (tk.map (·.2)) e := by
       have h1 := List.countP_le_length (p := fun m : List Int => decide ((e : Int) ∈ m)) (l := tk.map (·.2))
       rw [List.length_map] at h1
       have h2 := H5.out.2.2.1
       unfold gz1
       omega
      have hct := List.count_le_length (a := (e : Int)) (l := (s1.mem bl).take i)
      rw [List.length_take] at hct
      obtain ⟨y, hy⟩ : ∃ y, y = f e := ⟨_, rfl⟩
      rw [<- hy] at gc hfe
      have pw : IntKind.i64.wrap (y + 1) = y + 1 := wrap_small (by omega) (by omega)
      have r0 : (0 : Int) <= (e : Int) := by omega
      have r1 : (e : Int) < (m : Int) := by omega
      have hB := hT.bump (k := e) (n := gb) (by rw [gOf_len, H3.out.2.2.2.2.1]; exact hem) (y + 1) rfl
      rw [gOf_set] at hB
      have hf2 : ∀ e2, (if e2 = e then y + 1 else f e2) = gz1 (tk.map (·.2)) e2 + (((s1.mem bl).take (i + 1)).count (e2 : Int) : Nat) := fun e2 => by
       rw [take_succ_of hz, List.count_append, List.count_singleton]
       by_cases h1 : e2 = e
       ·subst h1
        rw [if_pos rfl, hfe]
        simp
        omega
       ·rw [if_neg h1, hf e2]
        have h2 : ((e : Int) == (e2 : Int)) = false := by simp; omega
        rw [h2]
        simp
      have HB : Hid _ := And.intro hB (And.intro hf2 hKp)
      clear hT hKp hf hOw hge hfe hy hB hf2 hz hgT hgo he hOe hgz hct
      go_wp2_with fail
      go_roundg (M - (i + 1))
      case measure => omega
      case rel => exact ⟨i + 1, _, rfl, by omega, by go_num, HB.out.1.1, HB.out.2.2.trans HB.out.1.2, HB.out.2.1⟩
     ·obtain rfl : i = M := by omega
      have q1 : ¬ (i : Int) < (i : Int) := by omega
      have hfarg : ∀ b, b = gb -> w0.heap.size <= b /\ b ≠ p /\ b ≠ r /\ b ≠ mb /\ ¬ x1.foot b := fun b e => by
       have h1 := (HF.out.1.told.q.lt (b := gb) ⟨_, List.mem_cons_self, rfl⟩).1
       have h2 := HF.out.1.lo
       have h3 := H3.out.2.2.2.2.2.2.1
       refine ⟨by omega, by omega, by omega, by omega, fun hb => HF.out.1.far b hb ?_⟩
       rw [e]
       exact ⟨_, List.mem_cons_self, rfl⟩
      have hRW := H8.out.2.1.kept hKp hfarg
      have hTW : Told wr w2.heap.size tb (.slice a7 (N + 1) c7) (.slice (some ⟨gb, 0, none⟩) m m) (gOf G.n (gz1 ((tk ++ [(Value.slice au i cu, s1.mem bl)]).map (·.2)))) (tk ++ [(.slice au i cu, s1.mem bl)]) := by
       have h1 : gOf G.n f = gOf G.n (gz1 ((tk ++ [(Value.slice au i cu, s1.mem bl)]).map (·.2))) := gOf_congr fun e _ => by
        rw [hf e, List.map_append]
        show _ = gz1 (tk.map (·.2) ++ [s1.mem bl]) e
        rw [gz1_snoc _ _ (mem_nodup s1 bl), H4.out.2.2, List.take_length]
       rw [<- h1]
       exact hT
      have hfW : ∀ b, x1.foot b -> ¬ Foot ((Value.slice (some ⟨gb, 0, none⟩) m m, gOf G.n (gz1 ((tk ++ [(Value.slice au i cu, s1.mem bl)]).map (·.2)))) :: (tk ++ [(Value.slice au i cu, s1.mem bl)])) b := fun b hb hf2 => by
       obtain ⟨z, hz, hzb⟩ := hf2
       rcases List.mem_cons.1 hz with rfl | hz
       ·exact HF.out.1.far b hb ⟨_, List.mem_cons_self, hzb⟩
       ·rcases List.mem_append.1 hz with hz | hz
        ·exact HF.out.1.far b hb ⟨z, List.mem_cons_of_mem _ hz, hzb⟩
        ·rw [List.mem_singleton.1 hz] at hzb
         have h1 := (H4.out.1.lt b hzb).1
         have h2 := H8.out.2.2 b hb
         omega
      have hkl : x1.ks.length <= 100000 := by have := HF.out.2.2.2; have := H3.out.2.2.2.2.1; omega
      have hTk := take_any w0 r g p mb nm1 G s1 x1 bl wr hRW HF.out.2.1.1 (by have := HF.out.1.nmb; have := HF.out.2.2.2; have := H3.out.2.2.2.2.1; omega) hkl
      have HW : Hid _ := And.intro hRW (And.intro hTW (And.intro hfW hTk))
      clear hT hKp hf hfarg hRW hTW hfW hkl hTk hgT hgo
      go_upto_region 7 with (go_at_call 68; refine Calls.mono HW.out.2.2.2 ?_; rintro r9 w9 ⟨rfl, nm2, s2, x2, hR9, hA9⟩; have H9 : Hid _ := And.intro hR9 hA9; clear hR9 hA9)
      have hF9 := RfL.take HW.out.1 HW.out.2.1 HW.out.2.2.1 HF.out.1.lo HF.out.1.hist HF.out.1.nmb HF.out.2.1 H9.out.1 H9.out.2
      have hNx := next_all hF9.run
      have hks9 : x2.ks.length = x1.ks.length + 1 := H9.out.2.ks
      have hne9 : tk ++ [(Value.slice au i cu, s1.mem bl)] ≠ [] := by simp
      have H10 : Hid _ := And.intro hF9 (And.intro hNx (And.intro hks9 hne9))
      clear hF9 hNx hks9 hne9
      go_wp2_with (go_at_call 66; refine Calls.mono H10.out.2.1 ?_; rintro r10 w10 ⟨k10, u10, b9, is9, rfl, hN10, hyes9, hno9⟩; have HX : Hid _ := And.intro (H10.out.1.next hN10) (And.intro hyes9 hno9); clear hN10 hyes9 hno9)
      go_roundg (m + 2 - x2.ks.length)
      case measure => have h1 := H10.out.2.2.1; have h2 := HF.out.2.2.2; have h3 := H3.out.2.2.2.2.1; omega
      case rel => exact ⟨nm2, s2, x2.wait k10 u10, _, _, b9, is9, rfl, rfl, rfl, HX.out.1, HX.out.2.1, fun h => .inr ⟨by rw [List.map_append]; simp, HX.out.2.2 h⟩⟩
  | false =>
    have hEnd := hno rfl
    obtain ⟨c, hP, hL⟩ := hF.run.c
    have hCl := classes_all p c s1 w0 wo hP hL hF.run.ok
    have hbw : Below w.heap.size w wo := H1.out.2.1.trans ((H2.out.2.2.2.2.1.trans (hF.run.up.mono H2.out.2.2.2.2.1.size)).mono H1.out.2.1.size)
    have hrc : wo.heap[w.heap.size + 1]? = some (.cells #[.slice none 0 0, .slice none 0 0, .slice none 0 0] 124 (0, 0)) := bup (H2.out.2.2.2.2.1.trans (hF.run.up.mono H2.out.2.2.2.2.1.size)) H1.out.2.2.2.1
    have hne : w.heap.size + 1 ≠ tb := fun e => by
     have h1 := hF.told.up
     have h2 := t_lt H1.out.2.2.2.1
     have h3 := H2.out.2.2.2.2.2.1.size
     omega
    obtain ⟨aT, cT, hvT⟩ := row_shape hF.told.row
    obtain ⟨N, hN⟩ : ∃ N, N = tk.length := ⟨_, rfl⟩
    rw [<- hN] at hvT
    subst hvT
    have c1 := (seven_cells hF.run.m.box).2.1
    have HF : Hid _ := And.intro hF (And.intro hEnd (And.intro hCl (And.intro hbw (And.intro hrc (And.intro hne hN)))))
    clear hF hEnd hCl hyes hno hP hL hbw hrc hne hN
    go_upto_region 17 with (go_at_call 69; refine Calls.mono HF.out.2.2.1 ?_; rintro r5 w5 ⟨u, rfl, hu, hb5⟩; obtain ⟨au, cu, hve⟩ := row_shape hu; obtain ⟨M, hM⟩ : ∃ M, M = (natI (Sy.canon s1.own)).length := ⟨_, rfl⟩; rw [<- hM] at hve; subst hve; have t0 : w5.cell? ⟨tb, 0, none⟩ = some (.slice none 0 0) := cell0_of (HF.out.1.told.below hb5).box rfl; have tf := blk_free (HF.out.1.told.below hb5).box 0; have H5 : Hid _ := And.intro hu (And.intro hb5 hM); clear hu hb5 hM)
    obtain ⟨w6, hw6⟩ : ∃ w6, w6 = w5.setCell ⟨tb, 0, none⟩ (.slice au M cu) := ⟨_, rfl⟩
    rw [<- hw6]
    have hT5 := HF.out.1.told.below H5.out.2.1
    have hbx6 : w6.heap[tb]? = some (.cells #[.slice au M cu, .slice aT N cT, .slice (some ⟨gb, 0, none⟩) m m] 124 (0, 0)) := by rw [hw6]; exact box_put hT5.box _
    have hrc6 : w6.heap[w.heap.size + 1]? = some (.cells #[.slice none 0 0, .slice none 0 0, .slice none 0 0] 124 (0, 0)) := by rw [hw6]; exact (set_other _ _ _ _ _ HF.out.2.2.2.2.2.1).trans (bup H5.out.2.1 HF.out.2.2.2.2.1)
    have hk6 : Kept (fun b => b = tb) w5 w6 := by rw [hw6]; exact Kept.setCell w5 tb 0 _
    have d0 : w6.cell? ⟨tb, 0, none⟩ = some (.slice au M cu) := cell0_of hbx6 rfl
    have d1 : w6.cell? ⟨tb, 1, none⟩ = some (.slice aT N cT) := cell0_of hbx6 rfl
    have d2 : w6.cell? ⟨tb, 2, none⟩ = some (.slice (some ⟨gb, 0, none⟩) m m) := cell0_of hbx6 rfl
    have e0 : w6.cell? ⟨w.heap.size + 1, 0, none⟩ = some (.slice none 0 0) := cell0_of hrc6 rfl
    have e1 : w6.cell? ⟨w.heap.size + 1, 1, none⟩ = some (.slice none 0 0) := cell0_of hrc6 rfl
    have e2 : w6.cell? ⟨w.heap.size + 1, 2, none⟩ = some (.slice none 0 0) := cell0_of hrc6 rfl
    have f0 := blk_free hrc6 0
    have f1 := blk_free hrc6 1
    have f2 := blk_free hrc6 2
    have H6 : Hid _ := And.intro hbx6 (And.intro hrc6 hk6)
    clear hT5 hbx6 hrc6 hk6 hw6 t0 tf
    go_wp2_with fail
    obtain ⟨w7, hw7⟩ : ∃ w7, w7 = ((w6.setCell ⟨w.heap.size + 1, 0, none⟩ (.slice au M cu)).setCell ⟨w.heap.size + 1, 1, none⟩ (.slice aT N cT)).setCell ⟨w.heap.size + 1, 2, none⟩ (.slice (some ⟨gb, 0, none⟩) m m) := ⟨_, rfl⟩
    rw [<- hw7]
    have hbx7 : w7.heap[w.heap.size + 1]? = some (.cells #[.slice au M cu, .slice aT N cT, .slice (some ⟨gb, 0, none⟩) m m] 124 (0, 0)) := by rw [hw7]; exact box_put (box_put (box_put H6.out.2.1 _) _) _
    have hk7 : Kept (fun b => b = w.heap.size + 1) w6 w7 := by rw [hw7]; exact ((Kept.setCell _ _ _ _).trans (Kept.setCell _ _ _ _)).trans (Kept.setCell _ _ _ _)
    have hk57 : Kept (fun b => b = tb \/ b = w.heap.size + 1) w5 w7 := (H6.out.2.2.mono fun _ _ e => .inl e).trans (hk7.mono fun _ _ e => .inr e)
    have hT5 := HF.out.1.told.below H5.out.2.1
    have hrc5 : w5.heap[w.heap.size + 1]? = some (.cells #[.slice none 0 0, .slice none 0 0, .slice none 0 0] 124 (0, 0)) := bup H5.out.2.1 HF.out.2.2.2.2.1
    have hint : ∀ {b : Nat} {cs : Array Value} {t : TypeId}, w5.heap[b]? = some (.cells cs t (0, 0)) -> 124 ≠ t -> ¬ (b = tb \/ b = w.heap.size + 1) := fun {b cs t} hc ht e => by
     rcases e with e | e
     ·exact tne hT5.box hc ht e.symm
     ·exact tne hrc5 hc ht e.symm
    have hbo : Below w.heap.size w wo := HF.out.2.2.2.1
    have hlo2 : w.heap.size <= w2.heap.size := Nat.le_trans H1.out.2.1.size H2.out.2.2.2.2.2.1.size
    clear hw7 d0 d1 d2 e0 e1 e2 f0 f1 f2
    have d0 : w7.cell? ⟨w.heap.size + 1, 0, none⟩ = some (.slice au M cu) := cell0_of hbx7 rfl
    have d1 : w7.cell? ⟨w.heap.size + 1, 1, none⟩ = some (.slice aT N cT) := cell0_of hbx7 rfl
    have d2 : w7.cell? ⟨w.heap.size + 1, 2, none⟩ = some (.slice (some ⟨gb, 0, none⟩) m m) := cell0_of hbx7 rfl
    refine bodyPost_ret (v := .tuple #[.agg #[.slice au M cu, .slice aT N cT, .slice (some ⟨gb, 0, none⟩) m m], .nilIface]) ?_ rfl ?_
    ·rw [results_cell_tmp rfl]
     go_simp
    ·refine ⟨_, _, _, G, tk, s1.O, rfl, H2.out.2.2.1, ?_, ?_, ?_, HF.out.1.told.fl, fun b hb hf => ?_, ⟨hOf s1 x1, x1.ks.length, HF.out.1.hist, HF.out.2.1⟩, ?_⟩
     ·have h1 := own_up H5.out.1 hk57 fun b hb => by obtain ⟨cs, hc⟩ := row_cells H5.out.1 hb; exact hint hc (by decide)
      have h2 : s1.own = (List.range G.n).map fun e : Nat => (s1.O e : Int) := by unfold Pst.own; rw [HF.out.1.run.n]
      rw [<- h2]
      exact row_base h1 hbo.size
     ·have h1 := own_up hT5.row hk57 fun b hb => by obtain ⟨cs, hc⟩ := row_cells hT5.row hb; exact hint hc (by decide)
      exact row_base h1 hlo2
     ·exact (hT5.q.kept hk57 fun b hb => by obtain ⟨cs, hc⟩ := hT5.q.typed hb; exact hint hc (by decide)).base hlo2
     ·have h1 := (H5.out.1.lt b hb).1
      have h2 := (HF.out.1.told.q.lt hf).2
      omega
     ·have h1 : Below w.heap.size w w5 := hbo.trans (H5.out.2.1.mono hbo.size)
      exact h1.trans (hk57.below h1.size fun b e => by
       have h2 := HF.out.1.told.up
       rcases e with e | e <;> omega)
end
section
namespace Sg
theorem seen_more (l : List Int) : ∀ seen, Sy.seenG seen l = l.foldl (fun s c => Ro.more c s) seen := by
 have hp : ∀ (c : Int) (l : List Int), Sy.place c l = Ro.place c l := fun c l => by
  induction l with
  | nil => rfl
  | cons a r ih => simp only [Sy.place, Ro.place, ih]
 induction l with
 | nil => intro seen; rfl
 | cons c r ih =>
   intro seen
   simp only [Sy.seenG, List.foldl_cons, ih, hp]
   congr 1
   unfold Ro.more
   by_cases h : c ∈ seen
   ·rw [if_pos h, if_pos (Ro.place_lt.2 h)]
   ·rw [if_neg h, if_neg (fun h1 => h (Ro.place_lt.1 h1))]
theorem canon_num (l : List Int) : Sy.canon l = Ro.num l := by
 have hp : ∀ (c : Int) (l : List Int), Sy.place c l = Ro.place c l := fun c l => by
  induction l with
  | nil => rfl
  | cons a r ih => simp only [Sy.place, Ro.place, ih]
 rw [Sy.canon_map, seen_more]
 unfold Ro.num
 exact List.map_congr_left fun z _ => hp z _
theorem canon_nat (l : List Nat) : Sy.canon (l.map fun e : Nat => (e : Int)) = Ro.num l := by
 rw [canon_num]
 refine Ro.num_congr (by simp) fun i j x y u v hx hy hu hv => ?_
 rw [List.getElem?_map, hu] at hx
 rw [List.getElem?_map, hv] at hy
 cases hx; cases hy
 exact Int.ofNat_inj
end Sg
end
section
open Go.RowKit Go.Maps
attribute [local go_sem ↓] Go.wp_at_zero Go.wp_at_succ
def strB : ByteArray := ⟨#[115, 116, 114, 111, 110, 103]⟩
namespace Sg
theorem end_classes {G : Gp} {tk : List (List Int)} {O : Nat -> Nat} {H : Nat -> Int} {h R : Nat} (hr : Sy.right G.n (G.kk : Int) G.st G.es = true) (hR : Ro.Last G.n (outG G) R) (hh : Hist G tk O H h) (he : EndAt G tk O H) : Sy.canon ((List.range G.n).map fun e : Nat => (O e : Int)) = Ro.rnd G.n (outG G) R := by
 have h1 : ((List.range G.n).map fun e : Nat => (O e : Int)) = ((List.range G.n).map O).map fun e : Nat => (e : Int) := by rw [List.map_map]; rfl
 rw [h1, canon_nat]
 rcases he with ⟨h0, _⟩ | ⟨ht, hd⟩
 ·have h2 : (Ro.rnd G.n (outG G) R).length = 0 := by rw [Ro.rnd_len, h0]
  rw [List.length_eq_zero_iff.1 h2, h0]
  rfl
 ·exact hh.ends hr hR ht hd
end Sg
set_option linter.unusedSimpArgs false in
set_option maxRecDepth 100000 in
set_option maxHeartbeats 4000000 in
theorem sclasses_ok (hS : SortOk 1000000) (m kk : Nat) (s : Int) (v : Value) (es : List Sy.Ed) (a : Addr) (w : World) (hA : Sent w 5 a) (hv : BEdges.Has w v es) (hm : es.length <= 100000) (hq : Sy.right m kk s es = true) :
 Calls Tryz.prog 29 #[sysV m kk s v] w fun e w' => ∃ (u : Value) (R : Nat), e = .returned (.tuple #[u, .nilIface]) /\ Ro.Last m (fun i => Sy.rowOf m (Sy.nf es) (i : Int)) R /\ OwnI w' w.heap.size u (natI (Ro.rnd m (fun i => Sy.rowOf m (Sy.nf es) (i : Int)) R)) /\ Below w.heap.size w w' := by
 obtain ⟨R, hR⟩ := Ro.exists_last m (fun i => Sy.rowOf m (Sy.nf es) (i : Int))
 have hv0 := hv
 obtain ⟨ao, cap, rfl, _⟩ := hv0
 obtain ⟨L, hL⟩ : ∃ L, L = es.length := ⟨_, rfl⟩
 obtain ⟨w1, hw1⟩ : ∃ w1, w1 = w.alloc (.cells #[.int .i64 m, .int .i64 kk, .int .i64 s, .slice ao L cap] 27) := ⟨_, rfl⟩
 have hb1 : Below w.heap.size w w1 := by rw [hw1]; exact (Below.refl _ _).alloc (Nat.le_refl _) _
 have hg1 : w1.heap[w.heap.size]? = some (.cells #[.int .i64 m, .int .i64 kk, .int .i64 s, .slice ao L cap] 27 (0, 0)) := by rw [hw1]; exact heap_alloc_new w _
 have hRf := (refine_ok hS m kk s _ es a w1 (hA.below hb1) (hv.below hb1) hm hq).mono (R' := fun e w' => ∃ (u vT vG : Value), e = .returned (.tuple #[.agg #[u, vT, vG], .nilIface]) /\ OwnI w' w1.heap.size u (natI (Ro.rnd m (fun i => Sy.rowOf m (Sy.nf es) (i : Int)) R)) /\ (∃ a n c, vT = .slice a n c) /\ (∃ a n c, vG = .slice a n c) /\ Below w1.heap.size w1 w') fun e w' ⟨u, vT, vG, G, tk, O, he, ⟨g1, g2, g3, g4⟩, hA⟩ => by
  obtain ⟨H, h, hh, hE⟩ := hA.hist
  have hr : Sy.right G.n (G.kk : Int) G.st G.es = true := by rw [g1, g2, g3, g4]; exact hq
  have hR2 : Ro.Last G.n (Sg.outG G) R := by unfold Sg.outG; rw [g1, g4]; exact hR
  have h1 := hA.cls
  rw [Sg.end_classes hr hR2 hh hE] at h1
  unfold Sg.outG at h1
  rw [g1, g4] at h1
  obtain ⟨a1, c1, e1⟩ := row_shape hA.row
  obtain ⟨a2, c2, e2, _⟩ := (hA.q.q 0 _ rfl).shape
  exact ⟨u, vT, vG, he, h1, ⟨_, _, _, e1⟩, ⟨_, _, _, e2⟩, hA.bl⟩
 rw [<- hL] at hRf ⊢
 unfold sysV at hRf ⊢
 obtain ⟨cl, hcl⟩ : ∃ cl, cl = natI (Ro.rnd m (fun i => Sy.rowOf m (Sy.nf es) (i : Int)) R) := ⟨_, rfl⟩
 rw [<- hcl] at hRf
 obtain ⟨x0, x1, x2, x3⟩ := four_cellsB hg1
 have H1 : Hid _ := And.intro hRf (And.intro hR (And.intro hcl (And.intro hb1 hw1)))
 clear hRf hR hcl hA hv hm hq hb1 hw1 hg1 hL
 go_enter Tryz.func29, Tryz.ntmps29
 go_upto_region 1 with fail
 rw [<- H1.out.2.2.2.2]
 go_wp2_with (go_at_call 44; refine Calls.mono H1.out.1 ?_; rintro r2 w2 ⟨u, vT, vG, rfl, hu, ⟨aT, nT, cT, rfl⟩, ⟨aG, nG, cG, rfl⟩, hb2⟩; obtain ⟨au, cu, hve⟩ := row_shape hu; obtain ⟨M, hM⟩ : ∃ M, M = cl.length := ⟨_, rfl⟩; rw [<- hM] at hve; subst hve; have H2 : Hid _ := And.intro hu (And.intro hb2 hM); clear hu hb2 hM)
 go_ret2
 have hb3 : Below w2.heap.size w2 (w2.alloc (.cells #[.slice au M cu, .slice aT nT cT, .slice aG nG cG] 124)) := (Below.refl _ _).alloc (Nat.le_refl _) _
 have hb13 := H2.out.2.1.trans (hb3.mono H2.out.2.1.size)
 refine ⟨_, R, rfl, H1.out.2.1, ?_, H1.out.2.2.2.1.trans (hb13.mono H1.out.2.2.2.1.size)⟩
 rw [<- H1.out.2.2.1]
 exact row_base (trow_at H2.out.1 fun b hb => hb3.block b (H2.out.1.lt b hb).2) H1.out.2.2.2.1.size
end
namespace Di
open Go.RowKit Go.Maps
attribute [local go_sem ↓] Go.wp_at_zero Go.wp_at_succ
theorem res3 {w : World} {b : Nat} {x0 x1 x2 y0 y1 y2 : Value} {ty : TypeId} (h : w.heap[b]? = some (.cells #[x0, x1, x2] ty (0, 0))) : (((w.setCell ⟨b, 0, none⟩ y0).setCell ⟨b, 1, none⟩ y1).setCell ⟨b, 2, none⟩ y2).cell? ⟨b, 0, none⟩ = some y0 /\ (((w.setCell ⟨b, 0, none⟩ y0).setCell ⟨b, 1, none⟩ y1).setCell ⟨b, 2, none⟩ y2).cell? ⟨b, 1, none⟩ = some y1 /\ (((w.setCell ⟨b, 0, none⟩ y0).setCell ⟨b, 1, none⟩ y1).setCell ⟨b, 2, none⟩ y2).cell? ⟨b, 2, none⟩ = some y2 := by
 have h1 := heap_setCell_same w b 0 _ _ y0 h
 have h2 := heap_setCell_same (w.setCell ⟨b, 0, none⟩ y0) b 1 _ _ y1 h1
 have h3 := heap_setCell_same ((w.setCell ⟨b, 0, none⟩ y0).setCell ⟨b, 1, none⟩ y1) b 2 _ _ y2 h2
 exact ⟨cell0_of h3 rfl, cell0_of h3 rfl, cell0_of h3 rfl⟩
set_option linter.unusedSimpArgs false in
set_option maxRecDepth 100000 in
set_option maxHeartbeats 4000000 in
theorem alike_ok (hS : SortOk 1000000) (m kk : Nat) (s : Int) (v : Value) (es : List Sy.Ed) (a : Addr) (w : World) (hA : Sent w 5 a) (hv : BEdges.Has w v es) (hm : es.length <= 100000) (hq : Sy.right m kk s es = true) :
 Calls Tryz.prog 17 #[sysV m kk s v] w fun r w' => ∃ (u : Value) (R : Nat), r = .returned (.tuple #[.agg #[.bool true, u, .slice none 0 0], .nilIface]) /\ Ro.Last m (outOf m es) R /\ OwnI w' w.heap.size u (natI (Ro.rnd m (outOf m es) R)) /\ Below w.heap.size w w' := by
 have hv0 := hv
 obtain ⟨ao, cap, rfl, _⟩ := hv0
 obtain ⟨L, hL⟩ : ∃ L, L = es.length := ⟨_, rfl⟩
 obtain ⟨w1, hw1⟩ : ∃ w1, w1 = (w.alloc (.cells #[.int .i64 m, .int .i64 kk, .int .i64 s, .slice ao L cap] 27)).alloc (.cells #[.bool false, .slice none 0 0, .slice none 0 0] 41) := ⟨_, rfl⟩
 have hb1 : Below w.heap.size w w1 := by rw [hw1]; exact ((Below.refl _ _).alloc (Nat.le_refl _) _).alloc (by simp) _
 have hg1 : w1.heap[w.heap.size]? = some (.cells #[.int .i64 m, .int .i64 kk, .int .i64 s, .slice ao L cap] 27 (0, 0)) := by rw [hw1]; exact (Below.heap_alloc _ _ _ (by simp)).trans (heap_alloc_new w _)
 have hr1 : w1.heap[w.heap.size + 1]? = some (.cells #[.bool false, .slice none 0 0, .slice none 0 0] 41 (0, 0)) := by
  rw [hw1]
  have h := heap_alloc_new (w.alloc (.cells #[.int .i64 m, .int .i64 kk, .int .i64 s, .slice ao L cap] 27)) (.cells #[.bool false, .slice none 0 0, .slice none 0 0] 41)
  rw [World.size_alloc] at h
  exact h
 have hC := sclasses_ok hS m kk s _ es a w1 (hA.below hb1) (hv.below hb1) hm hq
 rw [<- hL] at hC ⊢
 unfold sysV at hC ⊢
 have H : Hid _ := And.intro hw1 (And.intro hb1 (And.intro hr1 hC))
 obtain ⟨x0, x1, x2, x3⟩ := four_cells hg1
 clear hA hv hm hq hw1 hb1 hg1 hr1 hC hL
 go_enter Tryz.func17, Tryz.ntmps17
 go_upto_region 1 with fail
 rw [<- H.out.1]
 go_wp2_with fail
 refine Calls.mono H.out.2.2.2 ?_
 rintro r w2 ⟨u, R, rfl, hR, hO, hb2⟩
 obtain ⟨au, cu, rfl⟩ := row_shape hO
 obtain ⟨N, hN⟩ : ∃ N, N = (natI (Ro.rnd m (fun i => Sy.rowOf m (Sy.nf es) (i : Int)) R)).length := ⟨_, rfl⟩
 have hr2 := (hb2.block _ (t_lt H.out.2.2.1)).trans H.out.2.2.1
 obtain ⟨y0, y1, y2⟩ := three_cells hr2
 have f0 := blk_free hr2 0
 have f1 := blk_free hr2 1
 have f2 := blk_free hr2 2
 have H2 : Hid _ := And.intro hR (And.intro hO (And.intro hb2 (And.intro hr2 hN)))
 rw [<- hN]
 clear hR hO hb2 hr2 hN x0 x1 x2 x3
 go_wp2_with fail
 obtain ⟨k0, k1, k2⟩ := res3 (y0 := .bool true) (y1 := .slice au N cu) (y2 := .slice none 0 0) H2.out.2.2.2.1
 refine bodyPost_ret (v := .tuple #[.agg #[.bool true, .slice au N cu, .slice none 0 0], .nilIface]) (by simp [results, Tryz.results17, go_sem, k0, k1, k2]) rfl ⟨.slice au N cu, R, rfl, H2.out.1, ?_, ?_⟩
 ·obtain ⟨g1, g2, g3, g4, g5⟩ := H2.out
  rw [<- g5] at g2
  have e1 := row_base g2 H.out.2.1.size
  refine trow_at e1 fun i hi => ?_
  have h1 := (g2.lt i hi).1
  have h2 := t_lt H.out.2.2.1
  have hne : i ≠ w.heap.size + 1 := by omega
  rw [setCell_other _ hne, setCell_other _ hne, setCell_other _ hne]
 ·have h1 := H.out.2.1.trans (H2.out.2.2.1.mono H.out.2.1.size)
  exact ((h1.setCell (p := ⟨w.heap.size + 1, 0, none⟩) (by simp) _).setCell (p := ⟨w.heap.size + 1, 1, none⟩) (by simp) _).setCell (p := ⟨w.heap.size + 1, 2, none⟩) (by simp) _
end Di
namespace BNodes
open Go.RowKit Go.Maps
attribute [local go_sem ↓] Go.wp_at_zero Go.wp_at_succ
abbrev El : Type := Int × Int
def enc (z : El) : List Value := [.int .i64 z.1, .int .i64 z.2]
def C (zs : List El) : List Value := zs.flatMap enc
theorem C_app (a b : List El) : C (a ++ b) = C a ++ C b := List.flatMap_append
def Own (w : World) (B : Nat) (v : Value) (zs : List El) : Prop := w.ownsRow B 36 2 v zs.length (C zs)
def Has (w : World) (v : Value) (zs : List El) : Prop := ∃ ao cap, v = .slice ao zs.length cap /\ ∀ (j : Nat) (u : Value), (C zs)[j]? = some u -> ∃ a, ao = some a /\ w.cell? (a.add j) = some u
def mk1 (i k : Nat) : El := (-1 - (i : Int), (k : Int))
def marks (i f n : Nat) : List El := (List.range n).map fun k => mk1 i (f + k)
end BNodes
namespace Di
open Go.RowKit Go.Maps
attribute [local go_sem ↓] Go.wp_at_zero Go.wp_at_succ
def WAt (B : Nat) (v : Value) (zs ys : List BNodes.El) (w : World) (r : Ending) (w' : World) : Prop := ∃ v', r = .returned v' /\ BNodes.Own w' B v' (zs ++ ys) /\ Kept (fun i => v.ownBlock = some i) w w' /\ ∀ i, v'.ownBlock = some i -> v.ownBlock = some i \/ w.heap.size <= i
def WOk (b : Nat) (L : List Fm) (F : Nat -> Prop) (n : Nat) (ys : List BNodes.El) : Prop := ∀ (w : World) (v : Value) (zs : List BNodes.El) (B : Nat), Bf w b L F -> BNodes.Own w B v zs -> B <= w.heap.size -> (∀ i, v.ownBlock = some i -> ¬ F i) -> zs.length + ys.length <= 100000 ->
 Calls Tryz.prog 24 #[.pointer (some ⟨b, 0, none⟩), v, .int .i64 (n : Int)] w (WAt B v zs ys w)
theorem write_zero (b : Nat) (L : List Fm) (F : Nat -> Prop) : WOk b L F 0 [] := fun w v zs B _ hO _ _ _ => by
 obtain ⟨a, c, rfl⟩ := row_shape hO
 obtain ⟨n, hn⟩ : ∃ n, n = zs.length := ⟨_, rfl⟩
 rw [<- hn] at hO ⊢
 have H : Hid _ := And.intro hO hn
 clear hO hn
 go_enter Tryz.func24, Tryz.ntmps24
 go_wp2_with fail
 go_ret
 have h := H.out.1
 exact ⟨.slice a n c, rfl, by unfold BNodes.Own at h ⊢; rw [List.append_nil]; exact h, Kept.refl _ _, fun i hi => .inl hi⟩
theorem infoN : (Tryz.prog.info? 36).map (fun i => (i.zero, i.size, i.bytes)) = some (some (.agg #[.int .i64 0, .int .i64 0]), 2, 16) := by kernel_rfl
theorem entry_at {w : World} {b nm : Nat} {ve vs : Value} {L : List En} {S : List Int} (h : BkS w b nm ve vs L S) {n : Nat} {e : En} (hn : (z0 :: L)[n]? = some e) : ∃ g cap, ve = .slice (some ⟨g, 0, none⟩) (L.length + 1) cap /\ w.cell? ⟨g, n * 4, none⟩ = some (.int .i64 e.op) /\ w.cell? ⟨g, n * 4 + 1, none⟩ = some (.int .i64 e.lb) /\ w.cell? ⟨g, n * 4 + 2, none⟩ = some (.int .i64 e.a) /\ w.cell? ⟨g, n * 4 + 3, none⟩ = some (.int .i64 e.b) := by
 have hl := (List.getElem?_eq_some_iff.1 hn).1
 simp only [List.length_cons] at hl
 rcases h.row.2 with ⟨_, h0⟩ | ⟨g, cap, cur, rfl, _⟩
 ·omega
 ·have hc := fun k (hk : k < 4) => (h.row.cellAt (n * 4 + k) (by omega)).trans (eC_at (z0 :: L) n e hn k hk)
  exact ⟨g, cap, rfl, hc 0 (by omega), hc 1 (by omega), hc 2 (by omega), hc 3 (by omega)⟩
set_option maxRecDepth 100000 in
set_option maxHeartbeats 8000000 in
theorem write_step {b : Nat} {L : List Fm} {F : Nat -> Prop} {n n1 n2 : Nat} {op lb : Int} {ys1 ys2 : List BNodes.El} (h1 : WOk b L F n1 ys1) (h2 : WOk b L F n2 ys2) (hn : (z0 :: L.map (en L))[n]? = some ⟨op, lb, n1, n2⟩) (hn0 : 0 < n) : WOk b L F n (ys1 ++ ys2 ++ [(op, lb)]) := fun w v zs B hB hO hBs hvF hlen => by
 obtain ⟨nm, ve, vs, hS, hFt⟩ := hB.bk.some
 obtain ⟨g, cap, rfl, d0, d1, d2, d3⟩ := entry_at hS hn
 obtain ⟨c0, c1, c2⟩ := three_cells hS.cell
 simp only at d0 d1 d2 d3
 have hl := (List.getElem?_eq_some_iff.1 hn).1
 simp only [List.length_cons, List.length_map] at hl
 obtain ⟨N, hN⟩ : ∃ N, N = L.length := ⟨_, rfl⟩
 simp only [List.length_map] at c1
 rw [<- hN] at c1 hl
 obtain ⟨av, cv, rfl⟩ := row_shape hO
 obtain ⟨m, hm⟩ : ∃ m, m = zs.length := ⟨_, rfl⟩
 rw [<- hm] at hO hvF
 have q0 : (0 : Int) <= (n : Int) := by omega
 have q1 : (n : Int) < (N : Int) + 1 := by omega
 have q2 : ¬ ((n : Int) = 0) := by omega
 obtain ⟨w1, hw1⟩ : ∃ w1, w1 = w.alloc (.cells #[.int .i64 op, .int .i64 lb, .int .i64 (n1 : Int), .int .i64 (n2 : Int)] 108) := ⟨_, rfl⟩
 have hb1 : Below w.heap.size w w1 := by rw [hw1]; exact (Below.refl _ _).alloc (Nat.le_refl _) _
 have hg1 : w1.heap[w.heap.size]? = some (.cells #[.int .i64 op, .int .i64 lb, .int .i64 (n1 : Int), .int .i64 (n2 : Int)] 108 (0, 0)) := by rw [hw1]; exact heap_alloc_new w _
 have hO1 : BNodes.Own w1 B (.slice av m cv) zs := trow_at hO fun i hi => hb1.block i (hO.lt i hi).2
 have hC1 := h1 w1 (.slice av m cv) zs B (hB.below hb1) hO1 (Nat.le_trans hBs hb1.size) hvF (by simp only [List.length_append] at hlen; omega)
 have H : Hid _ := And.intro hw1 (And.intro hb1 (And.intro hg1 (And.intro hC1 (And.intro hB (And.intro hO (And.intro hBs (And.intro hvF (And.intro hlen hm))))))))
 rw [<- hm]
 clear hw1 hb1 hg1 hO1 hC1 hB hO hBs hvF hlen hS hFt hn hN hm
 go_enter Tryz.func24, Tryz.ntmps24
 go_upto_region 4 with fail
 rw [<- H.out.1]
 clear c0 c1 c2 d0 d1 d2 d3
 obtain ⟨x0, x1, x2, x3⟩ := four_cellsD H.out.2.2.1
 go_wp2_with fail
 refine Calls.mono H.out.2.2.2.1 ?_
 rintro r w2 ⟨v2, rfl, hO2, hk2, hv2⟩
 obtain ⟨a2, k2, rfl⟩ := row_shape hO2
 obtain ⟨m2, hm2⟩ : ∃ m2, m2 = (zs ++ ys1).length := ⟨_, rfl⟩
 have hg2 := (hk2.block _ (t_lt H.out.2.2.1) (fun e => by have := (H.out.2.2.2.2.2.1.lt _ e).2; omega)).trans H.out.2.2.1
 have hB2 : Bf w2 b L F := (H.out.2.2.2.2.1.below H.out.2.1).kept hk2 fun i hi e => H.out.2.2.2.2.2.2.2.1 i e hi
 have hvF2 : ∀ i, (Value.slice a2 (zs ++ ys1).length k2).ownBlock = some i -> ¬ F i := fun i hi hf => by
  rcases hv2 i hi with h | h
  ·exact H.out.2.2.2.2.2.2.2.1 i h hf
  ·have h3 := H.out.2.2.2.2.1.bk.lt i hf
   have h4 := H.out.2.1.size
   omega
 have hs2 : w.heap.size <= w2.heap.size := Nat.le_trans H.out.2.1.size hk2.size
 have hC2 := h2 w2 (.slice a2 (zs ++ ys1).length k2) (zs ++ ys1) B hB2 hO2 (Nat.le_trans H.out.2.2.2.2.2.2.1 hs2) hvF2 (by have := H.out.2.2.2.2.2.2.2.2.1; simp only [List.length_append] at this ⊢; omega)
 have hkw2 : Kept (fun i => (Value.slice av m cv).ownBlock = some i) w w2 := (Kept.of_below H.out.2.1).trans hk2
 have H2 : Hid _ := And.intro hO2 (And.intro hkw2 (And.intro hv2 (And.intro hg2 (And.intro hC2 (And.intro hs2 hm2)))))
 rw [<- hm2] at H2 ⊢
 clear hO2 hk2 hkw2 hv2 hg2 hB2 hvF2 hC2 hs2 hm2 x0 x1 x2 x3
 obtain ⟨x0, x1, x2, x3⟩ := four_cellsD H2.out.2.2.2.1
 go_wp2_with fail
 refine Calls.mono H2.out.2.2.2.2.1 ?_
 rintro r w3 ⟨v3, rfl, hO3, hk3, hv3⟩
 obtain ⟨a3, k3, rfl⟩ := row_shape hO3
 obtain ⟨m3, hm3⟩ : ∃ m3, m3 = ((zs ++ ys1) ++ ys2).length := ⟨_, rfl⟩
 have hg3 := (hk3.block _ (t_lt H2.out.2.2.2.1) (fun e => by
  rcases H2.out.2.2.1 _ e with h | h
  ·have := (H.out.2.2.2.2.2.1.lt _ h).2; omega
  ·obtain ⟨c, hc⟩ := row_cells H2.out.1 e
   exact cells_ne H2.out.2.2.2.1 hc (by decide) rfl)).trans H2.out.2.2.2.1
 have hlm : m3 + 1 <= 100000 := by have := H.out.2.2.2.2.2.2.2.2.1; rw [hm3]; simp only [List.length_append, List.length_cons, List.length_nil] at this ⊢; omega
 obtain ⟨i0, hi0, hz0, hz1, hz2⟩ := info_parts infoN
 have r1 : m3 + 1 <= maxLen := by unfold maxLen; omega
 have r2 : (m3 + 1) * 16 <= 140737488355328 := by omega
 have hrow : w3.ownsRow B 36 2 (.slice a3 m3 k3) m3 (BNodes.C ((zs ++ ys1) ++ ys2)) := by have h := hO3; unfold BNodes.Own at h; rw [<- hm3] at h; exact h
 have hBs3 : B <= (w3.alloc (.cells #[.int .i64 op, .int .i64 lb] 36)).heap.size := by have := H.out.2.2.2.2.2.2.1; have := H2.out.2.2.2.2.2.1; have := hk3.size; simp; omega
 have hv3m : ∀ i, (Value.slice a3 m3 k3).ownBlock = some i -> (Value.slice a2 m2 k2).ownBlock = some i \/ w2.heap.size <= i := by rw [hm3]; exact hv3
 have H3 : Hid _ := And.intro hrow (And.intro hk3 (And.intro hv3m hm3))
 rw [<- hm3]
 clear hO3 hk3 hv3 hv3m hlm hrow x0 x1 x2 x3 hm3
 obtain ⟨x0, x1, x2, x3⟩ := four_cellsD hg3
 clear hg3
 go_wp2_with (at_builtin; refine wpList_append_lies _ rfl _ _ 30 rfl B 36 i0 (.agg #[.int .i64 0, .int .i64 0]) 2 16 Tryz.underlying30 hi0 hz0 hz1 hz2 rfl (by decide) (.slice a3 m3 k3) m3 (BNodes.C ((zs ++ ys1) ++ ys2)) rfl (H3.out.1.alloc _) ⟨w3.heap.size, 0, none⟩ 1 1 [.int .i64 op, .int .i64 lb] rfl rfl (World.news_of_block (cs := #[.int .i64 op, .int .i64 lb]) (t := 36) (fr := (0, 0)) (heap_alloc_new w3 _)) (by simp [Value.oneCell']) Nat.one_pos r1 r2 hBs3 (w3.heap.size + 1) (by simp) ?_; intro g4 c4 w4 hown4 hgrow4 hat4 _; have H4 : Hid _ := And.intro hown4 (And.intro hgrow4 hat4); clear hown4 hgrow4 hat4)
 go_ret
 have hs2 := H2.out.2.2.2.2.2.1
 have v2o : ∀ i, (Value.slice a2 m2 k2).ownBlock = some i -> (Value.slice av m cv).ownBlock = some i \/ w.heap.size <= i := fun i hi => (H2.out.2.2.1 i hi).imp id fun h => Nat.le_trans H.out.2.1.size h
 have v3o : ∀ i, (Value.slice a3 m3 k3).ownBlock = some i -> (Value.slice av m cv).ownBlock = some i \/ w.heap.size <= i := fun i hi => (H3.out.2.2.1 i hi).elim (v2o i) fun h => .inr (Nat.le_trans hs2 h)
 have hk3 : Kept (fun i => (Value.slice av m cv).ownBlock = some i) w w3 := H2.out.2.1.trans2 H3.out.2.1 v2o
 have hka : Kept (fun i => (Value.slice av m cv).ownBlock = some i) w (w3.alloc (.cells #[.int .i64 op, .int .i64 lb] 36)) := hk3.trans (.of_below ((Below.refl _ _).alloc (Nat.le_refl _) _))
 have hk4 := hka.trans2 (Kept.of_grown H4.out.2.1) v3o
 refine ⟨.slice (some ⟨g4, 0, none⟩) (m3 + 1) c4, rfl, ?_, hk4, fun i hi => ?_⟩
 ·have h := H4.out.1
  have e1 : zs ++ (ys1 ++ ys2 ++ [(op, lb)]) = ((zs ++ ys1) ++ ys2) ++ [(op, lb)] := by simp
  unfold BNodes.Own
  rw [e1, BNodes.C_app, List.length_append, <- H3.out.2.2.2]
  exact h
 ·have e1 : g4 = i := Option.some.inj hi
  subst e1
  rcases H4.out.2.2 with h | h
  ·exact v3o _ h
  ·exact .inr (by have := hk3.size; omega)
theorem entry_num {L : List Fm} {x : Fm} (h : x ∈ L) : (z0 :: L.map (en L))[num L x]? = some (en L x) := by
 have h1 := num_at h
 have h2 := num_pos L x
 obtain ⟨k, hk⟩ : ∃ k, num L x = k + 1 := ⟨num L x - 1, by omega⟩
 rw [hk] at h1 ⊢
 rw [List.getElem?_cons_succ, List.getElem?_map, show L[k]? = some x from h1]
 rfl
theorem write_any {b : Nat} {L : List Fm} {F : Nat -> Prop} (hcl : ∀ x ∈ L, PIn L x) : ∀ (x : Fm), x ∈ L -> WOk b L F (num L x) x.nodes := fun x => by
 induction x with
 | tt => intro hx; exact write_step (write_zero b L F) (write_zero b L F) (entry_num hx) (num_pos _ _)
 | neg a ih =>
   intro hx
   have h := write_step (ih (hcl _ hx)) (write_zero b L F) (entry_num hx) (num_pos _ _)
   rw [List.append_nil] at h
   exact h
 | may l a ih =>
   intro hx
   have h := write_step (ih (hcl _ hx).1) (write_zero b L F) (entry_num hx) (num_pos _ _)
   rw [List.append_nil] at h
   exact h
 | both a c iha ihc =>
   intro hx
   exact write_step (iha (hcl _ hx).1) (ihc (hcl _ hx).2) (entry_num hx) (num_pos _ _)
set_option maxRecDepth 100000 in
set_option maxHeartbeats 4000000 in
theorem written_any {b : Nat} {L : List Fm} {F : Nat -> Prop} (x : Fm) (hx : x ∈ L) (w : World) (hB : Bf w b L F) :
 Calls Tryz.prog 12 #[.pointer (some ⟨b, 0, none⟩), .int .i64 ((num L x : Nat) : Int)] w fun r w' => ∃ v, r = .returned v /\ BNodes.Own w' w.heap.size v x.nodes /\ Below w.heap.size w w' := by
 have hsm := hB.small hx
 have hxl := x.nodes_len
 obtain ⟨nm, ve, vs, hS, hFt⟩ := hB.bk.some
 obtain ⟨c0, c1, c2⟩ := three_cells hS.cell
 obtain ⟨ars, caps, rfl, hcs⟩ := hS.siz.has
 have hnl := num_le hx
 have hsl := hS.len
 simp only [List.length_map] at hsl
 have hsz := szs_at hx
 obtain ⟨u, hu⟩ : ∃ u, (szs L)[num L x]? = some u := ⟨_, List.getElem?_eq_getElem (by omega)⟩
 rw [hu] at hsz
 simp only [Option.getD_some] at hsz
 subst hsz
 obtain ⟨A, rfl, s0⟩ := hcs _ _ hu
 obtain ⟨N, hN⟩ : ∃ N, N = (szs L).length := ⟨_, rfl⟩
 rw [<- hN] at c2 hsl
 obtain ⟨n, hn⟩ : ∃ n, n = num L x := ⟨_, rfl⟩
 rw [<- hn] at s0 hnl ⊢
 obtain ⟨z, hz⟩ : ∃ z, z = x.size := ⟨_, rfl⟩
 rw [<- hz] at s0 hsm
 have q0 : (0 : Int) <= (n : Int) := by omega
 have q1 : (n : Int) < (N : Int) := by omega
 obtain ⟨i0, hi0, hz0, hz1, hz2⟩ := info_parts infoN
 obtain ⟨w1, hrun, hO1, hg1⟩ := run_make_own (P := Tryz.prog) w w.heap.size 30 36 i0 _ 2 Tryz.underlying30 hi0 hz0 hz1 .i64 .i64 z (by rw [hz2]; omega) (by unfold maxLen; omega) (Nat.le_refl _)
 have hb1 : Below w.heap.size w w1 := (Kept.of_grown hg1).below (Nat.le_refl _) fun k e => by cases e
 have hO1' : BNodes.Own w1 w.heap.size (.slice (some ⟨w.heap.size, 0, none⟩) 0 z) [] := hO1
 have hW := write_any hB.cl x hx w1 (.slice (some ⟨w.heap.size, 0, none⟩) 0 z) [] w.heap.size (hB.below hb1) hO1' hb1.size (fun i hi hf => by
  have e1 : w.heap.size = i := Option.some.inj hi
  have := hB.bk.lt i hf
  omega) (by simp only [List.length_nil]; omega)
 rw [<- hn] at hW
 have H : Hid _ := And.intro hW (And.intro hb1 trivial)
 clear hB hsm hxl hS hFt hcs hu hN hn hz hi0 hz0 hz1 hz2 hO1 hg1 hb1 hO1' hW hnl hsl hx
 go_enter Tryz.func12, Tryz.ntmps12
 go_wp2_with fail
 refine Calls.mono H.out.1 ?_
 rintro r w2 ⟨v2, rfl, hO2, hk2, hv2⟩
 obtain ⟨a2, k2, rfl⟩ := row_shape hO2
 have H2 : Hid _ := And.intro hO2 hk2
 clear hO2 hk2 hv2
 obtain ⟨m2, hm2⟩ : ∃ m2, m2 = ([] ++ x.nodes).length := ⟨_, rfl⟩
 rw [<- hm2]
 have HM : Hid _ := hm2
 clear hm2
 go_wp2_with fail
 go_ret
 refine ⟨.slice a2 m2 k2, rfl, ?_, ?_⟩
 ·have h := H2.out.1
  rw [<- HM.out] at h
  exact h
 ·have h := H2.out.2.below H.out.2.1.size (B := w.heap.size) fun k e => by
   have e1 : w.heap.size = k := Option.some.inj e
   omega
  exact H.out.2.1.trans h
end Di
namespace Di
open Go.RowKit Go.Maps
attribute [local go_sem ↓] Go.wp_at_zero Go.wp_at_succ
def rkS (m : Nat) (es : List Sy.Ed) (R : Nat) : Nat -> Nat -> Int := rkT m (outOf m es) (R + 1)
def CmpAt (m : Nat) (es : List Sy.Ed) (p q : Nat) (aL : Addr) (w : World) (r : Ending) (w' : World) : Prop := ∃ R, Ro.Last m (outOf m es) R /\ Below w.heap.size w w' /\
 ((rkS m es R p q = -1 /\ ∃ u, r = .returned (.tuple #[.agg #[.bool true, u, .slice none 0 0], .nilIface]) /\ OwnI w' w.heap.size u (natI (Ro.rnd m (outOf m es) R))) \/
  (1 <= rkS m es R p q /\ (FF (outOf m es) (rkS m es R) p q).size <= 5000 /\ ∃ v, r = .returned (.tuple #[.agg #[.bool false, .slice none 0 0, v], .nilIface]) /\ BNodes.Own w' w.heap.size v (FF (outOf m es) (rkS m es R) p q).nodes) \/
  (1 <= rkS m es R p q /\ 5000 < (FF (outOf m es) (rkS m es R) p q).size /\ ∃ e, r = .returned (.tuple #[.agg #[.bool false, .slice none 0 0, .slice none 0 0], e]) /\ Chain w' 0 0 aL [disB] e))
theorem out_rw {m : Nat} {k s : Int} {es : List Sy.Ed} (hq : Sy.right m k s es = true) : Rw m (outOf m es) := by
 have hF := steps_fit hq
 refine ⟨fun i hi => (hF i hi).1, fun i _ => ?_, fun i hi z hz => ((hF i hi).2 z hz).1⟩
 unfold outOf Sy.rowOf
 split
 ·unfold Sy.steps
  rw [List.pairwise_map]
  have hs := Sy.nf_str es
  have hp : (Sy.nf es).Pairwise fun a b => Sy.lt a b = true := by
   have gen : ∀ l : List Sy.Ed, Sy.Str l -> l.Pairwise fun a b => Sy.lt a b = true := fun l => by
    induction l with
    | nil => exact fun _ => .nil
    | cons a r ih => exact fun h => List.pairwise_cons.2 ⟨h.head, ih h.tail⟩
   exact gen _ hs
  refine (hp.filter _).imp_of_mem ?_
  intro a b ha hb hl
  have h1 : a.1 = (i : Int) := by simpa using (List.mem_filter.1 ha).2
  have h2 : b.1 = (i : Int) := by simpa using (List.mem_filter.1 hb).2
  rw [Sy.lt_iff] at hl
  show a.2.1 <= b.2.1
  omega
 ·exact .nil
theorem out_th {m : Nat} {k s : Int} {es : List Sy.Ed} (hq : Sy.right m k s es = true) {R : Nat} (hR : Ro.Last m (outOf m es) R) (hm : m <= 1000) : Th (outOf m es) (rkS m es R) m := by
 have hF := steps_fit hq
 have hl := hR.lt
 exact th_of (fun i hi z hz => ((hF i hi).2 z hz).2) hm (by omega)
set_option linter.unusedSimpArgs false in
set_option maxRecDepth 100000 in
set_option maxHeartbeats 16000000 in
theorem compare_ok (hS : SortOk 1000000) (m kk p q : Nat) (s : Int) (v : Value) (es : List Sy.Ed) (a aL aN : Addr) (w : World) (hA : Sent w 5 a) (hE : EnvD w aL) (hN : Sent w 1 aN) (hne : aN ≠ aL) (hP : Pow w) (hv : BEdges.Has w v es) (hm : es.length <= 100000) (hq : Sy.right m kk s es = true) (hm3 : m <= 300) (hp : p < m) (hq2 : q < m) :
 Calls Tryz.prog 9 #[sysV m kk s v, .int .i64 (p : Int), .int .i64 (q : Int)] w (CmpAt m es p q aL w) := by
 have hv0 := hv
 obtain ⟨ao, cap, rfl, _⟩ := hv0
 obtain ⟨L, hL⟩ : ∃ L, L = es.length := ⟨_, rfl⟩
 obtain ⟨w1, hw1⟩ : ∃ w1, w1 = (w.alloc (.cells #[.int .i64 m, .int .i64 kk, .int .i64 s, .slice ao L cap] 27)).alloc (.cells #[.bool false, .slice none 0 0, .slice none 0 0] 41) := ⟨_, rfl⟩
 have hb1 : Below w.heap.size w w1 := by rw [hw1]; exact ((Below.refl _ _).alloc (Nat.le_refl _) _).alloc (by simp) _
 have hg1 : w1.heap[w.heap.size]? = some (.cells #[.int .i64 m, .int .i64 kk, .int .i64 s, .slice ao L cap] 27 (0, 0)) := by rw [hw1]; exact (Below.heap_alloc _ _ _ (by simp)).trans (heap_alloc_new w _)
 have hr1 : w1.heap[w.heap.size + 1]? = some (.cells #[.bool false, .slice none 0 0, .slice none 0 0] 41 (0, 0)) := by
  rw [hw1]
  have h := heap_alloc_new (w.alloc (.cells #[.int .i64 m, .int .i64 kk, .int .i64 s, .slice ao L cap] 27)) (.cells #[.bool false, .slice none 0 0, .slice none 0 0] 41)
  rw [World.size_alloc] at h
  exact h
 have hTl := teller_of hS m p q kk s _ es a aL w1 (hA.below hb1) (hE.below hb1) (hP.below hb1) (hv.below hb1) hm hq hm3 hp hq2
 have hAl := fun W (hb : Below w1.heap.size w1 W) => alike_ok hS m kk s _ es a W ((hA.below hb1).below hb) ((hv.below hb1).below hb) hm hq
 have hRw := out_rw hq
 have hThA := fun R (hR : Ro.Last m (outOf m es) R) => out_th hq hR (by omega)
 rw [<- hL] at hTl hAl ⊢
 unfold sysV at hTl hAl ⊢
 have H : Hid _ := And.intro hw1 (And.intro hb1 (And.intro hg1 (And.intro hr1 (And.intro hTl (And.intro hAl (And.intro hRw (And.intro hThA (And.intro hE (And.intro hN hne)))))))))
 obtain ⟨x0, x1, x2, x3⟩ := four_cells hg1
 clear hA hv hm hq hw1 hb1 hg1 hr1 hTl hAl hL hRw hThA hE hN hne hP
 go_enter Tryz.func9, Tryz.ntmps9
 go_upto_region 1 with fail
 rw [<- H.out.1]
 go_wp2_with fail
 refine Calls.mono H.out.2.2.2.2.1 ?_
 rintro r w2 ⟨c, F, R, rfl, hT, hcm, hco, hR, hrk, haL, hb2, hup⟩
 have hb02 := H.out.2.1.trans (hb2.mono H.out.2.1.size)
 have hg2 := (hb2.block _ (t_lt H.out.2.2.1)).trans H.out.2.2.1
 have hr2 := (hb2.block _ (t_lt H.out.2.2.2.1)).trans H.out.2.2.2.1
 have hTh := H.out.2.2.2.2.2.2.2.1 R hR
 have hRw := H.out.2.2.2.2.2.2.1
 have hrk2 : c.rk = rkS m es R := hrk
 rw [<- hco] at hRw hTh
 rw [<- hrk2, <- hcm] at hTh
 rw [<- hcm] at hRw
 clear x0 x1 x2 x3
 obtain ⟨x0, x1, x2, x3⟩ := four_cells hg2
 have hEL := (H.out.2.2.2.2.2.2.2.2.1.below hb02)
 have hEN := (H.out.2.2.2.2.2.2.2.2.2.1.below hb02)
 by_cases hrr : c.rk p q = -1
 ·have hAp := apart_none (c := c) aN (by omega) (by omega) hrr w2 hT.st hEN
  rw [hrk2] at hrr
  have H2 : Hid _ := And.intro hb02 (And.intro hg2 (And.intro hr2 (And.intro hR (And.intro hrr (And.intro hb2 hAp)))))
  clear hT hcm hco hR hrk haL hb2 hb02 hg2 hr2 hTh hRw hrk2 hEL hEN hrr hAp hup
  go_wp2_with fail
  refine Calls.mono H2.out.2.2.2.2.2.2 ?_
  rintro r w3 ⟨x, rfl, hC, hb3⟩
  have hb03 := H2.out.1.trans (hb3.mono H2.out.1.size)
  have hEL := (H.out.2.2.2.2.2.2.2.2.1.below hb03).lim
  have hEN := (H.out.2.2.2.2.2.2.2.2.2.1.below hb03)
  obtain ⟨hgL, cL, tL, hbL⟩ := hEL
  obtain ⟨hgN, cN, tN, hbN⟩ := hEN
  have hI1 := is_chain x [disB] 0 0 aN aL cN cL tN tL w3 hC hbN hbL
  have hI2 := is_chain x [disB] 0 0 aN aN cN cN tN tN w3 hC hbN hbN
  rw [decide_eq_false H.out.2.2.2.2.2.2.2.2.2.2] at hI1
  rw [decide_eq_true rfl] at hI2
  obtain ⟨T9, u9, rfl⟩ := chain_iface hC
  have hg3 := (hb3.block _ (t_lt H2.out.2.1)).trans H2.out.2.1
  have hr3 := (hb3.block _ (t_lt H2.out.2.2.1)).trans H2.out.2.2.1
  have hA3 := H.out.2.2.2.2.2.1 w3 (H2.out.2.2.2.2.2.1.trans (hb3.mono H2.out.2.2.2.2.2.1.size))
  have H3 : Hid _ := And.intro hb03 (And.intro hr3 (And.intro hI1 (And.intro hI2 hA3)))
  clear hC hb3 hb03 hbL hbN hI1 hI2 x0 x1 x2 x3 hA3
  obtain ⟨x0, x1, x2, x3⟩ := four_cells hg3
  clear hg3
  go_wp2_with fail
  refine Calls.mono H3.out.2.2.1 ?_
  rintro r w4 ⟨rfl, hw⟩; obtain rfl := hw.symm; clear hw
  go_wp2_with fail
  refine Calls.mono H3.out.2.2.2.1 ?_
  rintro r w4 ⟨rfl, hw⟩; obtain rfl := hw.symm; clear hw
  go_wp2_with fail
  refine Calls.mono H3.out.2.2.2.2 ?_
  rintro r w5 ⟨u, R2, rfl, hR2, hO5, hb5⟩
  obtain rfl : R = R2 := H2.out.2.2.2.1.unique hR2
  obtain ⟨au, cu, rfl⟩ := row_shape hO5
  obtain ⟨N, hNN⟩ : ∃ N, N = (natI (Ro.rnd m (outOf m es) R)).length := ⟨_, rfl⟩
  have hr5 := (hb5.block _ (t_lt H3.out.2.1)).trans H3.out.2.1
  obtain ⟨y0, y1, y2⟩ := three_cells hr5
  have f0 := blk_free hr5 0
  have f1 := blk_free hr5 1
  have f2 := blk_free hr5 2
  have H5 : Hid _ := And.intro hO5 (And.intro hb5 (And.intro hr5 hNN))
  rw [<- hNN]
  clear hO5 hb5 hr5 hNN x0 x1 x2 x3 hR2
  go_wp2_with fail
  obtain ⟨k0, k1, k2⟩ := res3 (y0 := .bool true) (y1 := .slice au N cu) (y2 := .slice none 0 0) H5.out.2.2.1
  refine bodyPost_ret (v := .tuple #[.agg #[.bool true, .slice au N cu, .slice none 0 0], .nilIface]) (by simp [results, Tryz.results9, go_sem, k0, k1, k2]) rfl ⟨R, H2.out.2.2.2.1, ?_, .inl ⟨H2.out.2.2.2.2.1, .slice au N cu, rfl, ?_⟩⟩
  ·have h1 := H3.out.1.trans (H5.out.2.1.mono H3.out.1.size)
   exact ((h1.setCell (p := ⟨w.heap.size + 1, 0, none⟩) (by simp) _).setCell (p := ⟨w.heap.size + 1, 1, none⟩) (by simp) _).setCell (p := ⟨w.heap.size + 1, 2, none⟩) (by simp) _
  ·obtain ⟨g2, g3, g4, g5⟩ := H5.out
   rw [<- g5] at g2
   refine trow_at (row_base g2 H3.out.1.size) fun i hi => ?_
   have h1 := (g2.lt i hi).1
   have h2 := t_lt H3.out.2.1
   have hne : i ≠ w.heap.size + 1 := by omega
   rw [setCell_other _ hne, setCell_other _ hne, setCell_other _ hne]
 ·have hr1 : 1 <= c.rk p q := (hTh.lo p q (by omega) (by omega)).resolve_left hrr
  have hmu := hTh.mu_lt p q
  have hAp := apart_some hTh hRw (by omega) (by omega) (by omega) hr1 w2 F [] [] hT (by
   have h1 : c.mu (p, q) < 2002 := hmu
   have h2 : c.m * c.m <= 300 * 300 := Nat.mul_le_mul (by omega) (by omega)
   unfold Tk.pot
   simp only [List.length_nil]
   omega)
  have hFF : c.F (p, q) = FF (outOf m es) (rkS m es R) p q := by unfold Tk.F; rw [hco, hrk2]
  rw [hFF] at hAp
  rw [hrk2] at hr1
  have hAp := hAp.mono (R' := fun r w' => (∃ (x : Int) (y : Value), r = .returned (.tuple #[.int .i64 x, y])) /\ Hid (FAt c w2 F [] [] (FF (outOf m es) (rkS m es R) p q) (fun x => c.mu x <= c.mu (p, q)) 0 r w') /\ Hid (Shp r)) fun r w' h => by
   obtain ⟨x, y, h1, h2⟩ := h.shp
   exact ⟨⟨x, y, h1⟩, up2 h, up2 ⟨x, y, h1, h2⟩⟩
  have H2 : Hid _ := And.intro hb02 (And.intro hg2 (And.intro hr2 (And.intro hR (And.intro hr1 (And.intro haL (And.intro hT hAp))))))
  have hlt : ∀ i, FT F c.tm i -> i < w2.heap.size := fun i hi => hT.lt hi
  have HU : Hid _ := And.intro hup hb2
  clear hT hcm hco hR hrk haL hb2 hb02 hg2 hr2 hTh hRw hrk2 hEL hEN hrr hAp hmu hFF hr1 hlt hup
  go_wp2_with fail
  refine Calls.mono H2.out.2.2.2.2.2.2.2 ?_
  rintro r w3 ⟨⟨xx, yy, rfl⟩, hF3, hS3⟩
  clear x0 x1 x2 x3
  rcases sh_eq hS3.out with rfl | ⟨T, u, rfl⟩
  ·obtain ⟨told3, R3, hxx, hX, hT3, hk3, _, _⟩ := hF3.out.ok
   subst hxx
   have hb3 : Below w1.heap.size w1 w3 := HU.out.2.trans (hk3.below HU.out.2.size HU.out.1)
   have hb03 := H.out.2.1.trans (hb3.mono H.out.2.1.size)
   have hgL := (H.out.2.2.2.2.2.2.2.2.1.below hb03).lim.1
   have hgN := (H.out.2.2.2.2.2.2.2.2.2.1.below hb03).1
   have hWr := written_any _ hX w3 hT3.bf
   have hsm := hT3.bf.small hX
   have hr3 := (hb3.block _ (t_lt H.out.2.2.2.1)).trans H.out.2.2.2.1
   obtain ⟨c0, c1, c2, c3⟩ := four_cellsD hT3.st.1.box
   have H3 : Hid _ := And.intro hb03 (And.intro hr3 (And.intro hWr (And.intro hsm hb3)))
   clear hX hT3 hk3 hb3 hb03 hWr hsm hr3 hF3 hS3
   go_wp2_with fail
   refine Calls.mono (is_nil5 _ _) ?_
   rintro r w4 ⟨rfl, hw⟩; obtain rfl := hw.symm; clear hw
   go_wp2_with fail
   refine Calls.mono (is_nil5 _ _) ?_
   rintro r w4 ⟨rfl, hw⟩; obtain rfl := hw.symm; clear hw
   go_wp2_with fail
   refine Calls.mono H3.out.2.2.1 ?_
   rintro r w5 ⟨u, rfl, hO5, hb5⟩
   obtain ⟨au, cu, rfl⟩ := row_shape hO5
   obtain ⟨N, hNN⟩ : ∃ N, N = ((FF (outOf m es) (rkS m es R) p q).nodes).length := ⟨_, rfl⟩
   have hr5 := (hb5.block _ (t_lt H3.out.2.1)).trans H3.out.2.1
   obtain ⟨y0, y1, y2⟩ := three_cells hr5
   have f0 := blk_free hr5 0
   have f1 := blk_free hr5 1
   have f2 := blk_free hr5 2
   have H5 : Hid _ := And.intro hO5 (And.intro hb5 (And.intro hr5 hNN))
   rw [<- hNN]
   clear hO5 hb5 hr5 hNN c0 c1 c2 c3
   go_wp2_with fail
   obtain ⟨k0, k1, k2⟩ := res3 (y0 := .bool false) (y1 := .slice none 0 0) (y2 := .slice au N cu) H5.out.2.2.1
   refine bodyPost_ret (v := .tuple #[.agg #[.bool false, .slice none 0 0, .slice au N cu], .nilIface]) (by simp [results, Tryz.results9, go_sem, k0, k1, k2]) rfl ⟨R, H2.out.2.2.2.1, ?_, .inr (.inl ⟨H2.out.2.2.2.2.1, H3.out.2.2.2.1, .slice au N cu, rfl, ?_⟩)⟩
   ·have h1 := H3.out.1.trans (H5.out.2.1.mono H3.out.1.size)
    exact ((h1.setCell (p := ⟨w.heap.size + 1, 0, none⟩) (by simp) _).setCell (p := ⟨w.heap.size + 1, 1, none⟩) (by simp) _).setCell (p := ⟨w.heap.size + 1, 2, none⟩) (by simp) _
   ·obtain ⟨g2, g3, g4, g5⟩ := H5.out
    rw [<- g5] at g2
    refine trow_at (row_base g2 H3.out.1.size) fun i hi => ?_
    have h1 := (g2.lt i hi).1
    have h2 := t_lt H3.out.2.1
    have hne : i ≠ w.heap.size + 1 := by omega
    rw [setCell_other _ hne, setCell_other _ hne, setCell_other _ hne]
  ·obtain ⟨n1, n2, n3, n4⟩ := hF3.out.no
   subst n2
   have hb3 : Below w1.heap.size w1 w3 := HU.out.2.trans (n4.below HU.out.2.size HU.out.1)
   have hb03 := H.out.2.1.trans (hb3.mono H.out.2.1.size)
   have hEL := (H.out.2.2.2.2.2.2.2.2.1.below hb03).lim
   obtain ⟨hgL, cL, tL, hbL⟩ := hEL
   rw [H2.out.2.2.2.2.2.1] at n3
   have hI1 := is_chain _ [disB] 0 0 aL aL cL cL tL tL w3 n3 hbL hbL
   rw [decide_eq_true rfl] at hI1
   have hr3 := (hb3.block _ (t_lt H.out.2.2.2.1)).trans H.out.2.2.2.1
   have H3 : Hid _ := And.intro hb03 (And.intro hr3 (And.intro n1 (And.intro n3 hI1)))
   obtain ⟨y0, y1, y2⟩ := three_cells hr3
   have f0 := blk_free hr3 0
   have f1 := blk_free hr3 1
   have f2 := blk_free hr3 2
   clear n1 n3 n4 hb3 hb03 hbL hI1 hr3 hF3 hS3
   go_wp2_with fail
   refine Calls.mono H3.out.2.2.2.2 ?_
   rintro r w4 ⟨rfl, hw⟩; obtain rfl := hw.symm; clear hw
   go_wp2_with fail
   obtain ⟨k0, k1, k2⟩ := res3 (y0 := .bool false) (y1 := .slice none 0 0) (y2 := .slice none 0 0) H3.out.2.1
   refine bodyPost_ret (v := .tuple #[.agg #[.bool false, .slice none 0 0, .slice none 0 0], .iface T u]) (by simp [results, Tryz.results9, go_sem, k0, k1, k2]) rfl ⟨R, H2.out.2.2.2.1, ?_, .inr (.inr ⟨H2.out.2.2.2.2.1, H3.out.2.2.1, .iface T u, rfl, ?_⟩)⟩
   ·exact ((H3.out.1.setCell (p := ⟨w.heap.size + 1, 0, none⟩) (by simp) _).setCell (p := ⟨w.heap.size + 1, 1, none⟩) (by simp) _).setCell (p := ⟨w.heap.size + 1, 2, none⟩) (by simp) _
   ·have h0 := H3.out.2.1
    have h1 := heap_setCell_same w3 (w.heap.size + 1) 0 _ _ (.bool false) h0
    have h2 := heap_setCell_same _ (w.heap.size + 1) 1 _ _ (.slice none 0 0) h1
    exact ((H3.out.2.2.2.1.set h0 (by decide)).set h1 (by decide)).set h2 (by decide)
end Di
namespace Di
open Go.RowKit Go.Maps
attribute [local go_sem ↓] Go.wp_at_zero Go.wp_at_succ
def bn (d : Int) : Nat -> Int
 | 0 => 1
 | k + 1 => min 5001 (1 + d * (bn d k + 1))
def bnd (k d : Int) : Int := if k < 1 then 1 else if d < 1 then 3 else bn d k.toNat
theorem bn_range {d : Int} (hd : 1 <= d) (k : Nat) : 1 <= bn d k /\ bn d k <= 5001 := by
 induction k with
 | zero => exact ⟨by unfold bn; omega, by unfold bn; omega⟩
 | succ k ih =>
   have h1 : 1 * (bn d k + 1) <= d * (bn d k + 1) := Int.mul_le_mul_of_nonneg_right hd (by omega)
   unfold bn
   omega
theorem bn_stay {d : Int} (hd : 1 <= d) {k : Nat} (h : bn d k = 5001) (j : Nat) : bn d (k + j) = 5001 := by
 induction j with
 | zero => exact h
 | succ j ih =>
   have h1 : 1 * (bn d (k + j) + 1) <= d * (bn d (k + j) + 1) := Int.mul_le_mul_of_nonneg_right hd (by omega)
   show min 5001 (1 + d * (bn d (k + j) + 1)) = 5001
   omega
theorem bn_quo {d b : Int} (hb : 1 <= b) : (5000 / (b + 1) < d -> 5000 < d * (b + 1)) /\ (¬ 5000 / (b + 1) < d -> d * (b + 1) <= 5000) := by
 have h1 := Int.ediv_mul_le 5000 (show b + 1 ≠ 0 by omega)
 have h2 := Int.lt_ediv_add_one_mul_self 5000 (show 0 < b + 1 by omega)
 constructor
 ·intro h
  have h3 : (5000 / (b + 1) + 1) * (b + 1) <= d * (b + 1) := Int.mul_le_mul_of_nonneg_right (by omega) (by omega)
  omega
 ·intro h
  have h3 : d * (b + 1) <= (5000 / (b + 1)) * (b + 1) := Int.mul_le_mul_of_nonneg_right (by omega) (by omega)
  omega
set_option maxRecDepth 100000 in
set_option maxHeartbeats 4000000 in
theorem bound_any (k d : Int) (w : World) (hk : k <= 9223372036854775807) : Calls Tryz.prog 5 #[.int .i64 k, .int .i64 d] w fun r w' => r = .returned (.int .i64 (bnd k d)) /\ w' = w := by
 by_cases h1 : k < 1
 ·have e : bnd k d = 1 := by unfold bnd; rw [if_pos h1]
  rw [e]
  clear e
  go_enter Tryz.func5, Tryz.ntmps5
  go_wp2_with fail
  go_ret
  exact ⟨rfl, rfl⟩
 ·by_cases h2 : d < 1
  ·have e : bnd k d = 3 := by unfold bnd; rw [if_neg h1, if_pos h2]
   rw [e]
   clear e
   go_enter Tryz.func5, Tryz.ntmps5
   go_wp2_with fail
   go_ret
   exact ⟨rfl, rfl⟩
  ·have e : bnd k d = bn d k.toNat := by unfold bnd; rw [if_neg h1, if_neg h2]
   obtain ⟨n, hn⟩ : ∃ n, n = k.toNat := ⟨_, rfl⟩
   rw [e, <- hn]
   obtain rfl : k = (n : Int) := by omega
   clear e hn
   go_enter Tryz.func5, Tryz.ntmps5
   go_wp2_with fail
   go_loopg [13, 5] n (fun q iv bv wr => ∃ i : Nat, q = n - i /\ i <= n /\ iv = .int .i64 i /\ bv = .int .i64 (bn d i) /\ wr = w)
   case atStart => exact ⟨0, rfl, Nat.zero_le _, rfl, rfl, rfl⟩
   case round =>
    obtain ⟨i, rfl, hi, rfl, rfl, rfl⟩ := hrel
    obtain ⟨hb1, hb2⟩ := bn_range (d := d) (by omega) i
    obtain ⟨hq1, hq2⟩ := bn_quo (d := d) hb1
    have hsu : bn d (i + 1) = min 5001 (1 + d * (bn d i + 1)) := rfl
    have hst := fun (h : bn d (i + 1) = 5001) => bn_stay (d := d) (by omega) h (n - (i + 1))
    obtain ⟨b, hb⟩ : ∃ b, b = bn d i := ⟨_, rfl⟩
    rw [<- hb] at hb1 hb2 hq1 hq2 hsu ⊢
    by_cases hlt : i < n
    ·have q1 : (i : Int) < (n : Int) := by omega
     have q2 : IntKind.i64.wrap (b + 1) = b + 1 := by rw [IntKind.wrap_i64]; omega
     have q3 : ¬ (b + 1 = 0) := by omega
     obtain ⟨z, hz⟩ : ∃ z, z = 5000 / (b + 1) := ⟨_, rfl⟩
     have hz1 : 0 <= z /\ z <= 5000 := by
      rw [hz]
      exact ⟨Int.ediv_nonneg (by omega) (by omega), Int.le_trans (Int.ediv_le_self _ (by omega)) (by omega)⟩
     have q4 : Int.tdiv 5000 (b + 1) = z := by rw [hz]; exact Int.tdiv_eq_ediv_of_nonneg (by omega)
     rw [<- hz] at hq1 hq2
     have q5 : IntKind.i64.wrap z = z := by rw [IntKind.wrap_i64]; omega
     by_cases hg : z < d
     ·have hw := hq1 hg
      have hfin : bn d n = 5001 := by
       have h := hst (by omega)
       rwa [show i + 1 + (n - (i + 1)) = n by omega] at h
      have HF : Hid _ := And.intro hfin trivial
      clear hq1 hq2 hsu hst hb hz hw hfin
      go_wp2_with fail
      go_ret
      exact ⟨by rw [HF.out.1]; rfl, rfl⟩
     ·have hw := hq2 hg
      have hnx : bn d (i + 1) = 1 + d * (b + 1) := by omega
      have hnn : 0 <= d * (b + 1) := Int.mul_nonneg (by omega) (by omega)
      have q6 : IntKind.i64.wrap (d * (b + 1)) = d * (b + 1) := by rw [IntKind.wrap_i64]; omega
      have q7 : IntKind.i64.wrap (1 + d * (b + 1)) = bn d (i + 1) := by rw [IntKind.wrap_i64, hnx]; omega
      clear hq1 hq2 hsu hst hb hz hw hnx hnn
      go_wp2_with fail
      go_roundg (n - (i + 1))
      case measure => omega
      case rel => exact ⟨i + 1, rfl, by omega, by go_num, rfl, rfl⟩
    ·obtain rfl : i = n := by omega
     have q1 : ¬ (i : Int) < (i : Int) := by omega
     subst hb
     clear hq1 hq2 hsu hst
     go_wp2_with fail
     go_ret
     exact ⟨rfl, rfl⟩
end Di
end Go.Proofs.YtgehimdkdeldaabGreatDoor
