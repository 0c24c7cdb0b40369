/- Texts of this claim, joined: SgSt, SgTk0, SgTk1, SgTk2, SgTake. -/
import Derived.Test.YthcpliinddjkhaaGreatDoorPart6
import Derived.Test.YthcpliinddjkhaaGreatDoorPart8
import Derived.Test.YthcpliinddjkhaaGreatDoorPart0
import Derived.BigQuiet
import Derived.Deep.QuietTactic
import Derived.BigRegion
import Derived.Deep.LoopGhost
namespace Go.Proofs.YthcpliinddjkhaaGreatDoor
section
open Go.RowKit Go.Maps
def hc (n : Nat) (H : Nat -> Int) (h : Int) : Nat := (List.range n).countP fun e => H e == h
theorem countP_add {α : Type} {l : List α} {f g k : α -> Bool} (h : ∀ a ∈ l, f a = (g a || k a) /\ (g a && k a) = false) : l.countP f = l.countP g + l.countP k := by
 induction l with
 | nil => rfl
 | cons a r ih =>
   obtain ⟨h1, h3⟩ := h a List.mem_cons_self
   have h2 := ih fun a ha => h a (List.mem_cons_of_mem _ ha)
   simp only [List.countP_cons]
   rw [h2, h1]
   cases hy : g a <;> cases hz : k a <;> simp_all <;> omega
theorem mem_count (s : Pst) (b : Nat) : (s.mem b).length = (List.range s.n).countP fun e => decide (s.O e = b) := by
 unfold Pst.mem
 rw [List.length_map, List.countP_eq_length_filter]
theorem mem_nodup (s : Pst) (b : Nat) : (s.mem b).Nodup := by
 unfold Pst.mem
 refine List.pairwise_map.2 ((List.Pairwise.filter _ List.nodup_range).imp fun {a b} hne h => hne (Int.ofNat_inj.1 h))
theorem lift_of {w w' : World} {B r g p mb bl o k z : Nat} {x x' : Rv} {bs : List Int} {s : Pst} (hA : LiftAt w w' B r g p mb x x' bl o k z bs) (hI : RunI s x) (hb : bl < s.nb) (b : Nat) : x'.of b = if b = bl then (x.ks.length : Int) else x.of b := by
 unfold Rv.of
 rw [hA.ow]
 by_cases e : b = bl
 ·rw [if_pos e, e, List.getElem?_set_self (by rw [hI.ow]; exact hb)]; rfl
 ·rw [if_neg e, List.getElem?_set_ne (fun e2 => e e2.symm)]
theorem RunI.lift {w w' : World} {B r g p mb bl o k z : Nat} {x x' : Rv} {bs : List Int} {s : Pst} (hA : LiftAt w w' B r g p mb x x' bl o k z bs) (hI : RunI s x) (hb : bl < s.nb) (how : x.ow[bl]? = some (o : Int)) (hH : (x.H.map (·.2))[o]? = some bs) : RunI s x' := by
 have hol : o < x.ks.length := by have h9 := (List.getElem?_eq_some_iff.1 hH).1; rw [List.length_map, hI.len] at h9; exact h9
 have hLen : (x.H.map (·.2)).length = x.ks.length := by rw [List.length_map, hI.len]
 have hkl : x'.ks.length = x.ks.length + 1 := by rw [hA.ks, List.length_append, List.length_set]; rfl
 have how' : ∀ b, b ≠ bl -> x'.ow[b]? = x.ow[b]? := fun b e => by rw [hA.ow, List.getElem?_set_ne (fun e2 => e e2.symm)]
 have hob : x'.ow[bl]? = some (x.ks.length : Int) := by rw [hA.ow, List.getElem?_set_self (by rw [hI.ow]; exact hb)]
 have hHs : ∀ (q : Nat) (cs : List Int), (x'.H.map (·.2))[q]? = some cs -> (q = o /\ cs = bs.filter fun b => !(b == (bl : Int))) \/ (q = x.ks.length /\ cs = [(bl : Int)]) \/ (q ≠ o /\ q < x.ks.length /\ (x.H.map (·.2))[q]? = some cs) := fun q cs hq => by
  rw [hA.hs] at hq
  rcases Nat.lt_or_ge q x.ks.length with h1 | h1
  ·rw [List.getElem?_append_left (by rw [List.length_set, hLen]; exact h1)] at hq
   by_cases e : q = o
   ·subst e
    rw [List.getElem?_set_self (by rw [hLen]; exact h1)] at hq
    exact .inl ⟨rfl, (Option.some.inj hq).symm⟩
   ·rw [List.getElem?_set_ne (fun e2 => e e2.symm)] at hq
    exact .inr (.inr ⟨e, h1, hq⟩)
  ·rw [List.getElem?_append_right (by rw [List.length_set, hLen]; exact h1), List.length_set, hLen] at hq
   have h2 := (List.getElem?_eq_some_iff.1 hq).1
   simp only [List.length_cons, List.length_nil] at h2
   have h3 : q = x.ks.length := by omega
   rw [h3, Nat.sub_self] at hq
   exact .inr (.inl ⟨h3, (Option.some.inj hq).symm⟩)
 have hmem : ∀ (q : Nat) (z : Int), q ≠ x.ks.length -> ((∃ b : Nat, z = (b : Int) /\ b < s.nb /\ x'.ow[b]? = some (q : Int)) ↔ (z ≠ (bl : Int) /\ ∃ b : Nat, z = (b : Int) /\ b < s.nb /\ x.ow[b]? = some (q : Int))) := fun q z hq => by
  constructor
  ·rintro ⟨b, rfl, h1, h2⟩
   have hne : b ≠ bl := fun e => by
    rw [e, hob] at h2
    have := Option.some.inj h2
    omega
   exact ⟨by omega, b, rfl, h1, by rw [<- how' b hne]; exact h2⟩
  ·rintro ⟨h0, b, rfl, h1, h2⟩
   exact ⟨b, rfl, h1, by rw [how' b (by omega)]; exact h2⟩
 refine ⟨?_, ?_, fun b hb2 => ?_, fun b hb2 => ?_, fun q cs hq => ?_, fun q cs hq z => ?_, fun q cs hq hc => ?_, ?_, fun z hz => ?_, ?_⟩
 ·rw [hA.ow, List.length_set]; exact hI.ow
 ·rw [hA.sz]; exact hI.sz
 ·rw [hA.sz]; exact hI.szv b hb2
 ·by_cases e : b = bl
  ·rw [e]; exact ⟨x.ks.length, hob, by omega⟩
  ·obtain ⟨q, h1, h2⟩ := hI.own b hb2
   exact ⟨q, by rw [how' b e]; exact h1, by omega⟩
 ·rcases hHs q cs hq with ⟨_, rfl⟩ | ⟨_, rfl⟩ | ⟨_, _, h1⟩
  ·exact List.Pairwise.filter _ (hI.nd o bs hH)
  ·simp
  ·exact hI.nd q cs h1
 ·rcases hHs q cs hq with ⟨rfl, rfl⟩ | ⟨rfl, rfl⟩ | ⟨hne, hlt, h1⟩
  ·rw [hmem q z (by omega), List.mem_filter, hI.hs q bs hH z]
   simp only [Bool.not_eq_true', beq_eq_false_iff_ne, ne_eq]
   exact and_comm
  ·rw [List.mem_singleton]
   constructor
   ·rintro rfl; exact ⟨bl, rfl, hb, hob⟩
   ·rintro ⟨b, rfl, h1, h2⟩
    by_cases e : b = bl
    ·rw [e]
    ·rw [how' b e] at h2
     obtain ⟨q, h3, h4⟩ := hI.own b h1
     rw [h3] at h2
     have := Option.some.inj h2
     omega
  ·rw [hmem q z (by omega), hI.hs q cs h1 z]
   constructor
   ·rintro ⟨b, rfl, h2, h3⟩
    refine ⟨fun e => hne ?_, b, rfl, h2, h3⟩
    have e2 : b = bl := by omega
    rw [e2, how] at h3
    have := Option.some.inj h3
    omega
   ·exact fun h => h.2
 ·rw [hA.wt]
  rcases hHs q cs hq with ⟨rfl, rfl⟩ | ⟨_, rfl⟩ | ⟨_, _, h1⟩
  ·refine hI.wt q bs hH ?_
   have := List.length_filter_le (fun b => !(b == (bl : Int))) bs
   omega
  ·simp at hc
  ·exact hI.wt q cs h1 hc
 ·rw [hA.wt]; exact hI.wtl
 ·rw [hA.wt] at hz
  obtain ⟨q, h1, h2⟩ := hI.wtn z hz
  exact ⟨q, h1, by omega⟩
 ·have h9 := congrArg List.length hA.hs
  rw [List.length_map, List.length_append, List.length_set, List.length_map, hI.len] at h9
  rw [h9, hkl]; rfl
structure Gp where
 B : Nat
 bs : Nat
 bb : Nat
 cs : Nat
 cb : Nat
 n : Nat
 kk : Nat
 st : Int
 es : List Sy.Ed
def Gp.at (G : Gp) (w : World) (g : Nat) : Prop := Gr w G.B g G.bs G.bb G.cs G.cb G.n (G.kk : Int) G.st G.es
def hOf (s : Pst) (x : Rv) (e : Nat) : Int := x.of (s.O e)
structure RunAt (w0 w : World) (r g p mb nm : Nat) (G : Gp) (s : Pst) (x : Rv) : Prop where
 m : RnM w w0.heap.size r g p mb x
 c : ∃ c, Pt w0 w p c /\ Lay c s
 ok : s.Ok
 bare : s.bare
 n : s.n = G.n
 i : RunI s x
 gr : G.at w0 g
 mu : w0.heap.size <= mb
 cnt : Cnt w mb nm (Sg.cf (Sg.tn G.es) (hOf s x))
 ksv : ∀ (o k : Nat), x.ks[o]? = some k -> k = hc G.n (hOf s x) (o : Int)
theorem RunAt.below {w0 w w' : World} {r g p mb nm : Nat} {G : Gp} {s : Pst} {x : Rv} (h : RunAt w0 w r g p mb nm G s x) (hb : Below w.heap.size w w') : RunAt w0 w' r g p mb nm G s x := by
 obtain ⟨c, h1, h2⟩ := h.c
 exact ⟨h.m.below hb, ⟨c, h1.below hb, h2⟩, h.ok, h.bare, h.n, h.i, h.gr, h.mu, h.cnt.below hb, h.ksv⟩
theorem Gp.at.below {G : Gp} {w w' : World} {g : Nat} (h : G.at w g) (hb : Below w.heap.size w w') : G.at w' g := Gr.below h hb
theorem RunAt.up {w0 w : World} {r g p mb nm : Nat} {G : Gp} {s : Pst} {x : Rv} (h : RunAt w0 w r g p mb nm G s x) : Below w0.heap.size w0 w := by
 obtain ⟨c, h1, _⟩ := h.c
 exact Arr.bl h1
theorem RunAt.graph {w0 w : World} {r g p mb nm : Nat} {G : Gp} {s : Pst} {x : Rv} (h : RunAt w0 w r g p mb nm G s x) : G.at w g := h.gr.below h.up
theorem RnM.mb_foot {w : World} {B r g p mb mc nm : Nat} {x : Rv} {f : Int -> Int -> Int -> Int} (h : RnM w B r g p mb x) (hC : Cnt w mc nm f) : ¬ x.foot mc /\ mc ≠ r := by
 refine ⟨fun hf => ?_, hC.ne h.box⟩
 rcases hf with hf | hf
 ·obtain ⟨cs, h1⟩ := row_cells h.hp hf
  exact hC.ne h1 rfl
 ·obtain ⟨cs, h1⟩ := h.q.typed hf
  exact hC.ne h1 rfl
end
section
open Go.RowKit Go.Maps
attribute [local go_sem ↓] Go.wp_at_zero Go.wp_at_succ
structure TkS (w0 wd wr : World) (r g p mb : Nat) (s s1 : Pst) (x2 x1 : Rv) (R : Nat -> Prop) (Q : Nat -> Nat -> Prop) : Prop where
 m : RnM wr w0.heap.size r g p mb x1
 c : ∃ c, Pt w0 wr p c /\ Lay c s1
 ok : s1.Ok
 bare : s1.bare
 n : s1.n = s.n
 i : RunI s1 x1
 of : ∀ e, e < s.n -> hOf s1 x1 e = hOf s x2 e
 ks : x1.ks = x2.ks
 eq : ∀ a b, a < s.n -> b < s.n -> (s1.O a = s1.O b ↔ s.O a = s.O b /\ Q a b)
 kp : Kept (fun b => b = p \/ b = r \/ b = mb \/ x2.foot b \/ R b) wd wr
 ft : ∀ b, x1.foot b -> x2.foot b \/ wd.heap.size <= b
theorem TkS.kept {w0 wd wr w' : World} {r g p mb : Nat} {s s1 : Pst} {x2 x1 : Rv} {R : Nat -> Prop} {Q : Nat -> Nat -> Prop} {F : Nat -> Prop} (h : TkS w0 wd wr r g p mb s s1 x2 x1 R Q) (hk : Kept F wr w') (hF : ∀ b, F b -> w0.heap.size <= b /\ b ≠ p /\ b ≠ r /\ ¬ x1.foot b /\ (b = mb \/ R b \/ wd.heap.size <= b)) : TkS w0 wd w' r g p mb s s1 x2 x1 R Q := by
 obtain ⟨c, h1, h2⟩ := h.c
 refine ⟨h.m.kept hk (fun e => (hF r e).2.2.1 rfl) (fun b hb e => (hF b e).2.2.2.1 hb), ⟨c, h1.kept hk fun b hb => ⟨(hF b hb).1, (hF b hb).2.1⟩, h2⟩, h.ok, h.bare, h.n, h.i, h.of, h.ks, h.eq, h.kp.trans2 hk fun b hb => ?_, h.ft⟩
 rcases (hF b hb).2.2.2.2 with e | e | e
 ·exact .inl (.inr (.inr (.inl e)))
 ·exact .inl (.inr (.inr (.inr (.inr e))))
 ·exact .inr e
theorem TkS.below {w0 wd wr w' : World} {r g p mb : Nat} {s s1 : Pst} {x2 x1 : Rv} {R : Nat -> Prop} {Q : Nat -> Nat -> Prop} (h : TkS w0 wd wr r g p mb s s1 x2 x1 R Q) (hb : Below wr.heap.size wr w') : TkS w0 wd w' r g p mb s s1 x2 x1 R Q := h.kept (F := fun _ => False) (Kept.of_below hb) fun _ h => h.elim
theorem TkS.split {w0 wd wr w' : World} {r g p mb : Nat} {s s1 s' : Pst} {x2 x1 x' : Rv} {R : Nat -> Prop} {Q : Nat -> Nat -> Prop} {c' : Nat -> Int} {l : List Nat} (h : TkS w0 wd wr r g p mb s s1 x2 x1 R Q) (hS : SpAt w0 wr w' w0.heap.size r g p mb s1 s' x1 x' c' l) : TkS w0 wd w' r g p mb s s' x2 x' R (fun a b => Q a b /\ (a ∈ l ↔ b ∈ l)) := by
 refine ⟨hS.m, ⟨c', hS.pt, hS.lay⟩, hS.ok, hS.bare, hS.n.trans h.n, hS.i, fun e he => ?_, hS.ks.trans h.ks, fun a b ha hb => ?_, h.kp.trans2 hS.kp fun b hb => ?_, fun b hb => ?_⟩
 ·have h1 := hS.of e (by rw [h.n]; exact he)
  exact Eq.trans h1 (h.of e he)
 ·rw [hS.eq a b (by rw [h.n]; exact ha) (by rw [h.n]; exact hb), h.eq a b ha hb, and_assoc]
 ·rcases hb with e | e | e
  ·exact .inl (.inl e)
  ·exact .inl (.inr (.inl e))
  ·exact (h.ft b e).imp (fun h => .inr (.inr (.inr (.inl h)))) id
 ·rcases hS.ft b hb with h1 | h1
  ·exact h.ft b h1
  ·exact .inr (Nat.le_trans h.kp.size h1)
theorem TkS.congr {w0 wd wr : World} {r g p mb : Nat} {s s1 : Pst} {x2 x1 : Rv} {R : Nat -> Prop} {Q Q' : Nat -> Nat -> Prop} (h : TkS w0 wd wr r g p mb s s1 x2 x1 R Q) (hQ : ∀ a b, a < s.n -> b < s.n -> (Q a b ↔ Q' a b)) : TkS w0 wd wr r g p mb s s1 x2 x1 R Q' :=
 ⟨h.m, h.c, h.ok, h.bare, h.n, h.i, h.of, h.ks, fun a b ha hb => by rw [h.eq a b ha hb, hQ a b ha hb], h.kp, h.ft⟩
def RowsF (w : World) (B : Nat) (us : List Value) (j kk : Nat) (E : Nat -> List Int) : Prop := ∀ l, j <= l -> l < kk -> ∃ u, us[l]? = some u /\ OwnI w B u (E l)
theorem RowsF.kept {w w' : World} {B : Nat} {us : List Value} {j kk : Nat} {E : Nat -> List Int} {F : Nat -> Prop} (h : RowsF w B us j kk E) (hk : Kept F w w') (hF : ∀ l u b, j <= l -> us[l]? = some u -> u.ownBlock = some b -> ¬ F b) : RowsF w' B us j kk E := fun l hj hl => by
 obtain ⟨u, h1, h2⟩ := h l hj hl
 exact ⟨u, h1, own_up h2 hk fun b hb => hF l u b hj h1 hb⟩
theorem kcell3 {w w' : World} {F : Nat -> Prop} {b o : Nat} {v : Value} (hk : Kept F w w') (hne : ¬ F b) (c : w.cell? ⟨b, o, none⟩ = some v) : w'.cell? ⟨b, o, none⟩ = some v := (World.cell?_of_block (a := ⟨b, o, none⟩) (hk.block b (World.block_lt_of_cell? w _ c) hne)).trans c
set_option linter.unusedSimpArgs false in
set_option maxRecDepth 100000 in
set_option maxHeartbeats 2000000 in
theorem take1_asks (rb lb sb r mb nm : Nat) (f : Int -> Int -> Int -> Int) (l rest : Int) (zs : List Int) (v : Value) (w : World) (hr : w.cell? ⟨rb, 0, none⟩ = some (.pointer (some ⟨r, 0, none⟩))) (hl : w.cell? ⟨lb, 0, none⟩ = some (.int .i64 l)) (hs : w.cell? ⟨sb, 0, none⟩ = some (.int .i64 rest)) (hm : w.cell? ⟨r, 5, none⟩ = some (.map (some mb))) (hC : Cnt w mb nm f) (hne : ∀ b, v.ownBlock = some b -> b ≠ rb /\ b ≠ lb /\ b ≠ sb /\ b ≠ r /\ b ≠ mb) (h1 : Sml l) (h2 : Sml rest) (h3 : ∀ z ∈ zs, Sml z) :
 Asks 163 #[.pointer (some ⟨rb, 0, none⟩), .pointer (some ⟨lb, 0, none⟩), .pointer (some ⟨sb, 0, none⟩)] (fun z => decide (0 < f z l rest)) zs fun W => Kept (fun b => v.ownBlock = some b) w W := fun z W hz hk => by
 have c0 := kcell3 hk (fun e => (hne _ e).1 rfl) hr
 have c1 := kcell3 hk (fun e => (hne _ e).2.1 rfl) hl
 have c2 := kcell3 hk (fun e => (hne _ e).2.2.1 rfl) hs
 have c3 := kcell3 hk (fun e => (hne _ e).2.2.2.1 rfl) hm
 have hL := ((hC.kept hk (fun e => (hne _ e).2.2.2.2 rfl)).at (w' := W.drew) rfl).look (h3 z hz) h1 h2
 unfold inV at hL
 have hL1 := hL.1
 obtain ⟨y, hy⟩ : ∃ y, y = f z l rest := ⟨_, rfl⟩
 rw [<- hy] at hL1
 have HY : Hid _ := hy
 obtain ⟨d, hd⟩ : ∃ d, d = decide (0 < y) := ⟨_, rfl⟩
 have q1 := hd.symm
 have HD : Hid _ := hd
 clear hr hl hs hm hC hne h1 h2 h3 hk hL hz hy hd
 show Calls Tryz.prog 163 #[.int .i64 z, .pointer (some ⟨rb, 0, none⟩), .pointer (some ⟨lb, 0, none⟩), .pointer (some ⟨sb, 0, none⟩)] W _
 go_enter Tryz.func163, Tryz.ntmps163
 go_upto_region 1 with fail
 refine wp_region_held_drew (S := (fun w' => w'.cell? ⟨rb, 0, none⟩ = some (.pointer (some ⟨r, 0, none⟩)) /\ w'.cell? ⟨lb, 0, none⟩ = some (.int .i64 l) /\ w'.cell? ⟨sb, 0, none⟩ = some (.int .i64 rest) /\ w'.cell? ⟨r, 5, none⟩ = some (.map (some mb)))) (by kernel_rfl) ?_ (fun hHeld => ?_)
 ·exact ⟨c0, c1, c2, c3⟩
 refine tk8 0 rfl ?_; (try simp only [ty9, Act.put])
 refine tk8 1 rfl ?_; (try simp only [ty9, Act.put])
 refine tk8 2 rfl ?_; (try simp only [ty9, Act.put])
 refine tk8 3 rfl ?_; (try simp only [ty9, Act.put])
 refine tk8 4 rfl ?_; (try simp only [ty9, Act.put])
 refine tk8 5 rfl ?_; (try simp only [ty9, Act.put])
 refine tk8 6 rfl ?_; (try simp only [ty9, Act.put])
 refine tk8 7 rfl ?_; (try simp only [ty9, Act.put])
 refine wpAnyH_ready (rs := [8]) (by kernel_rfl) (by simp) ?_
 refine AllReadyH.cons (o := _) rfl (fun K hK => ?_) ?_
 ·(go_simp)
  (try go_wp2_with fail)
  refine hK.out _ _ ?_ (fun hHeld => ?_)
  ·exact hHeld
  clear hK K
  (try simp only [ty9, Act.put])
  refine tk8 9 rfl ?_; (try simp only [ty9, Act.put])
  refine tk8 10 rfl ?_; (try simp only [ty9, Act.put])
  refine wpAnyH_done (by kernel_rfl) ?_ _
  (try go_simp)
  clear hHeld
  go_wp2_with fail
  go_ret
  exact ⟨by rw [<- HY.out, <- HD.out]; (try rfl), (Below.refl _ _).drew⟩
 exact AllReadyH.nil
end
section
open Go.RowKit Go.Maps
namespace Sg
theorem withC_step {f : Int -> Int -> Int -> Int} {rest own : Int} {E : Nat -> List Int} {j i : Nat} {z : Int} (hne : rest ≠ own) (h : (E j)[i]? = some z) (p b q : Int) :
 updC (updC (withC f rest own (gAt E j i)) z (j : Int) rest (withC f rest own (gAt E j i) z (j : Int) rest - 1)) z (j : Int) own (withC f rest own (gAt E j i) z (j : Int) own + 1) p b q = withC f rest own (gAt E j (i + 1)) p b q := by
 unfold updC
 by_cases hb : b = (j : Int)
 ·subst hb
  unfold withC
  rw [gAt_step E j i h]
  simp only [List.count_append, List.count_singleton]
  by_cases hp : p = z
  ·subst hp
   by_cases h1 : q = rest
   ·subst h1
    simp [hne]; omega
   ·by_cases h2 : q = own
    ·subst h2
     simp; omega
    ·simp [h1, h2]
  ·have hp2 : (z == p) = false := by simp; exact fun e => hp e.symm
   simp [hp, hp2]
 ·unfold withC
  rw [gAt_other E j i hb]
  simp [hb]
theorem gAt_len {E : Nat -> List Int} {c : Nat} (h : ∀ l, (E l).length <= c) (j i : Nat) (b : Int) : (gAt E j i b).length <= c := by
 unfold gAt
 split
 ·exact h _
 ·split
  ·rw [List.length_take]; have := h j; omega
  ·exact Nat.zero_le _
theorem withC_le {f : Int -> Int -> Int -> Int} {rest own : Int} {Gf : Int -> List Int} {c : Nat} (hf : ∀ p b q, 0 <= f p b q /\ f p b q <= (c : Int)) (hG : ∀ b, (Gf b).length <= c) (p b q : Int) : -(c : Int) <= withC f rest own Gf p b q /\ withC f rest own Gf p b q <= 2 * (c : Int) := by
 have h1 := hf p b q
 have h2 := hG b
 have h3 := List.count_le_length (a := p) (l := Gf b)
 unfold withC
 split
 ·omega
 ·split <;> omega
theorem cf_le {T : List Sy.Ed} {c : Nat} (h : T.length <= c) (H : Nat -> Int) (p b q : Int) : 0 <= cf T H p b q /\ cf T H p b q <= (c : Int) := by
 unfold cf
 have := cn_le T (fun t => H t.toNat == q) p b
 omega
def srcE (G : Gp) (s : Pst) (bl l : Nat) : List Int := ends (inAll (insOf G.n G.es) (s.mem bl)) (l : Int)
def srcN (G : Gp) (s : Pst) (bl l : Nat) : List Nat := (srcE G s bl l).map Int.toNat
theorem tn_right {G : Gp} (h : Sy.right G.n (G.kk : Int) G.st G.es = true) : ∀ e ∈ tn G.es, (0 <= e.1 /\ e.1 < (G.n : Int)) /\ (0 <= e.2.1 /\ e.2.1 < (G.kk : Int)) /\ (0 <= e.2.2 /\ e.2.2 < (G.n : Int)) := fun e he => by
 have h1 := (right_parts h).2.2.2.2.2 _ ((Sy.nf_mem _ _).1 (tn_mem.1 he))
 simp only [Sy.turn] at h1
 exact ⟨⟨h1.2.2.1, h1.2.2.2.1⟩, ⟨h1.2.2.2.2.1, h1.2.2.2.2.2⟩, ⟨h1.1, h1.2.1⟩⟩
theorem tn_len {G : Gp} (h : Sy.right G.n (G.kk : Int) G.st G.es = true) : (tn G.es).length <= 10000 := by
 have h1 := (right_parts h).2.2.1
 have h2 := Sy.nf_len G.es
 have h3 := nf_turn_len G.es
 unfold tn
 omega
theorem mem_small {s : Pst} {bl : Nat} : ∀ q ∈ s.mem bl, 0 <= q /\ q < (s.n : Int) := fun q hq => by
 obtain ⟨e, h1, _, rfl⟩ := mem_mem.1 hq
 omega
theorem srcE_count {G : Gp} {s : Pst} {bl : Nat} (hr : Sy.right G.n (G.kk : Int) G.st G.es = true) (hn : s.n = G.n) (l : Nat) (p : Int) : (srcE G s bl l).count p = cn (tn G.es) (fun t => decide (s.O t.toNat = bl)) p (l : Int) := by
 unfold srcE
 have h1 : insOf G.n G.es = Sy.rowOf G.n (tn G.es) := rfl
 rw [h1, count_ends (fun q hq => by have := mem_small q hq; omega) (mem_nodup s bl)]
 refine cn_congr (fun e he => ?_) p _
 have h2 := (tn_right hr e he).1
 refine decide_eq_decide.2 ?_
 rw [mem_mem]
 constructor
 ·rintro ⟨a, h3, h4, h5⟩
  rw [h5]; exact h4
 ·intro h3
  exact ⟨e.1.toNat, by omega, h3, by omega⟩
theorem srcE_len {G : Gp} {s : Pst} {bl : Nat} (hr : Sy.right G.n (G.kk : Int) G.st G.es = true) (l : Nat) : (srcE G s bl l).length <= 10000 := by
 have h1 := ends_len (inAll (insOf G.n G.es) (s.mem bl)) (l : Int)
 have h2 : insOf G.n G.es = Sy.rowOf G.n (tn G.es) := rfl
 have h3 := inAll_le (T := tn G.es) (n := G.n) (mem_nodup s bl)
 have h4 := tn_len hr
 rw [<- h2] at h3
 unfold srcE
 omega
theorem srcE_mem {G : Gp} {s : Pst} {bl : Nat} (hr : Sy.right G.n (G.kk : Int) G.st G.es = true) (hn : s.n = G.n) {l : Nat} {z : Int} (h : z ∈ srcE G s bl l) : 0 <= z /\ z < (G.n : Int) := by
 have h1 := List.count_pos_iff.2 h
 rw [srcE_count hr hn, cn_pos] at h1
 obtain ⟨e, he, _, _, rfl⟩ := h1
 exact (tn_right hr e he).2.2
theorem srcN_nat {G : Gp} {s : Pst} {bl : Nat} (hr : Sy.right G.n (G.kk : Int) G.st G.es = true) (hn : s.n = G.n) (l : Nat) : natI (srcN G s bl l) = srcE G s bl l := by
 unfold natI srcN
 rw [List.map_map]
 conv => rhs; rw [<- List.map_id (srcE G s bl l)]
 refine List.map_congr_left fun z hz => ?_
 have := srcE_mem hr hn hz
 show ((z.toNat : Nat) : Int) = z
 omega
def outG (G : Gp) (i : Nat) : List (Int × Int) := Sy.rowOf G.n (Sy.nf G.es) (i : Int)
theorem srcN_mem {G : Gp} {s : Pst} {bl : Nat} (hr : Sy.right G.n (G.kk : Int) G.st G.es = true) (hn : s.n = G.n) {l a : Nat} (ha : a < G.n) : a ∈ srcN G s bl l ↔ into (outG G) (fun t => s.O t = bl) (l : Int) a := by
 have h1 : a ∈ srcN G s bl l ↔ (a : Int) ∈ srcE G s bl l := by
  rw [<- srcN_nat hr hn]
  unfold natI
  rw [List.mem_map]
  exact ⟨fun h => ⟨a, h, rfl⟩, fun ⟨b, h, e⟩ => by rw [<- Int.ofNat_inj.1 e]; exact h⟩
 rw [h1, <- List.count_pos_iff, srcE_count hr hn]
 have h2 := into_cn (n := G.n) (es := G.es) (X := fun t => decide (s.O t = bl)) ha (l : Int)
 rw [<- h2]
 unfold into outG
 simp only [decide_eq_true_eq]
def srcF (G : Gp) (s : Pst) (bl : Nat) (F : Int -> Int -> Int -> Int) (o : Int) (l : Nat) : List Nat := (srcN G s bl l).filter fun a => !decide (0 < F (a : Int) (l : Int) o)
theorem srcF_nat {G : Gp} {s : Pst} {bl : Nat} {F : Int -> Int -> Int -> Int} {o : Int} (hr : Sy.right G.n (G.kk : Int) G.st G.es = true) (hn : s.n = G.n) (l : Nat) : natI (srcF G s bl F o l) = (srcE G s bl l).filter fun z => !decide (0 < F z (l : Int) o) := by
 rw [<- srcN_nat hr hn]
 unfold srcF natI
 rw [List.filter_map]
 rfl
end Sg
structure TakeAt (w w' : World) (r p mb nm nm' : Nat) (G : Gp) (s s' : Pst) (x x' : Rv) (bl : Nat) : Prop where
 nm : nm' <= nm + 10000000
 ks : x'.ks.length = x.ks.length + 1
 hp : ∀ e, e < s.n -> hOf s' x' e = if s.O e = bl then (x.ks.length : Int) else hOf s x e
 sp : Sg.Split s.n (Sg.By (Sg.outG G) (fun t => s.O t = bl) fun t => hOf s x t = x.of bl /\ ¬ s.O t = bl) s.O s'.O
 kp : Kept (fun b => b = p \/ b = r \/ b = mb \/ x.foot b) w w'
 ft : ∀ b, x'.foot b -> x.foot b \/ w.heap.size <= b
def Sg.Qj (G : Gp) (s : Pst) (bl : Nat) (F : Int -> Int -> Int -> Int) (o : Int) (j a b : Nat) : Prop := ∀ l, l < j -> (a ∈ Sg.srcN G s bl l ↔ b ∈ Sg.srcN G s bl l) /\ (a ∈ Sg.srcF G s bl F o l ↔ b ∈ Sg.srcF G s bl F o l)
theorem Sg.Qj_next (G : Gp) (s : Pst) (bl : Nat) (F : Int -> Int -> Int -> Int) (o : Int) (j a b : Nat) : Sg.Qj G s bl F o (j + 1) a b ↔ (Sg.Qj G s bl F o j a b /\ (a ∈ Sg.srcN G s bl j ↔ b ∈ Sg.srcN G s bl j)) /\ (a ∈ Sg.srcF G s bl F o j ↔ b ∈ Sg.srcF G s bl F o j) := by
 constructor
 ·intro h
  exact ⟨⟨fun l hl => h l (by omega), (h j (by omega)).1⟩, (h j (by omega)).2⟩
 ·rintro ⟨⟨h1, h2⟩, h3⟩ l hl
  by_cases e : l = j
  ·subst e; exact ⟨h2, h3⟩
  ·exact h1 l (by omega)
theorem Sg.final {f : Int -> Int -> Int -> Int} {rest own : Int} (E : Nat -> List Int) {l j : Nat} (h : l < j) (z q : Int) : Sg.withC f rest own (Sg.gAt E j 0) z (l : Int) q = Sg.withC f rest own (Sg.gAt E (l + 1) 0) z (l : Int) q := by
 have h1 : Sg.gAt E j 0 (l : Int) = Sg.gAt E (l + 1) 0 (l : Int) := by
  unfold Sg.gAt
  rw [if_pos (show 0 <= (l : Int) /\ (l : Int) < (j : Int) by omega), if_pos (show 0 <= (l : Int) /\ (l : Int) < ((l + 1 : Nat) : Int) by omega)]
 unfold Sg.withC
 rw [h1]
theorem take_done {w0 w wb wc wd wr : World} {r g p mb nm nm' bl o k : Nat} {G : Gp} {s s1 : Pst} {x x2 x1 : Rv} {bs : List Int} {R : Nat -> Prop} (hR : RunAt w0 w r g p mb nm G s x) (hb : bl < s.nb) (how : x.ow[bl]? = some (o : Int)) (hol : o < x.ks.length) (hks : x.ks[o]? = some k)
 (hA : LiftAt wb wc w0.heap.size r g p mb x x2 bl o k (s.mem bl).length bs) (hw1 : Below w.heap.size w wb) (hw2 : Below wc.heap.size wc wd) (hRb : ∀ b, R b -> w.heap.size <= b)
 (hT : TkS w0 wd wr r g p mb s s1 x2 x1 R (Sg.Qj G s bl (Sg.withC (Sg.cf (Sg.tn G.es) (hOf s x)) (o : Int) (x.ks.length : Int) (Sg.gAt (Sg.srcE G s bl) G.kk 0)) (o : Int) G.kk)) (hC : Cnt wr mb nm' (Sg.withC (Sg.cf (Sg.tn G.es) (hOf s x)) (o : Int) (x.ks.length : Int) (Sg.gAt (Sg.srcE G s bl) G.kk 0))) (hnm : nm' <= nm + 10000000) :
 RunAt w0 wr r g p mb nm' G s1 x1 /\ TakeAt w wr r p mb nm nm' G s s1 x x1 bl := by
 have hr : Sy.right G.n (G.kk : Int) G.st G.es = true := hR.gr.right
 have hn := hR.n
 have hofb : x.of bl = (o : Int) := by unfold Rv.of; rw [how]; rfl
 have hH2 : ∀ e, e < s.n -> hOf s1 x1 e = if s.O e = bl then (x.ks.length : Int) else hOf s x e := fun e he => by
  rw [hT.of e he]
  exact lift_of hA hR.i hb (s.O e)
 have hnew : ∀ e, e < s.n -> hOf s x e ≠ (x.ks.length : Int) := fun e he h => by
  obtain ⟨q, h1, h2⟩ := hR.i.own (s.O e) (hR.ok.o e he).1
  unfold hOf Rv.of at h
  rw [h1] at h
  simp only [Option.getD_some] at h
  omega
 have hBo : ∀ e, s.O e = bl -> hOf s x e = (o : Int) := fun e he => by unfold hOf; rw [he]; exact hofb
 have hne : (o : Int) ≠ (x.ks.length : Int) := by omega
 have hcf : ∀ p b q, Sg.withC (Sg.cf (Sg.tn G.es) (hOf s x)) (o : Int) (x.ks.length : Int) (Sg.gAt (Sg.srcE G s bl) G.kk 0) p b q = Sg.cf (Sg.tn G.es) (hOf s1 x1) p b q := fun p b q => by
  refine (Sg.cf_take (X := fun e => decide (s.O e = bl)) hne (fun e _ hx => hBo _ (of_decide_eq_true hx)) (fun e he => ?_) (fun e he => ?_) ?_ q).symm
  ·have h1 := (Sg.tn_right hr e he).1
   rw [hH2 _ (by omega)]
   simp only [decide_eq_true_eq]
  ·have h1 := (Sg.tn_right hr e he).1
   exact hnew _ (by omega)
  ·unfold Sg.gAt
   by_cases h1 : 0 <= b /\ b < (G.kk : Int)
   ·rw [if_pos h1, Sg.srcE_count hr hn, show ((b.toNat : Nat) : Int) = b by omega]
   ·rw [if_neg h1]
    have h2 : Sg.cn (Sg.tn G.es) (fun t => decide (s.O t.toNat = bl)) p b = 0 := by
     refine Nat.eq_zero_of_not_pos fun h3 => ?_
     obtain ⟨e, he, _, h4, _⟩ := Sg.cn_pos.1 h3
     have := (Sg.tn_right hr e he).2.1
     omega
    rw [h2]
    split <;> simp
 have hks2 : x1.ks = x.ks.set o (k - (s.mem bl).length) ++ [(s.mem bl).length] := by rw [hT.ks, hA.ks]
 have hB : (s.mem bl).length = (List.range G.n).countP fun e => decide (s.O e = bl) := by rw [mem_count, hn]
 have hcnt : ∀ q : Int, hc G.n (hOf s1 x1) q = (List.range G.n).countP fun e => (if s.O e = bl then (x.ks.length : Int) else hOf s x e) == q := fun q => by
  unfold hc
  refine List.countP_congr fun e he => ?_
  rw [hH2 e (by rw [hn]; exact List.mem_range.1 he)]
 refine ⟨⟨hT.m, hT.c, hT.ok, hT.bare, hT.n.trans hn, hT.i, hR.gr, hR.mu, hC.congr hcf, fun q k' hq => ?_⟩, ⟨hnm, ?_, hH2, ?_, ?_, ?_⟩⟩
 ·rw [hcnt]
  rw [hks2] at hq
  rcases Nat.lt_or_ge q x.ks.length with h1 | h1
  ·rw [List.getElem?_append_left (by rw [List.length_set]; exact h1)] at hq
   by_cases e : q = o
   ·subst e
    rw [List.getElem?_set_self h1] at hq
    have h2 := Option.some.inj hq
    have h3 := hR.ksv q k hks
    have h4 : hc G.n (hOf s x) (q : Int) = ((List.range G.n).countP fun e => (if s.O e = bl then (x.ks.length : Int) else hOf s x e) == (q : Int)) + (List.range G.n).countP fun e => decide (s.O e = bl) := countP_add fun e _ => by
     by_cases h5 : s.O e = bl
     ·rw [hBo e h5]
      simp [h5]; omega
     ·simp [h5]
    omega
   ·rw [List.getElem?_set_ne (fun e2 => e e2.symm)] at hq
    rw [hR.ksv q k' hq]
    unfold hc
    refine List.countP_congr fun e he => ?_
    by_cases h5 : s.O e = bl
    ·rw [hBo e h5, if_pos h5]
     simp; omega
    ·rw [if_neg h5]
  ·rw [List.getElem?_append_right (by rw [List.length_set]; exact h1), List.length_set] at hq
   have h2 := (List.getElem?_eq_some_iff.1 hq).1
   simp only [List.length_cons, List.length_nil] at h2
   have h3 : q = x.ks.length := by omega
   rw [h3, Nat.sub_self] at hq
   have h4 := Option.some.inj hq
   rw [<- h4, hB, h3]
   refine List.countP_congr fun e he => ?_
   by_cases h5 : s.O e = bl
   ·simp [h5]
   ·have := hnew e (by rw [hn]; exact List.mem_range.1 he)
    simp [h5, this]
 ·rw [hks2, List.length_append, List.length_set]; rfl
 ·intro a b ha hb2
  rw [hT.eq a b ha hb2]
  refine and_congr_right fun _ => ?_
  rw [hn] at ha hb2
  have hY : ∀ (c : Nat) (l : Nat), c < G.n -> l < G.kk -> (c ∈ Sg.srcF G s bl (Sg.withC (Sg.cf (Sg.tn G.es) (hOf s x)) (o : Int) (x.ks.length : Int) (Sg.gAt (Sg.srcE G s bl) G.kk 0)) (o : Int) l ↔ (Sg.into (Sg.outG G) (fun t => s.O t = bl) (l : Int) c /\ ¬ Sg.into (Sg.outG G) (fun t => hOf s x t = x.of bl /\ ¬ s.O t = bl) (l : Int) c)) := fun c l hc hl => by
   unfold Sg.srcF
   rw [List.mem_filter, Sg.srcN_mem hr hn hc, hcf]
   refine and_congr_right fun _ => ?_
   rw [Bool.not_eq_true', decide_eq_false_iff_not]
   refine not_congr ?_
   unfold Sg.cf
   have h1 := Sg.into_cn (n := G.n) (es := G.es) (X := fun t => hOf s1 x1 t == (o : Int)) hc (l : Int)
   rw [show (0 : Int) < ((Sg.cn (Sg.tn G.es) (fun t => hOf s1 x1 t.toNat == (o : Int)) (c : Int) (l : Int) : Nat) : Int) ↔ 0 < Sg.cn (Sg.tn G.es) (fun t => hOf s1 x1 t.toNat == (o : Int)) (c : Int) (l : Int) by omega, <- h1]
   have hf : Sg.Fits G.n (Sg.outG G) := fun p hp z hz => by
    unfold Sg.outG Sy.rowOf at hz
    rw [if_pos ⟨by omega, by omega⟩] at hz
    have h2 := (right_parts hr).2.2.2.2.2 _ ((Sy.nf_mem _ _).1 (Sy.steps_mem.1 hz))
    simp only at h2
    exact ⟨h2.2.2.1, h2.2.2.2.1⟩
   refine Sg.into_congr hf (fun t ht => ?_) hc
   rw [hH2 t (by rw [hn]; exact ht), hofb]
   by_cases h5 : s.O t = bl
   ·rw [if_pos h5]
    simp [h5]; omega
   ·rw [if_neg h5]
    simp [h5]
  constructor
  ·intro hQ X hX
   obtain ⟨l, hX⟩ := hX
   by_cases hl : 0 <= l /\ l < (G.kk : Int)
   ·obtain ⟨lN, rfl⟩ : ∃ lN : Nat, l = lN := ⟨l.toNat, by omega⟩
    have h1 := hQ lN (by omega)
    rcases hX with rfl | rfl
    ·rw [<- Sg.srcN_mem hr hn ha, <- Sg.srcN_mem hr hn hb2]; exact h1.1
    ·have h2 := h1.2
     rw [hY a lN ha (by omega), hY b lN hb2 (by omega)] at h2
     exact h2
   ·have hno : ∀ (Z : Nat -> Prop) (c : Nat), c < G.n -> ¬ Sg.into (Sg.outG G) Z l c := fun Z c hc ⟨z, hz, h1, _⟩ => by
     unfold Sg.outG Sy.rowOf at hz
     rw [if_pos ⟨by omega, by omega⟩] at hz
     have h2 := (right_parts hr).2.2.2.2.2 _ ((Sy.nf_mem _ _).1 (Sy.steps_mem.1 hz))
     simp only at h2
     omega
    rcases hX with rfl | rfl
    ·exact ⟨fun h => absurd h (hno _ a ha), fun h => absurd h (hno _ b hb2)⟩
    ·exact ⟨fun h => absurd h.1 (hno _ a ha), fun h => absurd h.1 (hno _ b hb2)⟩
  ·intro h l hl
   refine ⟨?_, ?_⟩
   ·rw [Sg.srcN_mem hr hn ha, Sg.srcN_mem hr hn hb2]
    exact h _ ⟨(l : Int), .inl rfl⟩
   ·rw [hY a l ha hl, hY b l hb2 hl]
    exact h _ ⟨(l : Int), .inr rfl⟩
 ·have h1 : Kept (fun b => b = p \/ b = r \/ b = mb \/ x.foot b) w wc := (Kept.of_below hw1).trans2 hA.gw.kp fun b hb => .inl (hb.elim (fun e => .inr (.inl e)) fun e => .inr (.inr (.inr e)))
  refine (h1.trans (Kept.of_below hw2)).trans2 hT.kp fun b hb => ?_
  rcases hb with e | e | e | e | e
  ·exact .inl (.inl e)
  ·exact .inl (.inr (.inl e))
  ·exact .inl (.inr (.inr (.inl e)))
  ·rcases hA.gw.ft b e with h2 | h2
   ·exact .inl (.inr (.inr (.inr h2)))
   ·exact .inr (Nat.le_trans hw1.size h2)
  ·exact .inr (hRb b e)
 ·intro b hb2
  rcases hT.ft b hb2 with h1 | h1
  ·rcases hA.gw.ft b h1 with h2 | h2
   ·exact .inl h2
   ·exact .inr (Nat.le_trans hw1.size h2)
  ·exact .inr (Nat.le_trans hw1.size (Nat.le_trans hA.gw.kp.size (Nat.le_trans hw2.size h1)))
end
section
open Go.RowKit Go.Maps
structure TkGeo (w wb wc wd : World) (r p mb g1 o : Nat) (x x2 : Rv) (us : List Value) (E : Nat -> List Int) (kk : Nat) : Prop where
 rows : ∀ (l : Nat) (u : Value) (b : Nat), us[l]? = some u -> u.ownBlock = some b -> (w.heap.size < b /\ b < wb.heap.size) /\ b ≠ g1
 ap : ∀ (i j : Nat) (u y : Value) (b : Nat), us[i]? = some u -> us[j]? = some y -> i ≠ j -> u.ownBlock = some b -> y.ownBlock ≠ some b
 fx : ∀ b, x2.foot b -> b < w.heap.size \/ (wb.heap.size <= b /\ b < wc.heap.size)
 lo : p < w.heap.size /\ r < w.heap.size /\ mb < w.heap.size
 gl : w.heap.size < g1 /\ g1 < wb.heap.size
 sz : w.heap.size < wb.heap.size /\ wb.heap.size <= wc.heap.size /\ wd.heap.size = wc.heap.size + 1
 rb : wd.cell? ⟨w.heap.size, 0, none⟩ = some (.pointer (some ⟨r, 0, none⟩))
 ob : wd.cell? ⟨wc.heap.size, 0, none⟩ = some (.int .i64 (o : Int))
 uc : ∀ (l : Nat) (u : Value), us[l]? = some u -> wd.cell? ⟨g1, l, none⟩ = some u
def RowB (us : List Value) (b : Nat) : Prop := ∃ (l : Nat) (u : Value), us[l]? = some u /\ u.ownBlock = some b
theorem TkGeo.box {w wb wc wd W : World} {r p mb g1 o kk : Nat} {x x2 : Rv} {us : List Value} {E : Nat -> List Int} (h : TkGeo w wb wc wd r p mb g1 o x x2 us E kk) (hk : Kept (fun b => b = p \/ b = r \/ b = mb \/ x2.foot b \/ RowB us b) wd W) :
 W.cell? ⟨w.heap.size, 0, none⟩ = some (.pointer (some ⟨r, 0, none⟩)) /\ W.cell? ⟨wc.heap.size, 0, none⟩ = some (.int .i64 (o : Int)) /\ ∀ (l : Nat) (u : Value), us[l]? = some u -> W.cell? ⟨g1, l, none⟩ = some u := by
 obtain ⟨l1, l2, l3⟩ := h.lo
 obtain ⟨s1, s2, s3⟩ := h.sz
 obtain ⟨g2, g3⟩ := h.gl
 have hne : ∀ b, (b = w.heap.size \/ b = wc.heap.size \/ b = g1) -> ¬ (b = p \/ b = r \/ b = mb \/ x2.foot b \/ RowB us b) := fun b hb e => by
  rcases e with e | e | e | e | ⟨l, u, e1, e2⟩
  ·omega
  ·omega
  ·omega
  ·have := h.fx b e; omega
  ·have := h.rows l u b e1 e2; omega
 exact ⟨kcell3 hk (hne _ (.inl rfl)) h.rb, kcell3 hk (hne _ (.inr (.inl rfl))) h.ob, fun l u hu => kcell3 hk (hne _ (.inr (.inr rfl))) (h.uc l u hu)⟩
theorem TkGeo.far {w0 w wb wc wd wr : World} {r g p mb g1 o kk : Nat} {s s1 : Pst} {x x2 x1 : Rv} {us : List Value} {E : Nat -> List Int} {Q : Nat -> Nat -> Prop} (h : TkGeo w wb wc wd r p mb g1 o x x2 us E kk) (hT : TkS w0 wd wr r g p mb s s1 x2 x1 (RowB us) Q) {l : Nat} {u : Value} {b : Nat} (hu : us[l]? = some u) (hb : u.ownBlock = some b) : b ≠ p /\ b ≠ r /\ b ≠ mb /\ ¬ x1.foot b /\ b ≠ w.heap.size /\ b ≠ wc.heap.size /\ b < wd.heap.size := by
 obtain ⟨l1, l2, l3⟩ := h.lo
 obtain ⟨s1, s2, s3⟩ := h.sz
 have h1 := (h.rows l u b hu hb).1
 refine ⟨by omega, by omega, by omega, fun hf => ?_, by omega, by omega, by omega⟩
 rcases hT.ft b hf with h2 | h2
 ·have := h.fx b h2; omega
 ·omega
theorem take_geo {w0 w wa wb wc wd : World} {r g p mb nm bl o k g1 : Nat} {G : Gp} {s : Pst} {x x2 : Rv} {bs : List Int} {us : List Value} (hR : RunAt w0 w r g p mb nm G s x) (hsa : wa.heap.size = w.heap.size + 1) (ca : wa.cell? ⟨w.heap.size, 0, none⟩ = some (.pointer (some ⟨r, 0, none⟩))) (hA : Arr 57 wa wb g1 us) (hO : OutsI wb wa.heap.size us G.kk (Sg.srcE G s bl))
 (hL : LiftAt wb wc w0.heap.size r g p mb x x2 bl o k (s.mem bl).length bs) (hwd : wd = wc.alloc (.cells #[.int .i64 (o : Int)] 3)) : TkGeo w wb wc wd r p mb g1 o x x2 us (Sg.srcE G s bl) G.kk := by
 have hb1 := hA.bl
 have hsz1 := hb1.size
 have hsz2 := hL.gw.kp.size
 have hds : wd.heap.size = wc.heap.size + 1 := by rw [hwd]; simp
 have hbd : Below wc.heap.size wc wd := by rw [hwd]; exact (Below.refl _ _).alloc (Nat.le_refl _) _
 obtain ⟨c, hP, _⟩ := hR.c
 have hp : p < w.heap.size := Arr.lt hP
 have hr : r < w.heap.size := t_lt hR.m.box
 have hm : mb < w.heap.size := hR.cnt.lt
 have hg1 := hA.gu
 have hg2 := hA.lt
 obtain ⟨cs, hcs, hcl⟩ := hA.ids
 have hrow : ∀ (l : Nat) (u : Value), us[l]? = some u -> ∃ zs, OwnI wb wa.heap.size u zs := fun l u hu => by
  obtain ⟨u', h1, h2⟩ := hO.row l (by have := (List.getElem?_eq_some_iff.1 hu).1; rw [hO.len] at this; exact this)
  rw [hu] at h1
  cases h1
  exact ⟨_, h2⟩
 have hxw : ∀ b, x.foot b -> b < w.heap.size := fun b hb => (hR.m.foot_lt hb).2
 have hxl : ∀ b, (b = r \/ x.foot b) -> b < w.heap.size := fun b hb => hb.elim (fun e => by omega) (hxw b)
 refine ⟨fun l u b hu hb => ?_, hO.ap, fun b hb => ?_, ⟨hp, hr, hm⟩, ⟨by omega, hg2⟩, ⟨by omega, hsz2, hds⟩, ?_, ?_, fun l u hu => ?_⟩
 ·obtain ⟨zs, h1⟩ := hrow l u hu
  have h2 := h1.lt b hb
  exact ⟨⟨by omega, h2.2⟩, fun e => own_bk h1 hcs (by decide) (by rw [<- e]; exact hb)⟩
 ·rcases hL.gw.ft b hb with h1 | h1
  ·exact .inl (hxw b h1)
  ·exact .inr ⟨h1, (hL.m.foot_lt hb).2⟩
 ·exact cell_up (kcell3 hL.gw.kp (fun e => by have := hxl _ e; omega) (cell_up ca hb1)) hbd
 ·rw [hwd]; exact cell0_of (heap_alloc_new wc _) rfl
 ·have h1 : wb.cell? ⟨g1, l, none⟩ = some u := hA.cell hu
  exact cell_up (kcell3 hL.gw.kp (fun e => by have := hxl _ e; omega) h1) hbd
theorem take_start {w0 w wa wb wc wd : World} {r g p mb nm bl o k g1 : Nat} {G : Gp} {s : Pst} {x x2 : Rv} {bs : List Int} {us : List Value} {F : Int -> Int -> Int -> Int} (hR : RunAt w0 w r g p mb nm G s x) (hb : bl < s.nb) (how : x.ow[bl]? = some (o : Int)) (hH : (x.H.map (·.2))[o]? = some bs) (ha : Below w.heap.size w wa) (hA : Arr 57 wa wb g1 us) (hO : OutsI wb wa.heap.size us G.kk (Sg.srcE G s bl))
 (hL : LiftAt wb wc w0.heap.size r g p mb x x2 bl o k (s.mem bl).length bs) (hwd : Below wc.heap.size wc wd) :
 TkS w0 wd wd r g p mb s s x2 x2 (RowB us) (Sg.Qj G s bl F (o : Int) 0) /\ RowsF wd wa.heap.size us 0 G.kk (Sg.srcE G s bl) /\ Cnt wd mb nm (Sg.withC (Sg.cf (Sg.tn G.es) (hOf s x)) (o : Int) (x.ks.length : Int) (Sg.gAt (Sg.srcE G s bl) 0 0)) := by
 have hab : Below w.heap.size w wb := ha.trans (hA.bl.mono ha.size)
 have hlo := hR.up.size
 obtain ⟨c, hP, hLy⟩ := hR.c
 have hRb := hR.below hab
 obtain ⟨c', hP', hLy'⟩ := hRb.c
 have hpf := hRb.m.p_foot hP'
 have hmf := hRb.m.mb_foot hRb.cnt
 have hFr : ∀ b, (b = r \/ x.foot b) -> w0.heap.size <= b := fun b hb => hb.elim (fun e => by rw [e]; exact hR.m.up) fun e => (hR.m.foot_lt e).1
 refine ⟨⟨hL.m.below hwd, ⟨c', (hP'.kept hL.gw.kp fun b hb2 => ⟨hFr b hb2, fun e => ?_⟩).below hwd, hLy'⟩, hR.ok, hR.bare, rfl, RunI.lift hL hR.i hb how hH, fun e _ => rfl, rfl, fun a b _ _ => ⟨fun h => ⟨h, fun l hl => absurd hl (Nat.not_lt_zero _)⟩, fun h => h.1⟩, Kept.refl _ _, fun b hb2 => .inl hb2⟩, fun l _ hl => ?_, ?_⟩
 ·rw [e] at hb2
  exact hb2.elim (fun e2 => hpf.2 e2) hpf.1
 ·obtain ⟨u, h1, h2⟩ := hO.row l hl
  refine ⟨u, h1, trow_at (own_up h2 hL.gw.kp fun b hb2 e => ?_) fun b hb2 => hwd.block b ?_⟩
  ·have h3 := (h2.lt b hb2).1
   rcases e with e | e
   ·have := t_lt hR.m.box; have := ha.size; omega
   ·have := (hR.m.foot_lt e).2; have := ha.size; omega
  ·have := (h2.lt b hb2).2
   have := hL.gw.kp.size
   omega
 ·refine ((hRb.cnt.kept hL.gw.kp fun e => ?_).below hwd).congr fun p b q => (Sg.withC_none _ _ _ _ p b q).symm
  exact e.elim (fun e2 => hmf.2 e2) hmf.1
end
section
open Go.RowKit Go.Maps
attribute [local go_sem ↓] Go.wp_at_zero Go.wp_at_succ
theorem four_kept {w w' : World} {mb a b c d ca cb cc cd : Nat} {va vb vc vd : Value} (hk : Kept (fun i => i = mb) w w') (ha : a ≠ mb) (hb : b ≠ mb) (hc : c ≠ mb) (hd : d ≠ mb) (h : w.cell? ⟨a, ca, none⟩ = some va /\ w.cell? ⟨b, cb, none⟩ = some vb /\ w.cell? ⟨c, cc, none⟩ = some vc /\ w.cell? ⟨d, cd, none⟩ = some vd) :
 w'.cell? ⟨a, ca, none⟩ = some va /\ w'.cell? ⟨b, cb, none⟩ = some vb /\ w'.cell? ⟨c, cc, none⟩ = some vc /\ w'.cell? ⟨d, cd, none⟩ = some vd := ⟨kcell3 hk ha h.1, kcell3 hk hb h.2.1, kcell3 hk hc h.2.2.1, kcell3 hk hd h.2.2.2⟩
theorem wrap_small {z : Int} (h0 : -1000000000 <= z) (h1 : z <= 1000000000) : IntKind.i64.wrap z = z := by rw [IntKind.wrap_i64]; omega
set_option linter.unusedSimpArgs false in
set_option maxRecDepth 100000 in
set_option maxHeartbeats 16000000 in
theorem take_any (w0 : World) (r g p mb nm : Nat) (G : Gp) (s : Pst) (x : Rv) (bl : Nat) (w : World) (hR : RunAt w0 w r g p mb nm G s x) (hb : bl < s.nb) (hnm : nm <= 100000000000) (hkl : x.ks.length <= 100000) :
 Calls Tryz.prog 141 #[.pointer (some ⟨r, 0, none⟩), .int .i64 bl] w fun e w' => e = .returned (.tuple #[]) /\ ∃ nm' s' x', RunAt w0 w' r g p mb nm' G s' x' /\ TakeAt w w' r p mb nm nm' G s s' x x' bl := by
 have hr : Sy.right G.n (G.kk : Int) G.st G.es = true := hR.gr.right
 have hn := hR.n
 obtain ⟨c, hP, hL⟩ := hR.c
 obtain ⟨o, k, v, bs, how, hH, hks, hHm⟩ := hR.i.heap hb
 have hsz := hR.i.szv bl hb
 have hol : o < x.ks.length := (List.getElem?_eq_some_iff.1 hks).1
 have hkv := hR.ksv o k hks
 have hn1 := hR.ok.n1
 have hofb : x.of bl = (o : Int) := by unfold Rv.of; rw [how]; rfl
 have hk1 : k <= 1000 := by
  have h1 : hc G.n (hOf s x) (o : Int) <= (List.range G.n).length := List.countP_le_length
  rw [List.length_range] at h1
  omega
 have hzk : (s.mem bl).length <= k := by
  rw [hkv, mem_count, hn]
  refine List.countP_mono_left fun e _ he => ?_
  have h1 : hOf s x e = (o : Int) := by unfold hOf; rw [of_decide_eq_true he]; exact hofb
  simp [h1]
 have hbm : (bl : Int) ∈ bs := (hR.i.hs o bs hHm _).2 ⟨bl, rfl, hb, how⟩
 have hb0 : 0 < bs.length := List.length_pos_of_mem hbm
 have hbl : bs.length <= 100000 := by have := hR.i.few hHm; have := hR.ok.few; omega
 obtain ⟨wa, hwa⟩ : ∃ wa, wa = w.alloc (.cells #[.pointer (some ⟨r, 0, none⟩)] 193) := ⟨_, rfl⟩
 have hba : Below w.heap.size w wa := by rw [hwa]; exact (Below.refl _ _).alloc (Nat.le_refl _) _
 have ca : wa.cell? ⟨w.heap.size, 0, none⟩ = some (.pointer (some ⟨r, 0, none⟩)) := by rw [hwa]; exact cell0_of (heap_alloc_new w _) rfl
 have hsa : wa.heap.size = w.heap.size + 1 := by rw [hwa]; simp
 have hlab : ∀ q, ∀ e ∈ insOf G.n G.es q, 0 <= e.1 /\ e.1 < (G.kk : Int) := fun q e he => by
  unfold insOf Sy.rowOf at he
  split at he
  ·exact (Sg.tn_right hr _ (Sy.steps_mem.1 he)).2.1
  ·simp at he
 have hSrc := sources_any w0 w0.heap.size r g p mb x c s bl G.bs G.bb G.cs G.cb G.n G.kk G.st G.es G.B wa (hR.m.below hba) (hP.below hba) hL hR.ok hb (hR.graph.below hba) hlab
 have hLf := fun W (h : Below wa.heap.size wa W) => lift_any w0.heap.size r g p mb x bl o k (s.mem bl).length v bs W ((hR.m.below hba).below h) how hsz hH hks hkl hbl hb0 hzk hk1
 obtain ⟨E, hE⟩ : ∃ E, E = Sg.srcE G s bl := ⟨_, rfl⟩
 obtain ⟨kk, hkk⟩ : ∃ kk, kk = G.kk := ⟨_, rfl⟩
 obtain ⟨own, hown⟩ : ∃ own, own = x.ks.length := ⟨_, rfl⟩
 have hSrc' : Calls Tryz.prog 159 #[.pointer (some ⟨r, 0, none⟩), .int .i64 bl] wa fun e w' => ∃ g' us, e = .returned (.slice (some ⟨g', 0, none⟩) kk kk) /\ Arr 57 wa w' g' us /\ OutsI w' wa.heap.size us kk E := by rw [hE, hkk]; exact hSrc
 have hLf' : ∀ W, Below wa.heap.size wa W -> Calls Tryz.prog 160 #[.pointer (some ⟨r, 0, none⟩), .int .i64 bl] W fun e w' => e = .returned (.tuple #[.int .i64 o, .int .i64 (own : Int)]) /\ ∃ x', LiftAt W w' w0.heap.size r g p mb x x' bl o k (s.mem bl).length bs := by rw [hown]; exact hLf
 obtain ⟨F0, hF0⟩ : ∃ F0, F0 = Sg.cf (Sg.tn G.es) (hOf s x) := ⟨_, rfl⟩
 have hEl : ∀ l, (E l).length <= 10000 := fun l => by rw [hE]; exact Sg.srcE_len hr l
 have hFl : ∀ a b c, 0 <= F0 a b c /\ F0 a b c <= ((10000 : Nat) : Int) := fun a b c => by rw [hF0]; exact Sg.cf_le (Sg.tn_len hr) _ a b c
 have hEm : ∀ l, ∀ z ∈ E l, 0 <= z /\ z < (G.n : Int) := fun l z hz => by rw [hE] at hz; exact Sg.srcE_mem hr hn hz
 have hkk1 : kk <= 201 := by rw [hkk]; have := (right_parts hr).2.1.2; omega
 have hoo : o < own := by rw [hown]; exact hol
 have hoh : own <= 100000 := by rw [hown]; exact hkl
 have H : Hid _ := And.intro hR (And.intro hb (And.intro how (And.intro hHm (And.intro hks (And.intro hwa (And.intro hba (And.intro hsa (And.intro hSrc' (And.intro hLf' (And.intro hE (And.intro hkk (And.intro hown (And.intro hF0 (And.intro hEl (And.intro hFl (And.intro hEm (And.intro hr (And.intro hn hn1))))))))))))))))))
 have HC : Hid _ := And.intro ca trivial
 clear hR hb how hHm hks hwa hba hsa hSrc hSrc' hLf hLf' hE hkk hown hF0 hEl hFl hEm hr hn hn1 hP hL hH hsz hol hkv hofb hk1 hzk hbm hb0 hbl hlab hkl
 go_enter Tryz.func141, Tryz.ntmps141
 go_upto_region 1 with fail
 rw [<- H.out.2.2.2.2.2.1]
 go_upto_region 3 with (first
  | (go_at_call 159; refine Calls.mono H.out.2.2.2.2.2.2.2.2.1 ?_; rintro r1 wb ⟨g1, us, rfl, hA1, hO1⟩; have cb1 := cell_up HC.out.1 hA1.bl; have H1 : Hid _ := And.intro hA1 hO1; clear hA1 hO1 ca)
  | (go_at_call 160; refine Calls.mono (H.out.2.2.2.2.2.2.2.2.2.1 wb H1.out.1.bl) ?_; rintro r2 wc ⟨rfl, x2, hLA⟩; have H2 : Hid _ := And.intro hLA trivial; clear hLA cb1))
 obtain ⟨wd, hwd⟩ : ∃ wd, wd = wc.alloc (.cells #[.int .i64 (o : Int)] 3) := ⟨_, rfl⟩
 rw [<- hwd]
 have hGeo : TkGeo w wb wc wd r p mb g1 o x x2 us E kk := by
  have h1 := H1.out.2
  rw [H.out.2.2.2.2.2.2.2.2.2.2.1, H.out.2.2.2.2.2.2.2.2.2.2.2.1] at h1 ⊢
  exact take_geo H.out.1 H.out.2.2.2.2.2.2.2.1 HC.out.1 H1.out.1 h1 H2.out.1 hwd
 have hSt : TkS w0 wd wd r g p mb s s x2 x2 (RowB us) (Sg.Qj G s bl (Sg.withC F0 (o : Int) (own : Int) (Sg.gAt E kk 0)) (o : Int) 0) /\ RowsF wd wa.heap.size us 0 kk E /\ Cnt wd mb nm (Sg.withC F0 (o : Int) (own : Int) (Sg.gAt E 0 0)) := by
  have h1 := H1.out.2
  rw [H.out.2.2.2.2.2.2.2.2.2.2.1, H.out.2.2.2.2.2.2.2.2.2.2.2.1] at h1
  have h2 := take_start (F := Sg.withC F0 (o : Int) (own : Int) (Sg.gAt E kk 0)) H.out.1 H.out.2.1 H.out.2.2.1 H.out.2.2.2.1 H.out.2.2.2.2.2.2.1 H1.out.1 h1 H2.out.1 (show Below wc.heap.size wc wd by rw [hwd]; exact (Below.refl _ _).alloc (Nat.le_refl _) _)
  rw [<- H.out.2.2.2.2.2.2.2.2.2.2.1, <- H.out.2.2.2.2.2.2.2.2.2.2.2.1, <- H.out.2.2.2.2.2.2.2.2.2.2.2.2.2.1, <- H.out.2.2.2.2.2.2.2.2.2.2.2.2.1] at h2
  exact h2
 have HG : Hid _ := And.intro hGeo (And.intro hSt hwd)
 clear hGeo hSt hwd
 go_wp2_with fail
 go_loopg [22] kk (fun q iv wr => ∃ (j : Nat) (s1 : Pst) (x1 : Rv) (nm1 : Nat), q = kk - j /\ j <= kk /\ iv = .int .i64 j /\ TkS w0 wd wr r g p mb s s1 x2 x1 (RowB us) (Sg.Qj G s bl (Sg.withC F0 (o : Int) (own : Int) (Sg.gAt E kk 0)) (o : Int) j) /\ RowsF wr wa.heap.size us j kk E /\ Cnt wr mb nm1 (Sg.withC F0 (o : Int) (own : Int) (Sg.gAt E j 0)) /\ nm1 <= nm + j * 20000)
 case atStart => exact ⟨0, s, x2, nm, rfl, Nat.zero_le _, rfl, HG.out.2.1.1, HG.out.2.1.2.1, HG.out.2.1.2.2, by omega⟩
 case round =>
  obtain ⟨j, s1, x1, nm1, rfl, hj, rfl, hT, hRw, hC, hnm1⟩ := hrel
  obtain ⟨wo, hwo⟩ : ∃ wo, wo = wr := ⟨_, rfl⟩
  rw [<- hwo] at hT hRw hC ⊢
  clear hwo
  by_cases hlt : j < kk
  ·have p0 : (0 : Int) <= (j : Int) := by omega
   have p1 : (j : Int) < (kk : Int) := by omega
   obtain ⟨u, hu, hOu⟩ := hRw j (Nat.le_refl _) hlt
   obtain ⟨au, cu, rfl⟩ := row_shape hOu
   obtain ⟨M, hM⟩ : ∃ M, M = (E j).length := ⟨_, rfl⟩
   have hM1 : M <= 10000 := by rw [hM]; exact H.out.2.2.2.2.2.2.2.2.2.2.2.2.2.2.1 j
   have hOu' : wo.ownsRow wa.heap.size 3 1 (.slice au M cu) M (iC (E j)) := by have h1 := hOu; unfold OwnI at h1; rw [<- hM] at h1; exact h1
   rw [<- hM] at hu
   obtain ⟨c0, c1, c2⟩ := HG.out.1.box hT.kp
   have cu0 := c2 j _ hu
   obtain ⟨we, hwe⟩ : ∃ we, we = wo.alloc (.cells #[.int .i64 (j : Int)] 3) := ⟨_, rfl⟩
   have hbe : Below wo.heap.size wo we := by rw [hwe]; exact (Below.refl _ _).alloc (Nat.le_refl _) _
   have cl : we.cell? ⟨wo.heap.size, 0, none⟩ = some (.int .i64 (j : Int)) := by rw [hwe]; exact cell0_of (heap_alloc_new wo _) rfl
   have hse : we.heap.size = wo.heap.size + 1 := by rw [hwe]; simp
   have hTe := hT.below hbe
   have hCe := hC.below hbe
   have hRe := hRw.kept (F := fun _ => False) (Kept.of_below hbe) (fun _ _ _ _ _ _ h => h)
   have hOe : we.ownsRow wa.heap.size 3 1 (.slice au M cu) M (iC (E j)) := trow_at hOu' fun b hb => hbe.block b (hOu'.lt b hb).2
   have hfar := fun b hb => HG.out.1.far hTe (l := j) (u := .slice au M cu) (b := b) hu hb
   have hcm : (wc.heap.size ≠ mb /\ w.heap.size ≠ mb) /\ wo.heap.size ≠ mb /\ r ≠ mb := by
    have h1 := HG.out.1.lo
    have h2 := HG.out.1.sz
    have h3 := hC.lt
    exact ⟨⟨by omega, by omega⟩, by omega, fun e => hTe.m.mb_foot hCe |>.2 e.symm⟩
   have hbx : we.cell? ⟨w.heap.size, 0, none⟩ = some (.pointer (some ⟨r, 0, none⟩)) /\ we.cell? ⟨wo.heap.size, 0, none⟩ = some (.int .i64 (j : Int)) /\ we.cell? ⟨wc.heap.size, 0, none⟩ = some (.int .i64 (o : Int)) /\ we.cell? ⟨r, 5, none⟩ = some (.map (some mb)) := ⟨cell_up c0 hbe, cl, cell_up c1 hbe, (seven_cells hTe.m.box).2.2.2.2.2.1⟩
   have HJ : Hid _ := And.intro hTe (And.intro hCe (And.intro hRe (And.intro hOe (And.intro hfar (And.intro hcm (And.intro hbx (And.intro hM (And.intro hu (And.intro hse (And.intro hbe (And.intro hT hOu')))))))))))
   have HWE : Hid _ := And.intro hwe trivial
   clear hT hRw hC hOu hOu' hTe hCe hRe hOe hfar hcm hbx hM hu hbe hse cl c0 c1 c2 hwe
   go_upto_region 6 with fail
   rw [<- HWE.out.1]
   clear HWE cu0
   go_wp2_with fail
   go_loopg [29] M (fun q iv wr => ∃ (i nm2 : Nat), q = M - i /\ i <= M /\ iv = .int .i64 i /\ Kept (fun b => b = mb) we wr /\ Cnt wr mb nm2 (Sg.withC F0 (o : Int) (own : Int) (Sg.gAt E j i)) /\ nm2 <= nm1 + 2 * i)
   case atStart => exact ⟨0, nm1, rfl, Nat.zero_le _, rfl, Kept.refl _ _, HJ.out.2.1, by omega⟩
   case round =>
    obtain ⟨i, nm2, rfl, hi, rfl, hKp, hC, hnm2⟩ := hrel
    by_cases hlt2 : i < M
    ·have q0 : (0 : Int) <= (i : Int) := by omega
     have q1 : (i : Int) < (M : Int) := by omega
     obtain ⟨z, hz⟩ : ∃ z, (E j)[i]? = some z := ⟨(E j)[i]'(by rw [<- HJ.out.2.2.2.2.2.2.2.1]; exact hlt2), List.getElem?_eq_getElem _⟩
     have hzs := H.out.2.2.2.2.2.2.2.2.2.2.2.2.2.2.2.2.1 j z (List.mem_of_getElem? hz)
     have hzz : Sml z := by have := H.out.2.2.2.2.2.2.2.2.2.2.2.2.2.2.2.2.2.2.2; have := H.out.2.2.2.2.2.2.2.2.2.2.2.2.2.2.2.2.2.2.1; unfold Sml; omega
     have hjj : Sml (j : Int) := sml_nat (by omega)
     have hos : Sml (o : Int) := sml_nat (by omega)
     have hws : Sml (own : Int) := sml_nat (by omega)
     have hbnd := fun a b c => Sg.withC_le (rest := (o : Int)) (own := (own : Int)) H.out.2.2.2.2.2.2.2.2.2.2.2.2.2.2.2.1 (Sg.gAt_len H.out.2.2.2.2.2.2.2.2.2.2.2.2.2.2.1 j i) a b c
     obtain ⟨Fi, hFi⟩ : ∃ Fi, Fi = Sg.withC F0 (o : Int) (own : Int) (Sg.gAt E j i) := ⟨_, rfl⟩
     rw [<- hFi] at hC hbnd
     obtain ⟨y, hy⟩ : ∃ y, y = Fi z (j : Int) (o : Int) := ⟨_, rfl⟩
     obtain ⟨y2, hy2⟩ : ∃ y2, y2 = Fi z (j : Int) (own : Int) := ⟨_, rfl⟩
     have by1 := hbnd z (j : Int) (o : Int)
     have by2 := hbnd z (j : Int) (own : Int)
     rw [<- hy] at by1
     rw [<- hy2] at by2
     have hOw : OwnI wr wa.heap.size (.slice au M cu) (E j) := by
      have h1 := own_up HJ.out.2.2.2.1 hKp fun b hb e => (HJ.out.2.2.2.2.1 b hb).2.2.1 e
      unfold OwnI
      rw [<- HJ.out.2.2.2.2.2.2.2.1]
      exact h1
     obtain ⟨gs, rfl, hce⟩ := own_num hOw hz
     have S0 := four_kept hKp HJ.out.2.2.2.2.2.1.1.2 HJ.out.2.2.2.2.2.1.2.1 HJ.out.2.2.2.2.2.1.1.1 HJ.out.2.2.2.2.2.1.2.2 HJ.out.2.2.2.2.2.2.1
     obtain ⟨v0, sv, w1, hme, hc1, hk1, hes⟩ := (hC.at (w' := wr.drew) rfl).entry (show nm2 < maxLen by unfold maxLen; omega) hzz hjj hos
     obtain ⟨w2, hst, hc2, hk2⟩ := hes (y - 1) (Sml.wf (by unfold Sml; omega))
     have hlk := ((hC.at (w' := wr.drew) rfl).look hzz hjj hos).1
     have hlk1 := (hc1.look hzz hjj hos).1
     rw [<- hy] at hlk hlk1
     have hg2 : updC Fi z (j : Int) (o : Int) (y - 1) z (j : Int) (own : Int) = y2 := by
      rw [hy2]
      unfold updC
      rw [if_neg (fun e => by have := e.2.2; omega)]
     obtain ⟨v3, sv3, w3, hme3, hc3, hk3, hes3⟩ := (hc2.at (w' := w2.drew) rfl).entry (show nm2 + 1 < maxLen by unfold maxLen; omega) hzz hjj hws
     obtain ⟨w4, hst4, hc4, hk4⟩ := hes3 (y2 + 1) (Sml.wf (by unfold Sml; omega))
     have hlk2 := ((hc2.at (w' := w2.drew) rfl).look hzz hjj hws).1
     have hlk3 := (hc3.look hzz hjj hws).1
     rw [hg2] at hlk2 hlk3
     unfold inV at hme hlk hlk1 hme3 hlk2 hlk3
     have S1 := four_kept hk1 HJ.out.2.2.2.2.2.1.1.2 HJ.out.2.2.2.2.2.1.2.1 HJ.out.2.2.2.2.2.1.1.1 HJ.out.2.2.2.2.2.1.2.2 S0
     have S2 := four_kept hk2 HJ.out.2.2.2.2.2.1.1.2 HJ.out.2.2.2.2.2.1.2.1 HJ.out.2.2.2.2.2.1.1.1 HJ.out.2.2.2.2.2.1.2.2 S0
     have S3 := four_kept hk3 HJ.out.2.2.2.2.2.1.1.2 HJ.out.2.2.2.2.2.1.2.1 HJ.out.2.2.2.2.2.1.1.1 HJ.out.2.2.2.2.2.1.2.2 S2
     have S4 := four_kept hk4 HJ.out.2.2.2.2.2.1.1.2 HJ.out.2.2.2.2.2.1.2.1 HJ.out.2.2.2.2.2.1.1.1 HJ.out.2.2.2.2.2.1.2.2 S2
     have pw1 : IntKind.i64.wrap (y - 1) = y - 1 := wrap_small (by omega) (by omega)
     have pw2 : IntKind.i64.wrap (y2 + 1) = y2 + 1 := wrap_small (by omega) (by omega)
     have hK4 : Kept (fun b => b = mb) we w4 := hKp.trans (((Kept.of_below (Below.refl _ _).drew).trans hk2).trans ((Kept.of_below (Below.refl _ _).drew).trans hk4))
     have hC4 : Cnt w4 mb (nm2 + 2) (Sg.withC F0 (o : Int) (own : Int) (Sg.gAt E j (i + 1))) := hc4.congr fun a b c => by
      rw [hy, hy2, hFi]
      exact Sg.withC_step (by omega) hz a b c
     have HZ : Hid _ := And.intro hK4 hC4
     have HS : Hid _ := And.intro S0 (And.intro S1 (And.intro S2 (And.intro S3 S4)))
     clear hKp hC hz hzs hzz hjj hos hws hbnd hFi hy hy2 by1 by2 hOw hc1 hk1 hes hc2 hk2 hg2 hc3 hk3 hes3 hc4 hk4 hK4 hC4 S0 S1 S2 S3 S4
     go_upto_region 9 with fail
     refine wp_region_held_drew (S := (fun w' => w'.cell? ⟨w.heap.size, 0, none⟩ = some (.pointer (some ⟨r, 0, none⟩)) /\ w'.cell? ⟨wo.heap.size, 0, none⟩ = some (.int .i64 (j : Int)) /\ w'.cell? ⟨wc.heap.size, 0, none⟩ = some (.int .i64 (o : Int)) /\ w'.cell? ⟨r, 5, none⟩ = some (.map (some mb)))) (by kernel_rfl) ?_ (fun hHeld => ?_)
     ·exact HS.out.1
     refine tk8 0 rfl ?_; (try simp only [ty9, Act.put])
     refine tk8 1 rfl ?_; (try simp only [ty9, Act.put])
     refine tk8 2 rfl ?_; (try simp only [ty9, Act.put])
     refine tk8 3 rfl ?_; (try simp only [ty9, Act.put])
     refine tk8 4 rfl ?_; (try simp only [ty9, Act.put])
     refine tk8 5 rfl ?_; (try simp only [ty9, Act.put])
     refine tk8 6 rfl ?_; (try simp only [ty9, Act.put])
     refine tk8 7 rfl ?_; (try simp only [ty9, Act.put])
     refine wpAnyH_ready (rs := [8, 10]) (by kernel_rfl) (by simp) ?_
     refine AllReadyH.cons (o := _) rfl (fun K hK => ?_) ?_
     ·(go_simp)
      (try go_wp2_with fail)
      refine hK.out _ _ ?_ (fun hHeld => ?_)
      ·exact hHeld
      clear hK K
      (try simp only [ty9, Act.put])
      refine tk8 9 rfl ?_; (try simp only [ty9, Act.put])
      refine wpAnyH_ready (rs := [10]) (by kernel_rfl) (by simp) ?_
      refine AllReadyH.cons (o := _) rfl (fun K hK => ?_) ?_
      ·(go_simp)
       (try go_wp2_with fail)
       refine hK.out _ _ ?_ (fun hHeld => ?_)
       ·exact HS.out.2.1
       clear hK K
       (try simp only [ty9, Act.put])
       refine tk8 11 rfl ?_; (try simp only [ty9, Act.put])
       refine wpAnyH_ready (rs := [12]) (by kernel_rfl) (by simp) ?_
       refine AllReadyH.cons (o := _) rfl (fun K hK => ?_) ?_
       ·(go_simp)
        (try go_wp2_with fail)
        refine hK.out _ _ ?_ (fun hHeld => ?_)
        ·exact HS.out.2.2.1
        clear hK K
        (try simp only [ty9, Act.put])
        refine wpAnyH_done (by kernel_rfl) ?_ _
        (try go_simp)
        clear hHeld
        go_upto_region 10 with fail
        refine wp_region_held_drew (S := (fun w' => w'.cell? ⟨w.heap.size, 0, none⟩ = some (.pointer (some ⟨r, 0, none⟩)) /\ w'.cell? ⟨wo.heap.size, 0, none⟩ = some (.int .i64 (j : Int)) /\ w'.cell? ⟨wc.heap.size, 0, none⟩ = some (.int .i64 (o : Int)) /\ w'.cell? ⟨r, 5, none⟩ = some (.map (some mb)))) (by kernel_rfl) ?_ (fun hHeld => ?_)
        ·exact HS.out.2.2.1
        refine tk8 0 rfl ?_; (try simp only [ty9, Act.put])
        refine tk8 1 rfl ?_; (try simp only [ty9, Act.put])
        refine tk8 2 rfl ?_; (try simp only [ty9, Act.put])
        refine tk8 3 rfl ?_; (try simp only [ty9, Act.put])
        refine tk8 4 rfl ?_; (try simp only [ty9, Act.put])
        refine tk8 5 rfl ?_; (try simp only [ty9, Act.put])
        refine tk8 6 rfl ?_; (try simp only [ty9, Act.put])
        refine tk8 7 rfl ?_; (try simp only [ty9, Act.put])
        refine wpAnyH_ready (rs := [8, 10]) (by kernel_rfl) (by simp) ?_
        refine AllReadyH.cons (o := _) rfl (fun K hK => ?_) ?_
        ·(go_simp)
         (try go_wp2_with fail)
         refine hK.out _ _ ?_ (fun hHeld => ?_)
         ·exact hHeld
         clear hK K
         (try simp only [ty9, Act.put])
         refine tk8 9 rfl ?_; (try simp only [ty9, Act.put])
         refine wpAnyH_ready (rs := [10]) (by kernel_rfl) (by simp) ?_
         refine AllReadyH.cons (o := _) rfl (fun K hK => ?_) ?_
         ·(go_simp)
          (try go_wp2_with fail)
          refine hK.out _ _ ?_ (fun hHeld => ?_)
          ·exact HS.out.2.2.2.1
          clear hK K
          (try simp only [ty9, Act.put])
          refine tk8 11 rfl ?_; (try simp only [ty9, Act.put])
          refine wpAnyH_ready (rs := [12]) (by kernel_rfl) (by simp) ?_
          refine AllReadyH.cons (o := _) rfl (fun K hK => ?_) ?_
          ·(go_simp)
           (try go_wp2_with fail)
           refine hK.out _ _ ?_ (fun hHeld => ?_)
           ·exact HS.out.2.2.2.2
           clear hK K
           (try simp only [ty9, Act.put])
           refine wpAnyH_done (by kernel_rfl) ?_ _
           (try go_simp)
           clear hHeld
           go_wp2_with fail
           go_roundg (M - (i + 1))
           case measure => omega
           case rel => exact ⟨i + 1, nm2 + 2, rfl, by omega, by go_num, HZ.out.1, HZ.out.2, by omega⟩
          exact AllReadyH.nil
         exact AllReadyH.nil
        refine AllReadyH.cons (o := _) rfl (fun K hK => ?_) ?_
        ·(go_simp)
         (try go_wp2_with fail)
         refine hK.out _ _ ?_ (fun hHeld => ?_)
         ·exact HS.out.2.2.2.1
         clear hK K
         (try simp only [ty9, Act.put])
         refine tk8 11 rfl ?_; (try simp only [ty9, Act.put])
         refine wpAnyH_ready (rs := [8]) (by kernel_rfl) (by simp) ?_
         refine AllReadyH.cons (o := _) rfl (fun K hK => ?_) ?_
         ·(go_simp)
          (try go_wp2_with fail)
          refine hK.out _ _ ?_ (fun hHeld => ?_)
          ·exact hHeld
          clear hK K
          (try simp only [ty9, Act.put])
          refine tk8 9 rfl ?_; (try simp only [ty9, Act.put])
          refine wpAnyH_ready (rs := [12]) (by kernel_rfl) (by simp) ?_
          refine AllReadyH.cons (o := _) rfl (fun K hK => ?_) ?_
          ·(go_simp)
           (try go_wp2_with fail)
           refine hK.out _ _ ?_ (fun hHeld => ?_)
           ·exact HS.out.2.2.2.2
           clear hK K
           (try simp only [ty9, Act.put])
           refine wpAnyH_done (by kernel_rfl) ?_ _
           (try go_simp)
           clear hHeld
           go_wp2_with fail
           go_roundg (M - (i + 1))
           case measure => omega
           case rel => exact ⟨i + 1, nm2 + 2, rfl, by omega, by go_num, HZ.out.1, HZ.out.2, by omega⟩
          exact AllReadyH.nil
         exact AllReadyH.nil
        exact AllReadyH.nil
       exact AllReadyH.nil
      exact AllReadyH.nil
     refine AllReadyH.cons (o := _) rfl (fun K hK => ?_) ?_
     ·(go_simp)
      (try go_wp2_with fail)
      refine hK.out _ _ ?_ (fun hHeld => ?_)
      ·exact HS.out.2.1
      clear hK K
      (try simp only [ty9, Act.put])
      refine tk8 11 rfl ?_; (try simp only [ty9, Act.put])
      refine wpAnyH_ready (rs := [8]) (by kernel_rfl) (by simp) ?_
      refine AllReadyH.cons (o := _) rfl (fun K hK => ?_) ?_
      ·(go_simp)
       (try go_wp2_with fail)
       refine hK.out _ _ ?_ (fun hHeld => ?_)
       ·exact hHeld
       clear hK K
       (try simp only [ty9, Act.put])
       refine tk8 9 rfl ?_; (try simp only [ty9, Act.put])
       refine wpAnyH_ready (rs := [12]) (by kernel_rfl) (by simp) ?_
       refine AllReadyH.cons (o := _) rfl (fun K hK => ?_) ?_
       ·(go_simp)
        (try go_wp2_with fail)
        refine hK.out _ _ ?_ (fun hHeld => ?_)
        ·exact HS.out.2.2.1
        clear hK K
        (try simp only [ty9, Act.put])
        refine wpAnyH_done (by kernel_rfl) ?_ _
        (try go_simp)
        clear hHeld
        go_upto_region 10 with fail
        refine wp_region_held_drew (S := (fun w' => w'.cell? ⟨w.heap.size, 0, none⟩ = some (.pointer (some ⟨r, 0, none⟩)) /\ w'.cell? ⟨wo.heap.size, 0, none⟩ = some (.int .i64 (j : Int)) /\ w'.cell? ⟨wc.heap.size, 0, none⟩ = some (.int .i64 (o : Int)) /\ w'.cell? ⟨r, 5, none⟩ = some (.map (some mb)))) (by kernel_rfl) ?_ (fun hHeld => ?_)
        ·exact HS.out.2.2.1
        refine tk8 0 rfl ?_; (try simp only [ty9, Act.put])
        refine tk8 1 rfl ?_; (try simp only [ty9, Act.put])
        refine tk8 2 rfl ?_; (try simp only [ty9, Act.put])
        refine tk8 3 rfl ?_; (try simp only [ty9, Act.put])
        refine tk8 4 rfl ?_; (try simp only [ty9, Act.put])
        refine tk8 5 rfl ?_; (try simp only [ty9, Act.put])
        refine tk8 6 rfl ?_; (try simp only [ty9, Act.put])
        refine tk8 7 rfl ?_; (try simp only [ty9, Act.put])
        refine wpAnyH_ready (rs := [8, 10]) (by kernel_rfl) (by simp) ?_
        refine AllReadyH.cons (o := _) rfl (fun K hK => ?_) ?_
        ·(go_simp)
         (try go_wp2_with fail)
         refine hK.out _ _ ?_ (fun hHeld => ?_)
         ·exact hHeld
         clear hK K
         (try simp only [ty9, Act.put])
         refine tk8 9 rfl ?_; (try simp only [ty9, Act.put])
         refine wpAnyH_ready (rs := [10]) (by kernel_rfl) (by simp) ?_
         refine AllReadyH.cons (o := _) rfl (fun K hK => ?_) ?_
         ·(go_simp)
          (try go_wp2_with fail)
          refine hK.out _ _ ?_ (fun hHeld => ?_)
          ·exact HS.out.2.2.2.1
          clear hK K
          (try simp only [ty9, Act.put])
          refine tk8 11 rfl ?_; (try simp only [ty9, Act.put])
          refine wpAnyH_ready (rs := [12]) (by kernel_rfl) (by simp) ?_
          refine AllReadyH.cons (o := _) rfl (fun K hK => ?_) ?_
          ·(go_simp)
           (try go_wp2_with fail)
           refine hK.out _ _ ?_ (fun hHeld => ?_)
           ·exact HS.out.2.2.2.2
           clear hK K
           (try simp only [ty9, Act.put])
           refine wpAnyH_done (by kernel_rfl) ?_ _
           (try go_simp)
           clear hHeld
           go_wp2_with fail
           go_roundg (M - (i + 1))
           case measure => omega
           case rel => exact ⟨i + 1, nm2 + 2, rfl, by omega, by go_num, HZ.out.1, HZ.out.2, by omega⟩
          exact AllReadyH.nil
         exact AllReadyH.nil
        refine AllReadyH.cons (o := _) rfl (fun K hK => ?_) ?_
        ·(go_simp)
         (try go_wp2_with fail)
         refine hK.out _ _ ?_ (fun hHeld => ?_)
         ·exact HS.out.2.2.2.1
         clear hK K
         (try simp only [ty9, Act.put])
         refine tk8 11 rfl ?_; (try simp only [ty9, Act.put])
         refine wpAnyH_ready (rs := [8]) (by kernel_rfl) (by simp) ?_
         refine AllReadyH.cons (o := _) rfl (fun K hK => ?_) ?_
         ·(go_simp)
          (try go_wp2_with fail)
          refine hK.out _ _ ?_ (fun hHeld => ?_)
          ·exact hHeld
          clear hK K
          (try simp only [ty9, Act.put])
          refine tk8 9 rfl ?_; (try simp only [ty9, Act.put])
          refine wpAnyH_ready (rs := [12]) (by kernel_rfl) (by simp) ?_
          refine AllReadyH.cons (o := _) rfl (fun K hK => ?_) ?_
          ·(go_simp)
           (try go_wp2_with fail)
           refine hK.out _ _ ?_ (fun hHeld => ?_)
           ·exact HS.out.2.2.2.2
           clear hK K
           (try simp only [ty9, Act.put])
           refine wpAnyH_done (by kernel_rfl) ?_ _
           (try go_simp)
           clear hHeld
           go_wp2_with fail
           go_roundg (M - (i + 1))
           case measure => omega
           case rel => exact ⟨i + 1, nm2 + 2, rfl, by omega, by go_num, HZ.out.1, HZ.out.2, by omega⟩
          exact AllReadyH.nil
         exact AllReadyH.nil
        exact AllReadyH.nil
       exact AllReadyH.nil
      exact AllReadyH.nil
     exact AllReadyH.nil
    ·obtain rfl : i = M := by omega
     have q1 : ¬ (i : Int) < (i : Int) := by omega
     have hgn : Sg.gAt E j i = Sg.gAt E (j + 1) 0 := Sg.gAt_next E j i HJ.out.2.2.2.2.2.2.2.1
     rw [hgn] at hC
     have hTW : TkS w0 wd wr r g p mb s s1 x2 x1 (RowB us) (Sg.Qj G s bl (Sg.withC F0 (o : Int) (own : Int) (Sg.gAt E kk 0)) (o : Int) j) := HJ.out.1.kept hKp fun b e => by
      have h1 := HJ.out.1.m.mb_foot HJ.out.2.1
      subst e
      refine ⟨H.out.1.mu, fun e => ?_, h1.2, h1.1, .inl rfl⟩
      obtain ⟨c9, h2, _⟩ := HJ.out.1.c
      obtain ⟨cs, h3⟩ := pt_block h2
      exact HJ.out.2.1.ne h3 e
     have hNat : natI (Sg.srcN G s bl j) = E j := by rw [H.out.2.2.2.2.2.2.2.2.2.2.1]; exact Sg.srcN_nat H.out.2.2.2.2.2.2.2.2.2.2.2.2.2.2.2.2.2.1 H.out.2.2.2.2.2.2.2.2.2.2.2.2.2.2.2.2.2.2.1 j
     have hOw : OwnI wr wa.heap.size (.slice au i cu) (E j) := by
      have h1 := own_up HJ.out.2.2.2.1 hKp fun b hb e => (HJ.out.2.2.2.2.1 b hb).2.2.1 e
      unfold OwnI
      rw [<- HJ.out.2.2.2.2.2.2.2.1]
      exact h1
     have S0 := four_kept hKp HJ.out.2.2.2.2.2.1.1.2 HJ.out.2.2.2.2.2.1.2.1 HJ.out.2.2.2.2.2.1.1.1 HJ.out.2.2.2.2.2.1.2.2 HJ.out.2.2.2.2.2.2.1
     have hSl : ∀ e ∈ Sg.srcN G s bl j, e < s1.n := fun e he => by
      have h1 : (e : Int) ∈ E j := by rw [<- hNat]; unfold natI; exact List.mem_map.2 ⟨e, he, rfl⟩
      have h2 := H.out.2.2.2.2.2.2.2.2.2.2.2.2.2.2.2.2.1 j _ h1
      have h3 := hTW.n
      have h4 := H.out.2.2.2.2.2.2.2.2.2.2.2.2.2.2.2.2.2.2.1
      omega
     have hNl : (Sg.srcN G s bl j).length = (E j).length := by rw [<- hNat]; unfold natI; rw [List.length_map]
     obtain ⟨c9, hP9, hL9⟩ := hTW.c
     have hSp := rsplit_any w0 w0.heap.size r g p mb wa.heap.size x1 c9 s1 (.slice au i cu) (Sg.srcN G s bl j) wr hTW.m hP9 hL9 hTW.ok hTW.bare hTW.i (by rw [hNat]; exact hOw) (fun b hb => (HJ.out.2.2.2.2.1 b hb).2.2.2.1) hSl (by rw [hNl]; have := H.out.2.2.2.2.2.2.2.2.2.2.2.2.2.2.1 j; omega) (Nat.le_refl _)
     have hRW := HJ.out.2.2.1.kept hKp fun l u b hl hu2 hb e => (HG.out.1.far HJ.out.1 hu2 hb).2.2.1 e
     have c0 := S0.1
     have HW : Hid _ := And.intro hTW (And.intro hNat (And.intro hOw (And.intro S0 (And.intro hSl (And.intro hNl (And.intro hSp (And.intro hRW (And.intro hC hKp))))))))
     clear hTW hNat hOw S0 hSl hNl hP9 hL9 hSp hRW hC hKp hgn
     go_upto_region 13 with (go_at_call 161; refine Calls.mono HW.out.2.2.2.2.2.2.1 ?_; rintro r5 w5 ⟨rfl, x5, c5, s5, hS5⟩; have H5 : Hid _ := And.intro hS5 trivial; clear hS5)
     have hT5 := HW.out.1.split H5.out.1
     have hfarW := fun l u b hu2 hb => HG.out.1.far HW.out.1 (l := l) (u := u) (b := b) hu2 hb
     have hk5 : ∀ (l : Nat) (u : Value) (b : Nat), us[l]? = some u -> u.ownBlock = some b -> ¬ (b = p \/ b = r \/ x1.foot b) := fun l u b hu2 hb e => by
      have h1 := hfarW l u b hu2 hb
      exact e.elim h1.1 fun e => e.elim h1.2.1 h1.2.2.2.1
     have hO5 : OwnI w5 wa.heap.size (.slice au i cu) (E j) := own_up HW.out.2.2.1 H5.out.1.kp fun b hb => hk5 j _ b HJ.out.2.2.2.2.2.2.2.2.1 hb
     have hR5 := HW.out.2.2.2.2.2.2.2.1.kept H5.out.1.kp fun l u b _ hu2 hb => hk5 l u b hu2 hb
     have hmf := HW.out.1.m.mb_foot HW.out.2.2.2.2.2.2.2.2.1
     have hC5 : Cnt w5 mb nm2 (Sg.withC F0 (o : Int) (own : Int) (Sg.gAt E (j + 1) 0)) := HW.out.2.2.2.2.2.2.2.2.1.kept H5.out.1.kp fun e => by
      rcases e with e | e | e
      ·obtain ⟨c9, h2, _⟩ := HW.out.1.c
       obtain ⟨cs, h3⟩ := pt_block h2
       exact HW.out.2.2.2.2.2.2.2.2.1.ne h3 e
      ·exact hmf.2 e
      ·exact hmf.1 e
     have hboxW : ∀ b, (b = w.heap.size \/ b = wc.heap.size \/ b = wo.heap.size) -> ¬ (b = p \/ b = r \/ x1.foot b) := fun b hb e => by
      have l1 := HG.out.1.lo
      have l2 := HG.out.1.sz
      have l3 := HJ.out.2.2.2.2.2.2.2.2.2.2.2.1.kp.size
      rcases hb with rfl | rfl | rfl
      ·rcases e with e | e | e
       ·omega
       ·omega
       ·rcases HJ.out.2.2.2.2.2.2.2.2.2.2.2.1.ft _ e with h2 | h2
        ·have := HG.out.1.fx _ h2; omega
        ·omega
      ·rcases e with e | e | e
       ·omega
       ·omega
       ·rcases HJ.out.2.2.2.2.2.2.2.2.2.2.2.1.ft _ e with h2 | h2
        ·have := HG.out.1.fx _ h2; omega
        ·omega
      ·rcases e with e | e | e
       ·omega
       ·omega
       ·have := (HJ.out.2.2.2.2.2.2.2.2.2.2.2.1.m.foot_lt e).2; omega
     have S5 : w5.cell? ⟨w.heap.size, 0, none⟩ = some (.pointer (some ⟨r, 0, none⟩)) /\ w5.cell? ⟨wo.heap.size, 0, none⟩ = some (.int .i64 (j : Int)) /\ w5.cell? ⟨wc.heap.size, 0, none⟩ = some (.int .i64 (o : Int)) /\ w5.cell? ⟨r, 5, none⟩ = some (.map (some mb)) := ⟨kcell3 H5.out.1.kp (hboxW _ (.inl rfl)) HW.out.2.2.2.1.1, kcell3 H5.out.1.kp (hboxW _ (.inr (.inr rfl))) HW.out.2.2.2.1.2.1, kcell3 H5.out.1.kp (hboxW _ (.inr (.inl rfl))) HW.out.2.2.2.1.2.2.1, (seven_cells hT5.m.box).2.2.2.2.2.1⟩
     have hzs5 : ∀ z ∈ E j, Sml z := fun z hz => by have := H.out.2.2.2.2.2.2.2.2.2.2.2.2.2.2.2.2.1 j z hz; have := H.out.2.2.2.2.2.2.2.2.2.2.2.2.2.2.2.2.2.2.2; have := H.out.2.2.2.2.2.2.2.2.2.2.2.2.2.2.2.2.2.2.1; unfold Sml; omega
     have hfar5 := fun b hb => HG.out.1.far hT5 (l := j) (u := .slice au i cu) (b := b) HJ.out.2.2.2.2.2.2.2.2.1 hb
     have hwo5 : ∀ b, (Value.slice au i cu).ownBlock = some b -> b ≠ wo.heap.size := fun b hb e => by
      have := (HJ.out.2.2.2.2.2.2.2.2.2.2.2.2.lt b hb).2
      omega
     have hAs := take1_asks w.heap.size wo.heap.size wc.heap.size r mb nm2 (Sg.withC F0 (o : Int) (own : Int) (Sg.gAt E (j + 1) 0)) (j : Int) (o : Int) (E j) (.slice au i cu) w5.drew S5.1 S5.2.1 S5.2.2.1 S5.2.2.2 (hC5.at rfl) (fun b hb => ⟨(hfar5 b hb).2.2.2.2.1, hwo5 b hb, (hfar5 b hb).2.2.2.2.2.1, (hfar5 b hb).2.1, (hfar5 b hb).2.2.1⟩) (sml_nat (by omega)) (sml_nat (by omega)) hzs5
     have hDel := deleteFunc3 163 wa.heap.size (.pointer (some ⟨w.heap.size, 0, none⟩)) (.pointer (some ⟨wo.heap.size, 0, none⟩)) (.pointer (some ⟨wc.heap.size, 0, none⟩)) _ (.slice au i cu) (E j) w5.drew (trow_at hO5 fun _ _ => rfl) (by have := H.out.2.2.2.2.2.2.2.2.2.2.2.2.2.2.1 j; omega) (enters_of Tryz.func163 (by kernel_rfl) rfl) hAs
     have hSF : natI (Sg.srcF G s bl (Sg.withC F0 (o : Int) (own : Int) (Sg.gAt E kk 0)) (o : Int) j) = (E j).filter fun z => !decide (0 < Sg.withC F0 (o : Int) (own : Int) (Sg.gAt E (j + 1) 0) z (j : Int) (o : Int)) := by
      rw [Sg.srcF_nat H.out.2.2.2.2.2.2.2.2.2.2.2.2.2.2.2.2.2.1 H.out.2.2.2.2.2.2.2.2.2.2.2.2.2.2.2.2.2.2.1 j, <- H.out.2.2.2.2.2.2.2.2.2.2.1]
      refine List.filter_congr fun z _ => ?_
      rw [Sg.final E hlt]
     have hSp2 : ∀ (v6 : Value) (w6 : World), OwnI w6 wa.heap.size v6 ((E j).filter fun z => !decide (0 < Sg.withC F0 (o : Int) (own : Int) (Sg.gAt E (j + 1) 0) z (j : Int) (o : Int))) -> v6.ownBlock = (Value.slice au i cu).ownBlock -> TkS w0 wd w6 r g p mb s s5 x2 x5 (RowB us) (fun a b => Sg.Qj G s bl (Sg.withC F0 (o : Int) (own : Int) (Sg.gAt E kk 0)) (o : Int) j a b /\ (a ∈ Sg.srcN G s bl j ↔ b ∈ Sg.srcN G s bl j)) -> Calls Tryz.prog 161 #[.pointer (some ⟨r, 0, none⟩), v6] w6 fun e w' => e = .returned (.tuple #[]) /\ ∃ x' c' s', SpAt w0 w6 w' w0.heap.size r g p mb s5 s' x5 x' c' (Sg.srcF G s bl (Sg.withC F0 (o : Int) (own : Int) (Sg.gAt E kk 0)) (o : Int) j) := fun v6 w6 h1 h2 h3 => by
      obtain ⟨c9, hP9, hL9⟩ := h3.c
      refine rsplit_any w0 w0.heap.size r g p mb wa.heap.size x5 c9 s5 v6 (Sg.srcF G s bl (Sg.withC F0 (o : Int) (own : Int) (Sg.gAt E kk 0)) (o : Int) j) w6 h3.m hP9 hL9 h3.ok h3.bare h3.i (by rw [hSF]; exact h1) (fun b hb => (hfar5 b (by rw [<- h2]; exact hb)).2.2.2.1) (fun e he => ?_) ?_ (Nat.le_refl _)
      ·have h4 := HW.out.2.2.2.2.1 e (List.mem_filter.1 he).1
       rw [h3.n, <- HW.out.1.n]
       exact h4
      ·have h4 : (Sg.srcF G s bl (Sg.withC F0 (o : Int) (own : Int) (Sg.gAt E kk 0)) (o : Int) j).length <= (Sg.srcN G s bl j).length := List.length_filter_le _ _
       have h5 := HW.out.2.2.2.2.2.1
       have h6 := H.out.2.2.2.2.2.2.2.2.2.2.2.2.2.2.1 j
       omega
     have hK6 : ∀ w6, Kept (fun b => (Value.slice au i cu).ownBlock = some b) w5.drew w6 -> TkS w0 wd w6 r g p mb s s5 x2 x5 (RowB us) (fun a b => Sg.Qj G s bl (Sg.withC F0 (o : Int) (own : Int) (Sg.gAt E kk 0)) (o : Int) j a b /\ (a ∈ Sg.srcN G s bl j ↔ b ∈ Sg.srcN G s bl j)) /\ Cnt w6 mb nm2 (Sg.withC F0 (o : Int) (own : Int) (Sg.gAt E (j + 1) 0)) /\ RowsF w6 wa.heap.size us (j + 1) kk E := fun w6 hk6 => by
      have hd5 : Below w5.heap.size w5 w5.drew := (Below.refl _ _).drew
      refine ⟨(hT5.below hd5).kept hk6 fun b hb => ?_, (hC5.below hd5).kept hk6 fun e => (hfar5 _ e).2.2.1 rfl, fun l hl hl2 => ?_⟩
      ·have h1 := hfar5 b hb
       exact ⟨Nat.le_trans H.out.1.up.size (Nat.le_trans H.out.2.2.2.2.2.2.1.size ((hO5.lt b hb).1)), h1.1, h1.2.1, h1.2.2.2.1, .inr (.inl ⟨j, _, HJ.out.2.2.2.2.2.2.2.2.1, hb⟩)⟩
      ·obtain ⟨u2, h1, h2⟩ := hR5 l (by omega) hl2
       exact ⟨u2, h1, own_up (show OwnI w5.drew wa.heap.size u2 (E l) from trow_at h2 fun _ _ => rfl) hk6 fun b hb e => HG.out.1.ap l j u2 _ b h1 HJ.out.2.2.2.2.2.2.2.2.1 (by omega) hb e⟩
     have c5' := S5.1
     have hrb5 : ¬ (w.heap.size = p \/ w.heap.size = r \/ x5.foot w.heap.size) := fun e => by
      have l1 := HG.out.1.lo
      have l2 := HG.out.1.sz
      rcases e with e | e | e
      ·omega
      ·omega
      ·rcases hT5.ft _ e with h2 | h2
       ·have := HG.out.1.fx _ h2; omega
       ·omega
     have HD : Hid _ := And.intro hDel (And.intro hSp2 (And.intro hK6 (And.intro hfar5 hrb5)))
     clear hT5 hfarW hk5 hO5 hR5 hmf hC5 hboxW S5 hzs5 hwo5 hAs hDel hSF hSp2 hK6 c0 hfar5 hrb5
     refine wp_region_held_drew (S := (fun w' => w'.cell? ⟨w.heap.size, 0, none⟩ = some (.pointer (some ⟨r, 0, none⟩)))) (by kernel_rfl) ?_ (fun hHeld => ?_)
     ·exact c5'
     refine tk8 0 rfl ?_; (try simp only [ty9, Act.put])
     refine tk8 1 rfl ?_; (try simp only [ty9, Act.put])
     refine tk8 2 rfl ?_; (try simp only [ty9, Act.put])
     refine wpAnyH_ready (rs := [3]) (by kernel_rfl) (by simp) ?_
     refine AllReadyH.cons (o := _) rfl (fun K hK => ?_) ?_
     ·(go_simp; go_at_call 162; refine Calls.mono HD.out.1 ?_; rintro r6 w6 ⟨v6, rfl, hO6, hob6, hk6⟩; have H6 : Hid _ := And.intro hO6 (And.intro hob6 hk6); clear hO6 hob6 hk6)
      (try go_wp2_with fail)
      refine hK.out _ _ ?_ (fun hHeld => ?_)
      ·exact kcell3 H6.out.2.2 (fun e => (HD.out.2.2.2.1 _ e).2.2.2.2.1 rfl) c5'
      clear hK K
      (try simp only [ty9, Act.put])
      refine wpAnyH_ready (rs := [4]) (by kernel_rfl) (by simp) ?_
      refine AllReadyH.cons (o := _) rfl (fun K hK => ?_) ?_
      ·(go_simp; go_at_call 161; refine Calls.mono (HD.out.2.1 v6 w6 H6.out.1 H6.out.2.1 (HD.out.2.2.1 w6 H6.out.2.2).1) ?_; rintro r7 w7 ⟨rfl, x7, c7, s7, hS7⟩; have H7 : Hid _ := And.intro hS7 trivial; clear hS7)
       (try go_wp2_with fail)
       refine hK.out _ _ ?_ (fun hHeld => ?_)
       ·exact kcell3 H7.out.1.kp HD.out.2.2.2.2 (kcell3 H6.out.2.2 (fun e => (HD.out.2.2.2.1 _ e).2.2.2.2.1 rfl) c5')
       clear hK K
       (try simp only [ty9, Act.put])
       refine wpAnyH_done (by kernel_rfl) ?_ _
       (try go_simp)
       clear hHeld
       go_wp2_with fail
       go_roundg (kk - (j + 1))
       case measure => omega
       case rel =>
        obtain ⟨a1, a2, a3⟩ := HD.out.2.2.1 w6 H6.out.2.2
        refine ⟨j + 1, s7, x7, nm2, rfl, by omega, by go_num, (a1.split H7.out.1).congr (fun a b _ _ => (Sg.Qj_next G s bl _ _ j a b).symm), a3.kept H7.out.1.kp ?_, a2.kept H7.out.1.kp ?_, by omega⟩
        ·intro l u b _ hu2 hb e
         have h1 := HG.out.1.far a1 hu2 hb
         exact e.elim h1.1 fun e => e.elim h1.2.1 h1.2.2.2.1
        ·intro e
         have h1 := a1.m.mb_foot a2
         rcases e with e | e | e
         ·obtain ⟨c9, h2, _⟩ := a1.c
          obtain ⟨cs, h3⟩ := pt_block h2
          exact a2.ne h3 e
         ·exact h1.2 e
         ·exact h1.1 e
      exact AllReadyH.nil
     exact AllReadyH.nil
  ·obtain rfl : j = kk := by omega
   have p1 : ¬ (j : Int) < (j : Int) := by omega
   have HE : Hid _ := And.intro hT hC
   clear hT hC hRw
   go_wp2_with fail
   go_end0
   have h1 := HE.out.1
   have h2 := HE.out.2
   have hkk := H.out.2.2.2.2.2.2.2.2.2.2.2.1
   have hlx := (List.getElem?_eq_some_iff.1 H.out.2.2.2.2.1).1
   have hn9 : nm1 <= nm + 10000000 := by omega
   rw [H.out.2.2.2.2.2.2.2.2.2.2.1, H.out.2.2.2.2.2.2.2.2.2.2.2.2.2.1, H.out.2.2.2.2.2.2.2.2.2.2.2.2.1, hkk] at h1 h2
   obtain ⟨h3, h4⟩ := take_done H.out.1 H.out.2.1 H.out.2.2.1 hlx H.out.2.2.2.2.1 H2.out.1 (H.out.2.2.2.2.2.2.1.trans (H1.out.1.bl.mono H.out.2.2.2.2.2.2.1.size)) (show Below wc.heap.size wc wd by rw [HG.out.2.2]; exact (Below.refl _ _).alloc (Nat.le_refl _) _) (fun b hb2 => by obtain ⟨l, u, e1, e2⟩ := hb2; have := HG.out.1.rows l u b e1 e2; omega) h1 h2 hn9
   exact ⟨rfl, nm1, s1, x1, h3, h4⟩
end
end Go.Proofs.YthcpliinddjkhaaGreatDoor
