/- Texts of this claim, joined: SgTk0, SgTk1, SgTk2. -/
import Derived.Test.YthcpliinddjkhaaGreatDoorPart9
import Derived.BigQuiet
import Derived.Deep.QuietTactic
namespace Go.Proofs.YthcpliinddjkhaaGreatDoor
section
open Go.RowKit Go.Maps
attribute [local go_sem ↓] Go.wp_at_zero Go.wp_at_succ
structure TkS (w0 wd wr : World) (r g p mb : Nat) (s s1 : Pst) (x2 x1 : Rv) (R : Nat → Prop) (Q : Nat → Nat → Prop) : Prop where
  m : RnM wr w0.heap.size r g p mb x1
  c : ∃ c, Pt w0 wr p c ∧ Lay c s1
  ok : s1.Ok
  bare : s1.bare
  n : s1.n = s.n
  i : RunI s1 x1
  of : ∀ e, e < s.n → hOf s1 x1 e = hOf s x2 e
  ks : x1.ks = x2.ks
  eq : ∀ a b, a < s.n → b < s.n → (s1.O a = s1.O b ↔ s.O a = s.O b ∧ Q a b)
  kp : Kept (fun b => b = p ∨ b = r ∨ b = mb ∨ x2.foot b ∨ R b) wd wr
  ft : ∀ b, x1.foot b → x2.foot b ∨ wd.heap.size ≤ b
theorem TkS.kept {w0 wd wr w' : World} {r g p mb : Nat} {s s1 : Pst} {x2 x1 : Rv} {R : Nat → Prop} {Q : Nat → Nat → Prop} {F : Nat → Prop} (h : TkS w0 wd wr r g p mb s s1 x2 x1 R Q) (hk : Kept F wr w') (hF : ∀ b, F b → w0.heap.size ≤ b ∧ b ≠ p ∧ b ≠ r ∧ ¬ x1.foot b ∧ (b = mb ∨ R b ∨ wd.heap.size ≤ b)) : TkS w0 wd w' r g p mb s s1 x2 x1 R Q := by
  obtain ⟨c, h1, h2⟩ := h.c
  refine ⟨h.m.kept hk (fun e => (hF r e).2.2.1 rfl) (fun b hb e => (hF b e).2.2.2.1 hb), ⟨c, h1.kept hk fun b hb => ⟨(hF b hb).1, (hF b hb).2.1⟩, h2⟩, h.ok, h.bare, h.n, h.i, h.of, h.ks, h.eq, h.kp.trans2 hk fun b hb => ?_, h.ft⟩
  rcases (hF b hb).2.2.2.2 with e | e | e
  · exact .inl (.inr (.inr (.inl e)))
  · exact .inl (.inr (.inr (.inr (.inr e))))
  · exact .inr e
theorem TkS.below {w0 wd wr w' : World} {r g p mb : Nat} {s s1 : Pst} {x2 x1 : Rv} {R : Nat → Prop} {Q : Nat → Nat → Prop} (h : TkS w0 wd wr r g p mb s s1 x2 x1 R Q) (hb : Below wr.heap.size wr w') : TkS w0 wd w' r g p mb s s1 x2 x1 R Q := h.kept (F := fun _ => False) (Kept.of_below hb) fun _ h => h.elim
theorem TkS.split {w0 wd wr w' : World} {r g p mb : Nat} {s s1 s' : Pst} {x2 x1 x' : Rv} {R : Nat → Prop} {Q : Nat → Nat → Prop} {c' : Nat → Int} {l : List Nat} (h : TkS w0 wd wr r g p mb s s1 x2 x1 R Q) (hS : SpAt w0 wr w' w0.heap.size r g p mb s1 s' x1 x' c' l) : TkS w0 wd w' r g p mb s s' x2 x' R (fun a b => Q a b ∧ (a ∈ l ↔ b ∈ l)) := by
  refine ⟨hS.m, ⟨c', hS.pt, hS.lay⟩, hS.ok, hS.bare, hS.n.trans h.n, hS.i, fun e he => ?_, hS.ks.trans h.ks, fun a b ha hb => ?_, h.kp.trans2 hS.kp fun b hb => ?_, fun b hb => ?_⟩
  · have h1 := hS.of e (by rw [h.n]; exact he)
    exact Eq.trans h1 (h.of e he)
  · rw [hS.eq a b (by rw [h.n]; exact ha) (by rw [h.n]; exact hb), h.eq a b ha hb, and_assoc]
  · rcases hb with e | e | e
    · exact .inl (.inl e)
    · exact .inl (.inr (.inl e))
    · exact (h.ft b e).imp (fun h => .inr (.inr (.inr (.inl h)))) id
  · rcases hS.ft b hb with h1 | h1
    · exact h.ft b h1
    · exact .inr (Nat.le_trans h.kp.size h1)
theorem TkS.congr {w0 wd wr : World} {r g p mb : Nat} {s s1 : Pst} {x2 x1 : Rv} {R : Nat → Prop} {Q Q' : Nat → Nat → Prop} (h : TkS w0 wd wr r g p mb s s1 x2 x1 R Q) (hQ : ∀ a b, a < s.n → b < s.n → (Q a b ↔ Q' a b)) : TkS w0 wd wr r g p mb s s1 x2 x1 R Q' :=
  ⟨h.m, h.c, h.ok, h.bare, h.n, h.i, h.of, h.ks, fun a b ha hb => by rw [h.eq a b ha hb, hQ a b ha hb], h.kp, h.ft⟩
def RowsF (w : World) (B : Nat) (us : List Value) (j kk : Nat) (E : Nat → List Int) : Prop := ∀ l, j ≤ l → l < kk → ∃ u, us[l]? = some u ∧ OwnI w B u (E l)
theorem RowsF.kept {w w' : World} {B : Nat} {us : List Value} {j kk : Nat} {E : Nat → List Int} {F : Nat → Prop} (h : RowsF w B us j kk E) (hk : Kept F w w') (hF : ∀ l u b, j ≤ l → us[l]? = some u → u.ownBlock = some b → ¬ F b) : RowsF w' B us j kk E := fun l hj hl => by
  obtain ⟨u, h1, h2⟩ := h l hj hl
  exact ⟨u, h1, own_up h2 hk fun b hb => hF l u b hj h1 hb⟩
theorem kcell3 {w w' : World} {F : Nat → Prop} {b o : Nat} {v : Value} (hk : Kept F w w') (hne : ¬ F b) (c : w.cell? ⟨b, o, none⟩ = some v) : w'.cell? ⟨b, o, none⟩ = some v := (World.cell?_of_block (a := ⟨b, o, none⟩) (hk.block b (World.block_lt_of_cell? w _ c) hne)).trans c
set_option linter.unusedSimpArgs false in
set_option maxRecDepth 100000 in
set_option maxHeartbeats 2000000 in
theorem take1_asks (rb lb sb r mb nm : Nat) (f : Int → Int → Int → Int) (l rest : Int) (zs : List Int) (v : Value) (w : World) (hr : w.cell? ⟨rb, 0, none⟩ = some (.pointer (some ⟨r, 0, none⟩))) (hl : w.cell? ⟨lb, 0, none⟩ = some (.int .i64 l)) (hs : w.cell? ⟨sb, 0, none⟩ = some (.int .i64 rest)) (hm : w.cell? ⟨r, 5, none⟩ = some (.map (some mb))) (hC : Cnt w mb nm f) (hne : ∀ b, v.ownBlock = some b → b ≠ rb ∧ b ≠ lb ∧ b ≠ sb ∧ b ≠ r ∧ b ≠ mb) (h1 : Sml l) (h2 : Sml rest) (h3 : ∀ z ∈ zs, Sml z) :
    Asks 163 #[.pointer (some ⟨rb, 0, none⟩), .pointer (some ⟨lb, 0, none⟩), .pointer (some ⟨sb, 0, none⟩)] (fun z => decide (0 < f z l rest)) zs fun W => Kept (fun b => v.ownBlock = some b) w W := fun z W hz hk => by
  have c0 := kcell3 hk (fun e => (hne _ e).1 rfl) hr
  have c1 := kcell3 hk (fun e => (hne _ e).2.1 rfl) hl
  have c2 := kcell3 hk (fun e => (hne _ e).2.2.1 rfl) hs
  have c3 := kcell3 hk (fun e => (hne _ e).2.2.2.1 rfl) hm
  have hL := ((hC.kept hk (fun e => (hne _ e).2.2.2.2 rfl)).at (w' := W.drew) rfl).look (h3 z hz) h1 h2
  unfold inV at hL
  have hL1 := hL.1
  obtain ⟨y, hy⟩ : ∃ y, y = f z l rest := ⟨_, rfl⟩
  rw [← hy] at hL1
  have HY : Hid _ := hy
  obtain ⟨d, hd⟩ : ∃ d, d = decide (0 < y) := ⟨_, rfl⟩
  have q1 := hd.symm
  have HD : Hid _ := hd
  clear hr hl hs hm hC hne h1 h2 h3 hk hL hz hy hd
  show Calls Tryz.prog 163 #[.int .i64 z, .pointer (some ⟨rb, 0, none⟩), .pointer (some ⟨lb, 0, none⟩), .pointer (some ⟨sb, 0, none⟩)] W _
  go_enter Tryz.func163, Tryz.ntmps163
  go_upto_region 1 with fail
  refine wp_region_held_drew (S := (fun w' => w'.cell? ⟨rb, 0, none⟩ = some (.pointer (some ⟨r, 0, none⟩)) ∧ w'.cell? ⟨lb, 0, none⟩ = some (.int .i64 l) ∧ w'.cell? ⟨sb, 0, none⟩ = some (.int .i64 rest) ∧ w'.cell? ⟨r, 5, none⟩ = some (.map (some mb)))) (by kernel_rfl) ?_ (fun hHeld => ?_)
  · exact ⟨c0, c1, c2, c3⟩
  refine wpAnyH_take (i := 0) (oi := _) (v := ?_) rfl (by kernel_rfl) (by kernel_rfl) (by kernel_rfl) (fun _ _ _ h => h) (Or.inl ⟨by rfl, ?_⟩) (by assumption) ?_; rotate_left; (focus (intro w hSw; (try dsimp only at hSw); go_simp; (try with_reducible rfl))); (try simp only [List.getElem_toArray, List.getElem_cons_succ, List.getElem_cons_zero, Act.put, List.setIfInBounds_toArray, List.set_cons_zero, List.set_cons_succ])
  refine wpAnyH_take (i := 1) (oi := _) (v := ?_) rfl (by kernel_rfl) (by kernel_rfl) (by kernel_rfl) (fun _ _ _ h => h) (Or.inl ⟨by rfl, ?_⟩) (by assumption) ?_; rotate_left; (focus (intro w hSw; (try dsimp only at hSw); go_simp; (try with_reducible rfl))); (try simp only [List.getElem_toArray, List.getElem_cons_succ, List.getElem_cons_zero, Act.put, List.setIfInBounds_toArray, List.set_cons_zero, List.set_cons_succ])
  refine wpAnyH_take (i := 2) (oi := _) (v := ?_) rfl (by kernel_rfl) (by kernel_rfl) (by kernel_rfl) (fun _ _ _ h => h) (Or.inl ⟨by rfl, ?_⟩) (by assumption) ?_; rotate_left; (focus (intro w hSw; (try dsimp only at hSw); go_simp; (try with_reducible rfl))); (try simp only [List.getElem_toArray, List.getElem_cons_succ, List.getElem_cons_zero, Act.put, List.setIfInBounds_toArray, List.set_cons_zero, List.set_cons_succ])
  refine wpAnyH_take (i := 3) (oi := _) (v := ?_) rfl (by kernel_rfl) (by kernel_rfl) (by kernel_rfl) (fun _ _ _ h => h) (Or.inl ⟨by rfl, ?_⟩) (by assumption) ?_; rotate_left; (focus (intro w hSw; (try dsimp only at hSw); go_simp; (try with_reducible rfl))); (try simp only [List.getElem_toArray, List.getElem_cons_succ, List.getElem_cons_zero, Act.put, List.setIfInBounds_toArray, List.set_cons_zero, List.set_cons_succ])
  refine wpAnyH_take (i := 4) (oi := _) (v := ?_) rfl (by kernel_rfl) (by kernel_rfl) (by kernel_rfl) (fun _ _ _ h => h) (Or.inl ⟨by rfl, ?_⟩) (by assumption) ?_; rotate_left; (focus (intro w hSw; (try dsimp only at hSw); go_simp; (try with_reducible rfl))); (try simp only [List.getElem_toArray, List.getElem_cons_succ, List.getElem_cons_zero, Act.put, List.setIfInBounds_toArray, List.set_cons_zero, List.set_cons_succ])
  refine wpAnyH_take (i := 5) (oi := _) (v := ?_) rfl (by kernel_rfl) (by kernel_rfl) (by kernel_rfl) (fun _ _ _ h => h) (Or.inl ⟨by rfl, ?_⟩) (by assumption) ?_; rotate_left; (focus (intro w hSw; (try dsimp only at hSw); go_simp; (try with_reducible rfl))); (try simp only [List.getElem_toArray, List.getElem_cons_succ, List.getElem_cons_zero, Act.put, List.setIfInBounds_toArray, List.set_cons_zero, List.set_cons_succ])
  refine wpAnyH_take (i := 6) (oi := _) (v := ?_) rfl (by kernel_rfl) (by kernel_rfl) (by kernel_rfl) (fun _ _ _ h => h) (Or.inl ⟨by rfl, ?_⟩) (by assumption) ?_; rotate_left; (focus (intro w hSw; (try dsimp only at hSw); go_simp; (try with_reducible rfl))); (try simp only [List.getElem_toArray, List.getElem_cons_succ, List.getElem_cons_zero, Act.put, List.setIfInBounds_toArray, List.set_cons_zero, List.set_cons_succ])
  refine wpAnyH_take (i := 7) (oi := _) (v := ?_) rfl (by kernel_rfl) (by kernel_rfl) (by kernel_rfl) (fun _ _ _ h => h) (Or.inl ⟨by rfl, ?_⟩) (by assumption) ?_; rotate_left; (focus (intro w hSw; (try dsimp only at hSw); go_simp; (try with_reducible rfl))); (try simp only [List.getElem_toArray, List.getElem_cons_succ, List.getElem_cons_zero, Act.put, List.setIfInBounds_toArray, List.set_cons_zero, List.set_cons_succ])
  refine wpAnyH_ready (rs := [8]) (by kernel_rfl) (by simp) ?_
  refine AllReadyH.cons (o := _) rfl (fun K hK => ?_) ?_
  · (go_simp)
    (try go_wp2_with fail)
    refine hK.out _ _ ?_ (fun hHeld => ?_)
    · exact hHeld
    clear hK K
    (try simp only [List.getElem_toArray, List.getElem_cons_succ, List.getElem_cons_zero, Act.put, List.setIfInBounds_toArray, List.set_cons_zero, List.set_cons_succ])
    refine wpAnyH_take (i := 9) (oi := _) (v := ?_) rfl (by kernel_rfl) (by kernel_rfl) (by kernel_rfl) (fun _ _ _ h => h) (Or.inl ⟨by rfl, ?_⟩) (by assumption) ?_; rotate_left; (focus (intro w hSw; (try dsimp only at hSw); go_simp; (try with_reducible rfl))); (try simp only [List.getElem_toArray, List.getElem_cons_succ, List.getElem_cons_zero, Act.put, List.setIfInBounds_toArray, List.set_cons_zero, List.set_cons_succ])
    refine wpAnyH_take (i := 10) (oi := _) (v := ?_) rfl (by kernel_rfl) (by kernel_rfl) (by kernel_rfl) (fun _ _ _ h => h) (Or.inl ⟨by rfl, ?_⟩) (by assumption) ?_; rotate_left; (focus (intro w hSw; (try dsimp only at hSw); go_simp; (try with_reducible rfl))); (try simp only [List.getElem_toArray, List.getElem_cons_succ, List.getElem_cons_zero, Act.put, List.setIfInBounds_toArray, List.set_cons_zero, List.set_cons_succ])
    refine wpAnyH_done (by kernel_rfl) ?_ _
    (try go_simp)
    clear hHeld
    go_wp2_with fail
    go_ret
    exact ⟨by rw [← HY.out, ← HD.out]; (try rfl), (Below.refl _ _).drew⟩
  exact AllReadyH.nil
end
section
open Go.RowKit Go.Maps
namespace Sg
theorem withC_step {f : Int → Int → Int → Int} {rest own : Int} {E : Nat → List Int} {j i : Nat} {z : Int} (hne : rest ≠ own) (h : (E j)[i]? = some z) (p b q : Int) :
    updC (updC (withC f rest own (gAt E j i)) z (j : Int) rest (withC f rest own (gAt E j i) z (j : Int) rest - 1)) z (j : Int) own (withC f rest own (gAt E j i) z (j : Int) own + 1) p b q = withC f rest own (gAt E j (i + 1)) p b q := by
  unfold updC
  by_cases hb : b = (j : Int)
  · subst hb
    unfold withC
    rw [gAt_step E j i h]
    simp only [List.count_append, List.count_singleton]
    by_cases hp : p = z
    · subst hp
      by_cases h1 : q = rest
      · subst h1
        simp [hne]; omega
      · by_cases h2 : q = own
        · subst h2
          simp; omega
        · simp [h1, h2]
    · have hp2 : (z == p) = false := by simp; exact fun e => hp e.symm
      simp [hp, hp2]
  · unfold withC
    rw [gAt_other E j i hb]
    simp [hb]
theorem gAt_len {E : Nat → List Int} {c : Nat} (h : ∀ l, (E l).length ≤ c) (j i : Nat) (b : Int) : (gAt E j i b).length ≤ c := by
  unfold gAt
  split
  · exact h _
  · split
    · rw [List.length_take]; have := h j; omega
    · exact Nat.zero_le _
theorem withC_le {f : Int → Int → Int → Int} {rest own : Int} {Gf : Int → List Int} {c : Nat} (hf : ∀ p b q, 0 ≤ f p b q ∧ f p b q ≤ (c : Int)) (hG : ∀ b, (Gf b).length ≤ c) (p b q : Int) : -(c : Int) ≤ withC f rest own Gf p b q ∧ withC f rest own Gf p b q ≤ 2 * (c : Int) := by
  have h1 := hf p b q
  have h2 := hG b
  have h3 := List.count_le_length (a := p) (l := Gf b)
  unfold withC
  split
  · omega
  · split <;> omega
theorem cf_le {T : List Sy.Ed} {c : Nat} (h : T.length ≤ c) (H : Nat → Int) (p b q : Int) : 0 ≤ cf T H p b q ∧ cf T H p b q ≤ (c : Int) := by
  unfold cf
  have := cn_le T (fun t => H t.toNat == q) p b
  omega
def srcE (G : Gp) (s : Pst) (bl l : Nat) : List Int := ends (inAll (insOf G.n G.es) (s.mem bl)) (l : Int)
def srcN (G : Gp) (s : Pst) (bl l : Nat) : List Nat := (srcE G s bl l).map Int.toNat
theorem tn_right {G : Gp} (h : Sy.right G.n (G.kk : Int) G.st G.es = true) : ∀ e ∈ tn G.es, (0 ≤ e.1 ∧ e.1 < (G.n : Int)) ∧ (0 ≤ e.2.1 ∧ e.2.1 < (G.kk : Int)) ∧ (0 ≤ e.2.2 ∧ e.2.2 < (G.n : Int)) := fun e he => by
  have h1 := (right_parts h).2.2.2.2.2 _ ((Sy.nf_mem _ _).1 (tn_mem.1 he))
  simp only [Sy.turn] at h1
  exact ⟨⟨h1.2.2.1, h1.2.2.2.1⟩, ⟨h1.2.2.2.2.1, h1.2.2.2.2.2⟩, ⟨h1.1, h1.2.1⟩⟩
theorem tn_len {G : Gp} (h : Sy.right G.n (G.kk : Int) G.st G.es = true) : (tn G.es).length ≤ 10000 := by
  have h1 := (right_parts h).2.2.1
  have h2 := Sy.nf_len G.es
  have h3 := nf_turn_len G.es
  unfold tn
  omega
theorem mem_small {s : Pst} {bl : Nat} : ∀ q ∈ s.mem bl, 0 ≤ q ∧ q < (s.n : Int) := fun q hq => by
  obtain ⟨e, h1, _, rfl⟩ := mem_mem.1 hq
  omega
theorem srcE_count {G : Gp} {s : Pst} {bl : Nat} (hr : Sy.right G.n (G.kk : Int) G.st G.es = true) (hn : s.n = G.n) (l : Nat) (p : Int) : (srcE G s bl l).count p = cn (tn G.es) (fun t => decide (s.O t.toNat = bl)) p (l : Int) := by
  unfold srcE
  have h1 : insOf G.n G.es = Sy.rowOf G.n (tn G.es) := rfl
  rw [h1, count_ends (fun q hq => by have := mem_small q hq; omega) (mem_nodup s bl)]
  refine cn_congr (fun e he => ?_) p _
  have h2 := (tn_right hr e he).1
  refine decide_eq_decide.2 ?_
  rw [mem_mem]
  constructor
  · rintro ⟨a, h3, h4, h5⟩
    rw [h5]; exact h4
  · intro h3
    exact ⟨e.1.toNat, by omega, h3, by omega⟩
theorem srcE_len {G : Gp} {s : Pst} {bl : Nat} (hr : Sy.right G.n (G.kk : Int) G.st G.es = true) (l : Nat) : (srcE G s bl l).length ≤ 10000 := by
  have h1 := ends_len (inAll (insOf G.n G.es) (s.mem bl)) (l : Int)
  have h2 : insOf G.n G.es = Sy.rowOf G.n (tn G.es) := rfl
  have h3 := inAll_le (T := tn G.es) (n := G.n) (mem_nodup s bl)
  have h4 := tn_len hr
  rw [← h2] at h3
  unfold srcE
  omega
theorem srcE_mem {G : Gp} {s : Pst} {bl : Nat} (hr : Sy.right G.n (G.kk : Int) G.st G.es = true) (hn : s.n = G.n) {l : Nat} {z : Int} (h : z ∈ srcE G s bl l) : 0 ≤ z ∧ z < (G.n : Int) := by
  have h1 := List.count_pos_iff.2 h
  rw [srcE_count hr hn, cn_pos] at h1
  obtain ⟨e, he, _, _, rfl⟩ := h1
  exact (tn_right hr e he).2.2
theorem srcN_nat {G : Gp} {s : Pst} {bl : Nat} (hr : Sy.right G.n (G.kk : Int) G.st G.es = true) (hn : s.n = G.n) (l : Nat) : natI (srcN G s bl l) = srcE G s bl l := by
  unfold natI srcN
  rw [List.map_map]
  conv => rhs; rw [← List.map_id (srcE G s bl l)]
  refine List.map_congr_left fun z hz => ?_
  have := srcE_mem hr hn hz
  show ((z.toNat : Nat) : Int) = z
  omega
def outG (G : Gp) (i : Nat) : List (Int × Int) := Sy.rowOf G.n (Sy.nf G.es) (i : Int)
theorem srcN_mem {G : Gp} {s : Pst} {bl : Nat} (hr : Sy.right G.n (G.kk : Int) G.st G.es = true) (hn : s.n = G.n) {l a : Nat} (ha : a < G.n) : a ∈ srcN G s bl l ↔ into (outG G) (fun t => s.O t = bl) (l : Int) a := by
  have h1 : a ∈ srcN G s bl l ↔ (a : Int) ∈ srcE G s bl l := by
    rw [← srcN_nat hr hn]
    unfold natI
    rw [List.mem_map]
    exact ⟨fun h => ⟨a, h, rfl⟩, fun ⟨b, h, e⟩ => by rw [← Int.ofNat_inj.1 e]; exact h⟩
  rw [h1, ← List.count_pos_iff, srcE_count hr hn]
  have h2 := into_cn (n := G.n) (es := G.es) (X := fun t => decide (s.O t = bl)) ha (l : Int)
  rw [← h2]
  unfold into outG
  simp only [decide_eq_true_eq]
def srcF (G : Gp) (s : Pst) (bl : Nat) (F : Int → Int → Int → Int) (o : Int) (l : Nat) : List Nat := (srcN G s bl l).filter fun a => !decide (0 < F (a : Int) (l : Int) o)
theorem srcF_nat {G : Gp} {s : Pst} {bl : Nat} {F : Int → Int → Int → Int} {o : Int} (hr : Sy.right G.n (G.kk : Int) G.st G.es = true) (hn : s.n = G.n) (l : Nat) : natI (srcF G s bl F o l) = (srcE G s bl l).filter fun z => !decide (0 < F z (l : Int) o) := by
  rw [← srcN_nat hr hn]
  unfold srcF natI
  rw [List.filter_map]
  rfl
end Sg
structure TakeAt (w w' : World) (r p mb nm nm' : Nat) (G : Gp) (s s' : Pst) (x x' : Rv) (bl : Nat) : Prop where
  nm : nm' ≤ nm + 10000000
  ks : x'.ks.length = x.ks.length + 1
  hp : ∀ e, e < s.n → hOf s' x' e = if s.O e = bl then (x.ks.length : Int) else hOf s x e
  sp : Sg.Split s.n (Sg.By (Sg.outG G) (fun t => s.O t = bl) fun t => hOf s x t = x.of bl ∧ ¬ s.O t = bl) s.O s'.O
  kp : Kept (fun b => b = p ∨ b = r ∨ b = mb ∨ x.foot b) w w'
  ft : ∀ b, x'.foot b → x.foot b ∨ w.heap.size ≤ b
def Sg.Qj (G : Gp) (s : Pst) (bl : Nat) (F : Int → Int → Int → Int) (o : Int) (j a b : Nat) : Prop := ∀ l, l < j → (a ∈ Sg.srcN G s bl l ↔ b ∈ Sg.srcN G s bl l) ∧ (a ∈ Sg.srcF G s bl F o l ↔ b ∈ Sg.srcF G s bl F o l)
theorem Sg.Qj_next (G : Gp) (s : Pst) (bl : Nat) (F : Int → Int → Int → Int) (o : Int) (j a b : Nat) : Sg.Qj G s bl F o (j + 1) a b ↔ (Sg.Qj G s bl F o j a b ∧ (a ∈ Sg.srcN G s bl j ↔ b ∈ Sg.srcN G s bl j)) ∧ (a ∈ Sg.srcF G s bl F o j ↔ b ∈ Sg.srcF G s bl F o j) := by
  constructor
  · intro h
    exact ⟨⟨fun l hl => h l (by omega), (h j (by omega)).1⟩, (h j (by omega)).2⟩
  · rintro ⟨⟨h1, h2⟩, h3⟩ l hl
    by_cases e : l = j
    · subst e; exact ⟨h2, h3⟩
    · exact h1 l (by omega)
theorem Sg.final {f : Int → Int → Int → Int} {rest own : Int} (E : Nat → List Int) {l j : Nat} (h : l < j) (z q : Int) : Sg.withC f rest own (Sg.gAt E j 0) z (l : Int) q = Sg.withC f rest own (Sg.gAt E (l + 1) 0) z (l : Int) q := by
  have h1 : Sg.gAt E j 0 (l : Int) = Sg.gAt E (l + 1) 0 (l : Int) := by
    unfold Sg.gAt
    rw [if_pos (show 0 ≤ (l : Int) ∧ (l : Int) < (j : Int) by omega), if_pos (show 0 ≤ (l : Int) ∧ (l : Int) < ((l + 1 : Nat) : Int) by omega)]
  unfold Sg.withC
  rw [h1]
theorem take_done {w0 w wb wc wd wr : World} {r g p mb nm nm' bl o k : Nat} {G : Gp} {s s1 : Pst} {x x2 x1 : Rv} {bs : List Int} {R : Nat → Prop} (hR : RunAt w0 w r g p mb nm G s x) (hb : bl < s.nb) (how : x.ow[bl]? = some (o : Int)) (hol : o < x.ks.length) (hks : x.ks[o]? = some k)
    (hA : LiftAt wb wc w0.heap.size r g p mb x x2 bl o k (s.mem bl).length bs) (hw1 : Below w.heap.size w wb) (hw2 : Below wc.heap.size wc wd) (hRb : ∀ b, R b → w.heap.size ≤ b)
    (hT : TkS w0 wd wr r g p mb s s1 x2 x1 R (Sg.Qj G s bl (Sg.withC (Sg.cf (Sg.tn G.es) (hOf s x)) (o : Int) (x.ks.length : Int) (Sg.gAt (Sg.srcE G s bl) G.kk 0)) (o : Int) G.kk)) (hC : Cnt wr mb nm' (Sg.withC (Sg.cf (Sg.tn G.es) (hOf s x)) (o : Int) (x.ks.length : Int) (Sg.gAt (Sg.srcE G s bl) G.kk 0))) (hnm : nm' ≤ nm + 10000000) :
    RunAt w0 wr r g p mb nm' G s1 x1 ∧ TakeAt w wr r p mb nm nm' G s s1 x x1 bl := by
  have hr : Sy.right G.n (G.kk : Int) G.st G.es = true := hR.gr.right
  have hn := hR.n
  have hofb : x.of bl = (o : Int) := by unfold Rv.of; rw [how]; rfl
  have hH2 : ∀ e, e < s.n → hOf s1 x1 e = if s.O e = bl then (x.ks.length : Int) else hOf s x e := fun e he => by
    rw [hT.of e he]
    exact lift_of hA hR.i hb (s.O e)
  have hnew : ∀ e, e < s.n → hOf s x e ≠ (x.ks.length : Int) := fun e he h => by
    obtain ⟨q, h1, h2⟩ := hR.i.own (s.O e) (hR.ok.o e he).1
    unfold hOf Rv.of at h
    rw [h1] at h
    simp only [Option.getD_some] at h
    omega
  have hBo : ∀ e, s.O e = bl → hOf s x e = (o : Int) := fun e he => by unfold hOf; rw [he]; exact hofb
  have hne : (o : Int) ≠ (x.ks.length : Int) := by omega
  have hcf : ∀ p b q, Sg.withC (Sg.cf (Sg.tn G.es) (hOf s x)) (o : Int) (x.ks.length : Int) (Sg.gAt (Sg.srcE G s bl) G.kk 0) p b q = Sg.cf (Sg.tn G.es) (hOf s1 x1) p b q := fun p b q => by
    refine (Sg.cf_take (X := fun e => decide (s.O e = bl)) hne (fun e _ hx => hBo _ (of_decide_eq_true hx)) (fun e he => ?_) (fun e he => ?_) ?_ q).symm
    · have h1 := (Sg.tn_right hr e he).1
      rw [hH2 _ (by omega)]
      simp only [decide_eq_true_eq]
    · have h1 := (Sg.tn_right hr e he).1
      exact hnew _ (by omega)
    · unfold Sg.gAt
      by_cases h1 : 0 ≤ b ∧ b < (G.kk : Int)
      · rw [if_pos h1, Sg.srcE_count hr hn, show ((b.toNat : Nat) : Int) = b by omega]
      · rw [if_neg h1]
        have h2 : Sg.cn (Sg.tn G.es) (fun t => decide (s.O t.toNat = bl)) p b = 0 := by
          refine Nat.eq_zero_of_not_pos fun h3 => ?_
          obtain ⟨e, he, _, h4, _⟩ := Sg.cn_pos.1 h3
          have := (Sg.tn_right hr e he).2.1
          omega
        rw [h2]
        split <;> simp
  have hks2 : x1.ks = x.ks.set o (k - (s.mem bl).length) ++ [(s.mem bl).length] := by rw [hT.ks, hA.ks]
  have hB : (s.mem bl).length = (List.range G.n).countP fun e => decide (s.O e = bl) := by rw [mem_count, hn]
  have hcnt : ∀ q : Int, hc G.n (hOf s1 x1) q = (List.range G.n).countP fun e => (if s.O e = bl then (x.ks.length : Int) else hOf s x e) == q := fun q => by
    unfold hc
    refine List.countP_congr fun e he => ?_
    rw [hH2 e (by rw [hn]; exact List.mem_range.1 he)]
  refine ⟨⟨hT.m, hT.c, hT.ok, hT.bare, hT.n.trans hn, hT.i, hR.gr, hR.mu, hC.congr hcf, fun q k' hq => ?_⟩, ⟨hnm, ?_, hH2, ?_, ?_, ?_⟩⟩
  · rw [hcnt]
    rw [hks2] at hq
    rcases Nat.lt_or_ge q x.ks.length with h1 | h1
    · rw [List.getElem?_append_left (by rw [List.length_set]; exact h1)] at hq
      by_cases e : q = o
      · subst e
        rw [List.getElem?_set_self h1] at hq
        have h2 := Option.some.inj hq
        have h3 := hR.ksv q k hks
        have h4 : hc G.n (hOf s x) (q : Int) = ((List.range G.n).countP fun e => (if s.O e = bl then (x.ks.length : Int) else hOf s x e) == (q : Int)) + (List.range G.n).countP fun e => decide (s.O e = bl) := countP_add fun e _ => by
          by_cases h5 : s.O e = bl
          · rw [hBo e h5]
            simp [h5]; omega
          · simp [h5]
        omega
      · rw [List.getElem?_set_ne (fun e2 => e e2.symm)] at hq
        rw [hR.ksv q k' hq]
        unfold hc
        refine List.countP_congr fun e he => ?_
        by_cases h5 : s.O e = bl
        · rw [hBo e h5, if_pos h5]
          simp; omega
        · rw [if_neg h5]
    · rw [List.getElem?_append_right (by rw [List.length_set]; exact h1), List.length_set] at hq
      have h2 := (List.getElem?_eq_some_iff.1 hq).1
      simp only [List.length_cons, List.length_nil] at h2
      have h3 : q = x.ks.length := by omega
      rw [h3, Nat.sub_self] at hq
      have h4 := Option.some.inj hq
      rw [← h4, hB, h3]
      refine List.countP_congr fun e he => ?_
      by_cases h5 : s.O e = bl
      · simp [h5]
      · have := hnew e (by rw [hn]; exact List.mem_range.1 he)
        simp [h5, this]
  · rw [hks2, List.length_append, List.length_set]; rfl
  · intro a b ha hb2
    rw [hT.eq a b ha hb2]
    refine and_congr_right fun _ => ?_
    rw [hn] at ha hb2
    have hY : ∀ (c : Nat) (l : Nat), c < G.n → l < G.kk → (c ∈ Sg.srcF G s bl (Sg.withC (Sg.cf (Sg.tn G.es) (hOf s x)) (o : Int) (x.ks.length : Int) (Sg.gAt (Sg.srcE G s bl) G.kk 0)) (o : Int) l ↔ (Sg.into (Sg.outG G) (fun t => s.O t = bl) (l : Int) c ∧ ¬ Sg.into (Sg.outG G) (fun t => hOf s x t = x.of bl ∧ ¬ s.O t = bl) (l : Int) c)) := fun c l hc hl => by
      unfold Sg.srcF
      rw [List.mem_filter, Sg.srcN_mem hr hn hc, hcf]
      refine and_congr_right fun _ => ?_
      rw [Bool.not_eq_true', decide_eq_false_iff_not]
      refine not_congr ?_
      unfold Sg.cf
      have h1 := Sg.into_cn (n := G.n) (es := G.es) (X := fun t => hOf s1 x1 t == (o : Int)) hc (l : Int)
      rw [show (0 : Int) < ((Sg.cn (Sg.tn G.es) (fun t => hOf s1 x1 t.toNat == (o : Int)) (c : Int) (l : Int) : Nat) : Int) ↔ 0 < Sg.cn (Sg.tn G.es) (fun t => hOf s1 x1 t.toNat == (o : Int)) (c : Int) (l : Int) by omega, ← h1]
      have hf : Sg.Fits G.n (Sg.outG G) := fun p hp z hz => by
        unfold Sg.outG Sy.rowOf at hz
        rw [if_pos ⟨by omega, by omega⟩] at hz
        have h2 := (right_parts hr).2.2.2.2.2 _ ((Sy.nf_mem _ _).1 (Sy.steps_mem.1 hz))
        simp only at h2
        exact ⟨h2.2.2.1, h2.2.2.2.1⟩
      refine Sg.into_congr hf (fun t ht => ?_) hc
      rw [hH2 t (by rw [hn]; exact ht), hofb]
      by_cases h5 : s.O t = bl
      · rw [if_pos h5]
        simp [h5]; omega
      · rw [if_neg h5]
        simp [h5]
    constructor
    · intro hQ X hX
      obtain ⟨l, hX⟩ := hX
      by_cases hl : 0 ≤ l ∧ l < (G.kk : Int)
      · obtain ⟨lN, rfl⟩ : ∃ lN : Nat, l = lN := ⟨l.toNat, by omega⟩
        have h1 := hQ lN (by omega)
        rcases hX with rfl | rfl
        · rw [← Sg.srcN_mem hr hn ha, ← Sg.srcN_mem hr hn hb2]; exact h1.1
        · have h2 := h1.2
          rw [hY a lN ha (by omega), hY b lN hb2 (by omega)] at h2
          exact h2
      · have hno : ∀ (Z : Nat → Prop) (c : Nat), c < G.n → ¬ Sg.into (Sg.outG G) Z l c := fun Z c hc ⟨z, hz, h1, _⟩ => by
          unfold Sg.outG Sy.rowOf at hz
          rw [if_pos ⟨by omega, by omega⟩] at hz
          have h2 := (right_parts hr).2.2.2.2.2 _ ((Sy.nf_mem _ _).1 (Sy.steps_mem.1 hz))
          simp only at h2
          omega
        rcases hX with rfl | rfl
        · exact ⟨fun h => absurd h (hno _ a ha), fun h => absurd h (hno _ b hb2)⟩
        · exact ⟨fun h => absurd h.1 (hno _ a ha), fun h => absurd h.1 (hno _ b hb2)⟩
    · intro h l hl
      refine ⟨?_, ?_⟩
      · rw [Sg.srcN_mem hr hn ha, Sg.srcN_mem hr hn hb2]
        exact h _ ⟨(l : Int), .inl rfl⟩
      · rw [hY a l ha hl, hY b l hb2 hl]
        exact h _ ⟨(l : Int), .inr rfl⟩
  · have h1 : Kept (fun b => b = p ∨ b = r ∨ b = mb ∨ x.foot b) w wc := (Kept.of_below hw1).trans2 hA.gw.kp fun b hb => .inl (hb.elim (fun e => .inr (.inl e)) fun e => .inr (.inr (.inr e)))
    refine (h1.trans (Kept.of_below hw2)).trans2 hT.kp fun b hb => ?_
    rcases hb with e | e | e | e | e
    · exact .inl (.inl e)
    · exact .inl (.inr (.inl e))
    · exact .inl (.inr (.inr (.inl e)))
    · rcases hA.gw.ft b e with h2 | h2
      · exact .inl (.inr (.inr (.inr h2)))
      · exact .inr (Nat.le_trans hw1.size h2)
    · exact .inr (hRb b e)
  · intro b hb2
    rcases hT.ft b hb2 with h1 | h1
    · rcases hA.gw.ft b h1 with h2 | h2
      · exact .inl h2
      · exact .inr (Nat.le_trans hw1.size h2)
    · exact .inr (Nat.le_trans hw1.size (Nat.le_trans hA.gw.kp.size (Nat.le_trans hw2.size h1)))
end
section
open Go.RowKit Go.Maps
structure TkGeo (w wb wc wd : World) (r p mb g1 o : Nat) (x x2 : Rv) (us : List Value) (E : Nat → List Int) (kk : Nat) : Prop where
  rows : ∀ (l : Nat) (u : Value) (b : Nat), us[l]? = some u → u.ownBlock = some b → (w.heap.size < b ∧ b < wb.heap.size) ∧ b ≠ g1
  ap : ∀ (i j : Nat) (u y : Value) (b : Nat), us[i]? = some u → us[j]? = some y → i ≠ j → u.ownBlock = some b → y.ownBlock ≠ some b
  fx : ∀ b, x2.foot b → b < w.heap.size ∨ (wb.heap.size ≤ b ∧ b < wc.heap.size)
  lo : p < w.heap.size ∧ r < w.heap.size ∧ mb < w.heap.size
  gl : w.heap.size < g1 ∧ g1 < wb.heap.size
  sz : w.heap.size < wb.heap.size ∧ wb.heap.size ≤ wc.heap.size ∧ wd.heap.size = wc.heap.size + 1
  rb : wd.cell? ⟨w.heap.size, 0, none⟩ = some (.pointer (some ⟨r, 0, none⟩))
  ob : wd.cell? ⟨wc.heap.size, 0, none⟩ = some (.int .i64 (o : Int))
  uc : ∀ (l : Nat) (u : Value), us[l]? = some u → wd.cell? ⟨g1, l, none⟩ = some u
def RowB (us : List Value) (b : Nat) : Prop := ∃ (l : Nat) (u : Value), us[l]? = some u ∧ u.ownBlock = some b
theorem TkGeo.box {w wb wc wd W : World} {r p mb g1 o kk : Nat} {x x2 : Rv} {us : List Value} {E : Nat → List Int} (h : TkGeo w wb wc wd r p mb g1 o x x2 us E kk) (hk : Kept (fun b => b = p ∨ b = r ∨ b = mb ∨ x2.foot b ∨ RowB us b) wd W) :
    W.cell? ⟨w.heap.size, 0, none⟩ = some (.pointer (some ⟨r, 0, none⟩)) ∧ W.cell? ⟨wc.heap.size, 0, none⟩ = some (.int .i64 (o : Int)) ∧ ∀ (l : Nat) (u : Value), us[l]? = some u → W.cell? ⟨g1, l, none⟩ = some u := by
  obtain ⟨l1, l2, l3⟩ := h.lo
  obtain ⟨s1, s2, s3⟩ := h.sz
  obtain ⟨g2, g3⟩ := h.gl
  have hne : ∀ b, (b = w.heap.size ∨ b = wc.heap.size ∨ b = g1) → ¬ (b = p ∨ b = r ∨ b = mb ∨ x2.foot b ∨ RowB us b) := fun b hb e => by
    rcases e with e | e | e | e | ⟨l, u, e1, e2⟩
    · omega
    · omega
    · omega
    · have := h.fx b e; omega
    · have := h.rows l u b e1 e2; omega
  exact ⟨kcell3 hk (hne _ (.inl rfl)) h.rb, kcell3 hk (hne _ (.inr (.inl rfl))) h.ob, fun l u hu => kcell3 hk (hne _ (.inr (.inr rfl))) (h.uc l u hu)⟩
theorem TkGeo.far {w0 w wb wc wd wr : World} {r g p mb g1 o kk : Nat} {s s1 : Pst} {x x2 x1 : Rv} {us : List Value} {E : Nat → List Int} {Q : Nat → Nat → Prop} (h : TkGeo w wb wc wd r p mb g1 o x x2 us E kk) (hT : TkS w0 wd wr r g p mb s s1 x2 x1 (RowB us) Q) {l : Nat} {u : Value} {b : Nat} (hu : us[l]? = some u) (hb : u.ownBlock = some b) : b ≠ p ∧ b ≠ r ∧ b ≠ mb ∧ ¬ x1.foot b ∧ b ≠ w.heap.size ∧ b ≠ wc.heap.size ∧ b < wd.heap.size := by
  obtain ⟨l1, l2, l3⟩ := h.lo
  obtain ⟨s1, s2, s3⟩ := h.sz
  have h1 := (h.rows l u b hu hb).1
  refine ⟨by omega, by omega, by omega, fun hf => ?_, by omega, by omega, by omega⟩
  rcases hT.ft b hf with h2 | h2
  · have := h.fx b h2; omega
  · omega
theorem take_geo {w0 w wa wb wc wd : World} {r g p mb nm bl o k g1 : Nat} {G : Gp} {s : Pst} {x x2 : Rv} {bs : List Int} {us : List Value} (hR : RunAt w0 w r g p mb nm G s x) (hsa : wa.heap.size = w.heap.size + 1) (ca : wa.cell? ⟨w.heap.size, 0, none⟩ = some (.pointer (some ⟨r, 0, none⟩))) (hA : Arr 57 wa wb g1 us) (hO : OutsI wb wa.heap.size us G.kk (Sg.srcE G s bl))
    (hL : LiftAt wb wc w0.heap.size r g p mb x x2 bl o k (s.mem bl).length bs) (hwd : wd = wc.alloc (.cells #[.int .i64 (o : Int)] 3)) : TkGeo w wb wc wd r p mb g1 o x x2 us (Sg.srcE G s bl) G.kk := by
  have hb1 := hA.bl
  have hsz1 := hb1.size
  have hsz2 := hL.gw.kp.size
  have hds : wd.heap.size = wc.heap.size + 1 := by rw [hwd]; simp
  have hbd : Below wc.heap.size wc wd := by rw [hwd]; exact (Below.refl _ _).alloc (Nat.le_refl _) _
  obtain ⟨c, hP, _⟩ := hR.c
  have hp : p < w.heap.size := Arr.lt hP
  have hr : r < w.heap.size := t_lt hR.m.box
  have hm : mb < w.heap.size := hR.cnt.lt
  have hg1 := hA.gu
  have hg2 := hA.lt
  obtain ⟨cs, hcs, hcl⟩ := hA.ids
  have hrow : ∀ (l : Nat) (u : Value), us[l]? = some u → ∃ zs, OwnI wb wa.heap.size u zs := fun l u hu => by
    obtain ⟨u', h1, h2⟩ := hO.row l (by have := (List.getElem?_eq_some_iff.1 hu).1; rw [hO.len] at this; exact this)
    rw [hu] at h1
    cases h1
    exact ⟨_, h2⟩
  have hxw : ∀ b, x.foot b → b < w.heap.size := fun b hb => (hR.m.foot_lt hb).2
  have hxl : ∀ b, (b = r ∨ x.foot b) → b < w.heap.size := fun b hb => hb.elim (fun e => by omega) (hxw b)
  refine ⟨fun l u b hu hb => ?_, hO.ap, fun b hb => ?_, ⟨hp, hr, hm⟩, ⟨by omega, hg2⟩, ⟨by omega, hsz2, hds⟩, ?_, ?_, fun l u hu => ?_⟩
  · obtain ⟨zs, h1⟩ := hrow l u hu
    have h2 := h1.lt b hb
    exact ⟨⟨by omega, h2.2⟩, fun e => own_bk h1 hcs (by decide) (by rw [← e]; exact hb)⟩
  · rcases hL.gw.ft b hb with h1 | h1
    · exact .inl (hxw b h1)
    · exact .inr ⟨h1, (hL.m.foot_lt hb).2⟩
  · exact cell_up (kcell3 hL.gw.kp (fun e => by have := hxl _ e; omega) (cell_up ca hb1)) hbd
  · rw [hwd]; exact cell0_of (heap_alloc_new wc _) rfl
  · have h1 : wb.cell? ⟨g1, l, none⟩ = some u := hA.cell hu
    exact cell_up (kcell3 hL.gw.kp (fun e => by have := hxl _ e; omega) h1) hbd
theorem take_start {w0 w wa wb wc wd : World} {r g p mb nm bl o k g1 : Nat} {G : Gp} {s : Pst} {x x2 : Rv} {bs : List Int} {us : List Value} {F : Int → Int → Int → Int} (hR : RunAt w0 w r g p mb nm G s x) (hb : bl < s.nb) (how : x.ow[bl]? = some (o : Int)) (hH : (x.H.map (·.2))[o]? = some bs) (ha : Below w.heap.size w wa) (hA : Arr 57 wa wb g1 us) (hO : OutsI wb wa.heap.size us G.kk (Sg.srcE G s bl))
    (hL : LiftAt wb wc w0.heap.size r g p mb x x2 bl o k (s.mem bl).length bs) (hwd : Below wc.heap.size wc wd) :
    TkS w0 wd wd r g p mb s s x2 x2 (RowB us) (Sg.Qj G s bl F (o : Int) 0) ∧ RowsF wd wa.heap.size us 0 G.kk (Sg.srcE G s bl) ∧ Cnt wd mb nm (Sg.withC (Sg.cf (Sg.tn G.es) (hOf s x)) (o : Int) (x.ks.length : Int) (Sg.gAt (Sg.srcE G s bl) 0 0)) := by
  have hab : Below w.heap.size w wb := ha.trans (hA.bl.mono ha.size)
  have hlo := hR.up.size
  obtain ⟨c, hP, hLy⟩ := hR.c
  have hRb := hR.below hab
  obtain ⟨c', hP', hLy'⟩ := hRb.c
  have hpf := hRb.m.p_foot hP'
  have hmf := hRb.m.mb_foot hRb.cnt
  have hFr : ∀ b, (b = r ∨ x.foot b) → w0.heap.size ≤ b := fun b hb => hb.elim (fun e => by rw [e]; exact hR.m.up) fun e => (hR.m.foot_lt e).1
  refine ⟨⟨hL.m.below hwd, ⟨c', (hP'.kept hL.gw.kp fun b hb2 => ⟨hFr b hb2, fun e => ?_⟩).below hwd, hLy'⟩, hR.ok, hR.bare, rfl, RunI.lift hL hR.i hb how hH, fun e _ => rfl, rfl, fun a b _ _ => ⟨fun h => ⟨h, fun l hl => absurd hl (Nat.not_lt_zero _)⟩, fun h => h.1⟩, Kept.refl _ _, fun b hb2 => .inl hb2⟩, fun l _ hl => ?_, ?_⟩
  · rw [e] at hb2
    exact hb2.elim (fun e2 => hpf.2 e2) hpf.1
  · obtain ⟨u, h1, h2⟩ := hO.row l hl
    refine ⟨u, h1, trow_at (own_up h2 hL.gw.kp fun b hb2 e => ?_) fun b hb2 => hwd.block b ?_⟩
    · have h3 := (h2.lt b hb2).1
      rcases e with e | e
      · have := t_lt hR.m.box; have := ha.size; omega
      · have := (hR.m.foot_lt e).2; have := ha.size; omega
    · have := (h2.lt b hb2).2
      have := hL.gw.kp.size
      omega
  · refine ((hRb.cnt.kept hL.gw.kp fun e => ?_).below hwd).congr fun p b q => (Sg.withC_none _ _ _ _ p b q).symm
    exact e.elim (fun e2 => hmf.2 e2) hmf.1
end
end Go.Proofs.YthcpliinddjkhaaGreatDoor
