/- Texts of this claim, joined: PlayLk2, PlayAdd. -/
import Derived.Test.YthcboklkejlifaaGreatDoorPart13
/- Contract of the pair's looks. -/
namespace Go.Proofs.YthcboklkejlifaaGreatDoor
open Go.RowKit Go.Maps
attribute [local go_sem ↓] Go.wp_at_zero Go.wp_at_succ
theorem PSE.this {w0 wr : World} {g bk : Nat} {who : Bool} {b : Nat} {vn vm v : Value} {ns : List ByteArray} {b' : Nat} {vn' vm' v' : Value} {ns' : List ByteArray} (h : PSE w0 wr g bk who b vn vm v ns b' vn' vm' v' ns') : (wr.cell? ⟨g, oW who, none⟩ = some (pB b) ∧ wr.cell? ⟨g, oW who + 1, none⟩ = some v ∧ wr.cell? ⟨g, oW who + 2, none⟩ = some (pB bk)) ∧ Tab wr b vn vm ns ∧ BTexts.Own wr 0 v ns ∧ Named ns ∧ Below w0.heap.size w0 wr := by
  obtain ⟨vi, vw, ls, ws, zss, h⟩ := h
  exact ⟨cells_this h.arr, h.t, h.r, h.nm, h.bl⟩
theorem own_texts {w : World} {B : Nat} {v : Value} {ns : List ByteArray} (h : w.ownsRow B 9 1 v ns.length (ns.map Value.string)) : BTexts.Own w B v ns := by
  have e : ns.map Value.string = BTexts.C ns := by
    clear h
    induction ns with
    | nil => rfl
    | cons x r ih =>
      have e1 : BTexts.C (x :: r) = [Value.string x] ++ BTexts.C r := by unfold BTexts.C; rw [List.flatMap_cons]; rfl
      rw [e1, List.map_cons, ih]
      rfl
  rw [e] at h
  exact h
set_option maxRecDepth 100000 in
set_option maxHeartbeats 4000000 in
theorem looks_any (w0 wr : World) (g bk : Nat) (who : Bool) (b : Nat) (vn vm v : Value) (ns : List ByteArray) (b' : Nat) (vn' vm' v' : Value) (ns' : List ByteArray) (h : PSE w0 wr g bk who b vn vm v ns b' vn' vm' v' ns') :
    Calls Tryz.prog 80 #[.pointer (some ⟨g, oW who, none⟩)] wr fun r w' => r = .returned (.bool true) ∧ PSE w0 w' g bk who b vn vm v ns b' vn' vm' v' ns' := by
  obtain ⟨⟨c0, c1, c2⟩, hT, hR, _, _⟩ := h.this
  obtain ⟨ar, kr, rfl⟩ := row_shape hR
  have hlen := hT.len
  have hN := names_any b vn vm ns wr hT
  have HP : Hid (PSE w0 wr g bk who b vn vm (.slice ar ns.length kr) ns b' vn' vm' v' ns') := h
  have HN : Hid _ := hN
  obtain ⟨o, ho⟩ : ∃ o, o = oW who := ⟨_, rfl⟩
  rw [← ho] at c0 c1 c2 ⊢
  have Ho : Hid (o = oW who) := ho
  clear ho
  unfold pB at c0 c2
  clear h hT hR hN
  go_enter Tryz.func80, Tryz.ntmps80
  go_wp2_with fail
  refine Calls.mono HN.out ?_
  rintro r w1 ⟨l, rfl, hO, hb1⟩
  have c2' := cell_up c2 hb1
  have hTx := HP.out.texts l ns w1 hb1 (own_texts hO) (by omega)
  obtain ⟨al, kl, rfl⟩ := row_shape hO
  unfold pB at hTx
  have H1 : Hid _ := hTx
  clear hO hb1 hTx c2 c0 c1
  go_wp2_with fail
  refine Calls.mono H1.out ?_
  rintro r w2 ⟨rfl, hP2, hL2⟩
  obtain ⟨⟨c0, c1, _⟩, hT2, hR2, _, _⟩ := hP2.this
  rw [← Ho.out] at c0 c1
  unfold pB at c0
  have hSm := fun W (hb : Below w2.heap.size w2 W) => BTexts.same_b (.slice al ns.length kl) (.slice ar ns.length kr) ns W (by omega) (hL2.below hb) ((BTexts.Own.has hR2).below hb)
  have hSz := fun W (hb : Below w2.heap.size w2 W) => size_any b vn vm ns W (hT2.below hb)
  obtain ⟨n, hn⟩ : ∃ n, n = ns.length := ⟨_, rfl⟩
  rw [← hn] at hSm hSz c1 ⊢
  have HS : Hid _ := And.intro hSm (And.intro hSz hP2)
  clear hSm hSz hP2 hT2 hR2 hL2 H1 c2' hn HP HN
  go_wp2_with fail
  go_region_held3 (fun w' => w'.cell? ⟨g, o, none⟩ = some (.pointer (some ⟨b, 0, none⟩)) ∧ w'.cell? ⟨g, o + 1, none⟩ = some (.slice ar n kr)) (go_keep)
    ((first
      | (go_at_call 88; refine (HS.out.1 _ (by repeat (first | exact Below.refl _ _ | assumption | refine Below.drew ?_ | refine Below.setCell ?_ (by simp) _ | refine Below.alloc ?_ (by simp) _))).mono ?_; rintro r8 w8 ⟨rfl, hb8'⟩; have hb8 := below_of_drew3 hb8'; have c0 := cell_up c0 hb8; have c1 := cell_up c1 hb8; clear hb8')
      | (go_at_call 122; refine (HS.out.2.1 _ (by repeat (first | exact Below.refl _ _ | assumption | refine Below.drew ?_ | refine Below.setCell ?_ (by simp) _ | refine Below.alloc ?_ (by simp) _))).mono ?_; rintro r9 w9 ⟨rfl, hw9⟩; obtain rfl := hw9.symm; clear hw9)
      | fail))
  all_goals
    (try go_simp)
    go_wp2_with fail
    go_ret
    exact ⟨rfl, HS.out.2.2.below (by first | exact hb8 | exact below_drewN hb8 _)⟩
end Go.Proofs.YthcboklkejlifaaGreatDoor
/- Add of a table and of the document's beside each other. -/
namespace Go.Proofs.YthcboklkejlifaaGreatDoor
open Go.RowKit Go.Maps
/-- An error value that the document tells by this code. -/
def ErrIs (w : World) (e : Nat → Addr) (ev : Value) (c : Nat) : Prop := (c = 0 ∧ ev = .nilIface) ∨ ((c = 2 ∨ c = 3 ∨ c = 4 ∨ c = 8 ∨ c = 9) ∧ ∃ bf, ev = faultV bf ∧ ActFault w bf (errV (e c)))
theorem ErrIs.below {w w' : World} {e : Nat → Addr} {ev : Value} {c : Nat} (h : ErrIs w e ev c) (hb : Below w.heap.size w w') : ErrIs w' e ev c := by
  rcases h with h | ⟨h1, bf, h2, h3⟩
  · exact .inl h
  · exact .inr ⟨h1, bf, h2, (hb.block _ (tab_lt h3)).trans h3⟩
theorem ErrIs.form {w : World} {e : Nat → Addr} {ev : Value} {c : Nat} (h : ErrIs w e ev c) : ev = .nilIface ∨ ∃ bf, ev = faultV bf := by
  rcases h with h | ⟨_, bf, h2, _⟩
  · exact .inl h.2
  · exact .inr ⟨bf, h2⟩
theorem told_is (ev : Value) (c : Nat) (e : Nat → Addr) (w : World) (hE : Nn w e) (h : ErrIs w e ev c) :
    Calls Tryz.prog 114 #[ev, .int .i64 c] w fun r w' => r = .returned (.bool true) ∧ Below w.heap.size w w' := by
  rcases h with ⟨rfl, rfl⟩ | ⟨h1, bf, rfl, h3⟩
  · refine (told2_nil w).mono ?_
    rintro r w' ⟨rfl, rfl⟩
    exact ⟨rfl, Below.refl _ _⟩
  · rcases h1 with rfl | rfl | rfl | rfl | rfl
    · exact told2_2 bf e w hE h3
    · exact told2_3 bf e w hE h3
    · exact told2_4 bf e w hE h3
    · exact told2_8 bf e w hE h3
    · exact told2_9 bf e w hE h3
/-- What Add comes to: the number, the code, the names behind it. -/
inductive Out (ns : List ByteArray) (s : ByteArray) : Nat → Nat → List ByteArray → Prop
  | tau (h : s = tauB) : Out ns s 0 9 ns
  | word (h : s ≠ tauB) (h1 : Lx.nameZ true s = false) : Out ns s 0 4 ns
  | there (i : Nat) (h : s ≠ tauB) (h1 : Lx.nameZ true s = true) (hi : ns[i]? = some s) (hf : ∀ j, j < i → ns[j]? ≠ some s) : Out ns s i 0 ns
  | full (h : s ≠ tauB) (h1 : Lx.nameZ true s = true) (hi : s ∉ ns) (hl : 100 ≤ ns.length) : Out ns s 0 2 ns
  | new (h : s ≠ tauB) (h1 : Lx.nameZ true s = true) (hi : s ∉ ns) (hl : ns.length < 100) : Out ns s ns.length 0 (ns ++ [s])
theorem first_of {ns : List ByteArray} {s : ByteArray} (h : s ∈ ns) : ∃ i : Nat, ns[i]? = some s ∧ ∀ j : Nat, j < i → ns[j]? ≠ some s := by
  induction ns with
  | nil => simp at h
  | cons x r ih =>
    by_cases hx : x = s
    · exact ⟨0, by simp [hx], fun j hj => by omega⟩
    · have hr : s ∈ r := by
        rcases List.mem_cons.1 h with e | e
        · exact absurd e.symm hx
        · exact e
      obtain ⟨i, h1, h2⟩ := ih hr
      refine ⟨i + 1, by simpa using h1, fun j hj => ?_⟩
      cases j with
      | zero => simpa using hx
      | succ j => simpa using h2 j (by omega)
theorem out_exists (ns : List ByteArray) (s : ByteArray) : ∃ k c ns2, Out ns s k c ns2 := by
  by_cases h : s = tauB
  · exact ⟨_, _, _, .tau h⟩
  cases h1 : Lx.nameZ true s with
  | false => exact ⟨_, _, _, .word h h1⟩
  | true =>
    by_cases hi : s ∈ ns
    · obtain ⟨i, h2, h3⟩ := first_of hi
      exact ⟨_, _, _, .there i h h1 h2 h3⟩
    · rcases Nat.lt_or_ge ns.length 100 with hl | hl
      · exact ⟨_, _, _, .new h h1 hi hl⟩
      · exact ⟨_, _, _, .full h h1 hi hl⟩
theorem Out.named {ns ns2 : List ByteArray} {s : ByteArray} {k c : Nat} (h : Out ns s k c ns2) (hn : Named ns) : Named ns2 := by
  cases h with
  | new h h1 hi hl => exact named_new hn h h1
  | _ => exact hn
theorem add_out (b : Nat) (vn vm : Value) (ns ns2 : List ByteArray) (s : ByteArray) (k c : Nat) (e : Nat → Addr) (w : World) (h : Out ns s k c ns2) (hT : Tab w b vn vm ns) (hE : Nn w e) (hs : s.size ≤ maxLen) :
    Calls Tryz.prog 108 #[.pointer (some ⟨b, 0, none⟩), .string s] w fun r w' => ∃ ev, r = .returned (.tuple #[.int .i64 k, ev]) ∧ ErrIs w' e ev c ∧ ∃ vn2 vm2, Tab w' b vn2 vm2 ns2 ∧ Keeps (Foot b vn vm) w w' ∧ (∀ i, Foot b vn2 vm2 i → Foot b vn vm i ∨ w.heap.size ≤ i) := by
  cases h with
  | tau h =>
    subst h
    refine (add_tau b _ _ w hE.S.1).mono ?_
    rintro r w' ⟨rfl, hF, hb⟩
    exact ⟨_, rfl, .inr ⟨by simp, _, rfl, hF⟩, vn, vm, hT.below hb, Keeps.of_below hb, fun i hi => .inl hi⟩
  | word h h1 =>
    refine (add_word b s _ _ w hs h h1 hE.W.1).mono ?_
    rintro r w' ⟨rfl, hF, hb⟩
    exact ⟨_, rfl, .inr ⟨by simp, _, rfl, hF⟩, vn, vm, hT.below hb, Keeps.of_below hb, fun i hi => .inl hi⟩
  | there i h h1 hi hf =>
    refine (add_yes b vn vm ns s _ _ w hT hi h h1 hE.U.1).mono ?_
    rintro r w' ⟨rfl, rfl⟩
    exact ⟨_, rfl, .inl ⟨rfl, rfl⟩, vn, vm, hT, Keeps.refl _ _, fun i hi => .inl hi⟩
  | full h h1 hi hl =>
    refine (add_full b vn vm ns s _ _ _ w hT hi h h1 (nameZ_le h1) hl hE.U.1 hE.L.1).mono ?_
    rintro r w' ⟨bF, rfl, hF, hb⟩
    exact ⟨_, rfl, .inr ⟨by simp, _, rfl, hF⟩, vn, vm, hT.below hb, Keeps.of_below hb, fun i hi => .inl hi⟩
  | new h h1 hi hl =>
    refine (add_new b vn vm ns s _ w hT hi h h1 (nameZ_le h1) hl hE.U.1).mono ?_
    rintro r w' ⟨rfl, vn2, vm2, h2, h3, h4⟩
    exact ⟨_, rfl, .inl ⟨rfl, rfl⟩, vn2, vm2, h2, h3, h4⟩
theorem rAdd_out (v : Value) (ns ns2 : List ByteArray) (s : ByteArray) (k c : Nat) (w : World) (h : Out ns s k c ns2) (hR : BTexts.Own w 0 v ns) (hl : ns.length ≤ 100) (hs : s.size ≤ maxLen) :
    Calls Tryz.prog 113 #[.agg #[v], .string s] w fun r w' => ∃ v2, r = .returned (radd v2 k c) ∧ ((v2 = v ∧ ns2 = ns) ∨ BTexts.Own w' w.heap.size v2 ns2) ∧ Below w.heap.size w w' := by
  obtain ⟨ao, cap, hv⟩ := row_shape hR
  cases h with
  | tau h =>
    subst h; subst hv
    refine (rAdd_tau ao _ cap w).mono ?_
    rintro r w' ⟨rfl, hb⟩
    exact ⟨_, rfl, .inl ⟨rfl, rfl⟩, hb⟩
  | word h h1 =>
    subst hv
    refine (rAdd_word ao _ cap s w hs h h1).mono ?_
    rintro r w' ⟨rfl, hb⟩
    exact ⟨_, rfl, .inl ⟨rfl, rfl⟩, hb⟩
  | there i h h1 hi hf =>
    refine (rAdd_there v ns s _ w (BTexts.Own.has hR) (by omega) hs h h1 hi hf).mono ?_
    rintro r w' ⟨rfl, hb⟩
    exact ⟨_, rfl, .inl ⟨rfl, rfl⟩, hb⟩
  | full h h1 hi hl2 =>
    refine (rAdd_full v ns s w (BTexts.Own.has hR) (by omega) hs h h1 hi hl2).mono ?_
    rintro r w' ⟨rfl, hb⟩
    exact ⟨_, rfl, .inl ⟨rfl, rfl⟩, hb⟩
  | new h h1 hi hl2 =>
    refine (rAdd_new v ns s w (BTexts.Own.has hR) hs h h1 hi hl2).mono ?_
    rintro r w' ⟨v2, rfl, hO, hb⟩
    exact ⟨v2, rfl, .inr hO, hb⟩
theorem cells_set (who : Bool) (b : Nat) (v : Value) (bk b' : Nat) (v' v2 : Value) : (cellsOf who b v bk b' v').setIfInBounds (oW who + 1) v2 = cellsOf who b v2 bk b' v' := by cases who <;> rfl
/-- Both have taken the name. -/
theorem PS.added {w0 wr w1 w2 : World} {g bk : Nat} {who : Bool} {b : Nat} {vn vm v : Value} {ns : List ByteArray} {b' : Nat} {vn' vm' v' : Value} {ns' : List ByteArray} {vi vw : Value} {ls ws : List Value} {zss : List (List ByteArray)} (h : PS w0 wr g bk who b vn vm v ns b' vn' vm' v' ns' vi vw ls ws zss) {vn2 vm2 v2 : Value} {ns2 : List ByteArray} (hT : Tab w1 b vn2 vm2 ns2) (hK : Keeps (Foot b vn vm) wr w1) (hf : ∀ i, Foot b vn2 vm2 i → Foot b vn vm i ∨ wr.heap.size ≤ i) (hb : Below w1.heap.size w1 w2) (hv : (v2 = v ∧ ns2 = ns) ∨ BTexts.Own w2 w1.heap.size v2 ns2) (hn : Named ns2) :
    PS w0 (w2.setCell ⟨g, oW who + 1, none⟩ v2) g bk who b vn2 vm2 v2 ns2 b' vn' vm' v' ns' vi vw ls ws zss := by
  have hg : ¬ Foot b vn vm g := fun hi => by rcases foot_typed h.t hi h.arr with e | e <;> exact absurd e (by decide)
  have hg' : ¬ Foot b' vn' vm' g := fun hi => by rcases foot_typed h.t' hi h.arr with e | e <;> exact absurd e (by decide)
  obtain ⟨cs, hcs, _⟩ := h.bs.bt
  have hbk : ¬ Foot b vn vm bk := fun hi => by rcases foot_typed h.t hi hcs with e | e <;> exact absurd e (by decide)
  have hgbk : bk ≠ g := fun e => by
    subst e
    have ha := h.arr
    rw [hcs] at ha
    injection ha with e
    injection e with _ e
    exact absurd e (by decide)
  have hs1 := hK.size
  have hs2 := hb.size
  have a1 : w1.heap[g]? = some (.cells (cellsOf who b v bk b' v') 105 (0, 0)) := (hK.block g (t_lt h.arr) hg).trans h.arr
  have a2 := (hb.block g (t_lt a1)).trans a1
  have a3 : (w2.setCell ⟨g, oW who + 1, none⟩ v2).heap[g]? = some (.cells (cellsOf who b v2 bk b' v') 105 (0, 0)) := by
    have h9 := heap_setCell_same w2 g (oW who + 1) _ _ v2 a2
    rw [cells_set] at h9
    exact h9
  have hset : ∀ i, i ≠ g → (w2.setCell ⟨g, oW who + 1, none⟩ v2).heap[i]? = w2.heap[i]? := fun i hi => set_other _ _ _ _ _ hi
  have kW : Kept (fun i => Foot b vn vm i ∨ i = g) wr (w2.setCell ⟨g, oW who + 1, none⟩ v2) := (((kept_of_keeps hK).trans (Kept.of_below hb)).mono fun i _ hi => .inl hi).trans ((Kept.setCell w2 g _ v2).mono fun i _ hi => .inr hi)
  have hg2 : ¬ Foot b vn2 vm2 g := fun hi => by
    rcases hf g hi with e | e
    · exact hg e
    · have := t_lt h.arr; omega
  have hown : ∀ {x : Value} {zs : List ByteArray}, BTexts.Own wr 0 x zs → (∀ i, x.ownBlock = some i → ¬ Foot b vn vm i) → BTexts.Own (w2.setCell ⟨g, oW who + 1, none⟩ v2) 0 x zs := fun ho hx => own_up ho kW fun i hi hF => by
    rcases hF with hF | rfl
    · exact hx i hi hF
    · exact own_bk ho h.arr (by decide) hi
  have hls : ∀ i, LsF ls i → i < wr.heap.size := fun i hi => BTexts.Bp.lsf_lt h.bs.p hi
  have hws : ∀ i, LsF ws i → i < wr.heap.size := fun i ⟨x, hx, hxi⟩ => by
    obtain ⟨q, hq, rfl⟩ := List.getElem_of_mem hx
    have hwl : ws.length = zss.length := by have := h.bs.rw.1; rw [Nat.mul_one] at this; exact this
    exact ((h.bs.lw q _ _ (List.getElem?_eq_getElem hq) (List.getElem?_eq_getElem (by omega))).lt i hxi).2
  have hrv : ∀ i, v2.ownBlock = some i → v.ownBlock = some i ∨ w1.heap.size ≤ i := fun i hi => by
    rcases hv with ⟨rfl, _⟩ | hO
    · exact .inl hi
    · exact .inr (hO.lt i hi).1
  refine ⟨a3, hT.at fun i hi => (hset i fun e => hg2 (e ▸ hi)).trans (hb.block i (hT.foot_lt hi)), h.t'.at fun i hi => kW.block i (h.t'.foot_lt hi) fun hF => ?_, ?_, hown h.r' fun i hi hF => h.s i hF (.inr (.inr (.inr hi))), ?_, h.ot.kept kW (fun hF => hF.elim hbk hgbk), fun i hi hj => ?_, fun i hi hS => ?_, fun i hi hS => ?_, hn, h.nm', fun i hi => ?_, h.bl.trans (kW.below h.bl.size fun i hi => h.lo i (hi.elim .inl fun e => .inr (.inr (.inl e))))⟩
  · rcases hF with hF | rfl
    · exact h.d i hF hi
    · exact hg' hi
  · rcases hv with ⟨rfl, rfl⟩ | hO
    · exact hown h.r fun i hi hF => h.s i hF (.inr (.inr (.inl hi)))
    · have h1 : BTexts.Own w2 0 v2 ns2 := row_base hO (Nat.zero_le _)
      exact trow_at h1 fun i hi => hset i fun e => own_bk h1 a2 (by decide) (e ▸ hi)
  · refine bs_keep h.bs kW (fun hF => hF.elim hbk hgbk) (fun i hi hF => ?_) (fun i hi hF => ?_) (fun i hi hF => ?_) (fun i hi hF => ?_)
    · rcases hF with hF | rfl
      · exact foot_row h.t h.bs.p.ri (by decide) (by decide) hi hF
      · exact own_bk h.bs.p.ri h.arr (by decide) hi
    · rcases hF with hF | rfl
      · exact foot_row h.t h.bs.rw (by decide) (by decide) hi hF
      · exact own_bk h.bs.rw h.arr (by decide) hi
    · rcases hF with hF | rfl
      · exact h.s i hF (.inl hi)
      · obtain ⟨_, _, _, _, ho, hob⟩ := BTexts.Bp.typed h.bs.p hi; exact own_bk ho h.arr (by decide) hob
    · rcases hF with hF | rfl
      · exact h.s i hF (.inr (.inl hi))
      · obtain ⟨x, hx, hxi⟩ := hi
        obtain ⟨q, hq, rfl⟩ := List.getElem_of_mem hx
        have hwl : ws.length = zss.length := by have := h.bs.rw.1; rw [Nat.mul_one] at this; exact this
        exact own_bk (h.bs.lw q _ _ (List.getElem?_eq_getElem hq) (List.getElem?_eq_getElem (by omega))) h.arr (by decide) hxi
  · rcases hf i hi with e | e
    · exact h.d i e hj
    · have := h.t'.foot_lt hj; omega
  · have hlt := hT.foot_lt hi
    rcases hf i hi with e | e
    · rcases hS with hS | hS | hS | hS
      · exact h.s i e (.inl hS)
      · exact h.s i e (.inr (.inl hS))
      · rcases hrv i hS with e2 | e2
        · exact h.s i e (.inr (.inr (.inl e2)))
        · omega
      · exact h.s i e (.inr (.inr (.inr hS)))
    · rcases hS with hS | hS | hS | hS
      · have := hls i hS; omega
      · have := hws i hS; omega
      · rcases hrv i hS with e2 | e2
        · have := (h.r.lt i e2).2; omega
        · omega
      · have := (h.r'.lt i hS).2; omega
  · have hlt := h.t'.foot_lt hi
    rcases hS with hS | hS | hS | hS
    · exact h.s' i hi (.inl hS)
    · exact h.s' i hi (.inr (.inl hS))
    · rcases hrv i hS with e2 | e2
      · exact h.s' i hi (.inr (.inr (.inl e2)))
      · omega
    · exact h.s' i hi (.inr (.inr (.inr hS)))
  · rcases hi with hi | hi
    · rcases hf i hi with e | e
      · exact h.lo i (.inl e)
      · have := h.bl.size; omega
    · exact h.lo i (.inr hi)
end Go.Proofs.YthcboklkejlifaaGreatDoor
