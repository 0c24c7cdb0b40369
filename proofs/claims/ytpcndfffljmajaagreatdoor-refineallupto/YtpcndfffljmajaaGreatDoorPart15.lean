/- Texts of this claim, joined: RfStep, RfPl0, RfPlaa, RfPlab. -/
import Derived.Test.YtpcndfffljmajaaGreatDoorPart12
import Derived.Test.YtpcndfffljmajaaGreatDoorPart13
import Derived.Test.YtpcndfffljmajaaGreatDoorPart14
import Derived.Test.YtpcndfffljmajaaGreatDoorPart3
/- Chapter 8's law: a pair's step, whatever it is. -/
namespace Go.Proofs.YtpcndfffljmajaaGreatDoor
open Go.RowKit Go.Maps
theorem step_any8 (wB w0 : World) (g g' : Nat) (e : Nat → Addr) (kz z : Int) (h : PE wB w0 g g') (hE : Er 19 wB e) (hR : EnvR wB (e 1) (e 3)) :
    Calls Tryz.prog 13 #[.pointer (some ⟨g, 0, none⟩), .agg #[.int .i64 kz, .int .i64 z]] w0 fun r w' => r = .returned (.bool true) ∧ PE wB w' g g' := by
  obtain ⟨pb, bB, bM, vB, vM, s, pb', bB', bM', vB', vM', s', h⟩ := h
  by_cases hz : z < 0
  · by_cases k1 : kz = 1
    · subst k1; exact step1_neg wB w0 g pb bB bM vB vM s g' pb' bB' bM' vB' vM' s' e z hz h hE hR
    by_cases k2 : kz = 2
    · subst k2; exact step2_neg wB w0 g pb bB bM vB vM s g' pb' bB' bM' vB' vM' s' e z hz h hE hR
    by_cases k3 : kz = 3
    · subst k3; exact step3_neg wB w0 g pb bB bM vB vM s g' pb' bB' bM' vB' vM' s' e z hz h hE hR
    by_cases k4 : kz = 4
    · subst k4; exact step4_neg wB w0 g pb bB bM vB vM s g' pb' bB' bM' vB' vM' s' e z hz h hE hR
    by_cases k5 : kz = 5
    · subst k5; exact step5_neg wB w0 g pb bB bM vB vM s g' pb' bB' bM' vB' vM' s' e z hz h hE hR
    exact step6_neg wB w0 g pb bB bM vB vM s g' pb' bB' bM' vB' vM' s' e kz z k1 k2 k3 k4 k5 hz h hE hR
  · obtain ⟨y, rfl⟩ : ∃ y : Nat, z = y := ⟨z.toNat, by omega⟩
    by_cases k1 : kz = 1
    · subst k1
      by_cases q : y < s.n
      · exact step1_is wB w0 g pb bB bM vB vM s g' pb' bB' bM' vB' vM' s' e y q h hE hR
      · exact step1_isnt wB w0 g pb bB bM vB vM s g' pb' bB' bM' vB' vM' s' e y (by omega) h hE hR
    by_cases k2 : kz = 2
    · subst k2
      by_cases q : y < s.nb
      · exact step2_has wB w0 g pb bB bM vB vM s g' pb' bB' bM' vB' vM' s' e y q h hE hR
      · exact step2_hasnt wB w0 g pb bB bM vB vM s g' pb' bB' bM' vB' vM' s' e y (by omega) h hE hR
    by_cases k3 : kz = 3
    · subst k3
      by_cases q : y < s.n
      · exact step3_is wB w0 g pb bB bM vB vM s g' pb' bB' bM' vB' vM' s' e y q h hE hR
      · exact step3_isnt wB w0 g pb bB bM vB vM s g' pb' bB' bM' vB' vM' s' e y (by omega) h hE hR
    by_cases k4 : kz = 4
    · subst k4
      by_cases q : y < s.nb
      · exact step4_has wB w0 g pb bB bM vB vM s g' pb' bB' bM' vB' vM' s' e y q h hE hR
      · exact step4_hasnt wB w0 g pb bB bM vB vM s g' pb' bB' bM' vB' vM' s' e y (by omega) h hE hR
    by_cases k5 : kz = 5
    · subst k5
      by_cases q : y < s.nb
      · exact step5_has wB w0 g pb bB bM vB vM s g' pb' bB' bM' vB' vM' s' e y q h hE hR
      · exact step5_hasnt wB w0 g pb bB bM vB vM s g' pb' bB' bM' vB' vM' s' e y (by omega) h hE hR
    exact step6_pos wB w0 g pb bB bM vB vM s g' pb' bB' bM' vB' vM' s' e kz y k1 k2 k3 k4 k5 (by omega) h hE hR
theorem looks_pe {wB w0 : World} {g g' : Nat} (h : PE wB w0 g g') : Calls Tryz.prog 14 #[.pointer (some ⟨g, 0, none⟩)] w0 fun r w' => r = .returned (.bool true) ∧ PE wB w' g g' := by
  obtain ⟨pb, bB, bM, vB, vM, s, pb', bB', bM', vB', vM', s', h⟩ := h
  refine (looks_any wB w0 g pb bB bM vB vM s g' pb' bB' bM' vB' vM' s' h).mono ?_
  rintro r w' ⟨rfl, hP⟩
  exact ⟨rfl, hP.pe⟩
theorem PE.apart {wB w0 : World} {g g' : Nat} (h : PE wB w0 g g') : Calls Tryz.prog 15 #[.pointer (some ⟨wB.heap.size, 0, none⟩)] w0 fun r w' => r = .returned (.bool true) ∧ Below wB.heap.size wB w' := by
  obtain ⟨pb, bB, bM, vB, vM, s, pb', bB', bM', vB', vM', s', h⟩ := h
  exact h.bk.apart
end Go.Proofs.YtpcndfffljmajaaGreatDoor
/- Chapter 8's law: the two pairs at the start of a play. -/
namespace Go.Proofs.YtpcndfffljmajaaGreatDoor
open Go.RowKit Go.Maps
theorem bel_step' {w wB W : World} (hb : Below wB.heap.size wB W) (h : Below w.heap.size w wB) : Below w.heap.size w W := h.trans (hb.mono h.size)
theorem Rw.kept {F : Nat → Prop} {wr w' : World} {B bB bM : Nat} {vB vM : Value} {N : Nat} {O : Nat → Nat} {bs : Nat → Bool} (h : Rw wr B bB bM vB vM N O bs) (hk : Kept F wr w') (h1 : 0 < N → ¬ F bB) (h2 : 0 < N → ¬ F bM) : Rw w' B bB bM vB vM N O bs :=
  ⟨h.sB, h.sM, fun e he => ⟨cellk (h.rB e he).1 hk (h1 (by omega)), frz_kept (h.rB e he).1 (h.rB e he).2 hk (h1 (by omega))⟩, fun e he => ⟨cellk (h.rM e he).1 hk (h2 (by omega)), frz_kept (h.rM e he).1 (h.rM e he).2 hk (h2 (by omega))⟩, h.n1, h.l1, h.l2, fun hN => by obtain ⟨cs, hc⟩ := h.tB hN; exact ⟨cs, (hk.block bB (t_lt hc) (h1 hN)).trans hc⟩, fun hN => by obtain ⟨cs, hc⟩ := h.tM hN; exact ⟨cs, (hk.block bM (t_lt hc) (h2 hN)).trans hc⟩⟩
theorem Rw.below {wr w' : World} {B bB bM : Nat} {vB vM : Value} {N : Nat} {O : Nat → Nat} {bs : Nat → Bool} (h : Rw wr B bB bM vB vM N O bs) (hb : Below wr.heap.size wr w') : Rw w' B bB bM vB vM N O bs := h.kept (F := fun _ => False) (Kept.of_below hb) (fun _ h => h) (fun _ h => h)
theorem Rw.congr {wr : World} {B bB bM : Nat} {vB vM : Value} {N : Nat} {O O' : Nat → Nat} {bs bs' : Nat → Bool} (h : Rw wr B bB bM vB vM N O bs) (h1 : ∀ e, e < N → O e = O' e) (h2 : ∀ e, e < N → bs e = bs' e) : Rw wr B bB bM vB vM N O' bs' :=
  ⟨h.sB, h.sM, fun e he => by rw [← h1 e he]; exact h.rB e he, fun e he => by rw [← h2 e he]; exact h.rM e he, h.n1, h.l1, h.l2, h.tB, h.tM⟩
theorem Rw.zero (wr : World) (B : Nat) (O : Nat → Nat) (bs : Nat → Bool) : Rw wr B B (B + 1) (.slice none 0 0) (.slice none 0 0) 0 O bs :=
  ⟨⟨none, 0, rfl, fun h => by omega⟩, ⟨none, 0, rfl, fun h => by omega⟩, fun e he => by omega, fun e he => by omega, by omega, Nat.le_refl _, by omega, fun h => by omega, fun h => by omega⟩
theorem Rw.back {wr : World} {B B' bB bM : Nat} {vB vM : Value} {N : Nat} {O : Nat → Nat} {bs : Nat → Bool} (h : Rw wr B bB bM vB vM N O bs) (hB : B' ≤ B) : Rw wr B' bB bM vB vM N O bs := ⟨h.sB, h.sM, h.rB, h.rM, h.n1, Nat.le_trans hB h.l1, Nat.le_trans hB h.l2, h.tB, h.tM⟩
theorem Rw.lt {wr : World} {B bB bM : Nat} {vB vM : Value} {N : Nat} {O : Nat → Nat} {bs : Nat → Bool} (h : Rw wr B bB bM vB vM N O bs) (hN : 0 < N) : bB < wr.heap.size ∧ bM < wr.heap.size := by
  obtain ⟨c1, h1⟩ := h.tB hN
  obtain ⟨c2, h2⟩ := h.tM hN
  exact ⟨t_lt h1, t_lt h2⟩
theorem sd_of {wB X : World} {g p B M : Nat} {v m : Value} {s : Pst} (hg : X.heap[g]? = some (.cells #[.pointer (some ⟨p, 0, none⟩), v, m, .int .i64 s.nb, .pointer (some ⟨wB.heap.size, 0, none⟩)] 65 (0, 0))) (gu : wB.heap.size ≤ g) (hp : ∃ c, Pt wB X p c ∧ Lay c s) (ok : s.Ok) (hr : Rw X wB.heap.size B M v m s.n s.O s.isM) : ∃ B' M', Sd wB X g p B' M' v m s ∧ (0 < s.n → B' = B ∧ M' = M) := by
  have c1 : X.cell? ⟨g, 1, none⟩ = some v := cell0_of hg rfl
  have c2 : X.cell? ⟨g, 2, none⟩ = some m := cell0_of hg rfl
  have c3 : X.cell? ⟨g, 3, none⟩ = some (.int .i64 s.nb) := cell0_of hg rfl
  by_cases h0 : 0 < s.n
  · obtain ⟨q1, h1⟩ := hr.tB h0
    obtain ⟨q2, h2⟩ := hr.tM h0
    exact ⟨B, M, ⟨hp, ok, ⟨c1, c2, c3, blk_free hg _, hr.sB, hr.sM, hr.rB, hr.rM, hr.n1, typed_ne hg h1 (by decide), typed_ne hg h2 (by decide), ⟨hg, rfl⟩, fun _ => ⟨q1, h1⟩, fun _ => ⟨q2, h2⟩⟩, gu, fun _ => ⟨hr.l1, hr.l2⟩⟩, fun _ => ⟨rfl, rfl⟩⟩
  · obtain ⟨a1, k1, e1, _⟩ := hr.sB
    obtain ⟨a2, k2, e2, _⟩ := hr.sM
    exact ⟨g + 1, g + 2, ⟨hp, ok, ⟨c1, c2, c3, blk_free hg _, ⟨a1, k1, e1, fun h => absurd h h0⟩, ⟨a2, k2, e2, fun h => absurd h h0⟩, fun e he => by omega, fun e he => by omega, by omega, by omega, by omega, ⟨hg, rfl⟩, fun h => absurd h h0, fun h => absurd h h0⟩, gu, fun h => absurd h h0⟩, fun h => absurd h h0⟩
theorem Sd.types {wB wr : World} {g pb bB bM : Nat} {vB vM : Value} {s : Pst} (h : Sd wB wr g pb bB bM vB vM s) : (∃ c, wr.heap[g]? = some (.cells c 65 (0, 0))) ∧ (∃ c, wr.heap[pb]? = some (.cells c 62 (0, 0))) ∧ (0 < s.n → (∃ c, wr.heap[bB]? = some (.cells c 3 (0, 0))) ∧ ∃ c, wr.heap[bM]? = some (.cells c 4 (0, 0))) := by
  obtain ⟨c, hP, hL⟩ := h.pt
  obtain ⟨cs, hc, _⟩ := hP.ids
  exact ⟨⟨_, h.dd.tR.1⟩, ⟨cs, hc⟩, fun h0 => ⟨h.dd.tB h0, h.dd.tM h0⟩⟩
theorem pe_of {wB X : World} {ga gb pa pb Ba Ma Bb Mb : Nat} {sa sb : Pst} {va ma vb mb : Value} (hbk : ∀ F, Bk wB X F)
    (hga : X.heap[ga]? = some (.cells #[.pointer (some ⟨pa, 0, none⟩), va, ma, .int .i64 sa.nb, .pointer (some ⟨wB.heap.size, 0, none⟩)] 65 (0, 0))) (hgb : X.heap[gb]? = some (.cells #[.pointer (some ⟨pb, 0, none⟩), vb, mb, .int .i64 sb.nb, .pointer (some ⟨wB.heap.size, 0, none⟩)] 65 (0, 0))) (hgab : ga ≠ gb) (gua : wB.heap.size ≤ ga) (gub : wB.heap.size ≤ gb)
    (hpa : ∃ c, Pt wB X pa c ∧ Lay c sa) (oka : sa.Ok) (hpb : ∃ c, Pt wB X pb c ∧ Lay c sb) (okb : sb.Ok) (hra : Rw X wB.heap.size Ba Ma va ma sa.n sa.O sa.isM) (hrb : Rw X wB.heap.size Bb Mb vb mb sb.n sb.O sb.isM)
    (hpp : pa ≠ pb) (hBB : 0 < sa.n → 0 < sb.n → Ba ≠ Bb ∧ Ma ≠ Mb) : PE wB X ga gb := by
  obtain ⟨B1, M1, h1, e1⟩ := sd_of hga gua hpa oka hra
  obtain ⟨B2, M2, h2, e2⟩ := sd_of hgb gub hpb okb hrb
  refine ⟨pa, B1, M1, va, ma, sa, pb, B2, M2, vb, mb, sb, h1, h2, hbk _, fun i hi hj => ?_⟩
  obtain ⟨⟨_, t1⟩, ⟨_, t2⟩, t3⟩ := h1.types
  obtain ⟨⟨_, u1⟩, ⟨_, u2⟩, u3⟩ := h2.types
  rcases hi with rfl | rfl | ⟨h0, hi⟩
  · rcases hj with hj | hj | ⟨h0', hj⟩
    · exact hgab hj
    · exact typed_ne t1 u2 (by decide) hj
    · obtain ⟨⟨_, u4⟩, ⟨_, u5⟩⟩ := u3 h0'
      rcases hj with hj | hj
      · exact typed_ne t1 u4 (by decide) hj
      · exact typed_ne t1 u5 (by decide) hj
  · rcases hj with hj | hj | ⟨h0', hj⟩
    · exact typed_ne t2 u1 (by decide) hj
    · exact hpp hj
    · obtain ⟨⟨_, u4⟩, ⟨_, u5⟩⟩ := u3 h0'
      rcases hj with hj | hj
      · exact typed_ne t2 u4 (by decide) hj
      · exact typed_ne t2 u5 (by decide) hj
  · obtain ⟨⟨_, t4⟩, ⟨_, t5⟩⟩ := t3 h0
    rcases hi with rfl | rfl
    · rcases hj with hj | hj | ⟨h0', hj⟩
      · exact typed_ne t4 u1 (by decide) hj
      · exact typed_ne t4 u2 (by decide) hj
      · obtain ⟨⟨_, u4⟩, ⟨_, u5⟩⟩ := u3 h0'
        rcases hj with hj | hj
        · rw [(e1 h0).1, (e2 h0').1] at hj; exact (hBB h0 h0').1 hj
        · exact typed_ne t4 u5 (by decide) hj
    · rcases hj with hj | hj | ⟨h0', hj⟩
      · exact typed_ne t5 u1 (by decide) hj
      · exact typed_ne t5 u2 (by decide) hj
      · obtain ⟨⟨_, u4⟩, ⟨_, u5⟩⟩ := u3 h0'
        rcases hj with hj | hj
        · exact typed_ne t5 u4 (by decide) hj
        · rw [(e1 h0).2, (e2 h0').2] at hj; exact (hBB h0 h0').2 hj
theorem new_isM (n e : Nat) : (Pst.new n).isM e = false := by unfold Pst.isM Pst.new; simp
theorem zero_part (w : World) : Pt w (w.alloc (.cells Tryz.zeroCells62 62)) w.heap.size (fun _ => 0) :=
  ⟨(Below.refl _ _).alloc (Nat.le_refl _) _, ⟨_, (MapKept.heap_alloc w _).1, by rw [zero_list, Cs_zero]⟩, Nat.le_refl _⟩
theorem zero_lay : Lay (fun _ => 0) (Pst.new 0) := ⟨rfl, rfl, fun k hk => by simp [Pst.new] at hk, fun k hk => by simp [Pst.new] at hk, fun k hk => by simp [Pst.new] at hk, fun k hk => by simp [Pst.new] at hk, fun k hk => by simp [Pst.new] at hk, fun k hk => by simp [Pst.new] at hk⟩
theorem of_nb (zs : List Int) (E : Nat → Nat) : (Pst.of zs E).nb = Sy.together zs := by
  show tp (cO zs) 0 zs.length = _
  rw [tp_top zs zs.length (Nat.le_refl _), List.take_length]
  rfl
/-- Two pairs that are to be made. -/
structure Start (wB X : World) (pa pb Ba Ma Bb Mb : Nat) (va ma vb mb : Value) (sa sb : Pst) : Prop where
  bk : ∀ F, Bk wB X F
  xa : ∃ c, Pt wB X pa c ∧ Lay c sa
  oka : sa.Ok
  xb : ∃ c, Pt wB X pb c ∧ Lay c sb
  okb : sb.Ok
  ra : Rw X wB.heap.size Ba Ma va ma sa.n sa.O sa.isM
  rb : Rw X wB.heap.size Bb Mb vb mb sb.n sb.O sb.isM
  pp : pa ≠ pb
  bb : 0 < sa.n → 0 < sb.n → Ba ≠ Bb ∧ Ma ≠ Mb
theorem Start.below {wB X Y : World} {pa pb Ba Ma Bb Mb : Nat} {va ma vb mb : Value} {sa sb : Pst} (h : Start wB X pa pb Ba Ma Bb Mb va ma vb mb sa sb) (hb : Below X.heap.size X Y) : Start wB Y pa pb Ba Ma Bb Mb va ma vb mb sa sb := by
  obtain ⟨c1, p1, l1⟩ := h.xa
  obtain ⟨c2, p2, l2⟩ := h.xb
  exact ⟨fun F => (h.bk F).below hb, ⟨c1, p1.below hb, l1⟩, h.oka, ⟨c2, p2.below hb, l2⟩, h.okb, h.ra.below hb, h.rb.below hb, h.pp, h.bb⟩
theorem Start.bl {wB X : World} {pa pb Ba Ma Bb Mb : Nat} {va ma vb mb : Value} {sa sb : Pst} (h : Start wB X pa pb Ba Ma Bb Mb va ma vb mb sa sb) : Below wB.heap.size wB X := (h.bk fun _ => False).bw
def bothV (wB : World) (p : Nat) (v m : Value) (s : Pst) : Array Value := #[.pointer (some ⟨p, 0, none⟩), v, m, .int .i64 s.nb, .pointer (some ⟨wB.heap.size, 0, none⟩)]
theorem Start.pe1 {wB X : World} {pa pb Ba Ma Bb Mb : Nat} {va ma vb mb : Value} {sa sb : Pst} (h : Start wB X pa pb Ba Ma Bb Mb va ma vb mb sa sb) : PE wB ((X.alloc (.cells (bothV wB pa va ma sa) 65)).alloc (.cells (bothV wB pb vb mb sb) 65)) X.heap.size (X.heap.size + 1) := by
  have hb : Below X.heap.size X ((X.alloc (.cells (bothV wB pa va ma sa) 65)).alloc (.cells (bothV wB pb vb mb sb) 65)) := ((Below.refl _ _).alloc (Nat.le_refl _) _).alloc (by simp) _
  have h2 := h.below hb
  have hz := h.bl.size
  exact pe_of h2.bk (res_new X _ _).2 (two_alloc X _ _) (by omega) (by omega) (by omega) h2.xa h2.oka h2.xb h2.okb h2.ra h2.rb h2.pp h2.bb
theorem Start.pe2 {wB X : World} {pa pb Ba Ma Bb Mb : Nat} {va ma vb mb : Value} {sa sb : Pst} (h : Start wB X pa pb Ba Ma Bb Mb va ma vb mb sa sb) : PE wB ((X.alloc (.cells (bothV wB pb vb mb sb) 65)).alloc (.cells (bothV wB pa va ma sa) 65)) (X.heap.size + 1) X.heap.size := by
  have hb : Below X.heap.size X ((X.alloc (.cells (bothV wB pb vb mb sb) 65)).alloc (.cells (bothV wB pa va ma sa) 65)) := ((Below.refl _ _).alloc (Nat.le_refl _) _).alloc (by simp) _
  have h2 := h.below hb
  have hz := h.bl.size
  exact pe_of h2.bk (two_alloc X _ _) (res_new X _ _).2 (by omega) (by omega) (by omega) h2.xa h2.oka h2.xb h2.okb h2.ra h2.rb h2.pp h2.bb
/-- One of the two, before its pair is made. -/
structure Side (wB X : World) (p B M : Nat) (v m : Value) (s : Pst) : Prop where
  x : ∃ c, Pt wB X p c ∧ Lay c s
  ok : s.Ok
  r : Rw X wB.heap.size B M v m s.n s.O s.isM
theorem Side.below {wB X Y : World} {p B M : Nat} {v m : Value} {s : Pst} (h : Side wB X p B M v m s) (hb : Below X.heap.size X Y) : Side wB Y p B M v m s := by
  obtain ⟨c, p1, l1⟩ := h.x
  exact ⟨⟨c, p1.below hb, l1⟩, h.ok, h.r.below hb⟩
theorem Side.kept {F : Nat → Prop} {wB X Y : World} {p B M : Nat} {v m : Value} {s : Pst} (h : Side wB X p B M v m s) (hk : Kept F X Y) (hF : ∀ i, F i → wB.heap.size ≤ i ∧ ∃ cs, X.heap[i]? = some (.cells cs 48 (0, 0))) : Side wB Y p B M v m s := by
  obtain ⟨c, p1, l1⟩ := h.x
  refine ⟨⟨c, p1.kept hk fun b hb => ⟨(hF b hb).1, fun e => ?_⟩, l1⟩, h.ok, h.r.kept hk (fun h0 hb => ?_) (fun h0 hb => ?_)⟩
  · obtain ⟨cs, hc⟩ := (hF b hb).2
    obtain ⟨c2, hc2, _⟩ := p1.ids
    exact typed_ne hc hc2 (by decide) e
  · obtain ⟨cs, hc⟩ := (hF _ hb).2
    obtain ⟨c2, hc2⟩ := h.r.tB h0
    exact typed_ne hc hc2 (by decide) rfl
  · obtain ⟨cs, hc⟩ := (hF _ hb).2
    obtain ⟨c2, hc2⟩ := h.r.tM h0
    exact typed_ne hc hc2 (by decide) rfl
theorem side_new {wB w2 w3 w4 X : World} {n : Nat} {pa Ba Ma : Nat} {va ma : Value} {c : Nat → Int} (hn : n ≤ 1000) (bw2 : Below wB.heap.size wB w2) (h3 : Pt w2 w3 pa c) (l3 : Lay c (Pst.new n)) (h4 : Rw w4 w3.heap.size Ba Ma va ma n (fun _ => 0) (fun _ => false)) (b4 : Below w3.heap.size w3 w4) (bX : Below w4.heap.size w4 X) : Side wB X pa Ba Ma va ma (Pst.new n) := by
  have s2 := bw2.size
  have s3 := h3.bl.size
  have s4 := b4.size
  have B3 : Below w3.heap.size w3 X := b4.trans (bX.mono s4)
  exact ⟨⟨c, (Arr.back h3 bw2 : Pt wB w3 pa c).below B3, l3⟩, Pst.new_ok hn, ((h4.below bX).back (by omega)).congr (fun _ _ => rfl) (fun e _ => (new_isM n e).symm)⟩
theorem side_of {wB w5 w6 w7 X : World} {zs : List Int} {pb Bb Mb : Nat} {vb mb : Value} {c' : Nat → Int} {E : Nat → Nat} (bw5 : Below wB.heap.size wB w5) (h6 : Pt w5 w6 pb c') (l6 : Lay c' (Pst.of zs E)) (o6 : (Pst.of zs E).Ok) (m6 : ∀ y, y < zs.length → (Pst.of zs E).isM y = false) (h7 : Rw w7 w6.heap.size Bb Mb vb mb zs.length (cO zs) (fun _ => false)) (b7 : Below w6.heap.size w6 w7) (bX : Below w7.heap.size w7 X) : Side wB X pb Bb Mb vb mb (Pst.of zs E) := by
  have s5 := bw5.size
  have s6 := h6.bl.size
  have s7 := b7.size
  have B6 : Below w6.heap.size w6 X := b7.trans (bX.mono s7)
  exact ⟨⟨c', (Arr.back h6 bw5 : Pt wB w6 pb c').below B6, l6⟩, o6, ((h7.below bX).back (by omega)).congr (fun _ _ => rfl) (fun e he => (m6 e he).symm)⟩
theorem side_zero {wB W : World} (bw : Below wB.heap.size wB W) : Side wB (W.alloc (.cells Tryz.zeroCells62 62)) W.heap.size wB.heap.size (wB.heap.size + 1) (.slice none 0 0) (.slice none 0 0) (Pst.new 0) :=
  ⟨⟨_, Arr.back (zero_part W) bw, zero_lay⟩, Pst.new_ok (by omega), Rw.zero _ _ _ _⟩
theorem Side.lt {wB X : World} {p B M : Nat} {v m : Value} {s : Pst} (h : Side wB X p B M v m s) : p < X.heap.size := by
  obtain ⟨c, p1, l1⟩ := h.x
  exact Arr.lt p1
theorem Start.of {wB X : World} {pa pb Ba Ma Bb Mb : Nat} {va ma vb mb : Value} {sa sb : Pst} (bk : ∀ F, Bk wB X F) (a : Side wB X pa Ba Ma va ma sa) (b : Side wB X pb Bb Mb vb mb sb) (pp : pa ≠ pb) (bb : 0 < sa.n → 0 < sb.n → Ba ≠ Bb ∧ Ma ≠ Mb) : Start wB X pa pb Ba Ma Bb Mb va ma vb mb sa sb := ⟨bk, a.x, a.ok, b.x, b.ok, a.r, b.r, pp, bb⟩
/-- Three cells are noughts again. -/
theorem zero_again {w : World} {b : Nat} (h : w.heap[b]? = some (.cells #[.slice none 0 0, .slice none 0 0, .int .i64 0] 48 (0, 0))) : (((w.setCell ⟨b, 0, none⟩ (.slice none 0 0)).setCell ⟨b, 1, none⟩ (.slice none 0 0)).setCell ⟨b, 2, none⟩ (.int .i64 0)).heap[b]? = some (.cells #[.slice none 0 0, .slice none 0 0, .int .i64 0] 48 (0, 0)) ∧ Kept (fun i => i = b) w (((w.setCell ⟨b, 0, none⟩ (.slice none 0 0)).setCell ⟨b, 1, none⟩ (.slice none 0 0)).setCell ⟨b, 2, none⟩ (.int .i64 0)) := ⟨blk_set3 h _ _ _, kept_set3 _ _ _ _ _⟩
/-- Both sides fit. -/
theorem start_aa {wB w2 w3 w4 w5 w6 w7 X : World} {n : Nat} {zs : List Int} {pa pb Ba Ma Bb Mb : Nat} {va ma vb mb : Value} {c c' : Nat → Int} {E : Nat → Nat} (hn : n ≤ 1000) (hbk : ∀ F, Bk wB w2 F) (h3 : Pt w2 w3 pa c) (l3 : Lay c (Pst.new n)) (h4 : Rw w4 w3.heap.size Ba Ma va ma n (fun _ => 0) (fun _ => false)) (b4 : Below w3.heap.size w3 w4) (b5 : Below w4.heap.size w4 w5) (h6 : Pt w5 w6 pb c') (l6 : Lay c' (Pst.of zs E)) (o6 : (Pst.of zs E).Ok) (m6 : ∀ y, y < zs.length → (Pst.of zs E).isM y = false) (h7 : Rw w7 w6.heap.size Bb Mb vb mb zs.length (cO zs) (fun _ => false)) (b7 : Below w6.heap.size w6 w7) (bX : Below w7.heap.size w7 X) : Start wB X pa pb Ba Ma Bb Mb va ma vb mb (Pst.new n) (Pst.of zs E) := by
  have s2 := (hbk fun _ => False).bw.size
  have s3 := h3.bl.size
  have s4 := b4.size
  have s5 := b5.size
  have s6 := h6.bl.size
  have s7 := b7.size
  have B6 : Below w6.heap.size w6 X := b7.trans (bX.mono s7)
  have B5 : Below w5.heap.size w5 X := h6.bl.trans (B6.mono s6)
  have B4 : Below w4.heap.size w4 X := b5.trans (B5.mono s5)
  have B3 : Below w3.heap.size w3 X := b4.trans (B4.mono s4)
  have B2 : Below w2.heap.size w2 X := h3.bl.trans (B3.mono s3)
  have bw2 := (hbk fun _ => False).bw
  have bw5 : Below wB.heap.size wB w5 := ((bw2.trans (h3.bl.mono s2)).trans (b4.mono (by omega))).trans (b5.mono (by omega))
  refine ⟨fun F => (hbk F).below B2, ⟨c, (Arr.back h3 bw2 : Pt wB w3 pa c).below B3, l3⟩, Pst.new_ok hn, ⟨c', (Arr.back h6 bw5 : Pt wB w6 pb c').below B6, l6⟩, o6, ((h4.below B4).back (by omega)).congr (fun _ _ => rfl) (fun e _ => (new_isM n e).symm), ((h7.below bX).back (by omega)).congr (fun _ _ => rfl) (fun e he => (m6 e he).symm), ?_, fun h1 h2 => ?_⟩
  · have := Arr.lt h3
    have := h6.gu
    omega
  · have := h4.lt h1
    have := h7.l1
    have := h7.l2
    omega
end Go.Proofs.YtpcndfffljmajaaGreatDoor
/- Chapter 8's law: the play, aa. (Written by mkplay8.py.) -/
namespace Go.Proofs.YtpcndfffljmajaaGreatDoor
open Go.RowKit Go.Maps
attribute [local go_sem ↓] Go.wp_at_zero Go.wp_at_succ
set_option maxRecDepth 100000 in
set_option maxHeartbeats 16000000 in
theorem play_aa (n : Nat) (v : Value) (zs : List Int) (vo : Value) (ops : List (Int × Int)) (each : Bool) (e : Nat → Addr) (w : World) (hv : HasI w v zs) (hi : I64s zs) (hO : HasO8 w vo ops) (hl : ops.length ≤ 400) (hE : Er 19 w e) (hR : EnvR w (e 1) (e 3)) (hn : n ≤ 1000) (hc : zs.length ≤ 1000) :
    Calls Tryz.prog 5 #[.int .i64 n, v, vo, .bool each] w fun r w' => r = .returned (.bool true) ∧ Below w.heap.size w w' := by
  have hcm : zs.length ≤ 1100 := by omega
  have hvs := hv
  have hOs := hO
  obtain ⟨ao, cap, rfl, _⟩ := hvs
  obtain ⟨aop, capo, rfl, _⟩ := hOs
  obtain ⟨m, hm⟩ : ∃ m, m = zs.length := ⟨_, rfl⟩
  obtain ⟨K, hK⟩ : ∃ K, K = ops.length := ⟨_, rfl⟩
  have q1 : ¬ (400 : Int) < (K : Int) := by omega
  have q2 : ¬ (1100 : Int) < (m : Int) := by omega
  have HA : Hid _ := alive8 w
  have H0 : Hid (HasI w (.slice ao m cap) zs ∧ I64s zs ∧ HasO8 w (.slice aop K capo) ops ∧ Er 19 w e ∧ EnvR w (e 1) (e 3)) := (by rw [hm, hK]; exact ⟨hv, hi, hO, hE, hR⟩ : HasI w (.slice ao m cap) zs ∧ I64s zs ∧ HasO8 w (.slice aop K capo) ops ∧ Er 19 w e ∧ EnvR w (e 1) (e 3))
  have HN : Hid (m = zs.length ∧ K = ops.length) := ⟨hm, hK⟩
  rw [← hm, ← hK]
  clear hv hi hO hE hR hm hK
  go_enter Tryz.func5, Tryz.ntmps5
  go_wp2_with fail
  refine Calls.mono HA.out ?_
  rintro r wB ⟨rfl, hbB⟩
  have HB : Hid (Below w.heap.size w wB) := hbB
  clear hbB HA
  go_upto_region 6 with fail
  obtain ⟨w2, hw2⟩ : ∃ w2, w2 = wB.alloc (.cells #[.slice none 0 0, .slice none 0 0, .slice none 0 0, .slice none 0 0, .slice none 0 0, .slice none 0 0, .slice none 0 0, .slice none 0 0, .slice none 0 0, .slice none 0 0, .slice none 0 0, .slice none 0 0, .slice none 0 0, .slice none 0 0, .slice none 0 0, .slice none 0 0, .slice none 0 0, .slice none 0 0, .slice none 0 0, .slice none 0 0, .slice none 0 0, .slice none 0 0] 40) := ⟨_, rfl⟩
  rw [← hw2]
  have hbk : ∀ F, Bk wB w2 F := fun F => by rw [hw2]; exact Bk.new wB F
  have b2 : Below w.heap.size w w2 := HB.out.trans ((hbk fun _ => False).bw.mono HB.out.size)
  have HK : Hid (∀ F, Bk wB w2 F) := hbk
  clear hw2 hbk
  have HNew : Hid _ := new_part n hn w2
  go_wp2_with fail
  refine Calls.mono HNew.out ?_
  rintro r w3 ⟨pa, c3, rfl, hP3, hL3⟩
  have b3 : Below w.heap.size w w3 := bel_step hP3.bl b2
  have H3 : Hid (Pt w2 w3 pa c3 ∧ Lay c3 (Pst.new n)) := ⟨hP3, hL3⟩
  clear hP3 hL3 HNew
  have HRn : Hid _ := rNew_ok n w3 hn
  go_wp2_with fail
  refine Calls.mono HRn.out ?_
  rintro r w4 ⟨Ba, Ma, va, ma, rfl, hR4, hb4⟩
  obtain ⟨aa, ka, rfl, _⟩ := hR4.sB
  obtain ⟨am, km, rfl, _⟩ := hR4.sM
  have b4 : Below w.heap.size w w4 := bel_step hb4 b3
  have H4 : Hid (Rw w4 w3.heap.size Ba Ma (.slice aa n ka) (.slice am n km) n (fun _ => 0) (fun _ => false) ∧ Below w3.heap.size w3 w4) := ⟨hR4, hb4⟩
  clear hR4 hb4 HRn
  obtain ⟨na, hna⟩ : ∃ na : Nat, na = (if n = 0 then 0 else 1) := ⟨_, rfl⟩
  rw [← hna]
  have Hna : Hid (na = (Pst.new n).nb) := hna
  clear hna
  obtain ⟨w5, hw5⟩ : ∃ w5, w5 = w4.alloc (.cells #[.slice aa n ka, .slice am n km, .int .i64 na] 48) := ⟨_, rfl⟩
  have b45 : Below w4.heap.size w4 w5 := by rw [hw5]; exact (Below.refl _ _).alloc (Nat.le_refl _) _
  have hb12 : w5.heap[w4.heap.size]? = some (.cells #[.slice aa n ka, .slice am n km, .int .i64 na] 48 (0, 0)) := by rw [hw5]; exact (MapKept.heap_alloc w4 _).1
  have b5 : Below w.heap.size w w5 := bel_step b45 b4
  have H5 : Hid (Below w4.heap.size w4 w5 ∧ w5.heap[w4.heap.size]? = some (.cells #[.slice aa n ka, .slice am n km, .int .i64 na] 48 (0, 0))) := ⟨b45, hb12⟩
  have hOf := of_ok (.slice ao m cap) zs w5 (H0.out.1.below b5) H0.out.2.1 hc
  have HOf : Hid _ := hOf
  have HW5 : Hid _ := hw5
  clear hOf hw5 b45 hb12
  go_upto_region 8 with fail
  rw [← HW5.out]
  clear HW5
  go_wp2_with fail
  refine Calls.mono HOf.out ?_
  rintro r w6 ⟨pb, c6, E, rfl, hP6, hL6, hO6, hM6⟩
  have b6 : Below w.heap.size w w6 := bel_step hP6.bl b5
  have H6 : Hid (Pt w5 w6 pb c6 ∧ Lay c6 (Pst.of zs E) ∧ (Pst.of zs E).Ok ∧ ∀ y, y < zs.length → (Pst.of zs E).isM y = false) := ⟨hP6, hL6, hO6, hM6⟩
  have hRo := rOf_ok (.slice ao m cap) zs w6 (H0.out.1.below b6) hc
  have HRo : Hid _ := hRo
  clear hP6 hL6 hO6 hM6 HOf hRo
  go_wp2_with fail
  refine Calls.mono HRo.out ?_
  rintro r w7 ⟨Bb, Mb, vb, mb, rfl, hR7, hb7⟩
  obtain ⟨ab, kb, rfl, _⟩ := hR7.sB
  obtain ⟨am2, km2, rfl, _⟩ := hR7.sM
  have b7 : Below w.heap.size w w7 := bel_step hb7 b6
  have H7 : Hid (Rw w7 w6.heap.size Bb Mb (.slice ab zs.length kb) (.slice am2 zs.length km2) zs.length (cO zs) (fun _ => false) ∧ Below w6.heap.size w6 w7) := ⟨hR7, hb7⟩
  clear hR7 hb7 HRo
  obtain ⟨tg, htg⟩ : ∃ tg, tg = Sy.together zs := ⟨_, rfl⟩
  obtain ⟨zl, hzl⟩ : ∃ zl, zl = zs.length := ⟨_, rfl⟩
  rw [← htg, ← hzl]
  have Htg : Hid (tg = Sy.together zs ∧ zl = zs.length) := ⟨htg, hzl⟩
  clear htg hzl
  obtain ⟨w8, hw8⟩ : ∃ w8, w8 = w7.alloc (.cells #[.slice ab zl kb, .slice am2 zl km2, .int .i64 tg] 48) := ⟨_, rfl⟩
  have b78 : Below w7.heap.size w7 w8 := by rw [hw8]; exact (Below.refl _ _).alloc (Nat.le_refl _) _
  have hb16 : w8.heap[w7.heap.size]? = some (.cells #[.slice ab zl kb, .slice am2 zl km2, .int .i64 tg] 48 (0, 0)) := by rw [hw8]; exact (MapKept.heap_alloc w7 _).1
  have b8 : Below w.heap.size w w8 := bel_step b78 b7
  have hb12 := res_up b78 (res_up H7.out.2 (res_up H6.out.1.bl H5.out.2))
  have HBd : Hid _ := bad8 1 w8
  have H8 : Hid (Below w7.heap.size w7 w8 ∧ w8.heap[w7.heap.size]? = some (.cells #[.slice ab zl kb, .slice am2 zl km2, .int .i64 tg] 48 (0, 0)) ∧ w8.heap[w4.heap.size]? = some (.cells #[.slice aa n ka, .slice am n km, .int .i64 na] 48 (0, 0))) := ⟨b78, hb16, hb12⟩
  have HW8 : Hid _ := hw8
  clear hw8 b78 hb16 hb12
  go_upto_region 10 with fail
  rw [← HW8.out]
  clear HW8
  go_wp2_with fail
  refine Calls.mono HBd.out ?_
  rintro r w9 ⟨rfl, hb9⟩
  have b9 : Below w.heap.size w w9 := bel_step hb9 b8
  have H9 : Hid (Below w8.heap.size w8 w9) := hb9
  clear hb9 HBd
  go_upto_region 17 with fail
  obtain ⟨w10, hw10⟩ : ∃ w10, w10 = w9.alloc (.cells #[.int .i64 1, .int .i64 0, .int .i64 0, .string refB1] 54) := ⟨_, rfl⟩
  rw [← hw10]
  have b910 : Below w9.heap.size w9 w10 := by rw [hw10]; exact (Below.refl _ _).alloc (Nat.le_refl _) _
  have b810 : Below w8.heap.size w8 w10 := bel_step b910 H9.out
  have hS0 := start_aa hn HK.out H3.out.1 H3.out.2 H4.out.1 H4.out.2 H5.out.1 H6.out.1 H6.out.2.1 H6.out.2.2.1 H6.out.2.2.2 H7.out.1 H7.out.2 (bel_step b810 H8.out.1)
  rw [← Htg.out.2] at hS0
  have hb12 := res_up b810 H8.out.2.2
  have hb16 := res_up b810 H8.out.2.1
  have a0 := cell0_of (k := 0) hb12 rfl
  have a1 := cell0_of (k := 1) hb12 rfl
  have a2 := cell0_of (k := 2) hb12 rfl
  have d0 := cell0_of (k := 0) hb16 rfl
  have d1 := cell0_of (k := 1) hb16 rfl
  have d2 := cell0_of (k := 2) hb16 rfl
  have l1 := t_lt hb12
  have l2 := t_lt hb16
  have l3 : ¬ w4.heap.size = w10.heap.size := by omega
  have l4 : ¬ w7.heap.size = w10.heap.size := by omega
  have l5 : ¬ w10.heap.size = w4.heap.size := by omega
  have l6 : ¬ w10.heap.size = w7.heap.size := by omega
  have HS : Hid _ := hS0
  have HE : Hid (Er 19 wB e ∧ EnvR wB (e 1) (e 3)) := ⟨H0.out.2.2.2.1.below HB.out, H0.out.2.2.2.2.below HB.out⟩
  clear hS0 hw10 b910 b810 hb12 hb16 b2 b3 b4 b5 b6 b7 b8 b9 H3 H4 H5 H6 H7 H8 H9 HK
  go_cut [19, 20] (fun s19 s20 wx => ∃ ga gb : Nat, s19 = .pointer (some ⟨ga, 0, none⟩) ∧ s20 = .pointer (some ⟨gb, 0, none⟩) ∧ PE wB wx ga gb)
  case first =>
    go_region
    all_goals go_wp2_with fail
    all_goals
      go_meet
      have h1 := HS.out.pe1
      have h2 := HS.out.pe2
      unfold bothV at h1 h2
      rw [← Hna.out, of_nb, ← Htg.out.1] at h1 h2
      first
        | exact ⟨_, _, rfl, rfl, h1⟩
        | exact ⟨_, _, rfl, rfl, h2⟩
        | exact ⟨_, _, rfl, rfl, h1.below (Below.refl _ _).drew⟩
        | exact ⟨_, _, rfl, rfl, h2.below (Below.refl _ _).drew⟩
  case rest =>
    obtain ⟨ga, gb, rfl, rfl, hPE⟩ := hcut
    have HP : Hid (PE wB wc ga gb) := hPE
    clear hPE HS a0 a1 a2 d0 d1 d2 l1 l2 l3 l4 l5 l6
    go_wp2_with fail
    go_loopg [21] K (fun q iv wr => ∃ i : Nat, q = K - i ∧ i ≤ K ∧ iv = .int .i64 i ∧ PE wB wr ga gb)
    case atStart => exact ⟨0, rfl, Nat.zero_le _, rfl, HP.out⟩
    case round =>
      obtain ⟨i, rfl, hi, rfl, hPE⟩ := hrel
      clear HP
      by_cases hlt : i < K
      · have p0 : (0 : Int) ≤ (i : Int) := by omega
        have p1 : (i : Int) < (K : Int) := by omega
        obtain ⟨⟨kz, z⟩, hp⟩ : ∃ p, ops[i]? = some p := ⟨_, List.getElem?_eq_getElem (by have := HN.out.2; omega)⟩
        obtain ⟨ao', cap', hsl, hall⟩ := H0.out.2.2.1
        injection hsl with e1 e2 e3
        obtain ⟨a, ha, y0, y1⟩ := hall i _ hp
        rw [← e1] at ha
        subst ha
        have hbw : Below w.heap.size w wr := bel_step' hPE.bl HB.out
        have z0 := y0
        have z1 := y1
        have hup : ∀ W, Below w.heap.size w W → W.cell? (a.add (i * 2)) = some (.int .i64 kz) ∧ W.cell? ⟨(a.add (i * 2)).block, (a.add (i * 2)).off + 1, none⟩ = some (.int .i64 z) := fun W hW => by
          have q1 := cellu z0 hW
          have q2 := cellu z1 hW
          refine ⟨q1, ?_⟩
          have q3 : W.cell? ((a.add (i * 2)).add 1) = some (.int .i64 z) := by rw [add_two8]; exact q2
          rw [← q3]; rfl
        obtain ⟨y0, y1⟩ := hup wr hbw
        have H1 : Hid _ := And.intro (step_any8 wB wr ga gb e kz z hPE HE.out.1 HE.out.2) hup
        clear z0 z1 hup hPE hbw hall hp e1 e2 e3
        go_wp2_with fail
        refine Calls.mono H1.out.1 ?_
        rintro r w1 ⟨rfl, hP1⟩
        have hb1 : Below w.heap.size w w1 := bel_step' hP1.bl HB.out
        clear y0 y1
        obtain ⟨y0, y1⟩ := H1.out.2 w1 hb1
        have H2 : Hid (PE wB w1 ga gb) := hP1
        clear hP1 hb1
        by_cases hpar : ((i : Int).tmod 2) = 0
        · have hpb : ((i : Int).tmod 2 == 0) = true := by simpa using hpar
          have hpb2 : ((i : Int) % 2 == 0) = true := by rw [← Int.tmod_eq_emod_of_nonneg p0]; exact hpb
          have hp2 : (i : Int) % 2 = 0 := by simpa using hpb2
          have HS2 : Hid _ := step_any8 wB w1 gb ga e kz z H2.out.swap HE.out.1 HE.out.2
          clear hpar
          go_wp2_with fail
          refine Calls.mono HS2.out ?_
          rintro r w2 ⟨rfl, hP2⟩
          have H3 : Hid (PE wB w2 ga gb) := hP2.swap
          clear hP2 HS2 H2 y0 y1
          cases each with
          | false =>
            go_wp2_with fail
            go_roundg (K - (i + 1))
            case measure => omega
            case rel => exact ⟨i + 1, rfl, by omega, by go_num, H3.out⟩
          | true =>
            have HL : Hid _ := looks_pe H3.out
            go_wp2_with fail
            refine Calls.mono HL.out ?_
            rintro r w3 ⟨rfl, hP3⟩
            have HL2 : Hid _ := looks_pe hP3.swap
            clear HL hP3 H3
            go_wp2_with fail
            refine Calls.mono HL2.out ?_
            rintro r w4 ⟨rfl, hP4⟩
            have H4 : Hid (PE wB w4 ga gb) := hP4.swap
            clear HL2 hP4
            go_wp2_with fail
            go_roundg (K - (i + 1))
            case measure => omega
            case rel => exact ⟨i + 1, rfl, by omega, by go_num, H4.out⟩
        · have hpb : ((i : Int).tmod 2 == 0) = false := by simpa using hpar
          have hpb2 : ((i : Int) % 2 == 0) = false := by rw [← Int.tmod_eq_emod_of_nonneg p0]; exact hpb
          have hp2 : ¬ (i : Int) % 2 = 0 := by simpa using hpb2
          clear hpar y0 y1
          cases each with
          | false =>
            go_wp2_with fail
            go_roundg (K - (i + 1))
            case measure => omega
            case rel => exact ⟨i + 1, rfl, by omega, by go_num, H2.out⟩
          | true =>
            have HL : Hid _ := looks_pe H2.out
            go_wp2_with fail
            refine Calls.mono HL.out ?_
            rintro r w3 ⟨rfl, hP3⟩
            have HL2 : Hid _ := looks_pe hP3.swap
            clear HL hP3
            go_wp2_with fail
            refine Calls.mono HL2.out ?_
            rintro r w4 ⟨rfl, hP4⟩
            have H4 : Hid (PE wB w4 ga gb) := hP4.swap
            clear HL2 hP4
            go_wp2_with fail
            go_roundg (K - (i + 1))
            case measure => omega
            case rel => exact ⟨i + 1, rfl, by omega, by go_num, H4.out⟩
      · obtain rfl : i = K := by omega
        have p1 : ¬ (i : Int) < (i : Int) := by omega
        have HL : Hid _ := looks_pe hPE
        clear hPE
        go_wp2_with fail
        refine Calls.mono HL.out ?_
        rintro r w3 ⟨rfl, hP3⟩
        have HL2 : Hid _ := looks_pe hP3.swap
        clear HL hP3
        go_wp2_with fail
        refine Calls.mono HL2.out ?_
        rintro r w4 ⟨rfl, hP4⟩
        have H4 : Hid _ := And.intro hP4.swap.apart (bel_step' hP4.bl HB.out)
        clear HL2 hP4
        cases each with
        | false =>
          go_wp2_with fail
          go_ret
          exact ⟨rfl, H4.out.2⟩
        | true =>
          go_wp2_with fail
          refine Calls.mono H4.out.1 ?_
          rintro r w6 ⟨rfl, hb6⟩
          have H6 : Hid (Below w.heap.size w w6) := bel_step' hb6 HB.out
          clear hb6
          go_wp2_with fail
          go_ret
          exact ⟨rfl, H6.out⟩
end Go.Proofs.YtpcndfffljmajaaGreatDoor
/- Chapter 8's law: the play, ab. (Written by mkplay8.py.) -/
namespace Go.Proofs.YtpcndfffljmajaaGreatDoor
open Go.RowKit Go.Maps
attribute [local go_sem ↓] Go.wp_at_zero Go.wp_at_succ
set_option maxRecDepth 100000 in
set_option maxHeartbeats 16000000 in
theorem play_ab (n : Nat) (v : Value) (zs : List Int) (vo : Value) (ops : List (Int × Int)) (each : Bool) (e : Nat → Addr) (w : World) (hv : HasI w v zs) (hi : I64s zs) (hO : HasO8 w vo ops) (hl : ops.length ≤ 400) (hE : Er 19 w e) (hR : EnvR w (e 1) (e 3)) (hn : n ≤ 1000) (hc : 1000 < zs.length ∧ zs.length ≤ 1100) :
    Calls Tryz.prog 5 #[.int .i64 n, v, vo, .bool each] w fun r w' => r = .returned (.bool true) ∧ Below w.heap.size w w' := by
  have hcm : zs.length ≤ 1100 := by omega
  have hvs := hv
  have hOs := hO
  obtain ⟨ao, cap, rfl, _⟩ := hvs
  obtain ⟨aop, capo, rfl, _⟩ := hOs
  obtain ⟨m, hm⟩ : ∃ m, m = zs.length := ⟨_, rfl⟩
  obtain ⟨K, hK⟩ : ∃ K, K = ops.length := ⟨_, rfl⟩
  have q1 : ¬ (400 : Int) < (K : Int) := by omega
  have q2 : ¬ (1100 : Int) < (m : Int) := by omega
  have HA : Hid _ := alive8 w
  have H0 : Hid (HasI w (.slice ao m cap) zs ∧ I64s zs ∧ HasO8 w (.slice aop K capo) ops ∧ Er 19 w e ∧ EnvR w (e 1) (e 3)) := (by rw [hm, hK]; exact ⟨hv, hi, hO, hE, hR⟩ : HasI w (.slice ao m cap) zs ∧ I64s zs ∧ HasO8 w (.slice aop K capo) ops ∧ Er 19 w e ∧ EnvR w (e 1) (e 3))
  have HN : Hid (m = zs.length ∧ K = ops.length) := ⟨hm, hK⟩
  rw [← hm, ← hK]
  clear hv hi hO hE hR hm hK
  go_enter Tryz.func5, Tryz.ntmps5
  go_wp2_with fail
  refine Calls.mono HA.out ?_
  rintro r wB ⟨rfl, hbB⟩
  have HB : Hid (Below w.heap.size w wB) := hbB
  clear hbB HA
  go_upto_region 6 with fail
  obtain ⟨w2, hw2⟩ : ∃ w2, w2 = wB.alloc (.cells #[.slice none 0 0, .slice none 0 0, .slice none 0 0, .slice none 0 0, .slice none 0 0, .slice none 0 0, .slice none 0 0, .slice none 0 0, .slice none 0 0, .slice none 0 0, .slice none 0 0, .slice none 0 0, .slice none 0 0, .slice none 0 0, .slice none 0 0, .slice none 0 0, .slice none 0 0, .slice none 0 0, .slice none 0 0, .slice none 0 0, .slice none 0 0, .slice none 0 0] 40) := ⟨_, rfl⟩
  rw [← hw2]
  have hbk : ∀ F, Bk wB w2 F := fun F => by rw [hw2]; exact Bk.new wB F
  have b2 : Below w.heap.size w w2 := HB.out.trans ((hbk fun _ => False).bw.mono HB.out.size)
  have HK : Hid (∀ F, Bk wB w2 F) := hbk
  clear hw2 hbk
  have HNew : Hid _ := new_part n hn w2
  go_wp2_with fail
  refine Calls.mono HNew.out ?_
  rintro r w3 ⟨pa, c3, rfl, hP3, hL3⟩
  have b3 : Below w.heap.size w w3 := bel_step hP3.bl b2
  have H3 : Hid (Pt w2 w3 pa c3 ∧ Lay c3 (Pst.new n)) := ⟨hP3, hL3⟩
  clear hP3 hL3 HNew
  have HRn : Hid _ := rNew_ok n w3 hn
  go_wp2_with fail
  refine Calls.mono HRn.out ?_
  rintro r w4 ⟨Ba, Ma, va, ma, rfl, hR4, hb4⟩
  obtain ⟨aa, ka, rfl, _⟩ := hR4.sB
  obtain ⟨am, km, rfl, _⟩ := hR4.sM
  have b4 : Below w.heap.size w w4 := bel_step hb4 b3
  have H4 : Hid (Rw w4 w3.heap.size Ba Ma (.slice aa n ka) (.slice am n km) n (fun _ => 0) (fun _ => false) ∧ Below w3.heap.size w3 w4) := ⟨hR4, hb4⟩
  clear hR4 hb4 HRn
  obtain ⟨na, hna⟩ : ∃ na : Nat, na = (if n = 0 then 0 else 1) := ⟨_, rfl⟩
  rw [← hna]
  have Hna : Hid (na = (Pst.new n).nb) := hna
  clear hna
  obtain ⟨w5, hw5⟩ : ∃ w5, w5 = w4.alloc (.cells #[.slice aa n ka, .slice am n km, .int .i64 na] 48) := ⟨_, rfl⟩
  have b45 : Below w4.heap.size w4 w5 := by rw [hw5]; exact (Below.refl _ _).alloc (Nat.le_refl _) _
  have hb12 : w5.heap[w4.heap.size]? = some (.cells #[.slice aa n ka, .slice am n km, .int .i64 na] 48 (0, 0)) := by rw [hw5]; exact (MapKept.heap_alloc w4 _).1
  have b5 : Below w.heap.size w w5 := bel_step b45 b4
  have H5 : Hid (Below w4.heap.size w4 w5 ∧ w5.heap[w4.heap.size]? = some (.cells #[.slice aa n ka, .slice am n km, .int .i64 na] 48 (0, 0))) := ⟨b45, hb12⟩
  have hOf := of_bad (.slice ao m cap) zs (e 1) (e 3) w5 (H0.out.2.2.2.2.below b5) (H0.out.1.below b5) hc.1
  have HOf : Hid _ := hOf
  have HW5 : Hid _ := hw5
  clear hOf hw5 b45 hb12
  go_upto_region 8 with fail
  rw [← HW5.out]
  clear HW5
  go_wp2_with fail
  refine Calls.mono HOf.out ?_
  rintro r w6 ⟨xc, rfl, hC6, hb6⟩
  have b6 : Below w.heap.size w w6 := bel_step hb6 b5
  obtain ⟨bc, uc, hxc, _, _⟩ := _root_.id hC6
  have H6 : Hid (Chain w6 0 0 (e 1) [refB] xc ∧ Below w5.heap.size w5 w6) := ⟨hC6, hb6⟩
  have hRo := rOf_bad (.slice ao m cap) zs w6 (H0.out.1.below b6) hc.1
  have HRo : Hid _ := hRo
  subst hxc
  clear hC6 hb6 HOf hRo
  go_wp2_with fail
  refine Calls.mono HRo.out ?_
  rintro r w7 ⟨rfl, hb7⟩
  have b7 : Below w.heap.size w w7 := bel_step hb7 b6
  have H7 : Hid (Below w6.heap.size w6 w7) := hb7
  clear hb7 HRo
  obtain ⟨w8, hw8⟩ : ∃ w8, w8 = w7.alloc (.cells #[.slice none 0 0, .slice none 0 0, .int .i64 0] 48) := ⟨_, rfl⟩
  have b78 : Below w7.heap.size w7 w8 := by rw [hw8]; exact (Below.refl _ _).alloc (Nat.le_refl _) _
  have hb16 : w8.heap[w7.heap.size]? = some (.cells #[.slice none 0 0, .slice none 0 0, .int .i64 0] 48 (0, 0)) := by rw [hw8]; exact (MapKept.heap_alloc w7 _).1
  have b8 : Below w.heap.size w w8 := bel_step b78 b7
  have hb12 := res_up b78 (res_up H7.out (res_up H6.out.2 H5.out.2))
  have HBd : Hid _ := bad8 1 w8
  have H8 : Hid (Below w7.heap.size w7 w8 ∧ w8.heap[w7.heap.size]? = some (.cells #[.slice none 0 0, .slice none 0 0, .int .i64 0] 48 (0, 0)) ∧ w8.heap[w4.heap.size]? = some (.cells #[.slice aa n ka, .slice am n km, .int .i64 na] 48 (0, 0))) := ⟨b78, hb16, hb12⟩
  have HW8 : Hid _ := hw8
  clear hw8 b78 hb16 hb12
  go_upto_region 10 with fail
  rw [← HW8.out]
  clear HW8
  go_wp2_with fail
  refine Calls.mono HBd.out ?_
  rintro r w9 ⟨rfl, hb9⟩
  have b9 : Below w.heap.size w w9 := bel_step hb9 b8
  have H9 : Hid (Below w8.heap.size w8 w9) := hb9
  clear hb9 HBd
  obtain ⟨w10, hw10⟩ : ∃ w10, w10 = w9.alloc (.cells #[.int .i64 1, .int .i64 0, .int .i64 0, .string refB1] 54) := ⟨_, rfl⟩
  have b910 : Below w9.heap.size w9 w10 := by rw [hw10]; exact (Below.refl _ _).alloc (Nat.le_refl _) _
  have hx18 : w10.heap[w9.heap.size]? = some (.cells #[.int .i64 1, .int .i64 0, .int .i64 0, .string refB1] 54 (0, 0)) := by rw [hw10]; exact (MapKept.heap_alloc w9 _).1
  have b10 : Below w.heap.size w w10 := bel_step b910 b9
  have H10 : Hid (Below w9.heap.size w9 w10 ∧ w10.heap[w9.heap.size]? = some (.cells #[.int .i64 1, .int .i64 0, .int .i64 0, .string refB1] 54 (0, 0))) := ⟨b910, hx18⟩
  have HW10 : Hid _ := hw10
  have e0 := cell0_of (k := 0) hx18 rfl
  have e1 := cell0_of (k := 1) hx18 rfl
  have e2 := cell0_of (k := 2) hx18 rfl
  have e3 := cell0_of (k := 3) hx18 rfl
  clear hw10 b910 hx18
  go_upto_region 11 with fail
  rw [← HW10.out]
  clear HW10
  have HT : Hid _ := told8 1 (by decide) (by decide) (.iface 78 (.pointer (some ⟨bc, 0, none⟩))) e w10 (H0.out.2.2.2.1.below b10) (H6.out.1.below (bel_step H10.out.1 (bel_step H9.out (bel_step H8.out.1 H7.out))))
  go_wp2_with fail
  refine Calls.mono HT.out ?_
  rintro r w11 ⟨rfl, hbt⟩
  have b11 : Below w.heap.size w w11 := bel_step hbt b10
  have hx18 := res_up hbt H10.out.2
  have H10 : Hid (Below w9.heap.size w9 w11 ∧ w11.heap[w9.heap.size]? = some (.cells #[.int .i64 1, .int .i64 0, .int .i64 0, .string refB1] 54 (0, 0))) := ⟨bel_step hbt H10.out.1, hx18⟩
  clear hbt HT e0 e1 e2 e3
  have e0 := cell0_of (k := 0) hx18 rfl
  have e1 := cell0_of (k := 1) hx18 rfl
  have e2 := cell0_of (k := 2) hx18 rfl
  have e3 := cell0_of (k := 3) hx18 rfl
  clear hx18
  have b8T : Below w8.heap.size w8 w11 := bel_step H10.out.1 H9.out
  have hb12 := res_up b8T H8.out.2.2
  have hb16 := res_up b8T H8.out.2.1
  have a0 := cell0_of (k := 0) hb12 rfl
  have a1 := cell0_of (k := 1) hb12 rfl
  have a2 := cell0_of (k := 2) hb12 rfl
  have d0 := cell0_of (k := 0) hb16 rfl
  have d1 := cell0_of (k := 1) hb16 rfl
  have d2 := cell0_of (k := 2) hb16 rfl
  have f0 := blk_free hb12 0
  have f1 := blk_free hb12 1
  have f2 := blk_free hb12 2
  have f3 := blk_free hb16 0
  have f4 := blk_free hb16 1
  have f5 := blk_free hb16 2
  have l1 := t_lt hb12
  have l2 := t_lt hb16
  have l0 : w4.heap.size < w7.heap.size := by have := H5.out.1.size; have := t_lt H5.out.2; have := (H6.out.2).size; have := (H7.out).size; omega
  have l3 : ¬ w4.heap.size = w11.heap.size := by omega
  have l4 : ¬ w7.heap.size = w11.heap.size := by omega
  have l5 : ¬ w11.heap.size = w4.heap.size := by omega
  have l6 : ¬ w11.heap.size = w7.heap.size := by omega
  have l7 : ¬ w4.heap.size = w7.heap.size := by omega
  have l8 : ¬ w7.heap.size = w4.heap.size := by omega
  clear e0 e1 e2 e3
  go_upto_region 17 with fail
  have bw2 := (HK.out fun _ => False).bw
  have bw5 : Below wB.heap.size wB w5 := bel_step H5.out.1 (bel_step (H4.out.2) (bel_step (H3.out.1.bl) bw2))
  have b2T : Below w2.heap.size w2 w11 := bel_step b8T (bel_step H8.out.1 (bel_step (H7.out) (bel_step (H6.out.2) (bel_step H5.out.1 (bel_step (H4.out.2) (H3.out.1.bl))))))
  have bwT : Below wB.heap.size wB w11 := bel_step b2T bw2
  have s2 := bw2.size
  have s23 := (H3.out.1.bl).size
  have s34 := (H4.out.2).size
  have s47 : w4.heap.size ≤ w7.heap.size := Nat.le_of_lt l0
  have s7T := l2
  obtain ⟨z2, k1⟩ := zero_again hb16
  obtain ⟨wS, hwS⟩ : ∃ wS, wS = ((w11.setCell ⟨w7.heap.size, 0, none⟩ (.slice none 0 0)).setCell ⟨w7.heap.size, 1, none⟩ (.slice none 0 0)).setCell ⟨w7.heap.size, 2, none⟩ (.int .i64 0) := ⟨_, rfl⟩
  rw [← hwS] at z2 k1 ⊢
  have sS : wS.heap.size = w11.heap.size := by rw [hwS]; simp
  have bwS : Below wB.heap.size wB wS := bwT.trans (k1.below bwT.size (fun i hi => by subst hi; omega))
  have b2S : Below w2.heap.size w2 wS := b2T.trans (k1.below b2T.size (fun i hi => by subst hi; omega))
  have z1 := (k1.block _ l1 (by omega)).trans hb12
  have hA := ((side_new hn bw2 H3.out.1 H3.out.2 H4.out.1 H4.out.2 (bel_step b8T (bel_step H8.out.1 (bel_step (H7.out) (bel_step (H6.out.2) H5.out.1))))).kept k1 fun i hi => by subst hi; exact ⟨by omega, _, hb16⟩)
  have hB := side_zero bwS
  have hAl := hA.lt
  have bY : Below wS.heap.size wS (wS.alloc (.cells Tryz.zeroCells62 62)) := (Below.refl _ _).alloc (Nat.le_refl _) _
  have hS0 := Start.of (fun F => ((HK.out F).below b2S).below bY) (hA.below bY) hB (by omega) (fun _ h => absurd h (by simp [Pst.new]))
  have z1 := res_up bY z1
  have z2 := res_up bY z2
  obtain ⟨wY, hwY⟩ : ∃ wY, wY = (wS.alloc (.cells Tryz.zeroCells62 62)) := ⟨_, rfl⟩
  rw [← hwY] at hS0 z1 z2 ⊢
  rw [sS] at hS0
  have HS : Hid _ := hS0
  have HE : Hid (Er 19 wB e ∧ EnvR wB (e 1) (e 3)) := ⟨H0.out.2.2.2.1.below HB.out, H0.out.2.2.2.2.below HB.out⟩
  clear a0 a1 a2 d0 d1 d2 f0 f1 f2 f3 f4 f5 l3 l4 l5 l6 l7 l8
  have a0 := cell0_of (k := 0) z1 rfl
  have a1 := cell0_of (k := 1) z1 rfl
  have a2 := cell0_of (k := 2) z1 rfl
  have d0 := cell0_of (k := 0) z2 rfl
  have d1 := cell0_of (k := 1) z2 rfl
  have d2 := cell0_of (k := 2) z2 rfl
  have l1 := t_lt z1
  have l2 := t_lt z2
  have l3 : ¬ w4.heap.size = wY.heap.size := by omega
  have l4 : ¬ w7.heap.size = wY.heap.size := by omega
  have l5 : ¬ wY.heap.size = w4.heap.size := by omega
  have l6 : ¬ wY.heap.size = w7.heap.size := by omega
  clear hS0 z1 z2 hwY hwS sS bwS b2S bwT b2T bw2 bw5 s2 s23 s34 s47 s7T l0 hb12 hb16 b8T k1 b2 b3 b4 b5 b6 b7 b8 b9 b10 H3 H4 H5 H6 H7 H8 H9 H10 HK
  go_cut [19, 20] (fun s19 s20 wx => ∃ ga gb : Nat, s19 = .pointer (some ⟨ga, 0, none⟩) ∧ s20 = .pointer (some ⟨gb, 0, none⟩) ∧ PE wB wx ga gb)
  case first =>
    go_region
    all_goals go_wp2_with fail
    all_goals
      go_meet
      have h1 := HS.out.pe1
      have h2 := HS.out.pe2
      unfold bothV at h1 h2
      simp only [show (Pst.new 0).nb = 0 from rfl, Int.natCast_zero] at h1 h2
      rw [← Hna.out] at h1 h2
      first
        | exact ⟨_, _, rfl, rfl, h1⟩
        | exact ⟨_, _, rfl, rfl, h2⟩
        | exact ⟨_, _, rfl, rfl, h1.below (Below.refl _ _).drew⟩
        | exact ⟨_, _, rfl, rfl, h2.below (Below.refl _ _).drew⟩
  case rest =>
    obtain ⟨ga, gb, rfl, rfl, hPE⟩ := hcut
    have HP : Hid (PE wB wc ga gb) := hPE
    clear hPE HS a0 a1 a2 d0 d1 d2 l1 l2 l3 l4 l5 l6
    go_wp2_with fail
    go_loopg [21] K (fun q iv wr => ∃ i : Nat, q = K - i ∧ i ≤ K ∧ iv = .int .i64 i ∧ PE wB wr ga gb)
    case atStart => exact ⟨0, rfl, Nat.zero_le _, rfl, HP.out⟩
    case round =>
      obtain ⟨i, rfl, hi, rfl, hPE⟩ := hrel
      clear HP
      by_cases hlt : i < K
      · have p0 : (0 : Int) ≤ (i : Int) := by omega
        have p1 : (i : Int) < (K : Int) := by omega
        obtain ⟨⟨kz, z⟩, hp⟩ : ∃ p, ops[i]? = some p := ⟨_, List.getElem?_eq_getElem (by have := HN.out.2; omega)⟩
        obtain ⟨ao', cap', hsl, hall⟩ := H0.out.2.2.1
        injection hsl with e1 e2 e3
        obtain ⟨a, ha, y0, y1⟩ := hall i _ hp
        rw [← e1] at ha
        subst ha
        have hbw : Below w.heap.size w wr := bel_step' hPE.bl HB.out
        have z0 := y0
        have z1 := y1
        have hup : ∀ W, Below w.heap.size w W → W.cell? (a.add (i * 2)) = some (.int .i64 kz) ∧ W.cell? ⟨(a.add (i * 2)).block, (a.add (i * 2)).off + 1, none⟩ = some (.int .i64 z) := fun W hW => by
          have q1 := cellu z0 hW
          have q2 := cellu z1 hW
          refine ⟨q1, ?_⟩
          have q3 : W.cell? ((a.add (i * 2)).add 1) = some (.int .i64 z) := by rw [add_two8]; exact q2
          rw [← q3]; rfl
        obtain ⟨y0, y1⟩ := hup wr hbw
        have H1 : Hid _ := And.intro (step_any8 wB wr ga gb e kz z hPE HE.out.1 HE.out.2) hup
        clear z0 z1 hup hPE hbw hall hp e1 e2 e3
        go_wp2_with fail
        refine Calls.mono H1.out.1 ?_
        rintro r w1 ⟨rfl, hP1⟩
        have hb1 : Below w.heap.size w w1 := bel_step' hP1.bl HB.out
        clear y0 y1
        obtain ⟨y0, y1⟩ := H1.out.2 w1 hb1
        have H2 : Hid (PE wB w1 ga gb) := hP1
        clear hP1 hb1
        by_cases hpar : ((i : Int).tmod 2) = 0
        · have hpb : ((i : Int).tmod 2 == 0) = true := by simpa using hpar
          have hpb2 : ((i : Int) % 2 == 0) = true := by rw [← Int.tmod_eq_emod_of_nonneg p0]; exact hpb
          have hp2 : (i : Int) % 2 = 0 := by simpa using hpb2
          have HS2 : Hid _ := step_any8 wB w1 gb ga e kz z H2.out.swap HE.out.1 HE.out.2
          clear hpar
          go_wp2_with fail
          refine Calls.mono HS2.out ?_
          rintro r w2 ⟨rfl, hP2⟩
          have H3 : Hid (PE wB w2 ga gb) := hP2.swap
          clear hP2 HS2 H2 y0 y1
          cases each with
          | false =>
            go_wp2_with fail
            go_roundg (K - (i + 1))
            case measure => omega
            case rel => exact ⟨i + 1, rfl, by omega, by go_num, H3.out⟩
          | true =>
            have HL : Hid _ := looks_pe H3.out
            go_wp2_with fail
            refine Calls.mono HL.out ?_
            rintro r w3 ⟨rfl, hP3⟩
            have HL2 : Hid _ := looks_pe hP3.swap
            clear HL hP3 H3
            go_wp2_with fail
            refine Calls.mono HL2.out ?_
            rintro r w4 ⟨rfl, hP4⟩
            have H4 : Hid (PE wB w4 ga gb) := hP4.swap
            clear HL2 hP4
            go_wp2_with fail
            go_roundg (K - (i + 1))
            case measure => omega
            case rel => exact ⟨i + 1, rfl, by omega, by go_num, H4.out⟩
        · have hpb : ((i : Int).tmod 2 == 0) = false := by simpa using hpar
          have hpb2 : ((i : Int) % 2 == 0) = false := by rw [← Int.tmod_eq_emod_of_nonneg p0]; exact hpb
          have hp2 : ¬ (i : Int) % 2 = 0 := by simpa using hpb2
          clear hpar y0 y1
          cases each with
          | false =>
            go_wp2_with fail
            go_roundg (K - (i + 1))
            case measure => omega
            case rel => exact ⟨i + 1, rfl, by omega, by go_num, H2.out⟩
          | true =>
            have HL : Hid _ := looks_pe H2.out
            go_wp2_with fail
            refine Calls.mono HL.out ?_
            rintro r w3 ⟨rfl, hP3⟩
            have HL2 : Hid _ := looks_pe hP3.swap
            clear HL hP3
            go_wp2_with fail
            refine Calls.mono HL2.out ?_
            rintro r w4 ⟨rfl, hP4⟩
            have H4 : Hid (PE wB w4 ga gb) := hP4.swap
            clear HL2 hP4
            go_wp2_with fail
            go_roundg (K - (i + 1))
            case measure => omega
            case rel => exact ⟨i + 1, rfl, by omega, by go_num, H4.out⟩
      · obtain rfl : i = K := by omega
        have p1 : ¬ (i : Int) < (i : Int) := by omega
        have HL : Hid _ := looks_pe hPE
        clear hPE
        go_wp2_with fail
        refine Calls.mono HL.out ?_
        rintro r w3 ⟨rfl, hP3⟩
        have HL2 : Hid _ := looks_pe hP3.swap
        clear HL hP3
        go_wp2_with fail
        refine Calls.mono HL2.out ?_
        rintro r w4 ⟨rfl, hP4⟩
        have H4 : Hid _ := And.intro hP4.swap.apart (bel_step' hP4.bl HB.out)
        clear HL2 hP4
        cases each with
        | false =>
          go_wp2_with fail
          go_ret
          exact ⟨rfl, H4.out.2⟩
        | true =>
          go_wp2_with fail
          refine Calls.mono H4.out.1 ?_
          rintro r w6 ⟨rfl, hb6⟩
          have H6 : Hid (Below w.heap.size w w6) := bel_step' hb6 HB.out
          clear hb6
          go_wp2_with fail
          go_ret
          exact ⟨rfl, H6.out⟩
end Go.Proofs.YtpcndfffljmajaaGreatDoor
