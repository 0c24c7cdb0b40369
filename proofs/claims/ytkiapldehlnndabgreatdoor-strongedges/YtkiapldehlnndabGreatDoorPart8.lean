/- Texts of this claim, joined: SgTk1, SgHist, SgMod, SgTk2. -/
import Derived.Test.YtkiapldehlnndabGreatDoorPart7
/- strong: plain facts on a taking: the counts step by step, the sources as lists of states, what all splits together make. -/
namespace Go.Proofs.YtkiapldehlnndabGreatDoor
open Go.RowKit Go.Maps
namespace Sg
theorem withC_step {f : Int → Int → Int → Int} {rest own : Int} {E : Nat → List Int} {j i : Nat} {z : Int} (hne : rest ≠ own) (h : (E j)[i]? = some z) (p b q : Int) :
    updC (updC (withC f rest own (gAt E j i)) z (j : Int) rest (withC f rest own (gAt E j i) z (j : Int) rest - 1)) z (j : Int) own (withC f rest own (gAt E j i) z (j : Int) own + 1) p b q = withC f rest own (gAt E j (i + 1)) p b q := by
  unfold updC
  by_cases hb : b = (j : Int)
  · subst hb
    unfold withC
    rw [gAt_step E j i h]
    simp only [List.count_append, List.count_singleton]
    by_cases hp : p = z
    · subst hp
      by_cases h1 : q = rest
      · subst h1
        simp [hne]; omega
      · by_cases h2 : q = own
        · subst h2
          simp; omega
        · simp [h1, h2]
    · have hp2 : (z == p) = false := by simp; exact fun e => hp e.symm
      simp [hp, hp2]
  · unfold withC
    rw [gAt_other E j i hb]
    simp [hb]
theorem gAt_len {E : Nat → List Int} {c : Nat} (h : ∀ l, (E l).length ≤ c) (j i : Nat) (b : Int) : (gAt E j i b).length ≤ c := by
  unfold gAt
  split
  · exact h _
  · split
    · rw [List.length_take]; have := h j; omega
    · exact Nat.zero_le _
theorem withC_le {f : Int → Int → Int → Int} {rest own : Int} {Gf : Int → List Int} {c : Nat} (hf : ∀ p b q, 0 ≤ f p b q ∧ f p b q ≤ (c : Int)) (hG : ∀ b, (Gf b).length ≤ c) (p b q : Int) : -(c : Int) ≤ withC f rest own Gf p b q ∧ withC f rest own Gf p b q ≤ 2 * (c : Int) := by
  have h1 := hf p b q
  have h2 := hG b
  have h3 := List.count_le_length (a := p) (l := Gf b)
  unfold withC
  split
  · omega
  · split <;> omega
theorem cf_le {T : List Sy.Ed} {c : Nat} (h : T.length ≤ c) (H : Nat → Int) (p b q : Int) : 0 ≤ cf T H p b q ∧ cf T H p b q ≤ (c : Int) := by
  unfold cf
  have := cn_le T (fun t => H t.toNat == q) p b
  omega
def srcE (G : Gp) (s : Pst) (bl l : Nat) : List Int := ends (inAll (insOf G.n G.es) (s.mem bl)) (l : Int)
def srcN (G : Gp) (s : Pst) (bl l : Nat) : List Nat := (srcE G s bl l).map Int.toNat
theorem tn_right {G : Gp} (h : Sy.right G.n (G.kk : Int) G.st G.es = true) : ∀ e ∈ tn G.es, (0 ≤ e.1 ∧ e.1 < (G.n : Int)) ∧ (0 ≤ e.2.1 ∧ e.2.1 < (G.kk : Int)) ∧ (0 ≤ e.2.2 ∧ e.2.2 < (G.n : Int)) := fun e he => by
  have h1 := (right_parts h).2.2.2.2.2 _ ((Sy.nf_mem _ _).1 (tn_mem.1 he))
  simp only [Sy.turn] at h1
  exact ⟨⟨h1.2.2.1, h1.2.2.2.1⟩, ⟨h1.2.2.2.2.1, h1.2.2.2.2.2⟩, ⟨h1.1, h1.2.1⟩⟩
theorem tn_len {G : Gp} (h : Sy.right G.n (G.kk : Int) G.st G.es = true) : (tn G.es).length ≤ 10000 := by
  have h1 := (right_parts h).2.2.1
  have h2 := Sy.nf_len G.es
  have h3 := nf_turn_len G.es
  unfold tn
  omega
theorem mem_small {s : Pst} {bl : Nat} : ∀ q ∈ s.mem bl, 0 ≤ q ∧ q < (s.n : Int) := fun q hq => by
  obtain ⟨e, h1, _, rfl⟩ := mem_mem.1 hq
  omega
theorem srcE_count {G : Gp} {s : Pst} {bl : Nat} (hr : Sy.right G.n (G.kk : Int) G.st G.es = true) (hn : s.n = G.n) (l : Nat) (p : Int) : (srcE G s bl l).count p = cn (tn G.es) (fun t => decide (s.O t.toNat = bl)) p (l : Int) := by
  unfold srcE
  have h1 : insOf G.n G.es = Sy.rowOf G.n (tn G.es) := rfl
  rw [h1, count_ends (fun q hq => by have := mem_small q hq; omega) (mem_nodup s bl)]
  refine cn_congr (fun e he => ?_) p _
  have h2 := (tn_right hr e he).1
  refine decide_eq_decide.2 ?_
  rw [mem_mem]
  constructor
  · rintro ⟨a, h3, h4, h5⟩
    rw [h5]; exact h4
  · intro h3
    exact ⟨e.1.toNat, by omega, h3, by omega⟩
theorem srcE_len {G : Gp} {s : Pst} {bl : Nat} (hr : Sy.right G.n (G.kk : Int) G.st G.es = true) (l : Nat) : (srcE G s bl l).length ≤ 10000 := by
  have h1 := ends_len (inAll (insOf G.n G.es) (s.mem bl)) (l : Int)
  have h2 : insOf G.n G.es = Sy.rowOf G.n (tn G.es) := rfl
  have h3 := inAll_le (T := tn G.es) (n := G.n) (mem_nodup s bl)
  have h4 := tn_len hr
  rw [← h2] at h3
  unfold srcE
  omega
theorem srcE_mem {G : Gp} {s : Pst} {bl : Nat} (hr : Sy.right G.n (G.kk : Int) G.st G.es = true) (hn : s.n = G.n) {l : Nat} {z : Int} (h : z ∈ srcE G s bl l) : 0 ≤ z ∧ z < (G.n : Int) := by
  have h1 := List.count_pos_iff.2 h
  rw [srcE_count hr hn, cn_pos] at h1
  obtain ⟨e, he, _, _, rfl⟩ := h1
  exact (tn_right hr e he).2.2
theorem srcN_nat {G : Gp} {s : Pst} {bl : Nat} (hr : Sy.right G.n (G.kk : Int) G.st G.es = true) (hn : s.n = G.n) (l : Nat) : natI (srcN G s bl l) = srcE G s bl l := by
  unfold natI srcN
  rw [List.map_map]
  conv => rhs; rw [← List.map_id (srcE G s bl l)]
  refine List.map_congr_left fun z hz => ?_
  have := srcE_mem hr hn hz
  show ((z.toNat : Nat) : Int) = z
  omega
def outG (G : Gp) (i : Nat) : List (Int × Int) := Sy.rowOf G.n (Sy.nf G.es) (i : Int)
theorem srcN_mem {G : Gp} {s : Pst} {bl : Nat} (hr : Sy.right G.n (G.kk : Int) G.st G.es = true) (hn : s.n = G.n) {l a : Nat} (ha : a < G.n) : a ∈ srcN G s bl l ↔ into (outG G) (fun t => s.O t = bl) (l : Int) a := by
  have h1 : a ∈ srcN G s bl l ↔ (a : Int) ∈ srcE G s bl l := by
    rw [← srcN_nat hr hn]
    unfold natI
    rw [List.mem_map]
    exact ⟨fun h => ⟨a, h, rfl⟩, fun ⟨b, h, e⟩ => by rw [← Int.ofNat_inj.1 e]; exact h⟩
  rw [h1, ← List.count_pos_iff, srcE_count hr hn]
  have h2 := into_cn (n := G.n) (es := G.es) (X := fun t => decide (s.O t = bl)) ha (l : Int)
  rw [← h2]
  unfold into outG
  simp only [decide_eq_true_eq]
def srcF (G : Gp) (s : Pst) (bl : Nat) (F : Int → Int → Int → Int) (o : Int) (l : Nat) : List Nat := (srcN G s bl l).filter fun a => !decide (0 < F (a : Int) (l : Int) o)
theorem srcF_nat {G : Gp} {s : Pst} {bl : Nat} {F : Int → Int → Int → Int} {o : Int} (hr : Sy.right G.n (G.kk : Int) G.st G.es = true) (hn : s.n = G.n) (l : Nat) : natI (srcF G s bl F o l) = (srcE G s bl l).filter fun z => !decide (0 < F z (l : Int) o) := by
  rw [← srcN_nat hr hn]
  unfold srcF natI
  rw [List.filter_map]
  rfl
end Sg
structure TakeAt (w w' : World) (r p mb nm nm' : Nat) (G : Gp) (s s' : Pst) (x x' : Rv) (bl : Nat) : Prop where
  nm : nm' ≤ nm + 10000000
  ks : x'.ks.length = x.ks.length + 1
  hp : ∀ e, e < s.n → hOf s' x' e = if s.O e = bl then (x.ks.length : Int) else hOf s x e
  sp : Sg.Split s.n (Sg.By (Sg.outG G) (fun t => s.O t = bl) fun t => hOf s x t = x.of bl ∧ ¬ s.O t = bl) s.O s'.O
  kp : Kept (fun b => b = p ∨ b = r ∨ b = mb ∨ x.foot b) w w'
  ft : ∀ b, x'.foot b → x.foot b ∨ w.heap.size ≤ b
def Sg.Qj (G : Gp) (s : Pst) (bl : Nat) (F : Int → Int → Int → Int) (o : Int) (j a b : Nat) : Prop := ∀ l, l < j → (a ∈ Sg.srcN G s bl l ↔ b ∈ Sg.srcN G s bl l) ∧ (a ∈ Sg.srcF G s bl F o l ↔ b ∈ Sg.srcF G s bl F o l)
theorem Sg.Qj_next (G : Gp) (s : Pst) (bl : Nat) (F : Int → Int → Int → Int) (o : Int) (j a b : Nat) : Sg.Qj G s bl F o (j + 1) a b ↔ (Sg.Qj G s bl F o j a b ∧ (a ∈ Sg.srcN G s bl j ↔ b ∈ Sg.srcN G s bl j)) ∧ (a ∈ Sg.srcF G s bl F o j ↔ b ∈ Sg.srcF G s bl F o j) := by
  constructor
  · intro h
    exact ⟨⟨fun l hl => h l (by omega), (h j (by omega)).1⟩, (h j (by omega)).2⟩
  · rintro ⟨⟨h1, h2⟩, h3⟩ l hl
    by_cases e : l = j
    · subst e; exact ⟨h2, h3⟩
    · exact h1 l (by omega)
theorem Sg.final {f : Int → Int → Int → Int} {rest own : Int} (E : Nat → List Int) {l j : Nat} (h : l < j) (z q : Int) : Sg.withC f rest own (Sg.gAt E j 0) z (l : Int) q = Sg.withC f rest own (Sg.gAt E (l + 1) 0) z (l : Int) q := by
  have h1 : Sg.gAt E j 0 (l : Int) = Sg.gAt E (l + 1) 0 (l : Int) := by
    unfold Sg.gAt
    rw [if_pos (show 0 ≤ (l : Int) ∧ (l : Int) < (j : Int) by omega), if_pos (show 0 ≤ (l : Int) ∧ (l : Int) < ((l + 1 : Nat) : Int) by omega)]
  unfold Sg.withC
  rw [h1]
theorem take_done {w0 w wb wc wd wr : World} {r g p mb nm nm' bl o k : Nat} {G : Gp} {s s1 : Pst} {x x2 x1 : Rv} {bs : List Int} {R : Nat → Prop} (hR : RunAt w0 w r g p mb nm G s x) (hb : bl < s.nb) (how : x.ow[bl]? = some (o : Int)) (hol : o < x.ks.length) (hks : x.ks[o]? = some k)
    (hA : LiftAt wb wc w0.heap.size r g p mb x x2 bl o k (s.mem bl).length bs) (hw1 : Below w.heap.size w wb) (hw2 : Below wc.heap.size wc wd) (hRb : ∀ b, R b → w.heap.size ≤ b)
    (hT : TkS w0 wd wr r g p mb s s1 x2 x1 R (Sg.Qj G s bl (Sg.withC (Sg.cf (Sg.tn G.es) (hOf s x)) (o : Int) (x.ks.length : Int) (Sg.gAt (Sg.srcE G s bl) G.kk 0)) (o : Int) G.kk)) (hC : Cnt wr mb nm' (Sg.withC (Sg.cf (Sg.tn G.es) (hOf s x)) (o : Int) (x.ks.length : Int) (Sg.gAt (Sg.srcE G s bl) G.kk 0))) (hnm : nm' ≤ nm + 10000000) :
    RunAt w0 wr r g p mb nm' G s1 x1 ∧ TakeAt w wr r p mb nm nm' G s s1 x x1 bl := by
  have hr : Sy.right G.n (G.kk : Int) G.st G.es = true := hR.gr.right
  have hn := hR.n
  have hofb : x.of bl = (o : Int) := by unfold Rv.of; rw [how]; rfl
  have hH2 : ∀ e, e < s.n → hOf s1 x1 e = if s.O e = bl then (x.ks.length : Int) else hOf s x e := fun e he => by
    rw [hT.of e he]
    exact lift_of hA hR.i hb (s.O e)
  have hnew : ∀ e, e < s.n → hOf s x e ≠ (x.ks.length : Int) := fun e he h => by
    obtain ⟨q, h1, h2⟩ := hR.i.own (s.O e) (hR.ok.o e he).1
    unfold hOf Rv.of at h
    rw [h1] at h
    simp only [Option.getD_some] at h
    omega
  have hBo : ∀ e, s.O e = bl → hOf s x e = (o : Int) := fun e he => by unfold hOf; rw [he]; exact hofb
  have hne : (o : Int) ≠ (x.ks.length : Int) := by omega
  have hcf : ∀ p b q, Sg.withC (Sg.cf (Sg.tn G.es) (hOf s x)) (o : Int) (x.ks.length : Int) (Sg.gAt (Sg.srcE G s bl) G.kk 0) p b q = Sg.cf (Sg.tn G.es) (hOf s1 x1) p b q := fun p b q => by
    refine (Sg.cf_take (X := fun e => decide (s.O e = bl)) hne (fun e _ hx => hBo _ (of_decide_eq_true hx)) (fun e he => ?_) (fun e he => ?_) ?_ q).symm
    · have h1 := (Sg.tn_right hr e he).1
      rw [hH2 _ (by omega)]
      simp only [decide_eq_true_eq]
    · have h1 := (Sg.tn_right hr e he).1
      exact hnew _ (by omega)
    · unfold Sg.gAt
      by_cases h1 : 0 ≤ b ∧ b < (G.kk : Int)
      · rw [if_pos h1, Sg.srcE_count hr hn, show ((b.toNat : Nat) : Int) = b by omega]
      · rw [if_neg h1]
        have h2 : Sg.cn (Sg.tn G.es) (fun t => decide (s.O t.toNat = bl)) p b = 0 := by
          refine Nat.eq_zero_of_not_pos fun h3 => ?_
          obtain ⟨e, he, _, h4, _⟩ := Sg.cn_pos.1 h3
          have := (Sg.tn_right hr e he).2.1
          omega
        rw [h2]
        split <;> simp
  have hks2 : x1.ks = x.ks.set o (k - (s.mem bl).length) ++ [(s.mem bl).length] := by rw [hT.ks, hA.ks]
  have hB : (s.mem bl).length = (List.range G.n).countP fun e => decide (s.O e = bl) := by rw [mem_count, hn]
  have hcnt : ∀ q : Int, hc G.n (hOf s1 x1) q = (List.range G.n).countP fun e => (if s.O e = bl then (x.ks.length : Int) else hOf s x e) == q := fun q => by
    unfold hc
    refine List.countP_congr fun e he => ?_
    rw [hH2 e (by rw [hn]; exact List.mem_range.1 he)]
  refine ⟨⟨hT.m, hT.c, hT.ok, hT.bare, hT.n.trans hn, hT.i, hR.gr, hR.mu, hC.congr hcf, fun q k' hq => ?_⟩, ⟨hnm, ?_, hH2, ?_, ?_, ?_⟩⟩
  · rw [hcnt]
    rw [hks2] at hq
    rcases Nat.lt_or_ge q x.ks.length with h1 | h1
    · rw [List.getElem?_append_left (by rw [List.length_set]; exact h1)] at hq
      by_cases e : q = o
      · subst e
        rw [List.getElem?_set_self h1] at hq
        have h2 := Option.some.inj hq
        have h3 := hR.ksv q k hks
        have h4 : hc G.n (hOf s x) (q : Int) = ((List.range G.n).countP fun e => (if s.O e = bl then (x.ks.length : Int) else hOf s x e) == (q : Int)) + (List.range G.n).countP fun e => decide (s.O e = bl) := countP_add fun e _ => by
          by_cases h5 : s.O e = bl
          · rw [hBo e h5]
            simp [h5]; omega
          · simp [h5]
        omega
      · rw [List.getElem?_set_ne (fun e2 => e e2.symm)] at hq
        rw [hR.ksv q k' hq]
        unfold hc
        refine List.countP_congr fun e he => ?_
        by_cases h5 : s.O e = bl
        · rw [hBo e h5, if_pos h5]
          simp; omega
        · rw [if_neg h5]
    · rw [List.getElem?_append_right (by rw [List.length_set]; exact h1), List.length_set] at hq
      have h2 := (List.getElem?_eq_some_iff.1 hq).1
      simp only [List.length_cons, List.length_nil] at h2
      have h3 : q = x.ks.length := by omega
      rw [h3, Nat.sub_self] at hq
      have h4 := Option.some.inj hq
      rw [← h4, hB, h3]
      refine List.countP_congr fun e he => ?_
      by_cases h5 : s.O e = bl
      · simp [h5]
      · have := hnew e (by rw [hn]; exact List.mem_range.1 he)
        simp [h5, this]
  · rw [hks2, List.length_append, List.length_set]; rfl
  · intro a b ha hb2
    rw [hT.eq a b ha hb2]
    refine and_congr_right fun _ => ?_
    rw [hn] at ha hb2
    have hY : ∀ (c : Nat) (l : Nat), c < G.n → l < G.kk → (c ∈ Sg.srcF G s bl (Sg.withC (Sg.cf (Sg.tn G.es) (hOf s x)) (o : Int) (x.ks.length : Int) (Sg.gAt (Sg.srcE G s bl) G.kk 0)) (o : Int) l ↔ (Sg.into (Sg.outG G) (fun t => s.O t = bl) (l : Int) c ∧ ¬ Sg.into (Sg.outG G) (fun t => hOf s x t = x.of bl ∧ ¬ s.O t = bl) (l : Int) c)) := fun c l hc hl => by
      unfold Sg.srcF
      rw [List.mem_filter, Sg.srcN_mem hr hn hc, hcf]
      refine and_congr_right fun _ => ?_
      rw [Bool.not_eq_true', decide_eq_false_iff_not]
      refine not_congr ?_
      unfold Sg.cf
      have h1 := Sg.into_cn (n := G.n) (es := G.es) (X := fun t => hOf s1 x1 t == (o : Int)) hc (l : Int)
      rw [show (0 : Int) < ((Sg.cn (Sg.tn G.es) (fun t => hOf s1 x1 t.toNat == (o : Int)) (c : Int) (l : Int) : Nat) : Int) ↔ 0 < Sg.cn (Sg.tn G.es) (fun t => hOf s1 x1 t.toNat == (o : Int)) (c : Int) (l : Int) by omega, ← h1]
      have hf : Sg.Fits G.n (Sg.outG G) := fun p hp z hz => by
        unfold Sg.outG Sy.rowOf at hz
        rw [if_pos ⟨by omega, by omega⟩] at hz
        have h2 := (right_parts hr).2.2.2.2.2 _ ((Sy.nf_mem _ _).1 (Sy.steps_mem.1 hz))
        simp only at h2
        exact ⟨h2.2.2.1, h2.2.2.2.1⟩
      refine Sg.into_congr hf (fun t ht => ?_) hc
      rw [hH2 t (by rw [hn]; exact ht), hofb]
      by_cases h5 : s.O t = bl
      · rw [if_pos h5]
        simp [h5]; omega
      · rw [if_neg h5]
        simp [h5]
    constructor
    · intro hQ X hX
      obtain ⟨l, hX⟩ := hX
      by_cases hl : 0 ≤ l ∧ l < (G.kk : Int)
      · obtain ⟨lN, rfl⟩ : ∃ lN : Nat, l = lN := ⟨l.toNat, by omega⟩
        have h1 := hQ lN (by omega)
        rcases hX with rfl | rfl
        · rw [← Sg.srcN_mem hr hn ha, ← Sg.srcN_mem hr hn hb2]; exact h1.1
        · have h2 := h1.2
          rw [hY a lN ha (by omega), hY b lN hb2 (by omega)] at h2
          exact h2
      · have hno : ∀ (Z : Nat → Prop) (c : Nat), c < G.n → ¬ Sg.into (Sg.outG G) Z l c := fun Z c hc ⟨z, hz, h1, _⟩ => by
          unfold Sg.outG Sy.rowOf at hz
          rw [if_pos ⟨by omega, by omega⟩] at hz
          have h2 := (right_parts hr).2.2.2.2.2 _ ((Sy.nf_mem _ _).1 (Sy.steps_mem.1 hz))
          simp only at h2
          omega
        rcases hX with rfl | rfl
        · exact ⟨fun h => absurd h (hno _ a ha), fun h => absurd h (hno _ b hb2)⟩
        · exact ⟨fun h => absurd h.1 (hno _ a ha), fun h => absurd h.1 (hno _ b hb2)⟩
    · intro h l hl
      refine ⟨?_, ?_⟩
      · rw [Sg.srcN_mem hr hn ha, Sg.srcN_mem hr hn hb2]
        exact h _ ⟨(l : Int), .inl rfl⟩
      · rw [hY a l ha hl, hY b l hb2 hl]
        exact h _ ⟨(l : Int), .inr rfl⟩
  · have h1 : Kept (fun b => b = p ∨ b = r ∨ b = mb ∨ x.foot b) w wc := (Kept.of_below hw1).trans2 hA.gw.kp fun b hb => .inl (hb.elim (fun e => .inr (.inl e)) fun e => .inr (.inr (.inr e)))
    refine (h1.trans (Kept.of_below hw2)).trans2 hT.kp fun b hb => ?_
    rcases hb with e | e | e | e | e
    · exact .inl (.inl e)
    · exact .inl (.inr (.inl e))
    · exact .inl (.inr (.inr (.inl e)))
    · rcases hA.gw.ft b e with h2 | h2
      · exact .inl (.inr (.inr (.inr h2)))
      · exact .inr (Nat.le_trans hw1.size h2)
    · exact .inr (hRb b e)
  · intro b hb2
    rcases hT.ft b hb2 with h1 | h1
    · rcases hA.gw.ft b h1 with h2 | h2
      · exact .inl h2
      · exact .inr (Nat.le_trans hw1.size h2)
    · exact .inr (Nat.le_trans hw1.size (Nat.le_trans hA.gw.kp.size (Nat.le_trans hw2.size h1)))
end Go.Proofs.YtkiapldehlnndabGreatDoor
/- What a run of takings makes of blocks and heaps: plain facts, by induction over the takings. Nothing of the program is in it. -/
namespace Go.Proofs.YtkiapldehlnndabGreatDoor.Sg
open Ro
def EvenI (n : Nat) (out : Nat → List St) (O : Nat → Nat) (H : Nat → Int) : Prop := ∀ p q, p < n → q < n → O p = O q → ∀ b k, into out (fun t => H t = k) b p → into out (fun t => H t = k) b q
theorem take_evenI {n : Nat} {out : Nat → List St} {O O' : Nat → Nat} {H H' : Nat → Int} (hf : Fits n out) {h0 own : Int} {B : Nat → Prop}
    (hB : ∀ t, t < n → B t → H t = h0) (hH' : ∀ t, t < n → (H' t = own ↔ B t)) (hO' : ∀ t, t < n → ¬ B t → H' t = H t) (hne : h0 ≠ own) (hnew : ∀ t, t < n → H t ≠ own)
    (hE : EvenI n out O H ∨ ∀ t, t < n → B t) (hS : Split n (By out B fun t => H t = h0 ∧ ¬ B t) O O') : EvenI n out O' H' := by
  intro p q hp hq e b k hk
  obtain ⟨e0, hX⟩ := (hS p q hp hq).1 e
  have hA : into out B b p ↔ into out B b q := hX _ ⟨b, .inl rfl⟩
  have hC : (into out B b p ∧ ¬ into out (fun t => H t = h0 ∧ ¬ B t) b p) ↔ (into out B b q ∧ ¬ into out (fun t => H t = h0 ∧ ¬ B t) b q) := hX _ ⟨b, .inr rfl⟩
  by_cases h1 : k = own
  · subst h1
    exact (into_congr hf hH' hq).2 (hA.1 ((into_congr hf hH' hp).1 hk))
  · rcases hE with hE | hall
    · by_cases h2 : k = h0
      · subst h2
        have key : ∀ t, t < n → (H' t = k ↔ H t = k ∧ ¬ B t) := fun t ht => by
          constructor
          · intro h
            have hb : ¬ B t := fun hb => by have := (hH' t ht).2 hb; omega
            exact ⟨by rw [← hO' t ht hb]; exact h, hb⟩
          · rintro ⟨h, hb⟩
            rw [hO' t ht hb]; exact h
        rw [into_congr hf key hp] at hk
        rw [into_congr hf key hq]
        by_cases hb : into out B b p
        · by_cases hz : into out (fun t => H t = k ∧ ¬ B t) b q
          · exact hz
          · exact absurd hk (hC.2 ⟨hA.1 hb, hz⟩).2
        · have hz : into out (fun t => H t = k) b p := by
            obtain ⟨z, h3, h4, h5⟩ := hk
            exact ⟨z, h3, h4, h5.1⟩
          obtain ⟨z, h3, h4, h5⟩ := hE p q hp hq e0 b k hz
          by_cases h6 : B z.2.toNat
          · exact absurd (hA.2 ⟨z, h3, h4, h6⟩) hb
          · exact ⟨z, h3, h4, h5, h6⟩
      · have key : ∀ t, t < n → (H' t = k ↔ H t = k) := fun t ht => by
          by_cases hb : B t
          · have h3 := (hH' t ht).2 hb
            have h4 := hB t ht hb
            constructor <;> intro h <;> omega
          · rw [hO' t ht hb]
        rw [into_congr hf key hp] at hk
        rw [into_congr hf key hq]
        exact hE p q hp hq e0 b k hk
    · obtain ⟨z, h3, h4, h5⟩ := hk
      have ht : z.2.toNat < n := by have := hf p hp z h3; omega
      have := (hH' _ ht).2 (hall _ ht)
      exact absurd (h5.symm.trans this) h1
theorem take_coarseI {n : Nat} {out : Nat → List St} {R : Nat} {O O' : Nat → Nat} {H : Nat → Int} (hn : n ≤ 1000) (hf : Fits n out) (hR : Last n out R) {B : Nat → Prop} {h0 : Int} (hB : Sat n (rnd n out R) B) (hH : Sat n (rnd n out R) fun t => H t = h0) (hc : Coarse n (rnd n out R) O) (hS : Split n (By out B fun t => H t = h0 ∧ ¬ B t) O O') : Coarse n (rnd n out R) O' := by
  refine hS.coarse hc ?_
  rintro X ⟨b, rfl | rfl⟩
  · exact last_into hn hf hR hB b
  · exact (last_into hn hf hR hB b).and (last_into hn hf hR (hH.and hB.not) b).not
theorem even_stableI {n : Nat} {out : Nat → List St} {O : Nat → Nat} {H : Nat → Int} (hf : Fits n out) (hE : EvenI n out O H) (h1 : ∀ p q, p < n → q < n → (O p = O q ↔ H p = H q)) : Stable n out O := by
  intro p q hp hq e b B ⟨z, h2, h3, h4⟩
  have ht : z.2.toNat < n := by have := hf p hp z h2; omega
  obtain ⟨z', h5, h6, h7⟩ := hE p q hp hq e b (H z.2.toNat) ⟨z, h2, h3, rfl⟩
  have ht' : z'.2.toNat < n := by have := hf q hq z' h5; omega
  exact ⟨z', h5, h6, by rw [← h4]; exact (h1 _ _ ht' ht).2 h7⟩
theorem nodup_sub {α : Type} [DecidableEq α] : ∀ (l m : List α), l.Nodup → (∀ a ∈ l, a ∈ m) → l.length ≤ m.length
  | [], _, _, _ => Nat.zero_le _
  | a :: r, m, hd, h => by
    obtain ⟨h1, h2⟩ := List.nodup_cons.1 hd
    have h3 := nodup_sub r (m.erase a) h2 fun b hb => by
      refine (List.mem_erase_of_ne ?_).2 (h b (List.mem_cons_of_mem _ hb))
      rintro rfl
      exact h1 hb
    have h4 := List.length_erase_of_mem (h a List.mem_cons_self)
    have h5 : 0 < m.length := List.length_pos_of_mem (h a List.mem_cons_self)
    rw [List.length_cons]
    omega
def memb (n : Nat) (O : Nat → Nat) (bl : Nat) : List Int := ((List.range n).filter fun e => decide (O e = bl)).map fun e : Nat => (e : Int)
def bc (n : Nat) (O : Nat → Nat) (bl : Nat) : Nat := (List.range n).countP fun e => decide (O e = bl)
inductive Hist (G : Gp) : List (List Int) → (Nat → Nat) → (Nat → Int) → Nat → Prop
  | nil : Hist G [] (fun _ => 0) (fun _ => 0) 1
  | step {tk : List (List Int)} {O O' : Nat → Nat} {H H' : Nat → Int} {h : Nat} (e0 : Nat) (hh : Hist G tk O H h) (he : e0 < G.n) (half : H e0 = 0 ∨ 2 * bc G.n O (O e0) ≤ hc G.n H (H e0))
      (sp : Split G.n (By (outG G) (fun t => O t = O e0) fun t => H t = H e0 ∧ ¬ O t = O e0) O O') (hp : ∀ e, e < G.n → H' e = if O e = O e0 then (h : Int) else H e) : Hist G (tk ++ [memb G.n O (O e0)]) O' H' (h + 1)
structure HistI (G : Gp) (tk : List (List Int)) (O : Nat → Nat) (H : Nat → Int) (h : Nat) : Prop where
  len : h = tk.length + 1
  first : tk = [] → (∀ e, e < G.n → O e = 0 ∧ H e = 0)
  rng : ∀ e, e < G.n → (0 ≤ H e ∧ H e < (h : Int)) ∧ (tk ≠ [] → 1 ≤ H e)
  fn : ∀ a b, a < G.n → b < G.n → O a = O b → H a = H b
  full : ∀ o : Nat, 1 ≤ o → o < h → ∃ e, e < G.n ∧ H e = (o : Int)
  one : tk ≠ [] → 0 < G.n
theorem exists_not {n : Nat} {p q : Nat → Bool} (h1 : (List.range n).countP p < (List.range n).countP q) : ∃ e, e < n ∧ q e = true ∧ p e = false := by
  refine Classical.byContradiction fun hn => ?_
  have h2 : (List.range n).countP q ≤ (List.range n).countP p := List.countP_mono_left fun e he hq => by
    cases hp : p e with
    | true => rfl
    | false => exact absurd ⟨e, List.mem_range.1 he, hq, hp⟩ hn
  omega
theorem Hist.inv {G : Gp} {tk : List (List Int)} {O : Nat → Nat} {H : Nat → Int} {h : Nat} (hh : Hist G tk O H h) : HistI G tk O H h := by
  induction hh with
  | nil => exact ⟨rfl, fun _ _ _ => ⟨rfl, rfl⟩, fun e _ => ⟨⟨by omega, by omega⟩, fun h => absurd rfl h⟩, fun _ _ _ _ _ => rfl, fun o h1 h2 => by omega, fun h => absurd rfl h⟩
  | @step tk O O' H H' h e0 hh he half sp hp ih =>
    have hpos : 0 < bc G.n O (O e0) := List.countP_pos_iff.2 ⟨e0, List.mem_range.2 he, decide_eq_true rfl⟩
    have hl := ih.len
    refine ⟨by rw [List.length_append, hl]; rfl, fun h => by simp at h, fun e hE => ?_, fun a b ha hb e => ?_, fun o h1 h2 => ?_, fun _ => by omega⟩
    · rw [hp e hE]
      have h1 := ih.rng e hE
      by_cases h2 : O e = O e0
      · rw [if_pos h2]
        exact ⟨⟨by omega, by omega⟩, fun _ => by omega⟩
      · rw [if_neg h2]
        refine ⟨⟨h1.1.1, by omega⟩, fun _ => ?_⟩
        by_cases h3 : tk = []
        · exact absurd ((ih.first h3 e hE).1.trans (ih.first h3 e0 he).1.symm) h2
        · exact h1.2 h3
    · have h1 := sp.finer ha hb e
      rw [hp a ha, hp b hb, h1, ih.fn a b ha hb h1]
    · by_cases h3 : o = h
      · exact ⟨e0, he, by rw [hp e0 he, if_pos rfl, h3]⟩
      · obtain ⟨e, hE, h4⟩ := ih.full o h1 (by omega)
        by_cases h5 : O e = O e0
        · have h6 : H e0 = (o : Int) := by rw [← ih.fn e e0 hE he h5]; exact h4
          have h7 : 2 * bc G.n O (O e0) ≤ hc G.n H (H e0) := half.resolve_left (by omega)
          obtain ⟨e', h8, h9, h10⟩ := exists_not (n := G.n) (p := fun e => decide (O e = O e0)) (q := fun e => H e == H e0) (by unfold bc hc at h7; unfold bc at hpos; omega)
          refine ⟨e', h8, ?_⟩
          rw [hp e' h8, if_neg (of_decide_eq_false h10), ← h6]
          exact eq_of_beq h9
        · exact ⟨e, hE, by rw [hp e hE, if_neg h5]; exact h4⟩
theorem Hist.heaps {G : Gp} {tk : List (List Int)} {O : Nat → Nat} {H : Nat → Int} {h : Nat} (hh : Hist G tk O H h) : h ≤ G.n + 1 := by
  have hi := hh.inv
  have h1 := nodup_sub ((List.range (h - 1)).map fun o : Nat => ((o + 1 : Nat) : Int)) ((List.range G.n).map H) (List.pairwise_map.2 (List.nodup_range.imp fun {a b} hne e => hne (by omega))) fun a ha => by
    obtain ⟨o, ho, rfl⟩ := List.mem_map.1 ha
    have h2 := List.mem_range.1 ho
    obtain ⟨e, h3, h4⟩ := hi.full (o + 1) (by omega) (by omega)
    exact List.mem_map.2 ⟨e, List.mem_range.2 h3, h4⟩
  rw [List.length_map, List.length_map, List.length_range, List.length_range] at h1
  omega
theorem outG_fits {G : Gp} (hr : Sy.right G.n (G.kk : Int) G.st G.es = true) : Fits G.n (outG G) := fun p hp z hz => by
  unfold outG Sy.rowOf at hz
  rw [if_pos ⟨by omega, by omega⟩] at hz
  have h2 := (right_parts hr).2.2.2.2.2 _ ((Sy.nf_mem _ _).1 (Sy.steps_mem.1 hz))
  simp only at h2
  exact ⟨h2.2.2.1, h2.2.2.2.1⟩
theorem Hist.coarse {G : Gp} {tk : List (List Int)} {O : Nat → Nat} {H : Nat → Int} {h : Nat} (hr : Sy.right G.n (G.kk : Int) G.st G.es = true) {R : Nat} (hR : Last G.n (outG G) R) (hh : Hist G tk O H h) : Coarse G.n (rnd G.n (outG G) R) O := by
  have hn : G.n ≤ 1000 := by have := (right_parts hr).1; omega
  induction hh with
  | nil => intro p q _ _ _; rfl
  | @step tk O O' H H' h e0 hh he half sp hp ih =>
    have hi := hh.inv
    refine take_coarseI hn (outG_fits hr) hR (ih.sat fun t => t = O e0) ?_ ih sp
    intro p q hp2 hq2 e hx
    show H q = H e0
    rw [← hi.fn p q hp2 hq2 (ih p q hp2 hq2 e)]
    exact hx
theorem Hist.even {G : Gp} {tk : List (List Int)} {O : Nat → Nat} {H : Nat → Int} {h : Nat} (hr : Sy.right G.n (G.kk : Int) G.st G.es = true) (hh : Hist G tk O H h) (ht : tk ≠ []) : EvenI G.n (outG G) O H := by
  induction hh with
  | nil => exact absurd rfl ht
  | @step tk O O' H H' h e0 hh he half sp hp ih =>
    have hi := hh.inv
    have hne : ∀ t, t < G.n → H t ≠ (h : Int) := fun t ht e => by have := (hi.rng t ht).1.2; omega
    refine take_evenI (outG_fits hr) (h0 := H e0) (own := (h : Int)) (B := fun t => O t = O e0) (H := H) (fun t ht hb => hi.fn t e0 ht he hb) (fun t ht => ?_) (fun t ht hb => by rw [hp t ht, if_neg hb]) (hne e0 he) hne ?_ sp
    · rw [hp t ht]
      by_cases h2 : O t = O e0
      · rw [if_pos h2]; exact ⟨fun _ => h2, fun _ => rfl⟩
      · rw [if_neg h2]; exact ⟨fun e => absurd e (hne t ht), fun e => absurd e h2⟩
    · by_cases h3 : tk = []
      · exact .inr fun t ht => (hi.first h3 t ht).1.trans (hi.first h3 e0 he).1.symm
      · exact .inl (ih h3)
theorem Hist.ends {G : Gp} {tk : List (List Int)} {O : Nat → Nat} {H : Nat → Int} {h : Nat} (hr : Sy.right G.n (G.kk : Int) G.st G.es = true) {R : Nat} (hR : Last G.n (outG G) R) (hh : Hist G tk O H h) (ht : tk ≠ []) (hd : ∀ a b, a < G.n → b < G.n → H a = H b → O a = O b) : num ((List.range G.n).map O) = rnd G.n (outG G) R := by
  have hn : G.n ≤ 1000 := by have := (right_parts hr).1; omega
  have hi := hh.inv
  exact blocks_last hn (outG_fits hr) (even_stableI (outG_fits hr) (hh.even hr ht) fun p q hp hq => ⟨hi.fn p q hp hq, hd p q hp hq⟩) (hh.coarse hr hR)
end Go.Proofs.YtkiapldehlnndabGreatDoor.Sg
/- A run that is played, as a plain function: what a run of takings comes to, if it may be played. Nothing of the program is in it. -/
namespace Go.Proofs.YtkiapldehlnndabGreatDoor.Sg
open Ro
def intoB (G : Gp) (X : Nat → Bool) (l p : Nat) : Bool := G.es.any fun e => e.1 == (p : Int) && (e.2.1 == (l : Int) && X e.2.2.toNat)
theorem intoB_iff {G : Gp} {X : Nat → Bool} {l p : Nat} (hp : p < G.n) : intoB G X l p = true ↔ into (outG G) (fun t => X t = true) (l : Int) p := by
  unfold intoB into
  rw [List.any_eq_true]
  simp only [Bool.and_eq_true, beq_iff_eq]
  have hm : ∀ z : Int × Int, z ∈ outG G p ↔ ((p : Int), z.1, z.2) ∈ G.es := fun z => by
    unfold outG Sy.rowOf
    rw [if_pos ⟨by omega, by omega⟩]
    exact Sy.steps_mem.trans (Sy.nf_mem _ _)
  constructor
  · rintro ⟨e, he, h1, h2, h3⟩
    exact ⟨(e.2.1, e.2.2), (hm _).2 (by rw [← h1]; exact he), h2, h3⟩
  · rintro ⟨z, hz, h1, h2⟩
    exact ⟨_, (hm z).1 hz, rfl, h1, h2⟩
def spl (G : Gp) (X : Nat → Bool) (O : List Nat) : List Nat := num ((List.range G.n).map fun p => (O.getD p 0, (List.range G.kk).map fun l => intoB G X l p))
theorem spl_len (G : Gp) (X : Nat → Bool) (O : List Nat) : (spl G X O).length = G.n := by unfold spl; rw [num_len]; simp
theorem getD_at {l : List Nat} {i : Nat} (h : i < l.length) : l[i]? = some (l.getD i 0) := by rw [List.getD_eq_getElem?_getD, List.getElem?_eq_getElem h]; rfl
theorem spl_eq {G : Gp} {X : Nat → Bool} {O : List Nat} {a b : Nat} (ha : a < G.n) (hb : b < G.n) : (spl G X O).getD a 0 = (spl G X O).getD b 0 ↔ O.getD a 0 = O.getD b 0 ∧ ∀ l, l < G.kk → intoB G X l a = intoB G X l b := by
  have h1 : ∀ i, i < G.n → ((List.range G.n).map fun p => (O.getD p 0, (List.range G.kk).map fun l => intoB G X l p))[i]? = some (O.getD i 0, (List.range G.kk).map fun l => intoB G X l i) := fun i hi => by rw [List.getElem?_map, List.getElem?_range hi]; rfl
  have h2 := num_eq (h1 a ha) (h1 b hb) (getD_at (l := spl G X O) (i := a) (by rw [spl_len]; exact ha)) (getD_at (l := spl G X O) (i := b) (by rw [spl_len]; exact hb))
  rw [h2, Prod.mk.injEq]
  refine and_congr_right fun _ => ?_
  rw [List.map_inj_left]
  simp only [List.mem_range]
structure Ms where
  O : List Nat
  H : List Nat
  h : Nat
def mFirst (G : Gp) (l : List Int) : Option Ms := if 0 < G.n ∧ l = (List.range G.n).map (fun e : Nat => (e : Int)) then some ⟨spl G (fun _ => true) (List.replicate G.n 0), List.replicate G.n 0, 1⟩ else none
def mBlock (G : Gp) (O : List Nat) (b : Nat) : List Int := ((List.range G.n).filter fun e => decide (O.getD e 0 = b)).map fun e : Nat => (e : Int)
def mGo (G : Gp) (st : Ms) (b o : Nat) (l : List Int) (z : Int) : Option Ms :=
  if (0 ≤ z ∧ z < (G.n : Int)) ∧ l = mBlock G st.O b ∧ 2 * l.length ≤ (List.range G.n).countP (fun e => decide (st.H.getD e 0 = o)) then
    some ⟨spl G (fun t => decide (st.H.getD t 0 = o) && !decide (st.O.getD t 0 = b)) (spl G (fun t => decide (st.O.getD t 0 = b)) st.O), (List.range G.n).map (fun t => if st.O.getD t 0 = b then st.h else st.H.getD t 0), st.h + 1⟩
  else none
def mNext (G : Gp) (st : Ms) : List Int → Option Ms
  | [] => none
  | z :: r => mGo G st (st.O.getD z.toNat 0) (st.H.getD z.toNat 0) (z :: r) z
def mRun (G : Gp) : List (List Int) → Option Ms
  | [] => none
  | l :: r => r.foldl (fun st l => st.bind fun st => mNext G st l) (mFirst G l)
def mReplay (G : Gp) (tk : List (List Int)) : Option (List Nat) :=
  if G.n = 0 then (if tk = [] then some [] else none)
  else match mRun G tk with
    | none => none
    | some st => if (dd st.O).length = st.h then some (num st.O) else none
structure Rl (G : Gp) (O : Nat → Nat) (H : Nat → Int) (k : Nat) (st : Ms) : Prop where
  o : ∀ a b, a < G.n → b < G.n → (O a = O b ↔ st.O.getD a 0 = st.O.getD b 0)
  h : ∀ a, a < G.n → H a = (st.H.getD a 0 : Int) + 1
  k : k = st.h + 1
  lo : st.O.length = G.n
theorem getD_range {n : Nat} (f : Nat → Nat) {i : Nat} (h : i < n) : ((List.range n).map f).getD i 0 = f i := by rw [List.getD_eq_getElem?_getD, List.getElem?_map, List.getElem?_range h]; rfl
theorem bool_iff {a b : Bool} : a = b ↔ (a = true ↔ b = true) := Bool.eq_iff_iff
theorem first_rl {G : Gp} {O O' : Nat → Nat} {H H' : Nat → Int} {e0 : Nat} (hr : Sy.right G.n (G.kk : Int) G.st G.es = true) (he : e0 < G.n) (h0 : ∀ e, e < G.n → O e = 0 ∧ H e = 0)
    (sp : Split G.n (By (outG G) (fun t => O t = O e0) fun t => H t = H e0 ∧ ¬ O t = O e0) O O') (hp : ∀ e, e < G.n → H' e = if O e = O e0 then ((1 : Nat) : Int) else H e) : Rl G O' H' 2 ⟨spl G (fun _ => true) (List.replicate G.n 0), List.replicate G.n 0, 1⟩ := by
  have hf := outG_fits hr
  have hall : ∀ e, e < G.n → O e = O e0 := fun e hE => (h0 e hE).1.trans (h0 e0 he).1.symm
  refine ⟨fun a b ha hb => ?_, fun a ha => ?_, rfl, spl_len _ _ _⟩
  · rw [sp a b ha hb, spl_eq ha hb]
    have hz : ∀ i, i < G.n → (List.replicate G.n 0).getD i 0 = 0 := fun i hi => by rw [List.getD_eq_getElem?_getD, List.getElem?_replicate, if_pos hi]; rfl
    rw [hz a ha, hz b hb]
    have hI : ∀ (p : Nat) (l : Int), p < G.n → (into (outG G) (fun t => O t = O e0) l p ↔ into (outG G) (fun t => (fun _ : Nat => true) t = true) l p) := fun p l hp => into_congr hf (fun t ht => ⟨fun _ => rfl, fun _ => hall t ht⟩) hp
    have hY : ∀ (p : Nat) (l : Int), p < G.n → ¬ into (outG G) (fun t => H t = H e0 ∧ ¬ O t = O e0) l p := fun p l hp ⟨z, hz, _, hx⟩ => by
      have h1 := hf p hp z hz
      exact hx.2 (hall z.2.toNat (by omega))
    constructor
    · rintro ⟨_, h2⟩
      refine ⟨rfl, fun l hl => bool_iff.2 ?_⟩
      rw [intoB_iff ha, intoB_iff hb, ← hI a l ha, ← hI b l hb]
      exact h2 _ ⟨(l : Int), .inl rfl⟩
    · rintro ⟨_, h2⟩
      refine ⟨(hall a ha).trans (hall b hb).symm, fun X hX => ?_⟩
      obtain ⟨l, hX⟩ := hX
      have key : into (outG G) (fun t => O t = O e0) l a ↔ into (outG G) (fun t => O t = O e0) l b := by
        by_cases hl : 0 ≤ l ∧ l < (G.kk : Int)
        · obtain ⟨lN, rfl⟩ : ∃ lN : Nat, l = lN := ⟨l.toNat, by omega⟩
          rw [hI a _ ha, hI b _ hb, ← intoB_iff ha, ← intoB_iff hb]
          exact bool_iff.1 (h2 lN (by omega))
        · have hno : ∀ p, p < G.n → ¬ into (outG G) (fun t => O t = O e0) l p := fun p hp ⟨z, hz, h1, _⟩ => by
            unfold outG Sy.rowOf at hz
            rw [if_pos ⟨by omega, by omega⟩] at hz
            have h3 := (right_parts hr).2.2.2.2.2 _ ((Sy.nf_mem _ _).1 (Sy.steps_mem.1 hz))
            simp only at h3
            omega
          exact ⟨fun h => absurd h (hno a ha), fun h => absurd h (hno b hb)⟩
      rcases hX with rfl | rfl
      · exact key
      · exact ⟨fun h => ⟨key.1 h.1, hY b l hb⟩, fun h => ⟨key.2 h.1, hY a l ha⟩⟩
  · rw [hp a ha, if_pos (hall a ha), List.getD_eq_getElem?_getD, List.getElem?_replicate, if_pos ha]
    rfl
theorem next_rl {G : Gp} {O O' : Nat → Nat} {H H' : Nat → Int} {e0 k : Nat} {st : Ms} (hr : Sy.right G.n (G.kk : Int) G.st G.es = true) (he : e0 < G.n) (hR : Rl G O H k st) (hE : EvenI G.n (outG G) O H)
    (sp : Split G.n (By (outG G) (fun t => O t = O e0) fun t => H t = H e0 ∧ ¬ O t = O e0) O O') (hp : ∀ e, e < G.n → H' e = if O e = O e0 then (k : Int) else H e) :
    Rl G O' H' (k + 1) ⟨spl G (fun t => decide (st.H.getD t 0 = st.H.getD e0 0) && !decide (st.O.getD t 0 = st.O.getD e0 0)) (spl G (fun t => decide (st.O.getD t 0 = st.O.getD e0 0)) st.O), (List.range G.n).map (fun t => if st.O.getD t 0 = st.O.getD e0 0 then st.h else st.H.getD t 0), st.h + 1⟩ := by
  have hf := outG_fits hr
  have hB : ∀ t, t < G.n → (O t = O e0 ↔ (fun t => decide (st.O.getD t 0 = st.O.getD e0 0)) t = true) := fun t ht => by rw [hR.o t e0 ht he]; simp
  have hY : ∀ t, t < G.n → ((H t = H e0 ∧ ¬ O t = O e0) ↔ (fun t => decide (st.H.getD t 0 = st.H.getD e0 0) && !decide (st.O.getD t 0 = st.O.getD e0 0)) t = true) := fun t ht => by
    rw [hR.h t ht, hR.h e0 he, hR.o t e0 ht he]
    simp
    omega
  have cB : ∀ (p l : Nat), p < G.n → (into (outG G) (fun t => O t = O e0) (l : Int) p ↔ intoB G (fun t => decide (st.O.getD t 0 = st.O.getD e0 0)) l p = true) := fun p l hp => by rw [intoB_iff hp]; exact into_congr hf hB hp
  have cY : ∀ (p l : Nat), p < G.n → (into (outG G) (fun t => H t = H e0 ∧ ¬ O t = O e0) (l : Int) p ↔ intoB G (fun t => decide (st.H.getD t 0 = st.H.getD e0 0) && !decide (st.O.getD t 0 = st.O.getD e0 0)) l p = true) := fun p l hp => by rw [intoB_iff hp]; exact into_congr hf hY hp
  refine ⟨fun a b ha hb => ?_, fun a ha => ?_, by rw [hR.k], spl_len _ _ _⟩
  · rw [sp a b ha hb, spl_eq ha hb, spl_eq ha hb, ← hR.o a b ha hb]
    constructor
    · rintro ⟨h1, h2⟩
      refine ⟨⟨h1, fun l _ => bool_iff.2 ?_⟩, fun l _ => bool_iff.2 ?_⟩
      · rw [← cB a l ha, ← cB b l hb]
        exact h2 _ ⟨(l : Int), .inl rfl⟩
      · rw [← cY a l ha, ← cY b l hb]
        have hX : into (outG G) (fun t => O t = O e0) (l : Int) a ↔ into (outG G) (fun t => O t = O e0) (l : Int) b := h2 _ ⟨(l : Int), .inl rfl⟩
        have hZ : (into (outG G) (fun t => O t = O e0) (l : Int) a ∧ ¬ into (outG G) (fun t => H t = H e0 ∧ ¬ O t = O e0) (l : Int) a) ↔ (into (outG G) (fun t => O t = O e0) (l : Int) b ∧ ¬ into (outG G) (fun t => H t = H e0 ∧ ¬ O t = O e0) (l : Int) b) := h2 _ ⟨(l : Int), .inr rfl⟩
        have half : ∀ p q, p < G.n → q < G.n → O p = O q → (into (outG G) (fun t => O t = O e0) (l : Int) p ↔ into (outG G) (fun t => O t = O e0) (l : Int) q) → ((into (outG G) (fun t => O t = O e0) (l : Int) p ∧ ¬ into (outG G) (fun t => H t = H e0 ∧ ¬ O t = O e0) (l : Int) p) ↔ (into (outG G) (fun t => O t = O e0) (l : Int) q ∧ ¬ into (outG G) (fun t => H t = H e0 ∧ ¬ O t = O e0) (l : Int) q)) → into (outG G) (fun t => H t = H e0 ∧ ¬ O t = O e0) (l : Int) p → into (outG G) (fun t => H t = H e0 ∧ ¬ O t = O e0) (l : Int) q := fun p q hp hq e hX hZ hi => by
          by_cases hb2 : into (outG G) (fun t => O t = O e0) (l : Int) p
          · refine Classical.byContradiction fun hn => ?_
            exact (hZ.2 ⟨hX.1 hb2, hn⟩).2 hi
          · obtain ⟨z, h3, h4, h5⟩ := hi
            obtain ⟨z', h6, h7, h8⟩ := hE p q hp hq e (l : Int) (H e0) ⟨z, h3, h4, h5.1⟩
            refine ⟨z', h6, h7, h8, fun h9 => hb2 (hX.2 ⟨z', h6, h7, h9⟩)⟩
        exact ⟨half a b ha hb h1 hX hZ, half b a hb ha h1.symm hX.symm hZ.symm⟩
    · rintro ⟨⟨h1, h2⟩, h3⟩
      refine ⟨h1, fun X hX => ?_⟩
      obtain ⟨l, hX⟩ := hX
      by_cases hl : 0 ≤ l ∧ l < (G.kk : Int)
      · obtain ⟨lN, rfl⟩ : ∃ lN : Nat, l = lN := ⟨l.toNat, by omega⟩
        have k1 := bool_iff.1 (h2 lN (by omega))
        have k2 := bool_iff.1 (h3 lN (by omega))
        rw [← cB a lN ha, ← cB b lN hb] at k1
        rw [← cY a lN ha, ← cY b lN hb] at k2
        rcases hX with rfl | rfl
        · exact k1
        · exact and_congr k1 (not_congr k2)
      · have hno : ∀ (Z : Nat → Prop) (p : Nat), p < G.n → ¬ into (outG G) Z l p := fun Z p hp ⟨z, hz, h4, _⟩ => by
          unfold outG Sy.rowOf at hz
          rw [if_pos ⟨by omega, by omega⟩] at hz
          have h5 := (right_parts hr).2.2.2.2.2 _ ((Sy.nf_mem _ _).1 (Sy.steps_mem.1 hz))
          simp only at h5
          omega
        rcases hX with rfl | rfl
        · exact ⟨fun h => absurd h (hno _ a ha), fun h => absurd h (hno _ b hb)⟩
        · exact ⟨fun h => absurd h.1 (hno _ a ha), fun h => absurd h.1 (hno _ b hb)⟩
  · rw [hp a ha, getD_range _ ha]
    by_cases h1 : O a = O e0
    · rw [if_pos h1, if_pos ((hR.o a e0 ha he).1 h1), hR.k]
      simp
    · rw [if_neg h1, if_neg (fun h2 => h1 ((hR.o a e0 ha he).2 h2)), hR.h a ha]
end Go.Proofs.YtkiapldehlnndabGreatDoor.Sg
/- strong: where the blocks of a taking lie: its rows of sources, its boxes, the run's own lists. -/
namespace Go.Proofs.YtkiapldehlnndabGreatDoor
open Go.RowKit Go.Maps
structure TkGeo (w wb wc wd : World) (r p mb g1 o : Nat) (x x2 : Rv) (us : List Value) (E : Nat → List Int) (kk : Nat) : Prop where
  rows : ∀ (l : Nat) (u : Value) (b : Nat), us[l]? = some u → u.ownBlock = some b → (w.heap.size < b ∧ b < wb.heap.size) ∧ b ≠ g1
  ap : ∀ (i j : Nat) (u y : Value) (b : Nat), us[i]? = some u → us[j]? = some y → i ≠ j → u.ownBlock = some b → y.ownBlock ≠ some b
  fx : ∀ b, x2.foot b → b < w.heap.size ∨ (wb.heap.size ≤ b ∧ b < wc.heap.size)
  lo : p < w.heap.size ∧ r < w.heap.size ∧ mb < w.heap.size
  gl : w.heap.size < g1 ∧ g1 < wb.heap.size
  sz : w.heap.size < wb.heap.size ∧ wb.heap.size ≤ wc.heap.size ∧ wd.heap.size = wc.heap.size + 1
  rb : wd.cell? ⟨w.heap.size, 0, none⟩ = some (.pointer (some ⟨r, 0, none⟩))
  ob : wd.cell? ⟨wc.heap.size, 0, none⟩ = some (.int .i64 (o : Int))
  uc : ∀ (l : Nat) (u : Value), us[l]? = some u → wd.cell? ⟨g1, l, none⟩ = some u
def RowB (us : List Value) (b : Nat) : Prop := ∃ (l : Nat) (u : Value), us[l]? = some u ∧ u.ownBlock = some b
theorem TkGeo.box {w wb wc wd W : World} {r p mb g1 o kk : Nat} {x x2 : Rv} {us : List Value} {E : Nat → List Int} (h : TkGeo w wb wc wd r p mb g1 o x x2 us E kk) (hk : Kept (fun b => b = p ∨ b = r ∨ b = mb ∨ x2.foot b ∨ RowB us b) wd W) :
    W.cell? ⟨w.heap.size, 0, none⟩ = some (.pointer (some ⟨r, 0, none⟩)) ∧ W.cell? ⟨wc.heap.size, 0, none⟩ = some (.int .i64 (o : Int)) ∧ ∀ (l : Nat) (u : Value), us[l]? = some u → W.cell? ⟨g1, l, none⟩ = some u := by
  obtain ⟨l1, l2, l3⟩ := h.lo
  obtain ⟨s1, s2, s3⟩ := h.sz
  obtain ⟨g2, g3⟩ := h.gl
  have hne : ∀ b, (b = w.heap.size ∨ b = wc.heap.size ∨ b = g1) → ¬ (b = p ∨ b = r ∨ b = mb ∨ x2.foot b ∨ RowB us b) := fun b hb e => by
    rcases e with e | e | e | e | ⟨l, u, e1, e2⟩
    · omega
    · omega
    · omega
    · have := h.fx b e; omega
    · have := h.rows l u b e1 e2; omega
  exact ⟨kcell3 hk (hne _ (.inl rfl)) h.rb, kcell3 hk (hne _ (.inr (.inl rfl))) h.ob, fun l u hu => kcell3 hk (hne _ (.inr (.inr rfl))) (h.uc l u hu)⟩
theorem TkGeo.far {w0 w wb wc wd wr : World} {r g p mb g1 o kk : Nat} {s s1 : Pst} {x x2 x1 : Rv} {us : List Value} {E : Nat → List Int} {Q : Nat → Nat → Prop} (h : TkGeo w wb wc wd r p mb g1 o x x2 us E kk) (hT : TkS w0 wd wr r g p mb s s1 x2 x1 (RowB us) Q) {l : Nat} {u : Value} {b : Nat} (hu : us[l]? = some u) (hb : u.ownBlock = some b) : b ≠ p ∧ b ≠ r ∧ b ≠ mb ∧ ¬ x1.foot b ∧ b ≠ w.heap.size ∧ b ≠ wc.heap.size ∧ b < wd.heap.size := by
  obtain ⟨l1, l2, l3⟩ := h.lo
  obtain ⟨s1, s2, s3⟩ := h.sz
  have h1 := (h.rows l u b hu hb).1
  refine ⟨by omega, by omega, by omega, fun hf => ?_, by omega, by omega, by omega⟩
  rcases hT.ft b hf with h2 | h2
  · have := h.fx b h2; omega
  · omega
theorem take_geo {w0 w wa wb wc wd : World} {r g p mb nm bl o k g1 : Nat} {G : Gp} {s : Pst} {x x2 : Rv} {bs : List Int} {us : List Value} (hR : RunAt w0 w r g p mb nm G s x) (hsa : wa.heap.size = w.heap.size + 1) (ca : wa.cell? ⟨w.heap.size, 0, none⟩ = some (.pointer (some ⟨r, 0, none⟩))) (hA : Arr 27 wa wb g1 us) (hO : OutsI wb wa.heap.size us G.kk (Sg.srcE G s bl))
    (hL : LiftAt wb wc w0.heap.size r g p mb x x2 bl o k (s.mem bl).length bs) (hwd : wd = wc.alloc (.cells #[.int .i64 (o : Int)] 3)) : TkGeo w wb wc wd r p mb g1 o x x2 us (Sg.srcE G s bl) G.kk := by
  have hb1 := hA.bl
  have hsz1 := hb1.size
  have hsz2 := hL.gw.kp.size
  have hds : wd.heap.size = wc.heap.size + 1 := by rw [hwd]; simp
  have hbd : Below wc.heap.size wc wd := by rw [hwd]; exact (Below.refl _ _).alloc (Nat.le_refl _) _
  obtain ⟨c, hP, _⟩ := hR.c
  have hp : p < w.heap.size := Arr.lt hP
  have hr : r < w.heap.size := t_lt hR.m.box
  have hm : mb < w.heap.size := hR.cnt.lt
  have hg1 := hA.gu
  have hg2 := hA.lt
  obtain ⟨cs, hcs, hcl⟩ := hA.ids
  have hrow : ∀ (l : Nat) (u : Value), us[l]? = some u → ∃ zs, OwnI wb wa.heap.size u zs := fun l u hu => by
    obtain ⟨u', h1, h2⟩ := hO.row l (by have := (List.getElem?_eq_some_iff.1 hu).1; rw [hO.len] at this; exact this)
    rw [hu] at h1
    cases h1
    exact ⟨_, h2⟩
  have hxw : ∀ b, x.foot b → b < w.heap.size := fun b hb => (hR.m.foot_lt hb).2
  have hxl : ∀ b, (b = r ∨ x.foot b) → b < w.heap.size := fun b hb => hb.elim (fun e => by omega) (hxw b)
  refine ⟨fun l u b hu hb => ?_, hO.ap, fun b hb => ?_, ⟨hp, hr, hm⟩, ⟨by omega, hg2⟩, ⟨by omega, hsz2, hds⟩, ?_, ?_, fun l u hu => ?_⟩
  · obtain ⟨zs, h1⟩ := hrow l u hu
    have h2 := h1.lt b hb
    exact ⟨⟨by omega, h2.2⟩, fun e => own_bk h1 hcs (by decide) (by rw [← e]; exact hb)⟩
  · rcases hL.gw.ft b hb with h1 | h1
    · exact .inl (hxw b h1)
    · exact .inr ⟨h1, (hL.m.foot_lt hb).2⟩
  · exact cell_up (kcell3 hL.gw.kp (fun e => by have := hxl _ e; omega) (cell_up ca hb1)) hbd
  · rw [hwd]; exact cell0_of (heap_alloc_new wc _) rfl
  · have h1 : wb.cell? ⟨g1, l, none⟩ = some u := hA.cell hu
    exact cell_up (kcell3 hL.gw.kp (fun e => by have := hxl _ e; omega) h1) hbd
theorem take_start {w0 w wa wb wc wd : World} {r g p mb nm bl o k g1 : Nat} {G : Gp} {s : Pst} {x x2 : Rv} {bs : List Int} {us : List Value} {F : Int → Int → Int → Int} (hR : RunAt w0 w r g p mb nm G s x) (hb : bl < s.nb) (how : x.ow[bl]? = some (o : Int)) (hH : (x.H.map (·.2))[o]? = some bs) (ha : Below w.heap.size w wa) (hA : Arr 27 wa wb g1 us) (hO : OutsI wb wa.heap.size us G.kk (Sg.srcE G s bl))
    (hL : LiftAt wb wc w0.heap.size r g p mb x x2 bl o k (s.mem bl).length bs) (hwd : Below wc.heap.size wc wd) :
    TkS w0 wd wd r g p mb s s x2 x2 (RowB us) (Sg.Qj G s bl F (o : Int) 0) ∧ RowsF wd wa.heap.size us 0 G.kk (Sg.srcE G s bl) ∧ Cnt wd mb nm (Sg.withC (Sg.cf (Sg.tn G.es) (hOf s x)) (o : Int) (x.ks.length : Int) (Sg.gAt (Sg.srcE G s bl) 0 0)) := by
  have hab : Below w.heap.size w wb := ha.trans (hA.bl.mono ha.size)
  have hlo := hR.up.size
  obtain ⟨c, hP, hLy⟩ := hR.c
  have hRb := hR.below hab
  obtain ⟨c', hP', hLy'⟩ := hRb.c
  have hpf := hRb.m.p_foot hP'
  have hmf := hRb.m.mb_foot hRb.cnt
  have hFr : ∀ b, (b = r ∨ x.foot b) → w0.heap.size ≤ b := fun b hb => hb.elim (fun e => by rw [e]; exact hR.m.up) fun e => (hR.m.foot_lt e).1
  refine ⟨⟨hL.m.below hwd, ⟨c', (hP'.kept hL.gw.kp fun b hb2 => ⟨hFr b hb2, fun e => ?_⟩).below hwd, hLy'⟩, hR.ok, hR.bare, rfl, RunI.lift hL hR.i hb how hH, fun e _ => rfl, rfl, fun a b _ _ => ⟨fun h => ⟨h, fun l hl => absurd hl (Nat.not_lt_zero _)⟩, fun h => h.1⟩, Kept.refl _ _, fun b hb2 => .inl hb2⟩, fun l _ hl => ?_, ?_⟩
  · rw [e] at hb2
    exact hb2.elim (fun e2 => hpf.2 e2) hpf.1
  · obtain ⟨u, h1, h2⟩ := hO.row l hl
    refine ⟨u, h1, trow_at (own_up h2 hL.gw.kp fun b hb2 e => ?_) fun b hb2 => hwd.block b ?_⟩
    · have h3 := (h2.lt b hb2).1
      rcases e with e | e
      · have := t_lt hR.m.box; have := ha.size; omega
      · have := (hR.m.foot_lt e).2; have := ha.size; omega
    · have := (h2.lt b hb2).2
      have := hL.gw.kp.size
      omega
  · refine ((hRb.cnt.kept hL.gw.kp fun e => ?_).below hwd).congr fun p b q => (Sg.withC_none _ _ _ _ p b q).symm
    exact e.elim (fun e2 => hmf.2 e2) hmf.1
end Go.Proofs.YtkiapldehlnndabGreatDoor
