/- The statement TermSames as a call: whatever comes in, it returns true, and nothing that was there has turned. -/
import Derived.Test.YtoamnhhegneegaaDoorLawPuts
import Derived.Test.YtoamnhhegneegaaDoorRtSameS
import Derived.Test.YtoamnhhegneegaaDoorTmSameN
namespace Go.Proofs.YtoamnhhegneegaaDoor
open Go.RowKit Go.Maps
attribute [local go_sem ↓] Go.wp_at_zero Go.wp_at_succ
/-- Two pairs of stores, laid since w0, all apart. -/
def Pr2 (w0 w : World) (b c : Nat) (L : List Tm) (b2 c2 : Nat) (M : List Tm) : Prop := ∃ F G F2 G2, (StoB w b L F ∧ RStoB w c L G ∧ (∀ i, F i → ¬ G i) ∧ Tm.Good L) ∧ (StoB w b2 M F2 ∧ RStoB w c2 M G2 ∧ (∀ i, F2 i → ¬ G2 i) ∧ Tm.Good M) ∧ (∀ i, (F i ∨ G i) → ¬ (F2 i ∨ G2 i)) ∧ (∀ i, (F i ∨ G i) → w0.heap.size ≤ i) ∧ (∀ i, (F2 i ∨ G2 i) → w0.heap.size ≤ i) ∧ Below w0.heap.size w0 w
theorem Pr2.symm {w0 w : World} {b c b2 c2 : Nat} {L M : List Tm} (h : Pr2 w0 w b c L b2 c2 M) : Pr2 w0 w b2 c2 M b c L := by
  obtain ⟨F, G, F2, G2, h1, h2, h3, h4, h5, h6⟩ := h
  exact ⟨F2, G2, F, G, h2, h1, fun i hi hj => h3 i hj hi, h5, h4, h6⟩
theorem Pr2.below {w0 w w' : World} {b c b2 c2 : Nat} {L M : List Tm} (h : Pr2 w0 w b c L b2 c2 M) (hb : Below w.heap.size w w') : Pr2 w0 w' b c L b2 c2 M := by
  obtain ⟨F, G, F2, G2, ⟨a1, a2, a3, a4⟩, ⟨d1, d2, d3, d4⟩, h3, h4, h5, h6⟩ := h
  exact ⟨F, G, F2, G2, ⟨a1.below hb, a2.below hb, a3, a4⟩, ⟨d1.below hb, d2.below hb, d3, d4⟩, h3, h4, h5, h6.trans (hb.mono h6.size)⟩
theorem pr2_start {w w2 w4 : World} {b c b2 c2 : Nat} {L M : List Tm} (h : Pr w w2 b c L) (k : Pr w2 w4 b2 c2 M) : Pr2 w w4 b c L b2 c2 M := by
  obtain ⟨F, G, h1, h2, h3, h4, h5, h6, h7⟩ := h
  obtain ⟨F2, G2, k1, k2, k3, k4, k5, k6, k7⟩ := k
  have hz := h6.size
  refine ⟨F, G, F2, G2, ⟨h1.below k6, h2.below k6, h3, h7⟩, ⟨k1, k2, k3, k7⟩, fun i hi hj => ?_, fun i hi => hi.elim (h4 i) (h5 i), fun i hi => ?_, h6.trans (k6.mono hz)⟩
  · have a : i < w2.heap.size := hi.elim (fun e => h1.foot_lt e) (fun e => h2.foot_lt e)
    have d : w2.heap.size ≤ i := hj.elim (k4 i) (k5 i)
    omega
  · have d : w2.heap.size ≤ i := hi.elim (k4 i) (k5 i)
    omega
theorem put_pr2 (v : Value) (l : List Tm) (b c b2 c2 : Nat) (L M : List Tm) (aA : Addr) (w0 w : World) (h : Pr2 w0 w b c L b2 c2 M) (hT : HasT w0 v l) (hrm : ∀ t ∈ l, Room t) (hlen : L.length + l.length < 100000) (hE : Sent w0 0 aA) :
    Calls Tryd.prog 8 #[.pointer (some ⟨b, 0, none⟩), .pointer (some ⟨c, 0, none⟩), v] w fun r w' => r = .returned (.bool true) ∧ ∃ L', Pr2 w0 w' b c L' b2 c2 M := by
  obtain ⟨F, G, F2, G2, ⟨a1, a2, a3, a4⟩, ⟨d1, d2, d3, d4⟩, h3, h4, h5, h6⟩ := h
  refine (lawput_any v l b c L F G aA w a1 a2 a3 a4 (lst_of hT h4 h6) hrm hlen (fun w' hk => hE.below (h6.trans (hk.below h6.size h4)))).mono ?_
  rintro r w' ⟨rfl, L', F', G', hT', hG', _⟩
  have hup : ∀ i, (F' i ∨ G' i) → (F i ∨ G i) ∨ w.heap.size ≤ i := fun i hi => by
    rcases hi with hi | hi
    · rcases hT'.f i hi with e | e
      · exact .inl (.inl e)
      · exact .inr e
    · rcases hT'.g i hi with e | e
      · exact .inl (.inr e)
      · exact .inr e
  refine ⟨rfl, L', F', G', F2, G2, ⟨hT'.s, hT'.r, hT'.ap, hG'⟩, ⟨d1.kept hT'.k fun i hi hk => h3 i hk (.inl hi), d2.kept hT'.k fun i hi hk => h3 i hk (.inr hi), d3, d4⟩, fun i hi hj => ?_, fun i hi => ?_, h5, h6.trans (hT'.k.below h6.size h4)⟩
  · rcases hup i hi with e | e
    · exact h3 i e hj
    · have : i < w.heap.size := hj.elim (fun e => d1.foot_lt e) (fun e => d2.foot_lt e)
      omega
  · rcases hup i hi with e | e
    · exact h4 i e
    · have := h6.size; omega
set_option maxRecDepth 100000 in
set_option maxHeartbeats 1600000 in
theorem lawSames_long (ao ao2 : Option Addr) (n n2 cap cap2 : Nat) (x y : Int) (w : World) (hn : 100 < n ∨ (¬ 100 < n ∧ 100 < n2)) (hm : n ≤ maxLen) (hm2 : n2 ≤ maxLen) :
    Calls Tryd.prog 4 #[.slice ao n cap, .slice ao2 n2 cap2, .int .i64 x, .int .i64 y] w fun r w' => r = .returned (.bool true) ∧ Below w.heap.size w w' := by
  unfold maxLen at hm hm2
  have hq : (100 : Int) < (n : Int) ∨ (¬ (100 : Int) < (n : Int) ∧ (100 : Int) < (n2 : Int)) := by omega
  clear hn
  rcases hq with h1 | ⟨h1, h2⟩
  all_goals
    go_enter Tryd.func4, Tryd.ntmps4
    go_wp2_with (go_at_call 5; refine (alive3 _).mono ?_; rintro r w' ⟨rfl, hb⟩)
    go_ret
    exact ⟨rfl, hb⟩
set_option maxRecDepth 100000 in
set_option maxHeartbeats 16000000 in
theorem lawSames_short (v u : Value) (l m : List Tm) (x y : Int) (aA aI aL : Addr) (w : World) (hl : l.length ≤ 100) (hl2 : m.length ≤ 100) (hT : HasT w v l) (hT2 : HasT w u m) (hrm : ∀ t ∈ l, Room t) (hrm2 : ∀ t ∈ m, Room t) (hE : ErrT w aA aI aL) :
    Calls Tryd.prog 4 #[v, u, .int .i64 x, .int .i64 y] w fun r w' => r = .returned (.bool true) ∧ Below w.heap.size w w' := by
  obtain ⟨ao, cap, hv, _⟩ := id hT
  obtain ⟨ao2, cap2, hu, _⟩ := id hT2
  obtain ⟨n, hn⟩ : ∃ n, n = l.length := ⟨_, rfl⟩
  obtain ⟨n2, hn2⟩ : ∃ n2, n2 = m.length := ⟨_, rfl⟩
  rw [← hn] at hl hv
  rw [← hn2] at hl2 hu
  have h1 : ¬ (100 : Int) < (n : Int) := by omega
  have h2 : ¬ (100 : Int) < (n2 : Int) := by omega
  subst hv
  subst hu
  have HO : Hid _ := And.intro hT (And.intro hT2 (And.intro hrm (And.intro hrm2 (And.intro hE (And.intro hn hn2)))))
  clear hT hT2 hn hn2 hrm hrm2 hE
  go_enter Tryd.func4, Tryd.ntmps4
  go_wp2_with fail
  refine (newA w).mono ?_
  rintro r w1 ⟨rfl, F1, hS1, hF1, hb1, hG1⟩
  have H1 : Hid _ := And.intro hS1 (And.intro hF1 hb1)
  clear hS1 hF1 hb1 hG1
  go_wp2_with fail
  refine (rnew_any w1).mono ?_
  rintro r w2 ⟨rfl, ⟨G1, hR1, hG1⟩, hb2⟩
  have HP : Hid (Pr w w2 w.heap.size w1.heap.size [⟨1, 0, 0, 0, [], []⟩]) := pr_new H1.out.1 H1.out.2.1 H1.out.2.2 hR1 hG1 hb2
  clear H1 hR1 hG1 hb2
  go_wp2_with fail
  refine (newA w2).mono ?_
  rintro r w3 ⟨rfl, F1, hS1, hF1, hb1, hG1⟩
  have H1 : Hid _ := And.intro hS1 (And.intro hF1 hb1)
  clear hS1 hF1 hb1 hG1
  go_wp2_with fail
  refine (rnew_any w3).mono ?_
  rintro r w4 ⟨rfl, ⟨G1, hR1, hG1⟩, hb2⟩
  have HQ : Hid (Pr2 w w4 w.heap.size w1.heap.size [⟨1, 0, 0, 0, [], []⟩] w2.heap.size w3.heap.size [⟨1, 0, 0, 0, [], []⟩]) := pr2_start HP.out (pr_new H1.out.1 H1.out.2.1 H1.out.2.2 hR1 hG1 hb2)
  clear H1 hR1 hG1 hb2 HP
  generalize w.heap.size = b, w1.heap.size = c, w2.heap.size = b2, w3.heap.size = c2 at HQ ⊢
  go_wp2_with fail
  refine (alive3 w4).mono ?_
  rintro r w5 ⟨rfl, hb5⟩
  have hPut := put_pr2 (.slice ao n cap) l b c b2 c2 _ _ aA w w5 (HQ.out.below hb5) HO.out.1 HO.out.2.2.1 (by have := HO.out.2.2.2.2.2.1; simp; omega) HO.out.2.2.2.2.1.a
  have HPut : Hid _ := hPut
  clear HQ hb5 hPut
  go_wp2_with fail
  refine Calls.mono HPut.out ?_
  rintro r w6 ⟨rfl, L, hP6⟩
  have hPut := put_pr2 (.slice ao2 n2 cap2) m b2 c2 b c _ _ aA w w6 hP6.symm HO.out.2.1 HO.out.2.2.2.1 (by have := HO.out.2.2.2.2.2.2; simp; omega) HO.out.2.2.2.2.1.a
  clear HPut
  have HPut : Hid _ := hPut
  clear hP6 hPut
  go_wp2_with fail
  refine Calls.mono HPut.out ?_
  rintro r w7 ⟨rfl, M, hP7⟩
  obtain ⟨F2, G2, F, G, ⟨sM, rM, _, gM⟩, ⟨sL, rL, _, gL⟩, _, _, _, hbl⟩ := hP7
  clear HPut
  have hE7 := HO.out.2.2.2.2.1.below hbl
  obtain ⟨ar, cr, hcr⟩ := rL.cell
  obtain ⟨aq, cq, hcq⟩ := rM.cell
  have hz7 := hbl.size
  have H7 : Hid _ := And.intro sL (And.intro rL (And.intro sM (And.intro rM (And.intro gL (And.intro gM (And.intro hbl hE7))))))
  clear sL rL sM rM gL gM hbl hE7
  cases hx : Tm.has L.length x with
  | false =>
    have HS : Hid _ := same_no1 b L F x y (.pointer (some ⟨b2, 0, none⟩)) 129 (.pointer (some aI)) w7 H7.out.1 hx H7.out.2.2.2.2.2.2.2.i.1
    have hxx : x < 0 ∨ (¬ x < 0 ∧ (L.length : Int) ≤ x) := by
      have h9 : ¬ (0 ≤ x ∧ x < (L.length : Int)) := fun e => by rw [has_iff.2 e] at hx; cases hx
      omega
    clear hx
    go_wp2_with fail
    refine Calls.mono HS.out ?_
    rintro r w8 ⟨⟨gf, rfl, hTF⟩, hb8⟩
    have hcr8 := cell_up hcr hb8
    have hTo := told3_index gf aA aI aL w8 (H7.out.2.2.2.2.2.2.2.below hb8) hTF
    unfold tFaultV at hTo
    have HTo : Hid _ := And.intro hTo (H7.out.2.2.2.2.2.2.1.trans (hb8.mono hz7))
    clear hTo hTF hb8 HS H7 hcr hcq
    unfold tFaultV
    rcases hxx with hx1 | ⟨hx1, hx2⟩
    all_goals
      go_wp2_with fail
      refine Calls.mono HTo.out.1 ?_
      rintro r9 w9 ⟨rfl, hb9⟩
      have H9 : Hid _ := HTo.out.2.trans (hb9.mono HTo.out.2.size)
      clear hb9 HTo
      go_wp2_with fail
      go_ret
      exact ⟨rfl, H9.out⟩
  | true =>
    obtain ⟨hx0, hxl⟩ := has_iff.1 hx
    have hx1 : ¬ x < 0 := by omega
    have hx2 : ¬ (L.length : Int) ≤ x := by omega
    cases hy : Tm.has M.length y with
    | false =>
      have HS : Hid _ := same_no2 b b2 L M F F2 x y 129 (.pointer (some aI)) w7 H7.out.1 H7.out.2.2.1 hx hy H7.out.2.2.2.2.2.2.2.i.1
      have hyy : y < 0 ∨ (¬ y < 0 ∧ (M.length : Int) ≤ y) := by
        have h9 : ¬ (0 ≤ y ∧ y < (M.length : Int)) := fun e => by rw [has_iff.2 e] at hy; cases hy
        omega
      clear hx hy
      go_wp2_with fail
      refine Calls.mono HS.out ?_
      rintro r w8 ⟨⟨gf, rfl, hTF⟩, hb8⟩
      have hcr8 := cell_up hcr hb8
      have hcq8 := cell_up hcq hb8
      have hTo := told3_index gf aA aI aL w8 (H7.out.2.2.2.2.2.2.2.below hb8) hTF
      unfold tFaultV at hTo
      have HTo : Hid _ := And.intro hTo (H7.out.2.2.2.2.2.2.1.trans (hb8.mono hz7))
      clear hTo hTF hb8 HS H7 hcr hcq
      unfold tFaultV
      rcases hyy with hy1 | ⟨hy1, hy2⟩
      all_goals
        go_wp2_with fail
        refine Calls.mono HTo.out.1 ?_
        rintro r9 w9 ⟨rfl, hb9⟩
        have H9 : Hid _ := HTo.out.2.trans (hb9.mono HTo.out.2.size)
        clear hb9 HTo
        go_wp2_with fail
        go_ret
        exact ⟨rfl, H9.out⟩
    | true =>
      obtain ⟨hy0, hyl⟩ := has_iff.1 hy
      obtain ⟨i, rfl⟩ : ∃ i : Nat, x = (i : Int) := ⟨x.toNat, by omega⟩
      obtain ⟨j, rfl⟩ : ∃ j : Nat, y = (j : Int) := ⟨y.toNat, by omega⟩
      have hy1 : ¬ (j : Int) < 0 := by omega
      have hy2 : ¬ (M.length : Int) ≤ (j : Int) := by omega
      have HS : Hid _ := same_yes b b2 L M F F2 i j w7 H7.out.1 H7.out.2.2.1 H7.out.2.2.2.2.1 (by omega) (by omega)
      have HX : Hid _ := hx
      clear hx hy
      go_wp2_with fail
      refine Calls.mono HS.out ?_
      rintro r w8 ⟨rfl, hb8⟩
      have hcr8 := cell_up hcr hb8
      have hcq8 := cell_up hcq hb8
      have HN : Hid _ := same_nil3 b L F (i : Int) (j : Int) 129 (.pointer (some aA)) w8 (H7.out.1.below hb8) HX.out (H7.out.2.2.2.2.2.2.2.below hb8).a.1
      have H8 : Hid _ := hb8
      clear hb8 HS hcr hcq
      go_wp2_with fail
      refine Calls.mono HN.out ?_
      rintro r w9 ⟨⟨gf, rfl, hTF⟩, hb9⟩
      have hb79 : Below w7.heap.size w7 w9 := H8.out.trans (hb9.mono H8.out.size)
      have hR := rsameS_any c c2 L M G G2 i j w9 (H7.out.2.1.below hb79) (H7.out.2.2.2.1.below hb79) H7.out.2.2.2.2.1 (fun t p q h1 h2 => H7.out.2.2.1.nodup h1 h2) (by omega)
      have HR : Hid _ := And.intro hR (And.intro hTF hb79)
      clear hR hTF hb9 hb79 HN H8 hcr8 hcq8
      unfold tFaultV
      generalize (Tm.num L M i == some j) = z at HR ⊢
      go_wp2_with fail
      refine Calls.mono HR.out.1 ?_
      rintro r w10 ⟨rfl, hb10⟩
      have hb7 := HR.out.2.2.trans (hb10.mono HR.out.2.2.size)
      have hTF10 : TermFault w10 gf (errV aA) := (hb10.block _ (t_lt HR.out.2.1)).trans HR.out.2.1
      have hTo := told3_arg gf aA w10 (H7.out.2.2.2.2.2.2.2.below hb7).a hTF10
      unfold tFaultV at hTo
      have HTo : Hid _ := And.intro hTo (H7.out.2.2.2.2.2.2.1.trans (hb7.mono hz7))
      clear hTo hTF10 hb10 hb7 HR H7
      have ez : (z == z) = true := by simp
      go_wp2_with fail
      refine Calls.mono HTo.out.1 ?_
      rintro r11 w11 ⟨rfl, hb11⟩
      have H11 : Hid _ := HTo.out.2.trans (hb11.mono HTo.out.2.size)
      clear hb11 HTo
      go_wp2_with fail
      go_ret
      exact ⟨rfl, H11.out⟩
theorem lawSames_any (v u : Value) (l m : List Tm) (x y : Int) (aA aI aL : Addr) (w : World) (hl : l.length ≤ maxLen) (hl2 : m.length ≤ maxLen) (hT : HasT w v l) (hT2 : HasT w u m) (hrm : ∀ t ∈ l, Room t) (hrm2 : ∀ t ∈ m, Room t) (hE : ErrT w aA aI aL) :
    Calls Tryd.prog 4 #[v, u, .int .i64 x, .int .i64 y] w fun r w' => r = .returned (.bool true) ∧ Below w.heap.size w w' := by
  by_cases h : l.length ≤ 100 ∧ m.length ≤ 100
  · exact lawSames_short v u l m x y aA aI aL w h.1 h.2 hT hT2 hrm hrm2 hE
  · obtain ⟨ao, cap, rfl, _⟩ := hT
    obtain ⟨ao2, cap2, rfl, _⟩ := hT2
    exact lawSames_long ao ao2 l.length m.length cap cap2 x y w (by omega) hl hl2
end Go.Proofs.YtoamnhhegneegaaDoor
