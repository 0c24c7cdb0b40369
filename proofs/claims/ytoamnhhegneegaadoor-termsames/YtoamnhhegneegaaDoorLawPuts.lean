/- The statement TermPuts as a call: whatever comes in, it returns true, and nothing that was there has turned. -/
import Derived.Test.YtoamnhhegneegaaDoorTmPuts
import Derived.Deep.DeepCutAuto
import Derived.Deep.RegionHeld3
namespace Go.Proofs.YtoamnhhegneegaaDoor
open Go.RowKit Go.Maps
attribute [local go_sem ↓] Go.wp_at_zero Go.wp_at_succ
/-- What came in stands while blocks turn that were laid since. -/
theorem lst_of {w0 w : World} {K : Nat → Prop} {v : Value} {l : List Tm} (hT : HasT w0 v l) (hK : ∀ i, K i → w0.heap.size ≤ i) (hb : Below w0.heap.size w0 w) : Lst w K v l := by
  obtain ⟨ao, cap, rfl, hO⟩ := hT
  refine ⟨ao, cap, rfl, fun i t hi => ?_⟩
  obtain ⟨g, o, vn, vp, h⟩ := hO i t hi
  exact ⟨g, o, vn, vp, fun w' hk => h.below (hb.trans (hk.below hb.size hK))⟩
/-- Two stores with the same terms, laid since w0, apart. -/
def Pr (w0 w : World) (b c : Nat) (L : List Tm) : Prop := ∃ F G, StoB w b L F ∧ RStoB w c L G ∧ (∀ i, F i → ¬ G i) ∧ (∀ i, F i → w0.heap.size ≤ i) ∧ (∀ i, G i → w0.heap.size ≤ i) ∧ Below w0.heap.size w0 w ∧ Tm.Good L
theorem Pr.below {w0 w w' : World} {b c : Nat} {L : List Tm} (h : Pr w0 w b c L) (hb : Below w.heap.size w w') : Pr w0 w' b c L := by
  obtain ⟨F, G, h1, h2, h3, h4, h5, h6, h7⟩ := h
  exact ⟨F, G, h1.below hb, h2.below hb, h3, h4, h5, h6.trans (hb.mono h6.size), h7⟩
theorem Pr.bl {w0 w : World} {b c : Nat} {L : List Tm} (h : Pr w0 w b c L) : Below w0.heap.size w0 w := by
  obtain ⟨F, G, h1, h2, h3, h4, h5, h6, h7⟩ := h
  exact h6
theorem put_pr (v : Value) (l : List Tm) (b c : Nat) (L : List Tm) (aA : Addr) (w0 w : World) (h : Pr w0 w b c L) (hT : HasT w0 v l) (hrm : ∀ t ∈ l, Room t) (hlen : L.length + l.length < 100000) (hE : Sent w0 0 aA) :
    Calls Tryd.prog 8 #[.pointer (some ⟨b, 0, none⟩), .pointer (some ⟨c, 0, none⟩), v] w fun r w' => r = .returned (.bool true) ∧ ∃ L', Pr w0 w' b c L' ∧ L'.length ≤ L.length + l.length := by
  obtain ⟨F, G, h1, h2, h3, h4, h5, h6, h7⟩ := h
  have hK : ∀ i, (F i ∨ G i) → w0.heap.size ≤ i := fun i hi => hi.elim (h4 i) (h5 i)
  refine (lawput_any v l b c L F G aA w h1 h2 h3 h7 (lst_of hT hK h6) hrm hlen (fun w' hk => hE.below (h6.trans (hk.below h6.size hK)))).mono ?_
  rintro r w' ⟨rfl, L', F', G', hT', hG', hl'⟩
  refine ⟨rfl, L', ⟨F', G', hT'.s, hT'.r, hT'.ap, fun i hi => ?_, fun i hi => ?_, h6.trans (hT'.k.below h6.size hK), hG'⟩, hl'⟩
  · rcases hT'.f i hi with e | e
    · exact h4 i e
    · have := h6.size; omega
  · rcases hT'.g i hi with e | e
    · exact h5 i e
    · have := h6.size; omega
theorem nil_any (v : Value) (w : World) : Calls Tryd.prog 9 #[v] w fun r w' => r = .returned (.int .i64 0) ∧ w' = w := by
  go_enter Tryd.func9, Tryd.ntmps9
  go_wp2
  go_ret
  exact ⟨rfl, rfl⟩
/-- Both stores new. -/
theorem pr_new {w w1 w2 : World} {F G : Nat → Prop} (h1 : StoB w1 w.heap.size [⟨1, 0, 0, 0, [], []⟩] F) (hF : ∀ i, F i → w.heap.size ≤ i) (hb1 : Below w.heap.size w w1) (h2 : RStoB w2 w1.heap.size [⟨1, 0, 0, 0, [], []⟩] G) (hG : ∀ i, G i → w1.heap.size ≤ i) (hb2 : Below w1.heap.size w1 w2) : Pr w w2 w.heap.size w1.heap.size [⟨1, 0, 0, 0, [], []⟩] :=
  ⟨F, G, h1.below hb2, h2, fun i hi hg => by have := h1.foot_lt hi; have := hG i hg; omega, hF, fun i hi => by have := hG i hi; have := hb1.size; omega, hb1.trans (hb2.mono hb1.size), good_nil⟩
/-- Both stores zero. -/
theorem pr_zero {w0 w w1 w2 : World} (hb : Below w0.heap.size w0 w) (e1 : w1 = w.alloc (.cells #[.slice none 0 0, .map none] 30)) (e2 : w2 = w1.alloc (.cells Tryd.zeroCells34 34)) : Pr w0 w2 w.heap.size (w.heap.size + 1) [] := by
  have b1 : Below w.heap.size w w1 := by rw [e1]; exact (Below.refl _ _).alloc (Nat.le_refl _) _
  have b2 : Below w1.heap.size w1 w2 := by rw [e2]; exact (Below.refl _ _).alloc (Nat.le_refl _) _
  have s1 : w1.heap.size = w.heap.size + 1 := by rw [e1]; simp
  rw [← s1]
  have hS : Sto w1 w.heap.size (.slice none 0 0) (.map none) [] [] := by
    rw [e1]
    exact ⟨(MapKept.heap_alloc w _).1, World.ownsRow_nil _ _ _ _, .inl ⟨rfl, rfl⟩, rfl, fun i t v h => by simp at h, fun t h => by simp at h, by simp⟩
  have hS1 : StoB w1 w.heap.size [] (Foot3 w.heap.size (.slice none 0 0) (.map none) []) := ⟨_, _, _, hS, rfl⟩
  have hR : RSto w2 w1.heap.size Tryd.zeroCells34 (.slice none 0 0) (fun _ => .slice none 0 0) [] [] [] := by rw [e2]; exact rsto_zero w1
  have hup : ∀ i, RFoot w1.heap.size (.slice none 0 0) (fun _ => .slice none 0 0) [] i → w1.heap.size ≤ i := fun i hi => by
    rcases hi with rfl | hi | ⟨k, _, hi⟩ | ⟨v, hv, _⟩
    · exact Nat.le_refl _
    · cases hi
    · cases hi
    · cases hv
  have hz := hb.size
  refine ⟨_, RFoot w1.heap.size (.slice none 0 0) (fun _ => .slice none 0 0) [], hS1.below b2, ⟨_, _, _, _, hR, rfl⟩, fun i hi hg => ?_, fun i hi => ?_, fun i hi => ?_, hb.trans ((b1.trans (b2.mono b1.size)).mono hz), fun i t h => by simp at h⟩
  · have h1 := hS1.foot_lt hi
    have h2 := hup i hg
    omega
  · rcases hi with rfl | hi | hi | ⟨v, hv, _⟩
    · exact hz
    · cases hi
    · cases hi
    · cases hv
  · have := hup i hi; omega
set_option maxRecDepth 100000 in
set_option maxHeartbeats 1600000 in
theorem lawPuts_long (ao : Option Addr) (n cap : Nat) (x : Int) (z : Bool) (w : World) (hn : 200 < n) (hm : n ≤ maxLen) :
    Calls Tryd.prog 3 #[.slice ao n cap, .int .i64 x, .bool z] w fun r w' => r = .returned (.bool true) ∧ Below w.heap.size w w' := by
  unfold maxLen at hm
  have h1 : (200 : Int) < (n : Int) := by omega
  go_enter Tryd.func3, Tryd.ntmps3
  go_wp2_with (go_at_call 5; refine (alive3 _).mono ?_; rintro r w' ⟨rfl, hb⟩)
  go_ret
  exact ⟨rfl, hb⟩
set_option maxRecDepth 100000 in
set_option maxHeartbeats 16000000 in
theorem lawPuts_short (v : Value) (l : List Tm) (x : Int) (z : Bool) (aA aI aL : Addr) (w : World) (hl : l.length ≤ 200) (hT : HasT w v l) (hrm : ∀ t ∈ l, Room t) (hE : ErrT w aA aI aL) :
    Calls Tryd.prog 3 #[v, .int .i64 x, .bool z] w fun r w' => r = .returned (.bool true) ∧ Below w.heap.size w w' := by
  obtain ⟨ao, cap, hv, _⟩ := id hT
  obtain ⟨n, hn⟩ : ∃ n, n = l.length := ⟨_, rfl⟩
  rw [← hn] at hl hv
  have h1 : ¬ (200 : Int) < (n : Int) := by omega
  subst hv
  have HO : Hid _ := And.intro hT (And.intro hn (And.intro hrm hE))
  clear hT hn hrm hE
  go_enter Tryd.func3, Tryd.ntmps3
  go_wp2_with fail
  refine (newA w).mono ?_
  rintro r w1 ⟨rfl, F1, hS1, hF1, hb1, hG1⟩
  have H1 : Hid _ := And.intro hS1 (And.intro hF1 hb1)
  clear hS1 hF1 hb1 hG1
  go_wp2_with fail
  refine (rnew_any w1).mono ?_
  rintro r w2 ⟨rfl, ⟨G1, hR1, hG1⟩, hb2⟩
  have HP : Hid (Pr w w2 w.heap.size w1.heap.size [⟨1, 0, 0, 0, [], []⟩]) := pr_new H1.out.1 H1.out.2.1 H1.out.2.2 hR1 hG1 hb2
  clear H1 hR1 hG1 hb2
  go_upto_if 20 with fail
  go_cut [7, 8] (fun s7 s8 wx => ∃ (b c : Nat) (L : List Tm), s7 = .pointer (some ⟨b, 0, none⟩) ∧ s8 = .pointer (some ⟨c, 0, none⟩) ∧ Pr w wx b c L ∧ L.length ≤ 1)
  case first =>
    cases z with
    | false =>
      go_wp2_with fail
      all_goals (go_meet; case rel => exact ⟨_, _, _, rfl, rfl, HP.out, by simp⟩)
    | true =>
      go_wp2_with fail
      all_goals (go_meet; case rel => exact ⟨_, _, _, rfl, rfl, pr_zero HP.out.bl rfl rfl, by simp⟩)
  case rest =>
    obtain ⟨b, c, L, rfl, rfl, hP, hL1⟩ := hcut
    have H2 : Hid (Pr w wc b c L) := hP
    clear hP HP
    go_wp2_with fail
    refine (alive3 wc).mono ?_
    rintro r w3 ⟨rfl, hb3⟩
    have hP3 := H2.out.below hb3
    have hPut := put_pr (.slice ao n cap) l b c L aA w w3 hP3 HO.out.1 HO.out.2.2.1 (by have := HO.out.2.1; omega) HO.out.2.2.2.a
    have HPut : Hid _ := hPut
    clear H2 hb3 hP3 hPut
    go_wp2_with fail
    refine Calls.mono HPut.out ?_
    rintro r w4 ⟨rfl, L', hP4, hL4⟩
    have H4 : Hid (Pr w w4 b c L') := hP4
    clear HPut hP4
    go_wp2_with fail
    refine (nil_any _ w4).mono ?_
    rintro r w5 ⟨rfl, hw5⟩
    obtain rfl := hw5.symm
    have hlL : L'.length ≤ 1000 := by have := HO.out.2.1; omega
    go_wp2_with fail
    go_loopg [9] L'.length (fun q iv wr => ∃ i : Nat, q = L'.length - i ∧ i ≤ L'.length ∧ iv = .int .i64 i ∧ Pr w wr b c L')
    case atStart => exact ⟨0, rfl, Nat.zero_le _, rfl, H4.out⟩
    case round =>
      obtain ⟨i, rfl, hi, rfl, hPr⟩ := hrel
      clear H4
      obtain ⟨F, G, hS, hR, hd, hF, hG, hbl, hGo⟩ := _root_.id hPr
      obtain ⟨ay, cy, hc2⟩ := hR.cell
      by_cases hlt : i < L'.length
      · obtain ⟨t, ht⟩ : ∃ t, L'[i]? = some t := ⟨L'[i]'hlt, List.getElem?_eq_getElem _⟩
        have q0 : (0 : Int) ≤ (i : Int) := by omega
        have q1 : (i : Int) < (L'.length : Int) := by omega
        have hGt := get_yes b L' F i t wr hS ht
        unfold tmV at hGt
        have wf := hS.wf t (List.mem_of_getElem? ht)
        have HGt : Hid _ := hGt
        have HR : Hid _ := And.intro hPr (And.intro hR (And.intro ht wf))
        clear hGt hPr hR hd hF hG hbl hGo hS wf ht
        go_wp2_with fail
        refine Calls.mono HGt.out ?_
        rintro r w6 ⟨v1, v2, rfl, hn6, hp6, hb6⟩
        clear HGt hc2
        obtain ⟨ao1, cap1, rfl⟩ := row_shape hn6
        obtain ⟨ao2, cap2, rfl⟩ := row_shape hp6
        have hn6' := hn6.has
        have hp6' := hp6.has
        have H6 : Hid _ := And.intro hn6' (And.intro hp6' hb6)
        clear hn6 hp6 hb6 hn6' hp6'
        go_upto_region 12 with fail
        obtain ⟨W6, hW6⟩ : ∃ W6, W6 = w6.alloc (.cells #[.int .i64 t.kind, .int .i64 t.label, .int .i64 t.a, .int .i64 t.b, .slice ao1 t.names.length cap1, .slice ao2 t.pairs.length cap2] 39) := ⟨_, rfl⟩
        rw [← hW6]
        have hbx : W6.heap[w6.heap.size]? = some (.cells #[.int .i64 t.kind, .int .i64 t.label, .int .i64 t.a, .int .i64 t.b, .slice ao1 t.names.length cap1, .slice ao2 t.pairs.length cap2] 39 (0, 0)) := by rw [hW6]; exact (MapKept.heap_alloc w6 _).1
        have hbW : Below w6.heap.size w6 W6 := by rw [hW6]; exact (Below.refl _ _).alloc (Nat.le_refl _) _
        have hb7 : Below wr.heap.size wr W6 := H6.out.2.2.trans (hbW.mono H6.out.2.2.size)
        obtain ⟨y0, y1, y2, y3, y4, y5, _⟩ := six6 hbx
        obtain ⟨gq, cq, vn, vp, hA⟩ := (HR.out.2.1.below hb7).at HR.out.2.2.1
        obtain ⟨hc, x0, x1, x2, x3, x4, x5, hn7, hp7⟩ := _root_.id hA
        obtain ⟨an, cn, rfl, _⟩ := _root_.id hn7
        obtain ⟨ap, cp, rfl, _⟩ := _root_.id hp7
        have wf := HR.out.2.2.2
        have hST := (fun W (hb : Below W6.heap.size W6 W) => sameTerm_b t t _ _ _ _ W ((H6.out.1.below hbW).below hb) ((H6.out.2.1.below hbW).below hb) (hn7.below hb) (hp7.below hb) (by have := wf.nl; omega) (by have := wf.pl; omega) (by have := wf.nl; omega) (by have := wf.pl; omega))
        rw [same_self] at hST
        unfold tmV at hST
        have HST : Hid _ := hST
        have H7 : Hid (Pr w W6 b c L') := HR.out.1.below hb7
        clear hST hbx hbW hb7 hA hn7 hp7 hW6 H6 wf HR
        go_cut [67] (fun s67 wx => s67 = .bool false ∧ Pr w wx b c L')
        case first =>
          go_region_held3 (fun w' => (w'.cell? ⟨w6.heap.size, 0, none⟩ = some (.int .i64 t.kind) ∧ w'.cell? ⟨w6.heap.size, 1, none⟩ = some (.int .i64 t.label) ∧ w'.cell? ⟨w6.heap.size, 2, none⟩ = some (.int .i64 t.a) ∧ w'.cell? ⟨w6.heap.size, 3, none⟩ = some (.int .i64 t.b) ∧ w'.cell? ⟨w6.heap.size, 4, none⟩ = some (.slice ao1 t.names.length cap1) ∧ w'.cell? ⟨w6.heap.size, 5, none⟩ = some (.slice ao2 t.pairs.length cap2)) ∧ w'.cell? ⟨c, 0, none⟩ = some (.slice (some ⟨gq, 0, none⟩) L'.length cq) ∧ w'.cell? ⟨gq, i * 6, none⟩ = some (.int .i64 t.kind) ∧ w'.cell? ⟨gq, i * 6 + 1, none⟩ = some (.int .i64 t.label) ∧ w'.cell? ⟨gq, i * 6 + 2, none⟩ = some (.int .i64 t.a) ∧ w'.cell? ⟨gq, i * 6 + 3, none⟩ = some (.int .i64 t.b) ∧ w'.cell? ⟨gq, i * 6 + 4, none⟩ = some (.slice an t.names.length cn) ∧ w'.cell? ⟨gq, i * 6 + 5, none⟩ = some (.slice ap t.pairs.length cp)) (go_keep)
            ((first
              | (go_at_call 11; refine (HST.out _ (by repeat (first | exact Below.refl _ _ | assumption | refine Below.drew ?_ | refine Below.setCell ?_ (by simp) _ | refine Below.alloc ?_ (by simp) _))).mono ?_; rintro r8 w8 ⟨rfl, hb8'⟩; have hb8 := below_of_drew3 hb8'; have H8 : Hid (Pr w w8 b c L') := H7.out.below hb8; have y0 := cell_up y0 hb8; have y1 := cell_up y1 hb8; have y2 := cell_up y2 hb8; have y3 := cell_up y3 hb8; have y4 := cell_up y4 hb8; have y5 := cell_up y5 hb8; have hc := cell_up hc hb8; have x0 := cell_up x0 hb8; have x1 := cell_up x1 hb8; have x2 := cell_up x2 hb8; have x3 := cell_up x3 hb8; have x4 := cell_up x4 hb8; have x5 := cell_up x5 hb8; clear hb8 hb8' HST)
              | fail))
          all_goals (refine Met.intro ?_; apply_assumption; refine Met.intro ?_; apply_assumption; (repeat apply Exists.intro); refine ⟨?rel, rfl⟩; case rel => exact ⟨rfl, by first | exact H8.out | exact H8.out.below (below_drewN (Below.refl _ _) _)⟩)
        case rest =>
          obtain ⟨rfl, hP8⟩ := hcut
          have H8 : Hid (Pr w wc b c L') := hP8
          clear hP8 HST H7 hc x0 x1 x2 x3 x4 x5 y0 y1 y2 y3 y4 y5
          go_wp2_with fail
          go_roundg (L'.length - (i + 1))
          case measure => omega
          case rel => exact ⟨i + 1, rfl, by omega, by go_num, H8.out⟩
      · obtain rfl : i = L'.length := by omega
        have q1 : ¬ (L'.length : Int) < (L'.length : Int) := by omega
        cases hx : Tm.has L'.length x with
        | false =>
          have hE := HO.out.2.2.2.below hbl
          have hGt := get_no b L' F x 129 (.pointer (some aI)) wr hS hx hE.i.1
          unfold tmV at hGt
          have HGt : Hid _ := hGt
          have HR : Hid _ := And.intro hR (And.intro hE hbl)
          clear hGt hPr hR hd hF hG hbl hGo hS hE
          go_wp2_with fail
          refine Calls.mono HGt.out ?_
          rintro r w6 ⟨⟨gf, rfl, hTF, hgf⟩, hb6⟩
          obtain ⟨W6, hW6⟩ : ∃ W6, W6 = w6.alloc (.cells #[.int .i64 0, .int .i64 0, .int .i64 0, .int .i64 0, .slice none 0 0, .slice none 0 0] 39) := ⟨_, rfl⟩
          have hbx : W6.heap[w6.heap.size]? = some (.cells #[.int .i64 0, .int .i64 0, .int .i64 0, .int .i64 0, .slice none 0 0, .slice none 0 0] 39 (0, 0)) := by rw [hW6]; exact (MapKept.heap_alloc w6 _).1
          have hbW : Below w6.heap.size w6 W6 := by rw [hW6]; exact (Below.refl _ _).alloc (Nat.le_refl _) _
          have hb7 : Below wr.heap.size wr W6 := hb6.trans (hbW.mono hb6.size)
          have hc3 := cell_up hc2 hb7
          rw [hW6] at hc3
          have hTF7 : TermFault W6 gf (errV aI) := (hbW.block _ (t_lt hTF)).trans hTF
          have hTo := told3_index gf aA aI aL W6 (HR.out.2.1.below hb7) hTF7
          unfold tFaultV at hTo
          have HTo : Hid _ := And.intro hTo (And.intro hW6 (And.intro hbx (HR.out.2.2.trans (hb7.mono HR.out.2.2.size))))
          clear hTo hTF7 hb7 hbW hbx hW6 hb6 hTF hgf HR HGt hc2
          unfold tFaultV
          have hxx : x < 0 ∨ (¬ x < 0 ∧ (L'.length : Int) ≤ x) := by
            have h9 : ¬ (0 ≤ x ∧ x < (L'.length : Int)) := fun e => by rw [has_iff.2 e] at hx; cases hx
            omega
          clear hx
          rcases hxx with hx1 | ⟨hx1, hx2⟩
          all_goals
            go_wp2_with fail
            rw [← HTo.out.2.1]
            refine Calls.mono HTo.out.1 ?_
            rintro r7 w7 ⟨rfl, hb7⟩
            obtain ⟨y0, y1, y2, y3, y4, y5, _⟩ := six6 ((hb7.block _ (t_lt HTo.out.2.2.1)).trans HTo.out.2.2.1)
            have hST := sameTerm_b ⟨0, 0, 0, 0, [], []⟩ ⟨0, 0, 0, 0, [], []⟩ (.slice none 0 0) (.slice none 0 0) (.slice none 0 0) (.slice none 0 0) w7 (hasI_nil _) (hasP_nil _) (hasI_nil _) (hasP_nil _) (by simp) (by simp) (by simp) (by simp)
            rw [same_self] at hST
            unfold tmV at hST
            have HST : Hid _ := And.intro hST (HTo.out.2.2.2.trans (hb7.mono HTo.out.2.2.2.size))
            clear hST hb7 HTo
            go_wp2_with fail
            refine Calls.mono HST.out.1 ?_
            rintro r8 w8 ⟨rfl, hb8⟩
            have H8 : Hid _ := HST.out.2.trans (hb8.mono HST.out.2.size)
            clear hb8 HST
            go_wp2_with fail
            go_ret
            exact ⟨rfl, H8.out⟩
        | true =>
          obtain ⟨h0, hlx⟩ := has_iff.1 hx
          obtain ⟨k, rfl⟩ : ∃ k : Nat, x = (k : Int) := ⟨x.toNat, by omega⟩
          obtain ⟨t, ht⟩ : ∃ t, L'[k]? = some t := ⟨L'[k]'(by omega), List.getElem?_eq_getElem _⟩
          have hGt := get_yes b L' F k t wr hS ht
          unfold tmV at hGt
          have HGt : Hid _ := hGt
          have HR : Hid _ := And.intro hR (And.intro hbl ht)
          clear hGt hPr hR hd hF hG hbl hGo hS ht
          go_wp2_with fail
          refine Calls.mono HGt.out ?_
          rintro r w6 ⟨v1, v2, rfl, hn6, hp6, hb6⟩
          obtain ⟨ao1, cap1, rfl⟩ := row_shape hn6
          obtain ⟨ao2, cap2, rfl⟩ := row_shape hp6
          obtain ⟨W6, hW6⟩ : ∃ W6, W6 = w6.alloc (.cells #[.int .i64 t.kind, .int .i64 t.label, .int .i64 t.a, .int .i64 t.b, .slice ao1 t.names.length cap1, .slice ao2 t.pairs.length cap2] 39) := ⟨_, rfl⟩
          have hbW : Below w6.heap.size w6 W6 := by rw [hW6]; exact (Below.refl _ _).alloc (Nat.le_refl _) _
          have hb7 : Below wr.heap.size wr W6 := hb6.trans (hbW.mono hb6.size)
          have hc3 := cell_up hc2 hb7
          rw [hW6] at hc3
          have H7 : Hid _ := And.intro hW6 (HR.out.2.1.trans (hb7.mono HR.out.2.1.size))
          clear hb7 hbW hW6 hb6 hn6 hp6 HR HGt hc2 h0 hx
          have hx1 : ¬ ((k : Int) < 0) := by omega
          have hx2 : ¬ ((L'.length : Int) ≤ (k : Int)) := by omega
          go_wp2_with fail
          go_ret
          exact ⟨rfl, by rw [← H7.out.1]; exact H7.out.2⟩
theorem lawPuts_any (v : Value) (l : List Tm) (x : Int) (z : Bool) (aA aI aL : Addr) (w : World) (hm : l.length ≤ maxLen) (hT : HasT w v l) (hrm : ∀ t ∈ l, Room t) (hE : ErrT w aA aI aL) :
    Calls Tryd.prog 3 #[v, .int .i64 x, .bool z] w fun r w' => r = .returned (.bool true) ∧ Below w.heap.size w w' := by
  by_cases hl : l.length ≤ 200
  · exact lawPuts_short v l x z aA aI aL w hl hT hrm hE
  · obtain ⟨ao, cap, rfl, _⟩ := hT
    exact lawPuts_long ao l.length cap x z w (by omega) hm
end Go.Proofs.YtoamnhhegneegaaDoor
