/- The statement RefineParts, out of the contracts. -/
import Derived.Test.YthfnikglcpoioaaDoorRfAlive
import Derived.Test.YthfnikglcpoioaaDoorRfMembers
namespace Go.Proofs.YthfnikglcpoioaaDoor
open Go.RowKit Go.Maps
attribute [local go_sem ↓] Go.wp_at_zero Go.wp_at_succ
/-- A script in memory: pairs of numbers. -/
def HasO8 (w : World) (v : Value) (ps : List (Int × Int)) : Prop := ∃ ao cap, v = .slice ao ps.length cap ∧ ∀ (i : Nat) (p : Int × Int), ps[i]? = some p → ∃ a, ao = some a ∧ w.cell? (a.add (i * 2)) = some (.int .i64 p.1) ∧ w.cell? (a.add (i * 2 + 1)) = some (.int .i64 p.2)
theorem add_two8 (a : Addr) (k : Nat) : (a.add k).add 1 = a.add (k + 1) := by
  unfold Addr.add
  by_cases h : k = 0
  · subst h; simp
  · simp [h, Nat.add_assoc]
theorem tot_le {f : Nat → Nat} {a : Nat} : ∀ b, a ≤ b → tot f a ≤ tot f b := by
  intro b
  induction b with
  | zero => intro h; rw [show a = 0 by omega]; exact Nat.le_refl _
  | succ b ih =>
    intro h
    by_cases e : a = b + 1
    · rw [e]; exact Nat.le_refl _
    · have := ih (by omega); simp only [tot]; omega
/-- A partition that stands well. -/
structure St8 (w0 w : World) (g : Nat) (c : Nat → Int) (s : Pst) : Prop where
  pt : Pt w0 w g c
  ly : Lay c s
  ok : s.Ok
theorem St8.below {w0 w w' : World} {g : Nat} {c : Nat → Int} {s : Pst} (h : St8 w0 w g c s) (hb : Below w.heap.size w w') : St8 w0 w' g c s := ⟨h.pt.below hb, h.ly, h.ok⟩
theorem mark_all {g : Nat} {c : Nat → Int} {s : Pst} (x : Int) {a1 a3 : Addr} {w0 w : World} (h : St8 w0 w g c s) (hE : EnvR w a1 a3) :
    Calls Tryd.prog 8 #[.pointer (some ⟨g, 0, none⟩), .int .i64 x] w fun r w' => ∃ v1 v2, r = .returned (.tuple #[v1, v2]) ∧ ∃ c' s', St8 w0 w' g c' s' ∧ s'.n = s.n ∧ Kept (fun i => i = g) w w' := by
  by_cases hx : x < 0 ∨ (s.n : Int) ≤ x
  · refine (mark_bad g c s x a1 a3 w0 w h.pt h.ly hE hx).mono ?_
    rintro r w' ⟨y, rfl, _, hb⟩
    exact ⟨_, _, rfl, c, s, h.below hb, rfl, Kept.of_below hb⟩
  · obtain ⟨e, rfl⟩ : ∃ e : Nat, x = e := ⟨x.toNat, by omega⟩
    refine (mark_any g c s e w0 w h.pt h.ly h.ok (by omega)).mono ?_
    rintro r w' ⟨rfl, c', s', h1, h2, h3, h4, h5, _⟩
    exact ⟨_, _, rfl, c', s', ⟨h1, h2, h3⟩, h5, h4⟩
theorem split_all {g : Nat} {c : Nat → Int} {s : Pst} (x : Int) {a1 a3 : Addr} {w0 w : World} (h : St8 w0 w g c s) (hE : EnvR w a1 a3) :
    Calls Tryd.prog 11 #[.pointer (some ⟨g, 0, none⟩), .int .i64 x] w fun r w' => ∃ v1 v2 v3, r = .returned (.tuple #[v1, v2, v3]) ∧ ∃ c' s', St8 w0 w' g c' s' ∧ s'.n = s.n ∧ Kept (fun i => i = g) w w' := by
  by_cases hx : x < 0 ∨ (s.nb : Int) ≤ x
  · refine (split_bad g c s x a1 a3 w0 w h.pt h.ly hE hx).mono ?_
    rintro r w' ⟨y, rfl, _, hb⟩
    exact ⟨_, _, _, rfl, c, s, h.below hb, rfl, Kept.of_below hb⟩
  · obtain ⟨b, rfl⟩ : ∃ b : Nat, x = b := ⟨x.toNat, by omega⟩
    have hb : b < s.nb := by omega
    have h5 := split_ok h.ok hb
    refine (split_any g c s b w0 w h.pt h.ly h.ok hb).mono ?_
    rintro r w' ⟨rfl, c', h1, h2, h3⟩
    exact ⟨_, _, _, rfl, c', _, ⟨h1, h2, h5.1⟩, h5.2.1, h3⟩
set_option maxRecDepth 100000 in
set_option maxHeartbeats 16000000 in
theorem lawParts8 (n : Int) (v : Value) (ps : List (Int × Int)) (a1 a3 : Addr) (w : World) (hE : EnvR w a1 a3) (hv : HasO8 w v ps) :
    Calls Tryd.prog 4 #[.int .i64 n, v] w fun r w' => r = .returned (.bool true) ∧ Below w.heap.size w w' := by
  obtain ⟨ao, cap, rfl, hcs⟩ := hv
  have HA : Hid (∀ W : World, Calls Tryd.prog 6 #[] W fun r w' => r = .returned (.bool true) ∧ Below W.heap.size W w') := fun W => alive8 W
  by_cases hn : n < 0 ∨ 60 < n ∨ 200 < ps.length
  · have gg : (decide (n < 0) || (decide (60 < n) || decide (200 < (ps.length : Int)))) = true := by
      rcases hn with h | h | h
      · simp [h]
      · simp [h]
      · simp; omega
    generalize ps.length = L at *
    clear hcs hE
    by_cases h1 : n < 0
    · have d1 : decide (n < 0) = true := decide_eq_true h1
      clear hn gg
      go_enter Tryd.func4, Tryd.ntmps4
      go_wp2_with (go_at_call 6; refine Calls.mono (HA.out _) ?_; rintro r w1 ⟨rfl, hb1⟩)
      go_ret
      exact ⟨rfl, hb1⟩
    · have d1 : decide (n < 0) = false := decide_eq_false h1
      by_cases h2 : 60 < n
      · have d2 : decide (60 < n) = true := decide_eq_true h2
        clear hn gg
        go_enter Tryd.func4, Tryd.ntmps4
        go_wp2_with (go_at_call 6; refine Calls.mono (HA.out _) ?_; rintro r w1 ⟨rfl, hb1⟩)
        go_ret
        exact ⟨rfl, hb1⟩
      · have d2 : decide (60 < n) = false := decide_eq_false h2
        have h3 : (200 : Int) < (L : Int) := by omega
        have d3 : decide ((200 : Int) < (L : Int)) = true := decide_eq_true h3
        clear hn gg
        go_enter Tryd.func4, Tryd.ntmps4
        go_wp2_with (go_at_call 6; refine Calls.mono (HA.out _) ?_; rintro r w1 ⟨rfl, hb1⟩)
        go_ret
        exact ⟨rfl, hb1⟩
  · obtain ⟨N, rfl⟩ : ∃ N : Nat, n = N := ⟨n.toNat, by omega⟩
    have hN60 : N ≤ 60 := by omega
    have hL200 : ps.length ≤ 200 := by omega
    have d1 : ¬ (N : Int) < 0 := by omega
    have d2 : ¬ (60 : Int) < (N : Int) := by omega
    have d3 : ¬ (200 : Int) < (ps.length : Int) := by omega
    have d4 : ¬ 60 < N := by omega
    have d5 : ¬ 200 < ps.length := by omega
    have hNew := new_part N (by omega) w
    have HN : Hid _ := And.intro hNew trivial
    have HE : Hid (EnvR w a1 a3) := hE
    obtain ⟨L, hL⟩ : ∃ L, L = ps.length := ⟨_, rfl⟩
    rw [← hL] at hL200 d3 d5 ⊢
    have HC : Hid (L = ps.length ∧ ∀ (i : Nat) (p : Int × Int), ps[i]? = some p → ∃ a, ao = some a ∧ w.cell? (a.add (i * 2)) = some (.int .i64 p.1) ∧ w.cell? (a.add (i * 2 + 1)) = some (.int .i64 p.2)) := ⟨hL, hcs⟩
    clear hNew hE hn hcs hL
    go_enter Tryd.func4, Tryd.ntmps4
    go_wp2_with fail
    refine Calls.mono HN.out.1 ?_
    rintro r w1 ⟨g, c, rfl, hP, hLy⟩
    have hOk := Pst.new_ok (n := N) (by omega)
    have H1 : Hid (St8 w w1 g c (Pst.new N)) := ⟨hP, hLy, hOk⟩
    clear hP hLy hOk HN d1 d2 d3 d4 d5
    go_wp2_with fail
    go_loopg [7] L (fun q iv wr => ∃ (i : Nat) (ci : Nat → Int) (si : Pst), iv = .int .i64 i ∧ i ≤ L ∧ L - i ≤ q ∧ St8 w wr g ci si ∧ si.n = N)
    case atStart => exact ⟨0, c, Pst.new N, rfl, Nat.zero_le _, Nat.le_refl _, H1.out, rfl⟩
    case round =>
      obtain ⟨i, ci, si, rfl, hi, hq, hSt, hsn⟩ := hrel
      clear H1
      by_cases hiL : i < L
      · have p1 : (i : Int) < (L : Int) := by omega
        have p2 : (0 : Int) ≤ (i : Int) := by omega
        obtain ⟨⟨k0, x0⟩, hp⟩ : ∃ p, ps[i]? = some p := ⟨_, List.getElem?_eq_getElem (by have := HC.out.1; omega)⟩
        obtain ⟨a, ha, y0, y1⟩ := HC.out.2 i _ hp
        subst ha
        have hbw := hSt.pt.bl
        have y0 := cellu y0 hbw
        have y1 := cellu y1 hbw
        have y2 : wr.cell? ((a.add (i * 2)).add 1) = some (.int .i64 x0) := by rw [add_two8]; exact y1
        have y3 : wr.cell? ⟨(a.add (i * 2)).block, (a.add (i * 2)).off + 1, none⟩ = some (.int .i64 x0) := by rw [← y2]; rfl
        clear y1
        have hMk := mark_all x0 hSt (HE.out.below hbw)
        have hSp := split_all x0 hSt (HE.out.below hbw)
        have HM : Hid _ := And.intro hMk (And.intro hSp hsn)
        clear hMk hSp hSt hsn hbw hp
        simp only at y0
        by_cases hk : k0 = 1
        · subst hk
          go_wp2_with (go_at_call 8; refine Calls.mono HM.out.1 ?_; rintro r w2 ⟨v1, v2, rfl, c2, s2, hS2, hn2, _⟩)
          go_roundg (L - (i + 1))
          case measure => omega
          case rel => exact ⟨i + 1, c2, s2, by go_num, by omega, Nat.le_refl _, hS2, hn2.trans HM.out.2.2⟩
        · go_wp2_with (go_at_call 11; refine Calls.mono HM.out.2.1 ?_; rintro r w2 ⟨v1, v2, v3, rfl, c2, s2, hS2, hn2, _⟩)
          go_roundg (L - (i + 1))
          case measure => omega
          case rel => exact ⟨i + 1, c2, s2, by go_num, by omega, Nat.le_refl _, hS2, hn2.trans HM.out.2.2⟩
      · have p1 : ¬ (i : Int) < (L : Int) := by omega
        have HS : Hid (St8 w wr g ci si ∧ si.n = N) := ⟨hSt, hsn⟩
        obtain ⟨wq, hwq⟩ : ∃ wq, wq = wr := ⟨_, rfl⟩
        subst hwq
        clear hSt hsn HC
        go_wp2_with fail
        go_loopg [8, 9] (si.nb) (fun q sv bv wr => ∃ (b : Nat), bv = .int .i64 b ∧ sv = .int .i64 ((tot (fun x => si.D x - si.B x) b : Nat) : Int) ∧ b ≤ si.nb ∧ si.nb - b ≤ q ∧ St8 w wr g ci si)
        case atStart => exact ⟨0, rfl, rfl, Nat.zero_le _, Nat.le_refl _, HS.out.1⟩
        case round =>
          obtain ⟨b, rfl, rfl, hb, hqb, hSb⟩ := hrel
          obtain ⟨wb, hwb⟩ : ∃ wb, wb = wr := ⟨_, rfl⟩
          subst hwb
          have hn1 := hSb.ok.n1
          have hfew := hSb.ok.few
          have hBl := blocks_any g ci w wb hSb.pt
          rw [hSb.ly.nb] at hBl
          have HBl : Hid _ := And.intro hBl (And.intro hSb HS.out.2)
          clear hBl HS
          by_cases hbn : b < si.nb
          · have hMe := members_ok g ci si b w wb hSb.pt hSb.ly hSb.ok hbn
            have HMe : Hid _ := And.intro hMe trivial
            have hml := mem_len hSb.ok hbn
            have hiv := hSb.ok.iv b hbn
            have p2 : (b : Int) < (si.nb : Int) := by omega
            clear hMe hSb
            go_wp2_with (first
              | (go_at_call 13; refine Calls.mono HBl.out.1 ?_; rintro r w2 ⟨rfl, hw2⟩; obtain rfl := hw2.symm; clear hw2)
              | (go_at_call 10; refine Calls.mono HMe.out.1 ?_; rintro r w2 ⟨u, rfl, hO2, hb2⟩; rcases hO2.2 with ⟨rfl, h0⟩ | ⟨gl, cp, cur, rfl, hgl, hcl⟩; exact absurd h0 (by omega); have HO2 : Hid _ := And.intro hO2 hb2; clear hO2 hb2 hgl hcl))
            obtain ⟨K, hK⟩ : ∃ K, K = si.D b - si.B b := ⟨_, rfl⟩
            obtain ⟨T, hT⟩ : ∃ T, T = tot (fun x => si.D x - si.B x) b := ⟨_, rfl⟩
            have hT1 : tot (fun x => si.D x - si.B x) (b + 1) = T + K := by rw [hT, hK]; rfl
            have hTn : T + K ≤ 1000 := by
              have h5 := tot_le (f := fun x => si.D x - si.B x) (a := b + 1) si.nb (by omega)
              rw [hT1, HBl.out.2.1.ok.su] at h5
              omega
            rw [← hK, ← hT]
            have HT : Hid (tot (fun x => si.D x - si.B x) (b + 1) = T + K ∧ K = si.D b - si.B b ∧ (si.mem b).length = K) := ⟨hT1, hK, by rw [hml, hK]⟩
            have hcel : ∀ (j : Nat) (z : Int), (si.mem b)[j]? = some z → w2.cell? ⟨gl, j, none⟩ = some (.int .i64 z) := fun j z hz => by
              obtain ⟨ao', cap', he, hx⟩ := HO2.out.1.has
              obtain ⟨a', ha', hc'⟩ := hx j z hz
              injection he with he1 he2 he3
              rw [← he1] at ha'
              obtain rfl := (Option.some.inj ha').symm
              have h4 : (⟨gl, 0, none⟩ : Addr).add j = ⟨gl, j, none⟩ := by
                unfold Addr.add
                by_cases hj : j = 0
                · subst hj; rfl
                · simp [hj]
              rw [h4] at hc'
              exact hc'
            have HCe : Hid (∀ (j : Nat) (z : Int), (si.mem b)[j]? = some z → w2.cell? ⟨gl, j, none⟩ = some (.int .i64 z)) := hcel
            have HSt : Hid (St8 w w2 g ci si ∧ si.n = N) := ⟨HBl.out.2.1.below HO2.out.2, HBl.out.2.2⟩
            clear hK hT hT1 hml hcel HMe HBl HO2
            go_loopg [8, 12] K (fun q sv kv wr => ∃ (k : Nat), kv = .int .i64 k ∧ sv = .int .i64 ((T + k : Nat) : Int) ∧ k ≤ K ∧ K - k ≤ q ∧ Below w2.heap.size w2 wr)
            case atStart => exact ⟨0, rfl, by first | rfl | simp, Nat.zero_le _, Nat.le_refl _, Below.refl _ _⟩
            case round =>
              obtain ⟨k, rfl, rfl, hk, hqk, hbk⟩ := hrel
              by_cases hkK : k < K
              · have p3 : (k : Int) < (K : Int) := by omega
                have p4 : (0 : Int) ≤ (k : Int) := by omega
                obtain ⟨z, hz⟩ : ∃ z, (si.mem b)[k]? = some z := ⟨_, List.getElem?_eq_getElem (by have := HT.out.2.2; omega)⟩
                have y0 := cellu (HCe.out k z hz) hbk
                obtain ⟨e, he, hoe, rfl⟩ := mem_mem.1 (List.mem_of_getElem? hz)
                have hSk := HSt.out.1.below hbk
                have hBk := block_ok g ci si e w wr hSk.pt hSk.ly hn1 he
                rw [hoe] at hBk
                have HBk : Hid _ := And.intro hBk hbk
                have q1 : IntKind.i64.wrap (((T + k : Nat) : Int) + 1) = ((T + (k + 1) : Nat) : Int) := by rw [IntKind.wrap_i64]; omega
                have q1' : ((T + k : Nat) : Int) + 1 = ((T + (k + 1) : Nat) : Int) := by omega
                clear hBk hSk hoe
                rcases Nat.eq_zero_or_pos k with hk0 | hk0
                · have g1 : decide ((k : Int) > 0) = false := decide_eq_false (by omega)
                  have g2 : ¬ ((k : Int) > 0) := by omega
                  have g3 : decide (0 < (k : Int)) = false := decide_eq_false (by omega)
                  have g4 : ¬ (0 < (k : Int)) := by omega
                  have g5 : decide (0 < k) = false := decide_eq_false (by omega)
                  have HK0 : Hid (k = 0) := hk0
                  clear hk0 hz hbk
                  go_wp2_with (go_at_call 14; refine Calls.mono HBk.out.1 ?_; rintro r w3 ⟨rfl, hw3⟩; obtain rfl := hw3.symm; clear hw3)
                  go_region
                  all_goals go_wp2_with fail
                  all_goals
                    go_roundg (K - (k + 1))
                    case measure => omega
                    case rel => exact ⟨k + 1, by go_num, by first | rfl | (congr 1; omega), by omega, Nat.le_refl _, HBk.out.2.trans (Below.mono ((Below.refl _ _).drew) HBk.out.2.size)⟩
                · obtain ⟨km, hkm⟩ : ∃ km, k = km + 1 := ⟨k - 1, by omega⟩
                  obtain ⟨z', hz'⟩ : ∃ z, (si.mem b)[km]? = some z := ⟨_, List.getElem?_eq_getElem (by have := HT.out.2.2; omega)⟩
                  have y1 := cellu (HCe.out km z' hz') hbk
                  obtain ⟨e', he', _, rfl⟩ := mem_mem.1 (List.mem_of_getElem? hz')
                  have hlt : e' < e := by
                    have h1 := List.getElem?_eq_some_iff.1 hz
                    have h2 := List.getElem?_eq_some_iff.1 hz'
                    obtain ⟨l1, m1⟩ := h1
                    obtain ⟨l2, m2⟩ := h2
                    have h3 := List.pairwise_iff_getElem.1 (mem_rise si b) km k l2 l1 (by omega)
                    rw [m1, m2] at h3
                    omega
                  have g1 : decide ((k : Int) > 0) = true := decide_eq_true (by omega)
                  have g2 : (k : Int) > 0 := by omega
                  have g3 : decide (0 < (k : Int)) = true := decide_eq_true (by omega)
                  have g4 : 0 < (k : Int) := by omega
                  have g5 : decide (0 < k) = true := decide_eq_true (by omega)
                  have q2 : IntKind.i64.wrap ((k : Int) - 1) = (km : Int) := by rw [IntKind.wrap_i64]; omega
                  have q3 : (k : Int) - 1 = (km : Int) := by omega
                  have q4 : (0 : Int) ≤ (km : Int) := by omega
                  have q5 : (km : Int) < (K : Int) := by omega
                  have q6 : IntKind.i64.wrap (km : Int) = (km : Int) := by rw [IntKind.wrap_i64]; omega
                  have q7 : (0 : Int) ≤ (k : Int) - 1 := by omega
                  have q8 : (k : Int) - 1 < (K : Int) := by omega
                  have q9 : ((k : Int) - 1).toNat = km := by omega
                  have l1 : ¬ (e : Int) ≤ (e' : Int) := by omega
                  have l2 : decide ((e : Int) ≤ (e' : Int)) = false := decide_eq_false l1
                  have l3 : ¬ e ≤ e' := by omega
                  have HKM : Hid (k = km + 1) := hkm
                  clear hkm hk0 hz hz' hbk hlt he he'
                  go_wp2_with (go_at_call 14; refine Calls.mono HBk.out.1 ?_; rintro r w3 ⟨rfl, hw3⟩; obtain rfl := hw3.symm; clear hw3)
                  go_region_held3 (fun w' => (w'.cell? ⟨gl, k, none⟩ = some (.int .i64 e) ∧ w'.cell? ⟨gl, km, none⟩ = some (.int .i64 e')) ∧ Hid (Below wr.heap.size wr w')) (first | exact ⟨⟨y0, y1⟩, ((Below.refl _ _).drew : Below wr.heap.size wr wr.drew)⟩ | go_keep)
                    ((first | fail | fail))
                  go_wp2_with fail
                  go_roundg (K - (k + 1))
                  case measure => omega
                  case rel => exact ⟨k + 1, by go_num, by first | rfl | (congr 1; omega), by omega, Nat.le_refl _, HBk.out.2.trans (Below.mono ((Below.refl _ _).drew) HBk.out.2.size)⟩
              · have p3 : ¬ (k : Int) < (K : Int) := by omega
                obtain rfl : k = K := by omega
                have HB2 : Hid (Below w2.heap.size w2 wr) := hbk
                clear hbk
                go_wp2_with fail
                go_roundg (si.nb - (b + 1))
                case measure => omega
                case rel => exact ⟨b + 1, by go_num, by rw [HT.out.1, Int.natCast_add], by omega, Nat.le_refl _, HSt.out.1.below HB2.out⟩
          · have p2 : ¬ (b : Int) < (si.nb : Int) := by omega
            obtain rfl : b = si.nb := by omega
            have hsu := hSb.ok.su
            rw [HBl.out.2.2] at hsu
            rw [hsu]
            have hSz := size_any g ci w wb hSb.pt
            rw [hSb.ly.n, HBl.out.2.2] at hSz
            have hAl := alive8 wb
            have HZ : Hid (St8 w wb g ci si ∧ si.n = N) := ⟨hSb, HBl.out.2.2⟩
            clear hsu hSz hAl hSb
            go_wp2_with (first
              | (go_at_call 13; refine Calls.mono HBl.out.1 ?_; rintro r w2 ⟨rfl, hw2⟩; obtain rfl := hw2.symm; clear hw2)
              | (go_at_call 6; refine Calls.mono (HA.out _) ?_; rintro r w4 ⟨rfl, hb4⟩; have hS4 := HZ.out.1.below hb4; have hSz := size_any g ci w w4 hS4.pt; rw [hS4.ly.n, HZ.out.2] at hSz; have H4 : Hid _ := And.intro hSz hS4.pt.bl; clear hSz hS4 hb4)
              | (go_at_call 15; refine Calls.mono H4.out.1 ?_; rintro r w5 ⟨rfl, hw5⟩; obtain rfl := hw5.symm; clear hw5))
            go_ret
            exact ⟨rfl, H4.out.2⟩
end Go.Proofs.YthfnikglcpoioaaDoor
