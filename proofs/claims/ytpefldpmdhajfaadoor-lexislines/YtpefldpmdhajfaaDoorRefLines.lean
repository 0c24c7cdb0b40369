/- Contract of the document's Lines: the row under way is apart from the finished ones. The empty list at lexis.Lines. -/
import Derived.Test.YtpefldpmdhajfaaDoorLines
namespace Go.Proofs.YtpefldpmdhajfaaDoor
open Go.RowKit
/-- Finished rows and the row under way. -/
def RL (w : World) (base : Nat) (v3 v4 : Value) (us : List Value) (D : List (List ZTok)) (row : List ZTok) : Prop :=
  w.ownsRow base 22 1 v3 D.length us ∧ (∀ (k : Nat) (r : List ZTok), D[k]? = some r → ∃ u, us[k]? = some u ∧ w.ownsRow base 38 4 u r.length (zsCells r) ∧ (v4.ownBlock = none ∨ u.ownBlock ≠ v4.ownBlock)) ∧ w.ownsRow base 38 4 v4 row.length (zsCells row)
theorem RL.below {w w' : World} {base : Nat} {v3 v4 : Value} {us : List Value} {D : List (List ZTok)} {row : List ZTok} (h : RL w base v3 v4 us D row) (hb : Below w.heap.size w w') : RL w' base v3 v4 us D row :=
  ⟨ownsRow_below h.1 hb, fun k r hr => by obtain ⟨u, hu, ho, ha⟩ := h.2.1 k r hr; exact ⟨u, hu, ownsRow_below ho hb, ha⟩, ownsRow_below h.2.2 hb⟩
theorem RL.alloc {w : World} {base : Nat} {v3 v4 : Value} {us : List Value} {D : List (List ZTok)} {row : List ZTok} (h : RL w base v3 v4 us D row) (x : Obj) : RL (w.alloc x) base v3 v4 us D row := h.below ((Below.refl _ _).alloc (Nat.le_refl _) _)
theorem RL.rows {w : World} {base : Nat} {v3 v4 : Value} {us : List Value} {D : List (List ZTok)} {row : List ZTok} (h : RL w base v3 v4 us D row) : RowsIn w base v3 D :=
  ⟨us, h.1, fun k r hr => by obtain ⟨u, hu, ho, _⟩ := h.2.1 k r hr; exact ⟨u, hu, ho⟩⟩
/-- A finished row. -/
theorem RL.stop {w w' : World} {base : Nat} {v3 v4 v3' : Value} {us : List Value} {D : List (List ZTok)} {row : List ZTok} (h : RL w base v3 v4 us D row) (hv : w'.ownsRow base 22 1 v3' (D.length + 1) (us ++ [v4])) (hg : w.grownBy w' v3.ownBlock) : RL w' base v3' (.slice none 0 0) (us ++ [v4]) (D ++ [row]) [] := by
  obtain ⟨h1, h2, h3⟩ := h
  have hlen : us.length = D.length := by have := h1.1; omega
  refine ⟨by simpa using hv, fun k x hx => ?_, World.ownsRow_nil _ _ _ _⟩
  rcases Nat.lt_or_ge k D.length with hk | hk
  · rw [List.getElem?_append_left hk] at hx
    obtain ⟨y, hy, ho, _⟩ := h2 k x hx
    exact ⟨y, by rw [List.getElem?_append_left (by omega)]; exact hy, ho.kept hg (own_apart ho h1 (by decide)), .inl rfl⟩
  · rw [List.getElem?_append_right hk] at hx
    have hk0 : k - D.length = 0 := by
      have := (List.getElem?_eq_some_iff.1 hx).1
      simp at this; omega
    rw [hk0] at hx
    simp only [List.getElem?_cons_zero, Option.some.injEq] at hx
    subst hx
    exact ⟨v4, by rw [List.getElem?_append_right (by omega), hlen, hk0]; rfl, h3.kept hg (own_apart h3 h1 (by decide)), .inl rfl⟩
/-- One word more in the row under way. -/
theorem RL.more {w w' : World} {base : Nat} {v3 v4 v4' : Value} {us : List Value} {D : List (List ZTok)} {row : List ZTok} {z : ZTok} (h : RL w base v3 v4 us D row) (hv : w'.ownsRow base 38 4 v4' (row.length + 1) (zsCells row ++ zCells z)) (hg : w.grownBy w' v4.ownBlock) (hat : v4'.ownBlock = v4.ownBlock ∨ v4'.ownBlock = some w.heap.size) : RL w' base v3 v4' us D (row ++ [z]) := by
  obtain ⟨h1, h2, h3⟩ := h
  refine ⟨h1.kept hg (own_apart h1 h3 (by decide)), fun k r hr => ?_, by rw [zsCells_snoc]; simpa using hv⟩
  obtain ⟨u, hu, ho, ha⟩ := h2 k r hr
  have hk : u.ownBlock = none ∨ u.ownBlock ≠ v4.ownBlock := by
    rcases ha with ha | ha
    · cases e : u.ownBlock with
      | none => exact .inl rfl
      | some b => exact .inr (by rw [ha]; simp)
    · exact .inr ha
  refine ⟨u, hu, ho.kept hg hk, ?_⟩
  rcases hat with e | e
  · rw [e]; exact ha
  · refine .inr fun hq => ?_
    have := (ho.lt _ (hq.trans e)).2
    omega
theorem lines_below' {w w2 w4 : World} {x : Obj} {v : Value} {n : Nat} {us : List Value} (h1 : w2.ownsRow w.heap.size 38 4 v n us) (hb : Below w.heap.size w w2) (hg : (w2.alloc x).grownBy w4 v.ownBlock) : Below w.heap.size w w4 :=
  (hb.alloc hb.size x).grown hg (by have := hb.size; simp; omega) (fun k hk => (h1.lt k hk).1)
theorem linesF_more' (zs row : List ZTok) (j : Nat) (z : ZTok) (hz : zs[j]? = some z) (h1 : ¬ z.kind = 1) : linesF row (zs.drop j) = linesF (row ++ [z]) (zs.drop (j + 1)) := by
  obtain ⟨hlt, rfl⟩ := List.getElem?_eq_some_iff.1 hz
  rw [List.drop_eq_getElem_cons hlt]
  show (if _ then _ else _) = _
  rw [if_neg h1]
set_option maxHeartbeats 1000000 in
/-- lexis.Lines at an empty list. -/
theorem lines_nil (ao : Option Addr) (cap : Nat) (w : World) :
    Calls Tryd.prog 7 #[.slice ao 0 cap] w fun e w' => ∃ u, e = .returned u ∧ RowsIn w' w.heap.size u [] ∧ Below w.heap.size w w' := by
  go_enter Tryd.func7, Tryd.ntmps7
  go_wp2_with fail
  go_loopg [3, 4, 9] 0 (fun g vl fv i wr => g = 0 ∧ vl = .slice none 0 0 ∧ fv = .int .i64 0 ∧ i = .int .i64 0 ∧ wr = w)
  case atStart => exact ⟨rfl, rfl, rfl, rfl, rfl⟩
  case round =>
    obtain ⟨rfl, rfl, rfl, rfl, rfl⟩ := hrel
    go_wp2_with fail
    go_ret
    exact ⟨_, rfl, RowsIn.nil _ _, Below.refl _ _⟩
set_option maxRecDepth 100000 in
set_option maxHeartbeats 2000000 in
theorem refLines_any (ao : Option Addr) (b o cap : Nat) (zs : List ZTok) (w : World) (ha : 0 < zs.length → ao = some ⟨b, o, none⟩) (hz : Lies w b o zs) (hn : zs.length ≤ 5000) :
    Calls Tryd.prog 8 #[.slice ao zs.length cap] w fun e w' => ∃ u, e = .returned u ∧ RowsIn w' w.heap.size u (linesF [] zs) ∧ Below w.heap.size w w' := by
  obtain ⟨i0, hi0, hz0, hz1, hz2⟩ := info_parts Tryd.infoRow
  obtain ⟨i1, hj0, hy0, hy1, hy2⟩ := info_parts Tryd.infoTok
  obtain ⟨n, hN⟩ : ∃ n, n = zs.length := ⟨_, rfl⟩
  have HH : Hid (Lies w b o zs ∧ n = zs.length ∧ (0 < zs.length → ao = some ⟨b, o, none⟩)) := ⟨hz, hN, ha⟩
  rw [← hN] at hn ⊢
  clear hz hN ha
  go_enter Tryd.func8, Tryd.ntmps8
  go_wp2_with fail
  go_loopg [3, 4, 5] n (fun g v3 v4 i wr => ∃ (j : Nat) (us : List Value) (D : List (List ZTok)) (row : List ZTok), g = n - j ∧ j ≤ n ∧ i = .int .i64 j ∧ D.length ≤ j ∧ row.length ≤ j ∧ RL wr w.heap.size v3 v4 us D row ∧ D ++ linesF row (zs.drop j) = linesF [] zs ∧ Below w.heap.size w wr)
  case atStart => exact ⟨0, [], [], [], rfl, Nat.zero_le _, rfl, Nat.le_refl _, Nat.le_refl _, ⟨World.ownsRow_nil _ _ _ _, fun k r h => by simp at h, World.ownsRow_nil _ _ _ _⟩, rfl, Below.refl _ _⟩
  case round =>
    obtain ⟨j, us, D, row, rfl, hj, rfl, hD, hr, hR, hL, hb⟩ := hrel
    have HR : Hid (RL wr w.heap.size u3 u4 us D row ∧ D ++ linesF row (zs.drop j) = linesF [] zs ∧ Below w.heap.size w wr) := ⟨hR, hL, hb⟩
    obtain ⟨ar, cr, rfl⟩ := rowForm hR.2.2
    clear hR hL hb
    by_cases hlt : j < n
    · obtain ⟨z, hzj⟩ : ∃ z, zs[j]? = some z := ⟨zs[j]'(by have := HH.out.2.1; omega), List.getElem?_eq_getElem _⟩
      obtain rfl := HH.out.2.2 (by have := HH.out.2.1; omega)
      obtain ⟨c0, c1, c2, c3⟩ := (HH.out.1.below HR.out.2.2) j z hzj
      have HZ : Hid (zs[j]? = some z) := hzj
      have q0 : (0 : Int) ≤ (j : Int) := by omega
      have q1 : (j : Int) < (n : Int) := by omega
      clear hzj
      obtain ⟨K, T, L, C⟩ := z
      simp only at c0 c1 c2 c3
      have hbs : ∀ x : Obj, w.heap.size ≤ (wr.alloc x).heap.size := fun x => by have := HR.out.2.2.size; simp; omega
      by_cases hk : K = 1
      · have e1 : (K == 1) = true := by simpa using hk
        have HK : Hid (K = 1) := hk
        clear hk
        have hml : D.length + 1 ≤ maxLen := by unfold maxLen; omega
        have hby : (D.length + 1) * 24 ≤ 140737488355328 := by omega
        go_wp2_with (at_builtin; refine wpList_append_own_at _ rfl _ _ 25 rfl w.heap.size 22 i0 (.slice none 0 0) 1 24 Tryd.underlying25 hi0 hz0 hz1 hz2 rfl (by decide) u3 D.length us rfl (HR.out.1.alloc _).1 ⟨wr.heap.size, 0, none⟩ 1 1 [.slice ar row.length cr] rfl rfl (cell_one_new _ _ _) (slice_one _ rfl) hml hby (hbs _) ?_; intro v' w4 hown' hgrow hnil hat; have H4 : Hid _ := (HR.out.1.alloc _).stop hown' hgrow; have HB4 : Hid (Below w.heap.size w w4) := lines_below HR.out.1.1 HR.out.2.2 hgrow; clear hown' hgrow hnil hat)
        go_roundg (n - (j + 1))
        case measure => omega
        case rel => exact ⟨j + 1, _, D ++ [row], [], rfl, by omega, by go_num, by simp; omega, Nat.zero_le _, H4.out, by
          have hL := HR.out.2.1
          rw [linesF_stop zs _ j _ HZ.out HK.out] at hL
          rw [← hL]; simp, HB4.out⟩
      · have e1 : (K == 1) = false := by simpa using hk
        have HK : Hid (¬ K = 1) := hk
        clear hk
        have hml : row.length + 1 ≤ maxLen := by unfold maxLen; omega
        have hby : (row.length + 1) * 40 ≤ 140737488355328 := by omega
        go_wp2_with (at_builtin; refine wpList_append_own_at _ rfl _ _ 22 rfl w.heap.size 38 i1 (.agg #[.int .i64 0, .string ⟨#[]⟩, .int .i64 0, .int .i64 0]) 4 40 Tryd.underlying22 hj0 hy0 hy1 hy2 rfl (by decide) (.slice ar row.length cr) row.length (zsCells row) rfl (HR.out.1.alloc _).2.2 ⟨wr.heap.size, 0, none⟩ 1 1 [.int .i64 K, .string T, .int .i64 L, .int .i64 C] rfl rfl (World.news_of_block (cs := #[.int .i64 K, .string T, .int .i64 L, .int .i64 C]) (t := 38) (fr := (0, 0)) (heap_alloc_new wr _)) (by simp [Value.oneCell']) hml hby (hbs _) ?_; intro v' w4 hown' hgrow hnil hat; have H4 : Hid (RL w4 w.heap.size u3 v' us D (row ++ [⟨K, T, L, C⟩])) := (HR.out.1.alloc _).more hown' hgrow hat; have HB4 : Hid (Below w.heap.size w w4) := lines_below' HR.out.1.2.2 HR.out.2.2 hgrow; clear hown' hgrow hnil hat)
        go_roundg (n - (j + 1))
        case measure => omega
        case rel => exact ⟨j + 1, us, D, row ++ [⟨K, T, L, C⟩], rfl, by omega, by go_num, by omega, by simp; omega, H4.out, by
          have hL := HR.out.2.1
          rw [linesF_more' zs row j _ HZ.out HK.out] at hL
          exact hL, HB4.out⟩
    · have q1 : ¬ (j : Int) < (n : Int) := by omega
      obtain rfl : j = n := by omega
      have HL : Hid (D ++ (if row.isEmpty then [] else [row]) = linesF [] zs) := (by
        have hL := HR.out.2.1
        rw [List.drop_eq_nil_of_le (show zs.length ≤ j by have := HH.out.2.1; omega)] at hL
        exact hL)
      by_cases hrow : 0 < row.length
      · have r1 : (0 : Int) < (row.length : Int) := by omega
        have hml : D.length + 1 ≤ maxLen := by unfold maxLen; omega
        have hby : (D.length + 1) * 24 ≤ 140737488355328 := by omega
        have hbs : ∀ x : Obj, w.heap.size ≤ (wr.alloc x).heap.size := fun x => by have := HR.out.2.2.size; simp; omega
        go_wp2_with (at_builtin; refine wpList_append_own_at _ rfl _ _ 25 rfl w.heap.size 22 i0 (.slice none 0 0) 1 24 Tryd.underlying25 hi0 hz0 hz1 hz2 rfl (by decide) u3 D.length us rfl (HR.out.1.alloc _).1 ⟨wr.heap.size, 0, none⟩ 1 1 [.slice ar row.length cr] rfl rfl (cell_one_new _ _ _) (slice_one _ rfl) hml hby (hbs _) ?_; intro v' w4 hown' hgrow hnil hat; have H4 : Hid _ := (HR.out.1.alloc _).stop hown' hgrow; have HB4 : Hid (Below w.heap.size w w4) := lines_below HR.out.1.1 HR.out.2.2 hgrow; clear hown' hgrow hnil hat)
        go_ret
        refine ⟨_, rfl, ?_, HB4.out⟩
        rw [← HL.out, if_neg (by rw [List.isEmpty_iff]; intro e; rw [e] at hrow; simp at hrow)]
        exact RL.rows H4.out
      · have r1 : ¬ (0 : Int) < (row.length : Int) := by omega
        go_wp2_with fail
        go_ret
        refine ⟨_, rfl, ?_, HR.out.2.2⟩
        rw [← HL.out, if_pos (by rw [List.isEmpty_iff]; exact List.length_eq_zero_iff.1 (by omega)), List.append_nil]
        exact RL.rows HR.out.1
end Go.Proofs.YtpefldpmdhajfaaDoor
