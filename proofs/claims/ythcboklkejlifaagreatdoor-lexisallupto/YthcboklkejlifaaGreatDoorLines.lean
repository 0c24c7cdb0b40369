/- Contract of lexis.Lines: words line by line, each line in memory of its own. -/
import Derived.Test.YthcboklkejlifaaGreatDoorLines0
import Derived.WalkSmall
import Derived.Deep.LoopGhost
namespace Go.Proofs.YthcboklkejlifaaGreatDoor
open Go.RowKit
theorem Tryz.infoRow : (Tryz.prog.info? 38).map (fun i => (i.zero, i.size, i.bytes)) = some (some (.slice none 0 0), 1, 24) := by kernel_rfl
theorem rowForm {w : World} {base : Nat} {e : TypeId} {size : Nat} {v : Value} {n : Nat} {xs : List Value} (h : w.ownsRow base e size v n xs) : ∃ ao cap, v = .slice ao n cap := by
  rcases h.2 with ⟨rfl, h0⟩ | ⟨g, cap, cur, rfl, _⟩
  · exact ⟨none, 0, by rw [h0]⟩
  · exact ⟨_, _, rfl⟩
theorem rowMono {w : World} {base base' : Nat} {e : TypeId} {size : Nat} {v : Value} {n : Nat} {xs : List Value} (h : w.ownsRow base e size v n xs) (hb : base' ≤ base) : w.ownsRow base' e size v n xs := by
  refine ⟨h.1, ?_⟩
  rcases h.2 with h2 | ⟨g, cap, cur, rfl, h3, h4⟩
  · exact .inl h2
  · exact .inr ⟨g, cap, cur, rfl, by omega, h4⟩
theorem rowsBelow {w w' : World} {base : Nat} {us : List Value} {D : List (List ZTok)} (h : ∀ (k : Nat) (r : List ZTok), D[k]? = some r → ∃ u, us[k]? = some u ∧ w.ownsRow base 57 4 u r.length (zsCells r)) (hb : Below w.heap.size w w') : ∀ (k : Nat) (r : List ZTok), D[k]? = some r → ∃ u, us[k]? = some u ∧ w'.ownsRow base 57 4 u r.length (zsCells r) := fun k r hr => by
  obtain ⟨u, hu, ho⟩ := h k r hr
  exact ⟨u, hu, ownsRow_below ho hb⟩
theorem slice_one (u : Value) (hu : u.oneCell' = true) : ∀ x ∈ [u], x.oneCell' = true := fun x hx => by rw [List.mem_singleton.1 hx]; exact hu
theorem linesF_more (zs : List ZTok) (fr j : Nat) (z : ZTok) (hz : zs[j]? = some z) (hf : fr ≤ j) (h1 : ¬ z.kind = 1) : linesF ((zs.drop fr).take (j - fr)) (zs.drop j) = linesF ((zs.drop fr).take (j + 1 - fr)) (zs.drop (j + 1)) := by
  obtain ⟨hlt, rfl⟩ := List.getElem?_eq_some_iff.1 hz
  rw [List.drop_eq_getElem_cons hlt]
  show (if _ then _ else _) = _
  rw [if_neg h1]
  congr 1
  have e : j + 1 - fr = (j - fr) + 1 := by omega
  rw [e, List.take_add_one]
  congr 1
  rw [List.getElem?_drop, show fr + (j - fr) = j by omega, List.getElem?_eq_getElem hlt]; rfl
theorem linesF_stop (zs : List ZTok) (row : List ZTok) (j : Nat) (z : ZTok) (hz : zs[j]? = some z) (h1 : z.kind = 1) : linesF row (zs.drop j) = row :: linesF [] (zs.drop (j + 1)) := by
  obtain ⟨hlt, rfl⟩ := List.getElem?_eq_some_iff.1 hz
  rw [List.drop_eq_getElem_cons hlt]
  show (if _ then _ else _) = _
  rw [if_pos h1]
theorem lines_push {w2 w4 : World} {x : Obj} {base : Nat} {v v' u : Value} {D : List (List ZTok)} {r : List ZTok} {us : List Value} (h1 : w2.ownsRow base 38 1 v D.length us) (h2 : ∀ (k : Nat) (r : List ZTok), D[k]? = some r → ∃ u, us[k]? = some u ∧ w2.ownsRow base 57 4 u r.length (zsCells r))
    (hu : w2.ownsRow base 57 4 u r.length (zsCells r)) (hv : w4.ownsRow base 38 1 v' (D.length + 1) (us ++ [u])) (hg : (w2.alloc x).grownBy w4 v.ownBlock) (hd : ∀ (i j : Nat) (u x : Value) (b : Nat), us[i]? = some u → us[j]? = some x → i ≠ j → u.ownBlock = some b → x.ownBlock ≠ some b) (hn : ∀ (i : Nat) (x : Value) (b : Nat), us[i]? = some x → x.ownBlock = some b → u.ownBlock ≠ some b) : RowsA w4 base v' (D ++ [r]) :=
  RowsA.push (h1.alloc x) (fun k r hr => by obtain ⟨u, hu, ho⟩ := h2 k r hr; exact ⟨u, hu, ho.alloc x⟩) (hu.alloc x) hv hg hd hn
theorem rows_new {w : World} {base base' : Nat} {us : List Value} {v : Value} {D : List (List ZTok)} {u : Value} {w2 : World} {r : List Value} {n : Nat} (h1 : w.ownsRow base 38 1 v D.length us) (h2 : ∀ (k : Nat) (r : List ZTok), D[k]? = some r → ∃ u, us[k]? = some u ∧ w.ownsRow base 57 4 u r.length (zsCells r)) (hu : w2.ownsRow base' 57 4 u n r) (hb : w.heap.size ≤ base') : ∀ (i : Nat) (x : Value) (b : Nat), us[i]? = some x → x.ownBlock = some b → u.ownBlock ≠ some b := fun i x b hx hb1 e => by
  have hlen : us.length = D.length := by have := h1.1; omega
  have hi := (List.getElem?_eq_some_iff.1 hx).1
  obtain ⟨y, hy, ho⟩ := h2 i _ (List.getElem?_eq_getElem (by omega : i < D.length))
  rw [hx] at hy
  cases hy
  have := (ho.lt b hb1).2
  have := (hu.lt b e).1
  omega
theorem lines_below {w w2 w4 : World} {x : Obj} {v : Value} {n : Nat} {us : List Value} (h1 : w2.ownsRow w.heap.size 38 1 v n us) (hb : Below w.heap.size w w2) (hg : (w2.alloc x).grownBy w4 v.ownBlock) : Below w.heap.size w w4 :=
  (hb.alloc hb.size x).grown hg (by have := hb.size; simp; omega) (fun k hk => (h1.lt k hk).1)
set_option maxRecDepth 100000 in
set_option maxHeartbeats 2000000 in
theorem lines_any (b o cap : Nat) (zs : List ZTok) (w : World) (hz : Lies w b o zs) (hn : zs.length ≤ 200000) (hcap : zs.length ≤ cap) (h0 : 0 < zs.length) :
    Calls Tryz.prog 13 #[.slice (some ⟨b, o, none⟩) zs.length cap] w fun e w' => ∃ u, e = .returned u ∧ RowsA w' w.heap.size u (linesF [] zs) ∧ Below w.heap.size w w' := by
  obtain ⟨i0, hi0, hz0, hz1, hz2⟩ := info_parts Tryz.infoRow
  obtain ⟨n, hN⟩ : ∃ n, n = zs.length := ⟨_, rfl⟩
  have HH : Hid (Lies w b o zs ∧ n = zs.length) := ⟨hz, hN⟩
  rw [← hN] at hn hcap h0 ⊢
  clear hz hN
  go_enter Tryz.func13, Tryz.ntmps13
  go_wp2_with fail
  go_loopg [3, 4, 9] n (fun g vl fv i wr => ∃ (j fr : Nat) (D : List (List ZTok)), g = n - j ∧ j ≤ n ∧ i = .int .i64 j ∧ fv = .int .i64 fr ∧ fr ≤ j ∧ D.length ≤ j ∧ RowsA wr w.heap.size vl D ∧ D ++ linesF ((zs.drop fr).take (j - fr)) (zs.drop j) = linesF [] zs ∧ Below w.heap.size w wr)
  case atStart => exact ⟨0, 0, [], rfl, Nat.zero_le _, rfl, rfl, Nat.le_refl _, Nat.zero_le _, RowsA.nil _ _, rfl, Below.refl _ _⟩
  case round =>
    obtain ⟨j, fr, D, rfl, hj, rfl, rfl, hfr, hD, hR, hL, hb⟩ := hrel
    obtain ⟨us, hrow, hrows, hdis⟩ := hR
    have HD : Hid _ := hdis
    clear hdis
    have HR : Hid (wr.ownsRow w.heap.size 38 1 u3 D.length us ∧ (∀ (k : Nat) (r : List ZTok), D[k]? = some r → ∃ u, us[k]? = some u ∧ wr.ownsRow w.heap.size 57 4 u r.length (zsCells r)) ∧ D ++ linesF ((zs.drop fr).take (j - fr)) (zs.drop j) = linesF [] zs ∧ Below w.heap.size w wr) := ⟨hrow, hrows, hL, hb⟩
    clear hrow hrows hL hb
    by_cases hlt : j < n
    · obtain ⟨z, hzj⟩ : ∃ z, zs[j]? = some z := ⟨zs[j]'(by have := HH.out.2; omega), List.getElem?_eq_getElem _⟩
      obtain ⟨c0, c1, c2, c3⟩ := (HH.out.1.below HR.out.2.2.2) j z hzj
      have HZ : Hid (zs[j]? = some z) := hzj
      have q0 : (0 : Int) ≤ (j : Int) := by omega
      have q1 : (j : Int) < (n : Int) := by omega
      clear hzj
      obtain ⟨K, T, L, C⟩ := z
      simp only at c0 c1 c2 c3
      by_cases hk : K = 1
      · have e1 : (K == 1) = true := by simpa using hk
        have r0 : (0 : Int) ≤ (fr : Int) := by omega
        have r1 : (fr : Int) ≤ (j : Int) := by omega
        have r2 : (j : Int) ≤ (cap : Int) := by omega
        have HK : Hid (K = 1) := hk
        clear hk
        go_wp2_with fail
        obtain ⟨wa, hwa⟩ : ∃ wa, wa = wr.alloc (.cells #[.int .i64 K, .string T, .int .i64 L, .int .i64 C] 57) := ⟨_, rfl⟩
        have hba : Below wr.heap.size wr wa := by rw [hwa]; exact (Below.refl _ _).alloc (Nat.le_refl _) _
        rw [← hwa]
        have Ha : Hid (wa.ownsRow w.heap.size 38 1 u3 D.length us ∧ (∀ (k : Nat) (r : List ZTok), D[k]? = some r → ∃ u, us[k]? = some u ∧ wa.ownsRow w.heap.size 57 4 u r.length (zsCells r)) ∧ Below w.heap.size w wa) := ⟨ownsRow_below HR.out.1 hba, rowsBelow HR.out.2.1 hba, HR.out.2.2.2.trans (hba.mono HR.out.2.2.2.size)⟩
        have hC := copied_any b (o + fr * 4) (cap - fr) ((zs.drop fr).take (j - fr)) wa (by have := (HH.out.1.below Ha.out.2.2).part fr (j - fr); exact this) (by rw [List.length_take]; omega)
        have hlen : ((zs.drop fr).take (j - fr)).length = (j - fr) := by rw [List.length_take, List.length_drop]; have := HH.out.2; omega
        rw [hlen] at hC
        clear hwa hba
        refine hC.mono ?_
        rintro r w2 ⟨u, rfl, hu, hb2⟩
        have hu1 := rowMono hu Ha.out.2.2.size
        have HN : Hid _ := rows_new Ha.out.1 Ha.out.2.1 hu (Nat.le_refl _)
        obtain ⟨ao2, cp2, rfl⟩ := rowForm hu
        have H2 : Hid (w2.ownsRow w.heap.size 38 1 u3 D.length us ∧ (∀ (k : Nat) (r : List ZTok), D[k]? = some r → ∃ u, us[k]? = some u ∧ w2.ownsRow w.heap.size 57 4 u r.length (zsCells r)) ∧ w2.ownsRow w.heap.size 57 4 (.slice ao2 (j - fr) cp2) ((zs.drop fr).take (j - fr)).length (zsCells ((zs.drop fr).take (j - fr))) ∧ Below w.heap.size w w2) := ⟨ownsRow_below Ha.out.1 hb2, rowsBelow Ha.out.2.1 hb2, by rw [hlen]; exact hu1, Ha.out.2.2.trans (hb2.mono Ha.out.2.2.size)⟩
        have hml : D.length + 1 ≤ maxLen := by unfold maxLen; omega
        have hby : (D.length + 1) * 24 ≤ 140737488355328 := by omega
        have hbs : w.heap.size ≤ (w2.alloc (.cells #[.slice ao2 ((j - fr)) cp2] 38)).heap.size := by have := H2.out.2.2.2.size; simp; omega
        clear hu hu1 hb2 hC hlen Ha
        go_wp2_with (at_builtin; refine wpList_append_own_at _ rfl _ _ 26 rfl w.heap.size 38 i0 (.slice none 0 0) 1 24 Tryz.underlying26 hi0 hz0 hz1 hz2 rfl (by decide) u3 D.length us rfl (H2.out.1.alloc _) ⟨w2.heap.size, 0, none⟩ 1 1 [.slice ao2 ((j - fr)) cp2] rfl rfl (cell_one_new _ _ _) (slice_one _ rfl) hml hby hbs ?_; intro v' w4 hown' hgrow hnil hat; have H4 : Hid _ := lines_push H2.out.1 H2.out.2.1 H2.out.2.2.1 hown' hgrow HD.out HN.out; have HB4 : Hid (Below w.heap.size w w4) := lines_below H2.out.1 H2.out.2.2.2 hgrow; clear hown' hgrow hnil hat)
        go_roundg (n - (j + 1))
        case measure => omega
        case rel => exact ⟨j + 1, j + 1, D ++ [(zs.drop fr).take (j - fr)], rfl, by omega, by go_num, by go_num, Nat.le_refl _, by simp; omega, H4.out, by
          have hL := HR.out.2.2.1
          rw [linesF_stop zs _ j _ HZ.out HK.out] at hL
          rw [← hL]; simp, HB4.out⟩
      · have e1 : (K == 1) = false := by simpa using hk
        have HK : Hid (¬ K = 1) := hk
        clear hk
        go_wp2_with fail
        go_roundg (n - (j + 1))
        case measure => omega
        case rel => exact ⟨j + 1, fr, D, rfl, by omega, by go_num, rfl, by omega, by omega, by
          have hba : Below wr.heap.size wr (wr.alloc (.cells #[.int .i64 K, .string T, .int .i64 L, .int .i64 C] 57)) := (Below.refl _ _).alloc (Nat.le_refl _) _
          exact ⟨us, ownsRow_below HR.out.1 hba, rowsBelow HR.out.2.1 hba, HD.out⟩, by
          rw [← linesF_more zs fr j _ HZ.out hfr HK.out]; exact HR.out.2.2.1, HR.out.2.2.2.alloc HR.out.2.2.2.size _⟩
    · have q1 : ¬ (j : Int) < (n : Int) := by omega
      obtain rfl : j = n := by omega
      have HL : Hid (D ++ (if (zs.drop fr).isEmpty then [] else [zs.drop fr]) = linesF [] zs) := (by
        have hL := HR.out.2.2.1
        rw [List.drop_eq_nil_of_le (show zs.length ≤ j by have := HH.out.2; omega), List.take_of_length_le (by rw [List.length_drop]; have := HH.out.2; omega)] at hL
        exact hL)
      by_cases hfn : fr < j
      · have r0 : (0 : Int) ≤ (fr : Int) := by omega
        have r1 : (fr : Int) < (j : Int) := by omega
        have r2 : (fr : Int) ≤ (j : Int) := by omega
        have r3 : (j : Int) ≤ (cap : Int) := by omega
        go_wp2_with fail
        obtain ⟨wa, hwa⟩ : ∃ wa, wa = wr := ⟨_, rfl⟩
        have hba : Below wr.heap.size wr wa := by rw [hwa]; exact Below.refl _ _
        rw [← hwa]
        have Ha : Hid (wa.ownsRow w.heap.size 38 1 u3 D.length us ∧ (∀ (k : Nat) (r : List ZTok), D[k]? = some r → ∃ u, us[k]? = some u ∧ wa.ownsRow w.heap.size 57 4 u r.length (zsCells r)) ∧ Below w.heap.size w wa) := ⟨ownsRow_below HR.out.1 hba, rowsBelow HR.out.2.1 hba, HR.out.2.2.2.trans (hba.mono HR.out.2.2.2.size)⟩
        have hC := copied_any b (o + fr * 4) (cap - fr) (zs.drop fr) wa (by have := (HH.out.1.below Ha.out.2.2).part fr (j - fr); rwa [List.take_of_length_le (by rw [List.length_drop]; have := HH.out.2; omega)] at this) (by rw [List.length_drop]; have := HH.out.2; omega)
        have hlen : (zs.drop fr).length = (j - fr) := by rw [List.length_drop]; have := HH.out.2; omega
        rw [hlen] at hC
        clear hwa hba
        refine hC.mono ?_
        rintro r w2 ⟨u, rfl, hu, hb2⟩
        have hu1 := rowMono hu Ha.out.2.2.size
        have HN : Hid _ := rows_new Ha.out.1 Ha.out.2.1 hu (Nat.le_refl _)
        obtain ⟨ao2, cp2, rfl⟩ := rowForm hu
        have H2 : Hid (w2.ownsRow w.heap.size 38 1 u3 D.length us ∧ (∀ (k : Nat) (r : List ZTok), D[k]? = some r → ∃ u, us[k]? = some u ∧ w2.ownsRow w.heap.size 57 4 u r.length (zsCells r)) ∧ w2.ownsRow w.heap.size 57 4 (.slice ao2 (j - fr) cp2) (zs.drop fr).length (zsCells (zs.drop fr)) ∧ Below w.heap.size w w2) := ⟨ownsRow_below Ha.out.1 hb2, rowsBelow Ha.out.2.1 hb2, by rw [hlen]; exact hu1, Ha.out.2.2.trans (hb2.mono Ha.out.2.2.size)⟩
        have hml : D.length + 1 ≤ maxLen := by unfold maxLen; omega
        have hby : (D.length + 1) * 24 ≤ 140737488355328 := by omega
        have hbs : w.heap.size ≤ (w2.alloc (.cells #[.slice ao2 ((j - fr)) cp2] 38)).heap.size := by have := H2.out.2.2.2.size; simp; omega
        clear hu hu1 hb2 hC hlen Ha
        go_wp2_with (at_builtin; refine wpList_append_own_at _ rfl _ _ 26 rfl w.heap.size 38 i0 (.slice none 0 0) 1 24 Tryz.underlying26 hi0 hz0 hz1 hz2 rfl (by decide) u3 D.length us rfl (H2.out.1.alloc _) ⟨w2.heap.size, 0, none⟩ 1 1 [.slice ao2 ((j - fr)) cp2] rfl rfl (cell_one_new _ _ _) (slice_one _ rfl) hml hby hbs ?_; intro v' w4 hown' hgrow hnil hat; have H4 : Hid _ := lines_push H2.out.1 H2.out.2.1 H2.out.2.2.1 hown' hgrow HD.out HN.out; have HB4 : Hid (Below w.heap.size w w4) := lines_below H2.out.1 H2.out.2.2.2 hgrow; clear hown' hgrow hnil hat)
        go_ret
        refine ⟨_, rfl, ?_, HB4.out⟩
        rw [← HL.out, if_neg (by rw [List.isEmpty_iff]; intro e; have := congrArg List.length e; rw [List.length_drop] at this; simp at this; have := HH.out.2; omega)]
        exact H4.out
      · have r1 : ¬ (fr : Int) < (j : Int) := by omega
        go_wp2_with fail
        go_ret
        refine ⟨_, rfl, ?_, HR.out.2.2.2⟩
        rw [← HL.out, if_pos (by rw [List.isEmpty_iff]; exact List.drop_eq_nil_of_le (by have := HH.out.2; omega)), List.append_nil]
        exact ⟨us, HR.out.1, HR.out.2.1, HD.out⟩
theorem lines_nil (ao : Option Addr) (cap : Nat) (w : World) :
    Calls Tryz.prog 13 #[.slice ao 0 cap] w fun e w' => ∃ u, e = .returned u ∧ RowsA w' w.heap.size u [] ∧ Below w.heap.size w w' := by
  go_enter Tryz.func13, Tryz.ntmps13
  go_wp2_with fail
  go_loopg [3, 4, 9] 0 (fun g vl fv i wr => g = 0 ∧ vl = .slice none 0 0 ∧ fv = .int .i64 0 ∧ i = .int .i64 0 ∧ wr = w)
  case atStart => exact ⟨rfl, rfl, rfl, rfl, rfl⟩
  case round =>
    obtain ⟨rfl, rfl, rfl, rfl, rfl⟩ := hrel
    go_wp2_with fail
    go_ret
    exact ⟨_, rfl, RowsA.nil _ _, Below.refl _ _⟩
end Go.Proofs.YthcboklkejlifaaGreatDoor
