/- Words in lists, line by line: plain facts, lists of words in memory, and the contract of lexis' copied. -/
import Derived.Test.YthcboklkejlifaaGreatDoorTake
import Derived.Test.YthcboklkejlifaaGreatDoorSame
import Derived.Maps.AppendAt
namespace Go.Proofs.YthcboklkejlifaaGreatDoor
open Go.RowKit
attribute [local go_sem ↓] Go.wp_at_zero Go.wp_at_succ
def zCells (z : ZTok) : List Value := [.int .i64 z.kind, .string z.text, .int .i64 z.line, .int .i64 z.col]
def zsCells (zs : List ZTok) : List Value := (zs.map zCells).flatten
theorem zsCells_cons (z : ZTok) (zs : List ZTok) : zsCells (z :: zs) = zCells z ++ zsCells zs := by simp [zsCells]
theorem zsCells_snoc (zs : List ZTok) (z : ZTok) : zsCells (zs ++ [z]) = zsCells zs ++ zCells z := by simp [zsCells]
theorem zsCells_length (zs : List ZTok) : (zsCells zs).length = zs.length * 4 := by
  induction zs with
  | nil => rfl
  | cons z zs ih => rw [zsCells_cons, List.length_append, ih, List.length_cons]; simp [zCells]; omega
theorem zs_at (zs : List ZTok) : ∀ (k : Nat) (z : ZTok), zs[k]? = some z → ∀ r, r < 4 → (zsCells zs)[k * 4 + r]? = (zCells z)[r]? := by
  induction zs with
  | nil => intro k z h; simp at h
  | cons y zs ih =>
    intro k z h r hr
    have h4 : (zCells y).length = 4 := rfl
    rw [zsCells_cons]
    cases k with
    | zero =>
      simp only [List.getElem?_cons_zero, Option.some.injEq] at h
      subst h
      rw [List.getElem?_append_left (by omega)]; simp
    | succ k =>
      simp only [List.getElem?_cons_succ] at h
      rw [List.getElem?_append_right (by omega), h4]
      have := ih k z h r hr
      rw [← this]; congr 1; omega
theorem zs_inv (zs : List ZTok) (j : Nat) (u : Value) (h : (zsCells zs)[j]? = some u) : ∃ z, zs[j / 4]? = some z ∧ (zCells z)[j % 4]? = some u := by
  have hl : j < zs.length * 4 := by rw [← zsCells_length]; exact (List.getElem?_eq_some_iff.1 h).1
  have hk : j / 4 < zs.length := by omega
  refine ⟨zs[j / 4], List.getElem?_eq_getElem hk, ?_⟩
  rw [← zs_at zs (j / 4) _ (List.getElem?_eq_getElem hk) (j % 4) (by omega), ← h]
  congr 1; omega
theorem zCells_one (zs : List ZTok) : ∀ u ∈ zsCells zs, u.oneCell' = true := by
  intro u hu
  simp only [zsCells, List.mem_flatten, List.mem_map] at hu
  obtain ⟨l, ⟨z, _, rfl⟩, hu⟩ := hu
  simp only [zCells, List.mem_cons, List.not_mem_nil, or_false] at hu
  rcases hu with rfl | rfl | rfl | rfl <;> rfl
/-- Words in a row of memory. -/
def Lies (w : World) (b o : Nat) (zs : List ZTok) : Prop := ∀ k z, zs[k]? = some z →
    w.cell? ⟨b, o + k * 4, none⟩ = some (.int .i64 z.kind) ∧ w.cell? ⟨b, o + k * 4 + 1, none⟩ = some (.string z.text) ∧ w.cell? ⟨b, o + k * 4 + 2, none⟩ = some (.int .i64 z.line) ∧ w.cell? ⟨b, o + k * 4 + 3, none⟩ = some (.int .i64 z.col)
theorem Lies.news {w : World} {b o : Nat} {zs : List ZTok} (h : Lies w b o zs) : ∀ j u, (zsCells zs)[j]? = some u → w.cell? ((⟨b, o, none⟩ : Addr).add j) = some u := by
  intro j u hu
  have hadd : (⟨b, o, none⟩ : Addr).add j = ⟨b, o + j, none⟩ := by unfold Addr.add; split <;> simp_all
  rw [hadd]
  obtain ⟨z, hz, hr⟩ := zs_inv zs j u hu
  obtain ⟨c0, c1, c2, c3⟩ := h _ z hz
  have hj : j = j / 4 * 4 + j % 4 := by omega
  have h4 : j % 4 < 4 := by omega
  generalize j / 4 = q at *
  generalize j % 4 = r at *
  subst hj
  rcases r with _ | _ | _ | _ | r
  · simp [zCells] at hr; subst hr; exact c0
  · simp [zCells] at hr; subst hr; rw [← c1]; congr 2
  · simp [zCells] at hr; subst hr; rw [← c2]; congr 2
  · simp [zCells] at hr; subst hr; rw [← c3]; congr 2
  · omega
theorem Lies.part {w : World} {b o : Nat} {zs : List ZTok} (h : Lies w b o zs) (f m : Nat) : Lies w b (o + f * 4) ((zs.drop f).take m) := by
  intro k z hz
  have hk : k < m := by
    have := (List.getElem?_eq_some_iff.1 hz).1
    simp at this; omega
  rw [List.getElem?_take_of_lt hk, List.getElem?_drop] at hz
  obtain ⟨c0, c1, c2, c3⟩ := h _ z hz
  have e : o + f * 4 + k * 4 = o + (f + k) * 4 := by omega
  rw [e]; exact ⟨c0, c1, c2, c3⟩
theorem Lies.heap {w w' : World} {b o : Nat} {zs : List ZTok} (h : Lies w b o zs) (hc : ∀ p, (w.cell? p).isSome = true → w'.cell? p = w.cell? p) : Lies w' b o zs := by
  intro k z hz
  obtain ⟨c0, c1, c2, c3⟩ := h k z hz
  exact ⟨by rw [hc _ (by rw [c0]; rfl)]; exact c0, by rw [hc _ (by rw [c1]; rfl)]; exact c1, by rw [hc _ (by rw [c2]; rfl)]; exact c2, by rw [hc _ (by rw [c3]; rfl)]; exact c3⟩
theorem Lies.below {w w' : World} {b o : Nat} {zs : List ZTok} (h : Lies w b o zs) (hb : Below w.heap.size w w') : Lies w' b o zs :=
  h.heap fun p hp => hb.cell (by
    cases e : w.cell? p with
    | none => rw [e] at hp; cases hp
    | some u => exact World.block_lt_of_cell? w _ e)
/-- An own row of words is a list of them. -/
theorem has_of_own {w : World} {base : Nat} {v : Value} {zs : List ZTok} (h : w.ownsRow base 57 4 v zs.length (zsCells zs)) : Has w v zs := by
  rcases h.2 with ⟨rfl, h0⟩ | ⟨g, cap, cur, rfl, _, hg, hn, _, hs, ht⟩
  · refine ⟨none, 0, 0, 0, by rw [h0], fun hp => by omega, fun k z hz => ?_⟩
    have := (List.getElem?_eq_some_iff.1 hz).1
    omega
  · refine ⟨some ⟨g, 0, none⟩, g, 0, cap, rfl, fun _ => rfl, fun k z hz => ?_⟩
    have hk := (List.getElem?_eq_some_iff.1 hz).1
    have key : ∀ r, r < 4 → w.cell? ⟨g, 0 + k * 4 + r, none⟩ = (zCells z)[r]? := fun r hr => by
      rw [← zs_at zs k z hz r hr, ← ht]
      simp only [World.cell?, hg]
      rw [List.getElem?_take_of_lt (by omega)]
      simp
    exact ⟨key 0 (by omega), key 1 (by omega), key 2 (by omega), key 3 (by omega)⟩
/-- Two own rows of unlike types lie in unlike blocks. -/
theorem own_apart {w : World} {base base' : Nat} {e e' : TypeId} {s s' : Nat} {v v' : Value} {n n' : Nat} {xs xs' : List Value} (h : w.ownsRow base e s v n xs) (h' : w.ownsRow base' e' s' v' n' xs') (hne : e ≠ e') : v.ownBlock = none ∨ v.ownBlock ≠ v'.ownBlock := by
  rcases h.2 with ⟨rfl, _⟩ | ⟨g, cap, cur, rfl, _, hg, _⟩
  · exact .inl rfl
  · right
    rcases h'.2 with ⟨rfl, _⟩ | ⟨g', cap', cur', rfl, _, hg', _⟩
    · simp [Value.ownBlock]
    · simp only [Value.ownBlock, ne_eq, Option.some.injEq]
      intro hgg
      rw [hgg, hg'] at hg
      simp only [Option.some.injEq, Obj.cells.injEq] at hg
      exact hne hg.2.1.symm
/-- A list of lists of words, all of them in memory from 'base' on. -/
def RowsIn (w : World) (base : Nat) (v : Value) (D : List (List ZTok)) : Prop :=
  ∃ us : List Value, w.ownsRow base 38 1 v D.length us ∧ ∀ (k : Nat) (r : List ZTok), D[k]? = some r → ∃ u, us[k]? = some u ∧ w.ownsRow base 57 4 u r.length (zsCells r)
theorem RowsIn.nil (w : World) (base : Nat) : RowsIn w base (.slice none 0 0) [] := ⟨[], World.ownsRow_nil _ _ _ _, fun k r h => by simp at h⟩
theorem RowsIn.below {w w' : World} {base : Nat} {v : Value} {D : List (List ZTok)} (h : RowsIn w base v D) (hb : Below w.heap.size w w') : RowsIn w' base v D := by
  obtain ⟨us, h1, h2⟩ := h
  exact ⟨us, ownsRow_below h1 hb, fun k r hr => by obtain ⟨u, hu, ho⟩ := h2 k r hr; exact ⟨u, hu, ownsRow_below ho hb⟩⟩
/-- One list more. -/
theorem RowsIn.push {w w' : World} {base : Nat} {v v' u : Value} {D : List (List ZTok)} {r : List ZTok} {us : List Value} (h1 : w.ownsRow base 38 1 v D.length us) (h2 : ∀ (k : Nat) (r : List ZTok), D[k]? = some r → ∃ u, us[k]? = some u ∧ w.ownsRow base 57 4 u r.length (zsCells r))
    (hu : w.ownsRow base 57 4 u r.length (zsCells r)) (hv : w'.ownsRow base 38 1 v' (D.length + 1) (us ++ [u])) (hg : w.grownBy w' v.ownBlock) : RowsIn w' base v' (D ++ [r]) := by
  have hlen : us.length = D.length := by have := h1.1; omega
  refine ⟨us ++ [u], by simpa using hv, fun k x hx => ?_⟩
  rcases Nat.lt_or_ge k D.length with hk | hk
  · rw [List.getElem?_append_left hk] at hx
    obtain ⟨y, hy, ho⟩ := h2 k x hx
    exact ⟨y, by rw [List.getElem?_append_left (by omega)]; exact hy, ho.kept hg (own_apart ho h1 (by decide))⟩
  · rw [List.getElem?_append_right hk] at hx
    have hk0 : k - D.length = 0 := by
      have := (List.getElem?_eq_some_iff.1 hx).1
      simp at this; omega
    rw [hk0] at hx
    simp only [List.getElem?_cons_zero, Option.some.injEq] at hx
    subst hx
    exact ⟨u, by rw [List.getElem?_append_right (by omega), hlen, hk0]; rfl, hu.kept hg (own_apart hu h1 (by decide))⟩
/-- The same, and no two of the lists share a block. -/
def RowsA (w : World) (base : Nat) (v : Value) (D : List (List ZTok)) : Prop :=
  ∃ us : List Value, w.ownsRow base 38 1 v D.length us ∧ (∀ (k : Nat) (r : List ZTok), D[k]? = some r → ∃ u, us[k]? = some u ∧ w.ownsRow base 57 4 u r.length (zsCells r)) ∧ ∀ (i j : Nat) (u x : Value) (b : Nat), us[i]? = some u → us[j]? = some x → i ≠ j → u.ownBlock = some b → x.ownBlock ≠ some b
theorem RowsA.in {w : World} {base : Nat} {v : Value} {D : List (List ZTok)} (h : RowsA w base v D) : RowsIn w base v D := by
  obtain ⟨us, h1, h2, _⟩ := h
  exact ⟨us, h1, h2⟩
theorem RowsA.nil (w : World) (base : Nat) : RowsA w base (.slice none 0 0) [] := ⟨[], World.ownsRow_nil _ _ _ _, fun k r h => by simp at h, fun i j u x b h => by simp at h⟩
theorem RowsA.push {w w' : World} {base : Nat} {v v' u : Value} {D : List (List ZTok)} {r : List ZTok} {us : List Value} (h1 : w.ownsRow base 38 1 v D.length us) (h2 : ∀ (k : Nat) (r : List ZTok), D[k]? = some r → ∃ u, us[k]? = some u ∧ w.ownsRow base 57 4 u r.length (zsCells r))
    (hu : w.ownsRow base 57 4 u r.length (zsCells r)) (hv : w'.ownsRow base 38 1 v' (D.length + 1) (us ++ [u])) (hg : w.grownBy w' v.ownBlock)
    (hd : ∀ (i j : Nat) (u x : Value) (b : Nat), us[i]? = some u → us[j]? = some x → i ≠ j → u.ownBlock = some b → x.ownBlock ≠ some b) (hn : ∀ (i : Nat) (x : Value) (b : Nat), us[i]? = some x → x.ownBlock = some b → u.ownBlock ≠ some b) : RowsA w' base v' (D ++ [r]) := by
  have hlen : us.length = D.length := by have := h1.1; omega
  have hl' : ∀ {i : Nat} {y : Value}, (us ++ [u])[i]? = some y → us[i]? = some y ∨ i = us.length ∧ y = u := fun {i y} h => by
    rcases Nat.lt_or_ge i us.length with hi | hi
    · rw [List.getElem?_append_left hi] at h; exact .inl h
    · have hlt := (List.getElem?_eq_some_iff.1 h).1
      simp at hlt
      obtain rfl : i = us.length := by omega
      rw [List.getElem?_append_right (Nat.le_refl _), Nat.sub_self] at h
      simp at h
      exact .inr ⟨rfl, h.symm⟩
  refine ⟨us ++ [u], by simpa using hv, fun k x hx => ?_, fun i j y x b hy hx hij hb => ?_⟩
  · rcases Nat.lt_or_ge k D.length with hk | hk
    · rw [List.getElem?_append_left hk] at hx
      obtain ⟨y, hy, ho⟩ := h2 k x hx
      exact ⟨y, by rw [List.getElem?_append_left (by omega)]; exact hy, ho.kept hg (own_apart ho h1 (by decide))⟩
    · rw [List.getElem?_append_right hk] at hx
      have hk0 : k - D.length = 0 := by
        have := (List.getElem?_eq_some_iff.1 hx).1
        simp at this; omega
      rw [hk0] at hx
      simp only [List.getElem?_cons_zero, Option.some.injEq] at hx
      subst hx
      exact ⟨u, by rw [List.getElem?_append_right (by omega), hlen, hk0]; rfl, hu.kept hg (own_apart hu h1 (by decide))⟩
  · rcases hl' hy with h3 | ⟨e3, f3⟩ <;> rcases hl' hx with h4 | ⟨e4, f4⟩
    · exact hd i j y x b h3 h4 hij hb
    · rw [f4]; exact hn i y b h3 hb
    · rw [f3] at hb; exact fun e => hn j x b h4 e hb
    · exact absurd (e3.trans e4.symm) hij
/-- Words line by line, behind so many of a line. -/
def linesF : List ZTok → List ZTok → List (List ZTok)
  | row, [] => if row.isEmpty then [] else [row]
  | row, z :: r => if z.kind = 1 then row :: linesF [] r else linesF (row ++ [z]) r
theorem linesF_le (zs : List ZTok) : ∀ row, (linesF row zs).length ≤ zs.length + 1 := by
  induction zs with
  | nil => intro row; simp only [linesF]; split <;> simp
  | cons z r ih => intro row; simp only [linesF]; split
                   · have := ih []; simp only [List.length_cons]; omega
                   · have := ih (row ++ [z]); simp only [List.length_cons]; omega
theorem grown0 {w w1 : World} (hg : w.grownBy w1 (Value.slice none 0 0).ownBlock) : Below w.heap.size w w1 := ⟨hg.os, hg.tape, hg.output, hg.size, fun k hk => hg.block k hk (by simp [Value.ownBlock])⟩
set_option maxRecDepth 100000 in
set_option maxHeartbeats 1000000 in
theorem copied_any (b o cap : Nat) (zs : List ZTok) (w : World) (hz : Lies w b o zs) (hn : zs.length ≤ 200000) :
    Calls Tryz.prog 31 #[.slice (some ⟨b, o, none⟩) zs.length cap] w fun e w' => ∃ u, e = .returned u ∧ w'.ownsRow w.heap.size 57 4 u zs.length (zsCells zs) ∧ Below w.heap.size w w' := by
  obtain ⟨i0, hi0, hz0, hz1, hz2⟩ := info_parts Tryz.infoTok
  have hl := zsCells_length zs
  have hml : 0 + zs.length ≤ maxLen := by unfold maxLen; omega
  have hby : (0 + zs.length) * 40 ≤ 140737488355328 := by omega
  have hnews := hz.news
  go_enter Tryz.func31, Tryz.ntmps31
  go_wp2_with (at_builtin; refine wpList_append_own_at _ rfl _ _ 38 rfl w.heap.size 57 i0 (.agg #[.int .i64 0, .string ⟨#[]⟩, .int .i64 0, .int .i64 0]) 4 40 Tryz.underlying38 hi0 hz0 hz1 hz2 rfl (by decide) (.slice none 0 0) 0 [] rfl (World.ownsRow_nil _ _ _ _) ⟨b, o, none⟩ zs.length cap (zsCells zs) rfl hl hnews (zCells_one zs) hml hby (Nat.le_refl _) ?_; intro v' w2 hown' hgrow hnil hat)
  go_ret
  exact ⟨_, rfl, by simpa using hown', grown0 hgrow⟩
end Go.Proofs.YthcboklkejlifaaGreatDoor
