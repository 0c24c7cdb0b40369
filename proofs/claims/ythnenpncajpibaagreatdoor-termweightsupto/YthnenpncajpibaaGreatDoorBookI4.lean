/- What stands while the book's growInts goes on. -/
import Derived.Test.YthnenpncajpibaaGreatDoorBookI3
namespace Go.Proofs.YthnenpncajpibaaGreatDoor
open Go.RowKit Go.Maps
/-- The lists, those that have grown and those that have not. -/
structure Gr (w wr : World) (bk : Nat) (vi : Value) (ls : List Value) (zss : List (List Int)) (i : Nat) (vo : Value) (os : List Value) : Prop where
  c0 : wr.cell? ⟨bk, 0, none⟩ = some vi
  ri : wr.ownsRow 0 29 1 vi zss.length ls
  todo : ∀ (k : Nat) (l : Value) (zs : List Int), i ≤ k → ls[k]? = some l → zss[k]? = some zs → OwnI wr 0 l zs
  done : ∀ (k : Nat) (l : Value) (zs : List Int), k < i → ls[k]? = some l → zss[k]? = some zs → HasI wr l zs ∧ ∃ o, os[k]? = some o ∧ HasI wr o (zs ++ marks k zs.length 96) ∧ (o.ownBlock = l.ownBlock ∨ ∀ b, o.ownBlock = some b → w.heap.size ≤ b) ∧ ∀ b, o.ownBlock = some b → vo.ownBlock ≠ some b
  row : wr.ownsRow w.heap.size 29 1 vo i os
  kp : Kept (LsF ls) w wr
/-- What does not turn meanwhile. -/
structure Gs (w : World) (bk : Nat) (vi : Value) (ls : List Value) : Prop where
  ap : Apt bk vi ls
  bk : bk < w.heap.size
  vi : ∀ b, vi.ownBlock = some b → b < w.heap.size
  ls : ∀ l ∈ ls, ∀ b, l.ownBlock = some b → b < w.heap.size
theorem gr_start {w : World} {bk : Nat} {vi : Value} {ls : List Value} {zss : List (List Int)} (h : Bp w bk vi ls zss) : Gr w w bk vi ls zss 0 (.slice none 0 0) [] ∧ Gs w bk vi ls := by
  refine ⟨⟨h.c0, h.ri, fun k l zs _ h1 h2 => h.li k l zs h1 h2, fun k l zs hk => by omega, World.ownsRow_nil _ _ _ _, Kept.refl _ _⟩, ⟨h.ap, World.block_lt_of_cell? w _ h.c0, fun b hb => (h.ri.lt b hb).2, fun l hl b hb => ?_⟩⟩
  obtain ⟨k, hk, rfl⟩ := List.getElem_of_mem hl
  have hz : zss[k]? = some (zss[k]'(by rw [← h.ll]; exact hk)) := List.getElem?_eq_getElem _
  exact ((h.li k _ _ (List.getElem?_eq_getElem hk) hz).lt b hb).2
/-- Inside a round: the list's own block alone may have turned, and what is new. -/
structure Gm (wq wr : World) (l : Value) (zs : List Int) (i : Nat) (lv : Value) (m : Nat) : Prop where
  kp : Kept (fun b => l.ownBlock = some b) wq wr
  has : HasI wr l zs
  own : OwnI wr 0 lv (zs ++ marks i zs.length m)
  at' : lv.ownBlock = l.ownBlock ∨ ∀ b, lv.ownBlock = some b → wq.heap.size ≤ b
theorem gm_start {wq : World} {l : Value} {zs : List Int} (i : Nat) (h : OwnI wq 0 l zs) : Gm wq wq l zs i l 0 :=
  ⟨Kept.refl _ _, h.has, by simpa [marks] using h, .inl rfl⟩
theorem Gm.below {wq wr w' : World} {l : Value} {zs : List Int} {i : Nat} {lv : Value} {m : Nat} (h : Gm wq wr l zs i lv m) (hb : Below wr.heap.size wr w') : Gm wq w' l zs i lv m :=
  ⟨h.kp.trans (.of_below hb), h.has.below hb, trow_at h.own fun k hk => hb.block k (h.own.lt k hk).2, h.at'⟩
/-- A list with a prefix, read at the prefix's own length. -/
theorem has_prefix {w : World} {l lv : Value} {zs ys : List Int} (hl : ∃ c, l = .slice (match l with | .slice a _ _ => a | _ => none) zs.length c) (ho : OwnI w 0 lv (zs ++ ys)) (he : lv.ownBlock = l.ownBlock) (hlf : zs ≠ [] → ∃ g c, l = .slice (some ⟨g, 0, none⟩) zs.length c) (h0 : zs = [] → HasI w l zs) : HasI w l zs := by
  by_cases hz : zs = []
  · exact h0 hz
  obtain ⟨g, c, rfl⟩ := hlf hz
  refine ⟨_, c, rfl, fun j z hj => ⟨_, rfl, ?_⟩⟩
  have hlt := (List.getElem?_eq_some_iff.1 hj).1
  obtain ⟨g2, c2, rfl, _, _⟩ := World.ownsRow.form ho (by rw [List.length_append]; omega)
  have hg : g2 = g := by have h1 := he; simp [Value.ownBlock] at h1; exact h1
  subst hg
  rw [addz]
  exact OwnI.cell ho (by rw [List.getElem?_append_left hlt]; exact hj)
/-- The next marks are appended. -/
theorem Gm.app {wq wr w' : World} {l : Value} {zs : List Int} {i : Nat} {lv lv' : Value} {m d : Nat} (h : Gm wq wr l zs i lv m) (hO : OwnI wq 0 l zs) (hn : w'.ownsRow 0 3 1 lv' ((zs ++ marks i zs.length m).length + d) (iC (zs ++ marks i zs.length m) ++ iC (marks i (zs.length + m) d)))
    (hk : (lv'.ownBlock = lv.ownBlock ∧ wr.grownBy w' lv.ownBlock) ∨ ((∀ k, lv'.ownBlock = some k → wr.heap.size ≤ k) ∧ wr.grownBy w' none)) : Gm wq w' l zs i lv' (m + d) := by
  have e1 : zs ++ marks i zs.length (m + d) = (zs ++ marks i zs.length m) ++ marks i (zs.length + m) d := by rw [List.append_assoc, marks_add]
  have hown : OwnI w' 0 lv' (zs ++ marks i zs.length (m + d)) := by
    have e2 : ((zs ++ marks i zs.length m) ++ marks i (zs.length + m) d).length = (zs ++ marks i zs.length m).length + d := by rw [List.length_append, marks_len i (zs.length + m) d]
    have e3 : iC ((zs ++ marks i zs.length m) ++ marks i (zs.length + m) d) = iC (zs ++ marks i zs.length m) ++ iC (marks i (zs.length + m) d) := by unfold iC; rw [List.map_append]
    unfold OwnI
    rw [e1, e2, e3]
    exact hn
  rcases hk with ⟨h1, h2⟩ | ⟨h1, h2⟩
  · have hkk : Kept (fun b => l.ownBlock = some b) wq w' := by
      refine h.kp.trans2 (Kept.of_grown h2) fun b hb => ?_
      rcases h.at' with e | e
      · exact .inl (by rw [← e]; exact hb)
      · exact .inr (e b hb)
    refine ⟨hkk, ?_, hown, ?_⟩
    · rcases h.at' with e | e
      · obtain ⟨al, cl, hlv⟩ := row_shape hO
        refine has_prefix ⟨cl, by rw [hlv]⟩ hown (h1.trans e) (fun hz => ?_) (fun hz => ?_)
        · obtain ⟨g, c, hf, _, _⟩ := World.ownsRow.form hO (List.length_pos_iff.2 hz)
          exact ⟨g, c, hf⟩
        · subst hz; rw [hlv]; exact ⟨al, cl, rfl, fun j z hj => by simp at hj⟩
      · exact h.has.kept (Kept.of_grown h2) fun hz b hb hf => by
          have h3 := e b hf
          have h4 := made_far hO.has hz hb
          omega
    · rcases h.at' with e | e
      · exact .inl (h1.trans e)
      · exact .inr fun b hb => e b (by rw [← h1]; exact hb)
  · refine ⟨h.kp.trans ((Kept.of_grown h2).mono fun b _ hb => by cases hb), h.has.kept (Kept.of_grown h2) fun _ b _ hf => (by cases hf), hown, .inr fun b hb => ?_⟩
    have := h1 b hb
    have := h.kp.size
    omega
/-- The round's end: the list has grown, and stands in the row of those that have. -/
theorem Gr.next {w wq wr w' : World} {bk : Nat} {vi : Value} {ls : List Value} {zss : List (List Int)} {i : Nat} {vo vo' : Value} {os : List Value} {l lv : Value} {zs : List Int} (h : Gr w wq bk vi ls zss i vo os) (hs : Gs w bk vi ls) (hl : ls[i]? = some l) (hz : zss[i]? = some zs) (hm : Gm wq wr l zs i lv 96)
    (hr : w'.ownsRow w.heap.size 29 1 vo' (i + 1) (os ++ [lv])) (hg : wr.grownBy w' vo.ownBlock) (hat : vo'.ownBlock = vo.ownBlock ∨ ∀ b, vo'.ownBlock = some b → wr.heap.size ≤ b) : Gr w w' bk vi ls zss (i + 1) vo' (os ++ [lv]) := by
  have hlm := List.mem_of_getElem? hl
  have hO := h.todo i l zs (Nat.le_refl _) hl hz
  have hvo : ∀ b, vo.ownBlock = some b → w.heap.size ≤ b ∧ b < wq.heap.size := fun b hb => h.row.lt b hb
  -- a block below w that is not the list's own stands
  have hst : ∀ b, b < w.heap.size → l.ownBlock ≠ some b → w'.heap[b]? = wq.heap[b]? := fun b hb hn => by
    have h1 := h.kp.size
    have h2 := hm.kp.size
    rw [hg.block b (by omega) (fun e => by have := (hvo b e.symm).1; omega)]
    exact hm.kp.block b (by omega) hn
  have hst2 : ∀ b, b < wq.heap.size → l.ownBlock ≠ some b → vo.ownBlock ≠ some b → w'.heap[b]? = wq.heap[b]? := fun b hb hn hn2 => by
    have h2 := hm.kp.size
    rw [hg.block b (by omega) (fun e => hn2 e.symm)]
    exact hm.kp.block b hb hn
  have hKw : Kept (LsF ls) w w' := by
    refine (h.kp.trans (hm.kp.mono fun b _ hb => ⟨l, hlm, hb⟩)).trans2 (Kept.of_grown hg) fun b hb => .inr (hvo b hb).1
  have hK2 : Kept (fun b => l.ownBlock = some b ∨ vo.ownBlock = some b) wq w' := (hm.kp.mono fun b _ hb => .inl hb).trans ((Kept.of_grown hg).mono fun b _ hb => .inr hb)
  have hlen : os.length = i := by have := h.row.1; rw [Nat.mul_one] at this; exact this
  refine ⟨?_, trow_at h.ri fun b hb => hst b (hs.vi b hb) (fun e => hs.ap.r l hlm b e hb), fun k l2 zs2 hk h1 h2 => ?_, fun k l2 zs2 hk h1 h2 => ?_, hr, hKw⟩
  · rw [World.cell?_of_block (a := ⟨bk, 0, none⟩) (hst bk hs.bk (hs.ap.b l hlm))]; exact h.c0
  · exact trow_at (h.todo k l2 zs2 (by omega) h1 h2) fun b hb => hst b (hs.ls l2 (List.mem_of_getElem? h1) b hb) fun e => hs.ap.p i k l l2 hl h1 (by omega) b e hb
  · by_cases e : k = i
    · subst e
      rw [hl] at h1; rw [hz] at h2
      cases h1; cases h2
      have hvn : ∀ b, lv.ownBlock = some b → vo.ownBlock ≠ some b := fun b hb hv => by
        have h3 := hvo b hv
        rcases hm.at' with e | e
        · rw [e] at hb; have := hs.ls l hlm b hb; omega
        · have := e b hb; omega
      have hO' := trow_at (w' := w') hm.own fun b hb => hg.block b (hm.own.lt b hb).2 fun e => hvn b hb e.symm
      refine ⟨hm.has.kept (Kept.of_grown hg) fun hz b hb hf => ?_, lv, ?_, OwnI.has hO', ?_, fun b hb hv => ?_⟩
      · have := hs.ls l hlm b hb; have := (hvo b hf).1; omega
      · rw [List.getElem?_append_right (by omega), hlen, Nat.sub_self]; rfl
      · rcases hm.at' with e | e
        · exact .inl e
        · exact .inr fun b hb => by have := e b hb; have := h.kp.size; omega
      · rcases hat with e | e
        · rw [e] at hv; exact hvn b hb hv
        · have h3 := e b hv
          have := (hm.own.lt b hb).2
          omega
    · obtain ⟨d1, o, d2, d3, d4, d5⟩ := h.done k l2 zs2 (by omega) h1 h2
      have hne : ∀ b, l2.ownBlock = some b → l.ownBlock ≠ some b := fun b hb e' => hs.ap.p i k l l2 hl h1 (fun e9 => e e9.symm) b e' hb
      refine ⟨?_, o, by rw [List.getElem?_append_left (by omega)]; exact d2, ?_, d4, fun b hb hv => ?_⟩
      · exact d1.kept hK2 fun _ b hb hf => hf.elim (hne b hb) fun hv => by
          have h3 := hs.ls l2 (List.mem_of_getElem? h1) b hb
          have h4 := (hvo b hv).1
          omega
      · exact d3.kept hK2 fun _ b hb hf => hf.elim (fun hv => by
          rcases d4 with e9 | e9
          · rw [e9] at hb; exact hne b hb hv
          · have h3 := e9 b hb
            have h4 := hs.ls l hlm b hv
            omega) (d5 b hb)
      · rcases hat with e9 | e9
        · rw [e9] at hv; exact d5 b hb hv
        · have h3 := e9 b hv
          have h4 := made_far d3 (fun e8 => by have h5 := congrArg List.length e8; rw [List.length_append, marks_len] at h5; simp at h5) hb
          have h5 := hm.kp.size
          omega
end Go.Proofs.YthnenpncajpibaaGreatDoor
