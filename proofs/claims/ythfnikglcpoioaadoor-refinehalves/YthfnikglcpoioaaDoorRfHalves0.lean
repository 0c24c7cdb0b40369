/- refine: what the statement RefineHalves leans on. -/
import Derived.Test.YthfnikglcpoioaaDoorRfParts
import Derived.Test.YthfnikglcpoioaaDoorRfClasses
namespace Go.Proofs.YthfnikglcpoioaaDoor
open Go.RowKit Go.Maps
/-- A row of Booleans by a function. -/
def bC (bs : Nat → Bool) (N : Nat) : List Value := (List.range N).map fun e : Nat => .bool (bs e)
theorem bC_at (bs : Nat → Bool) {N e : Nat} (h : e < N) : (bC bs N)[e]? = some (.bool (bs e)) := by simp [bC, h]
theorem bC_len (bs : Nat → Bool) (N : Nat) : (bC bs N).length = N := by simp [bC]
theorem bC_set (bs : Nat → Bool) (N e : Nat) (x : Bool) : (bC bs N).set e (.bool x) = bC (upd bs e x) N := by
  apply List.ext_getElem?
  intro j
  rw [List.getElem?_set]
  by_cases hj : j < N
  · rw [bC_at bs hj, bC_at (upd bs e x) hj, bC_len]
    unfold upd
    by_cases h : e = j
    · subst h; simp [hj]
    · simp [h, Ne.symm h]
  · rw [List.getElem?_eq_none (by rw [bC_len]; omega), List.getElem?_eq_none (by rw [bC_len]; omega)]
    split
    · split
      · rename_i h1 h2; rw [bC_len] at h2; omega
      · rfl
    · rfl
theorem bC_false (N : Nat) : bC (fun _ => false) N = List.replicate N (.bool false) := by
  apply List.ext_getElem?
  intro i
  by_cases hi : i < N
  · rw [bC_at _ hi, List.getElem?_replicate, if_pos hi]
  · rw [List.getElem?_eq_none (by rw [bC_len]; omega), List.getElem?_eq_none (by rw [List.length_replicate]; omega)]
theorem cellk {F : Nat → Prop} {w w' : World} {b o : Nat} {x : Value} (h : w.cell? ⟨b, o, none⟩ = some x) (hk : Kept F w w') (hb : ¬ F b) : w'.cell? ⟨b, o, none⟩ = some x := by
  have h1 := hk.block b (World.block_lt_of_cell? w _ h) hb
  unfold World.cell? at h ⊢
  simp only at h ⊢
  rw [h1]
  exact h
/-- A partition and the row that mirrors its marks. -/
structure Hv (w wr : World) (g mk N : Nat) (c : Nat → Int) (s : Pst) (bs : Nat → Bool) : Prop where
  st : St8 w wr g c s
  sn : s.n = N
  mb : Arr 4 w wr mk (bC bs N)
  ne : mk ≠ g
theorem Hv.below {w wr w' : World} {g mk N : Nat} {c : Nat → Int} {s : Pst} {bs : Nat → Bool} (h : Hv w wr g mk N c s bs) (hb : Below wr.heap.size wr w') : Hv w w' g mk N c s bs := ⟨h.st.below hb, h.sn, h.mb.below hb, h.ne⟩
theorem Hv.turn {w wr w' : World} {g mk N : Nat} {c c' : Nat → Int} {s s' : Pst} {bs : Nat → Bool} (h : Hv w wr g mk N c s bs) (hs : St8 w w' g c' s') (hn : s'.n = s.n) (hk : Kept (fun i => i = g) wr w') : Hv w w' g mk N c' s' bs :=
  ⟨hs, hn.trans h.sn, h.mb.kept hk fun b hb => ⟨by rw [hb]; exact h.st.pt.gu, by rw [hb]; exact fun e => h.ne e.symm⟩, h.ne⟩
theorem Hv.set {w wr : World} {g mk N : Nat} {c : Nat → Int} {s : Pst} {bs : Nat → Bool} (h : Hv w wr g mk N c s bs) (e : Nat) (x : Bool) : Hv w (wr.setCell ⟨mk, e, none⟩ (.bool x)) g mk N c s (upd bs e x) := by
  have hk := Kept.setCell wr mk e (.bool x)
  refine ⟨⟨h.st.pt.kept hk fun b hb => ⟨by rw [hb]; exact h.mb.gu, by rw [hb]; exact h.ne⟩, h.st.ly, h.st.ok⟩, h.sn, ?_, h.ne⟩
  have h1 := h.mb.set e (.bool x)
  rw [bC_set] at h1
  exact h1
theorem Hv.cell {w wr : World} {g mk N : Nat} {c : Nat → Int} {s : Pst} {bs : Nat → Bool} (h : Hv w wr g mk N c s bs) {e : Nat} (he : e < N) : wr.cell? ⟨mk, e, none⟩ = some (.bool (bs e)) := h.mb.cell (bC_at bs he)
theorem Hv.bl {w wr : World} {g mk N : Nat} {c : Nat → Int} {s : Pst} {bs : Nat → Bool} (h : Hv w wr g mk N c s bs) : Below w.heap.size w wr := h.st.pt.bl
theorem Hv.congr {w wr : World} {g mk N : Nat} {c : Nat → Int} {s : Pst} {bs bs' : Nat → Bool} (h : Hv w wr g mk N c s bs) (he : ∀ e, e < N → bs e = bs' e) : Hv w wr g mk N c s bs' := by
  refine ⟨h.st, h.sn, ?_, h.ne⟩
  have h1 : bC bs N = bC bs' N := by
    unfold bC
    refine List.map_congr_left fun e he' => ?_
    rw [he e (List.mem_range.1 he')]
  rw [← h1]
  exact h.mb
/-- Numbers that lie in a block, from its first cell on. -/
def RowI (w : World) (gl : Nat) (zs : List Int) : Prop := ∀ (j : Nat) (z : Int), zs[j]? = some z → w.cell? ⟨gl, j, none⟩ = some (.int .i64 z)
theorem RowI.kept {F : Nat → Prop} {w w' : World} {gl : Nat} {zs : List Int} (h : RowI w gl zs) (hk : Kept F w w') (hb : ¬ F gl) : RowI w' gl zs := fun j z hz => cellk (h j z hz) hk hb
theorem RowI.below {w w' : World} {gl : Nat} {zs : List Int} (h : RowI w gl zs) (hb : Below w.heap.size w w') : RowI w' gl zs := fun j z hz => cellu (h j z hz) hb
theorem row_of {w : World} {B : Nat} {u : Value} {zs : List Int} (h : OwnI w B u zs) (h0 : 0 < zs.length) : ∃ gl cp, u = .slice (some ⟨gl, 0, none⟩) zs.length cp ∧ RowI w gl zs ∧ B ≤ gl := by
  rcases h.2 with ⟨rfl, h1⟩ | ⟨gl, cp, cur, rfl, hgl, _⟩
  · omega
  · refine ⟨gl, cp, rfl, fun j z hz => ?_, hgl⟩
    obtain ⟨ao', cap', he, hx⟩ := h.has
    obtain ⟨a', ha', hc'⟩ := hx j z hz
    injection he with he1 he2 he3
    rw [← he1] at ha'
    obtain rfl := (Option.some.inj ha').symm
    have h4 : (⟨gl, 0, none⟩ : Addr).add j = ⟨gl, j, none⟩ := by
      unfold Addr.add
      by_cases hj : j = 0
      · subst hj; rfl
      · simp [hj]
    rw [h4] at hc'
    exact hc'
/-! Where a split parts nothing all marks of the block are alike. -/
theorem alike {s : Pst} (hO : s.Ok) {b : Nat} (hb : b < s.nb) (h : ¬ s.splits b) : ∃ v, ∀ e, e < s.n → s.O e = b → s.isM e = v := by
  have iv := hO.iv b hb
  unfold Pst.splits at h
  by_cases h1 : s.B b < s.R b
  · refine ⟨true, fun e he ho => decide_eq_true ?_⟩
    have h2 := hO.o e he
    rw [ho] at h2 ⊢
    omega
  · refine ⟨false, fun e he ho => decide_eq_false ?_⟩
    have h2 := hO.o e he
    rw [ho] at h2 ⊢
    omega
theorem clear_O (s : Pst) (b : Nat) (h : ¬ s.splits b) : (s.split b).O = s.O := by unfold Pst.split; rw [if_neg h]; rfl
/-- Where it parts the block, the new block and what stays: their marks, their sizes. -/
theorem parted {s : Pst} (hO : s.Ok) {b : Nat} (hb : b < s.nb) (h : s.splits b) : ∃ v, (∀ e, e < s.n → (s.split b).O e = s.nb → s.isM e = v) ∧ (∀ e, e < s.n → (s.split b).O e = b → s.isM e = !v) ∧
    2 * ((s.split b).mem s.nb).length ≤ (s.mem b).length ∧ ((s.split b).mem s.nb).length + ((s.split b).mem b).length = (s.mem b).length ∧ 0 < ((s.split b).mem s.nb).length ∧ 0 < ((s.split b).mem b).length := by
  have hS := split_ok hO hb
  have hnb := split_nb s b
  rw [if_pos h] at hnb
  rw [mem_len hS.1 (by omega), mem_len hS.1 (by omega), mem_len hO hb]
  have iv := hO.iv b hb
  obtain ⟨h1, h2⟩ := _root_.id h
  have hne : b ≠ s.nb := by omega
  unfold Pst.split
  rw [if_pos h]
  by_cases h3 : s.D b - s.R b < s.R b - s.B b
  · rw [if_pos h3]
    refine ⟨false, fun e he ho => decide_eq_false ?_, fun e he ho => decide_eq_true ?_, ?_⟩
    · replace ho : (if s.R b ≤ s.P e ∧ s.P e < s.R b + (s.D b - s.R b) then s.nb else s.O e) = s.nb := ho
      have h4 := hO.o e he
      split at ho
      · rename_i h5
        have h6 := hO.ow b hb (s.P e) (by omega) (by omega)
        rw [(hO.pe e he).2] at h6
        rw [h6]; omega
      · omega
    · replace ho : (if s.R b ≤ s.P e ∧ s.P e < s.R b + (s.D b - s.R b) then s.nb else s.O e) = b := ho
      have h4 := hO.o e he
      split at ho
      · omega
      · rename_i h5
        rw [ho] at h4 ⊢
        omega
    · show 2 * (upd (upd s.D b (s.R b)) s.nb (s.D b) s.nb - upd (upd s.B b (s.B b)) s.nb (s.R b) s.nb) ≤ s.D b - s.B b ∧ upd (upd s.D b (s.R b)) s.nb (s.D b) s.nb - upd (upd s.B b (s.B b)) s.nb (s.R b) s.nb + (upd (upd s.D b (s.R b)) s.nb (s.D b) b - upd (upd s.B b (s.B b)) s.nb (s.R b) b) = s.D b - s.B b ∧ 0 < upd (upd s.D b (s.R b)) s.nb (s.D b) s.nb - upd (upd s.B b (s.B b)) s.nb (s.R b) s.nb ∧ 0 < upd (upd s.D b (s.R b)) s.nb (s.D b) b - upd (upd s.B b (s.B b)) s.nb (s.R b) b
      rw [upd_same, upd_same, upd_ne _ (s.D b) hne, upd_ne _ (s.R b) hne, upd_same, upd_same]
      omega
  · rw [if_neg h3]
    refine ⟨true, fun e he ho => decide_eq_true ?_, fun e he ho => decide_eq_false ?_, ?_⟩
    · replace ho : (if s.B b ≤ s.P e ∧ s.P e < s.B b + (s.R b - s.B b) then s.nb else s.O e) = s.nb := ho
      have h4 := hO.o e he
      split at ho
      · rename_i h5
        have h6 := hO.ow b hb (s.P e) (by omega) (by omega)
        rw [(hO.pe e he).2] at h6
        rw [h6]; omega
      · omega
    · replace ho : (if s.B b ≤ s.P e ∧ s.P e < s.B b + (s.R b - s.B b) then s.nb else s.O e) = b := ho
      have h4 := hO.o e he
      split at ho
      · omega
      · rename_i h5
        rw [ho] at h4 ⊢
        omega
    · show 2 * (upd (upd s.D b (s.D b)) s.nb (s.R b) s.nb - upd (upd s.B b (s.R b)) s.nb (s.B b) s.nb) ≤ s.D b - s.B b ∧ upd (upd s.D b (s.D b)) s.nb (s.R b) s.nb - upd (upd s.B b (s.R b)) s.nb (s.B b) s.nb + (upd (upd s.D b (s.D b)) s.nb (s.R b) b - upd (upd s.B b (s.R b)) s.nb (s.B b) b) = s.D b - s.B b ∧ 0 < upd (upd s.D b (s.D b)) s.nb (s.R b) s.nb - upd (upd s.B b (s.R b)) s.nb (s.B b) s.nb ∧ 0 < upd (upd s.D b (s.D b)) s.nb (s.R b) b - upd (upd s.B b (s.R b)) s.nb (s.B b) b
      rw [upd_same, upd_same, upd_ne _ (s.R b) hne, upd_ne _ (s.B b) hne, upd_same, upd_same]
      omega
end Go.Proofs.YthfnikglcpoioaaDoor
