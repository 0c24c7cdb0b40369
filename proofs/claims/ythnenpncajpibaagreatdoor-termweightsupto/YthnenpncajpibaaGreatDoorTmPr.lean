/- Two stores with the same terms beside each other: what the law's put does to them. -/
import Derived.Test.YthnenpncajpibaaGreatDoorTmPuts
namespace Go.Proofs.YthnenpncajpibaaGreatDoor
open Go.RowKit Go.Maps
attribute [local go_sem ↓] Go.wp_at_zero Go.wp_at_succ
/-- What came in stands while blocks turn that were laid since. -/
theorem lst_of {w0 w : World} {K : Nat → Prop} {v : Value} {l : List Tm} (hT : HasT w0 v l) (hK : ∀ i, K i → w0.heap.size ≤ i) (hb : Below w0.heap.size w0 w) : Lst w K v l := by
  obtain ⟨ao, cap, rfl, hO⟩ := hT
  refine ⟨ao, cap, rfl, fun i t hi => ?_⟩
  obtain ⟨g, o, vn, vp, h⟩ := hO i t hi
  exact ⟨g, o, vn, vp, fun w' hk => h.below (hb.trans (hk.below hb.size hK))⟩
/-- Two stores with the same terms, laid since w0, apart. -/
def Pr (w0 w : World) (b c : Nat) (L : List Tm) : Prop := ∃ F G, StoB w b L F ∧ RStoB w c L G ∧ (∀ i, F i → ¬ G i) ∧ (∀ i, F i → w0.heap.size ≤ i) ∧ (∀ i, G i → w0.heap.size ≤ i) ∧ Below w0.heap.size w0 w ∧ Tm.Good L
theorem Pr.below {w0 w w' : World} {b c : Nat} {L : List Tm} (h : Pr w0 w b c L) (hb : Below w.heap.size w w') : Pr w0 w' b c L := by
  obtain ⟨F, G, h1, h2, h3, h4, h5, h6, h7⟩ := h
  exact ⟨F, G, h1.below hb, h2.below hb, h3, h4, h5, h6.trans (hb.mono h6.size), h7⟩
theorem Pr.bl {w0 w : World} {b c : Nat} {L : List Tm} (h : Pr w0 w b c L) : Below w0.heap.size w0 w := by
  obtain ⟨F, G, h1, h2, h3, h4, h5, h6, h7⟩ := h
  exact h6
theorem put_pr (v : Value) (l : List Tm) (b c : Nat) (L : List Tm) (aA : Addr) (w0 w : World) (h : Pr w0 w b c L) (hT : HasT w0 v l) (hrm : ∀ t ∈ l, Room t) (hlen : L.length + l.length < 100000) (hE : Sent w0 0 aA) :
    Calls Tryz.prog 8 #[.pointer (some ⟨b, 0, none⟩), .pointer (some ⟨c, 0, none⟩), v] w fun r w' => r = .returned (.bool true) ∧ ∃ L', Pr w0 w' b c L' ∧ L'.length ≤ L.length + l.length := by
  obtain ⟨F, G, h1, h2, h3, h4, h5, h6, h7⟩ := h
  have hK : ∀ i, (F i ∨ G i) → w0.heap.size ≤ i := fun i hi => hi.elim (h4 i) (h5 i)
  refine (lawput_any v l b c L F G aA w h1 h2 h3 h7 (lst_of hT hK h6) hrm hlen (fun w' hk => hE.below (h6.trans (hk.below h6.size hK)))).mono ?_
  rintro r w' ⟨rfl, L', F', G', hT', hG', hl'⟩
  refine ⟨rfl, L', ⟨F', G', hT'.s, hT'.r, hT'.ap, fun i hi => ?_, fun i hi => ?_, h6.trans (hT'.k.below h6.size hK), hG'⟩, hl'⟩
  · rcases hT'.f i hi with e | e
    · exact h4 i e
    · have := h6.size; omega
  · rcases hT'.g i hi with e | e
    · exact h5 i e
    · have := h6.size; omega
/-- Both stores new. -/
theorem pr_new {w w1 w2 : World} {F G : Nat → Prop} (h1 : StoB w1 w.heap.size [⟨1, 0, 0, 0, [], []⟩] F) (hF : ∀ i, F i → w.heap.size ≤ i) (hb1 : Below w.heap.size w w1) (h2 : RStoB w2 w1.heap.size [⟨1, 0, 0, 0, [], []⟩] G) (hG : ∀ i, G i → w1.heap.size ≤ i) (hb2 : Below w1.heap.size w1 w2) : Pr w w2 w.heap.size w1.heap.size [⟨1, 0, 0, 0, [], []⟩] :=
  ⟨F, G, h1.below hb2, h2, fun i hi hg => by have := h1.foot_lt hi; have := hG i hg; omega, hF, fun i hi => by have := hG i hi; have := hb1.size; omega, hb1.trans (hb2.mono hb1.size), good_nil⟩
/-- Both stores zero. -/
theorem pr_zero {w0 w w1 w2 : World} (hb : Below w0.heap.size w0 w) (e1 : w1 = w.alloc (.cells #[.slice none 0 0, .map none] 71)) (e2 : w2 = w1.alloc (.cells Tryz.zeroCells32 32)) : Pr w0 w2 w.heap.size (w.heap.size + 1) [] := by
  have b1 : Below w.heap.size w w1 := by rw [e1]; exact (Below.refl _ _).alloc (Nat.le_refl _) _
  have b2 : Below w1.heap.size w1 w2 := by rw [e2]; exact (Below.refl _ _).alloc (Nat.le_refl _) _
  have s1 : w1.heap.size = w.heap.size + 1 := by rw [e1]; simp
  rw [← s1]
  have hS : Sto w1 w.heap.size (.slice none 0 0) (.map none) [] [] := by
    rw [e1]
    exact ⟨(MapKept.heap_alloc w _).1, World.ownsRow_nil _ _ _ _, .inl ⟨rfl, rfl⟩, rfl, fun i t v h => by simp at h, fun t h => by simp at h, by simp⟩
  have hS1 : StoB w1 w.heap.size [] (Foot3 w.heap.size (.slice none 0 0) (.map none) []) := ⟨_, _, _, hS, rfl⟩
  have hR : RSto w2 w1.heap.size Tryz.zeroCells32 (.slice none 0 0) (fun _ => .slice none 0 0) [] [] [] := by rw [e2]; exact rsto_zero w1
  have hup : ∀ i, RFoot w1.heap.size (.slice none 0 0) (fun _ => .slice none 0 0) [] i → w1.heap.size ≤ i := fun i hi => by
    rcases hi with rfl | hi | ⟨k, _, hi⟩ | ⟨v, hv, _⟩
    · exact Nat.le_refl _
    · cases hi
    · cases hi
    · cases hv
  have hz := hb.size
  refine ⟨_, RFoot w1.heap.size (.slice none 0 0) (fun _ => .slice none 0 0) [], hS1.below b2, ⟨_, _, _, _, hR, rfl⟩, fun i hi hg => ?_, fun i hi => ?_, fun i hi => ?_, hb.trans ((b1.trans (b2.mono b1.size)).mono hz), fun i t h => by simp at h⟩
  · have h1 := hS1.foot_lt hi
    have h2 := hup i hg
    omega
  · rcases hi with rfl | hi | hi | ⟨v, hv, _⟩
    · exact hz
    · cases hi
    · cases hi
    · cases hv
  · have := hup i hi; omega
/-- One term whose lists are empty, in a new list. -/
theorem put_one (k a d : Int) (b c : Nat) (L : List Tm) (aA : Addr) (w0 w1 w : World) (g : Nat) (h : Pr w0 w1 b c L) (hb : Below w1.heap.size w1 w) (hg : w1.heap.size ≤ g) (hblk : w.heap[g]? = some (.cells #[.int .i64 k, .int .i64 0, .int .i64 a, .int .i64 d, .slice none 0 0, .slice none 0 0] 35 (0, 0))) (hlen : L.length + 1 < 100000) (hE : Sent w0 0 aA) :
    Calls Tryz.prog 8 #[.pointer (some ⟨b, 0, none⟩), .pointer (some ⟨c, 0, none⟩), .slice (some ⟨g, 0, none⟩) 1 1] w fun r w' => r = .returned (.bool true) ∧ ∃ L', Pr w0 w' b c L' ∧ L'.length ≤ L.length + 1 := by
  obtain ⟨F, G, h1', h2', h3, h4, h5, h6', h7⟩ := h
  have hlow : ∀ i, (F i ∨ G i) → i < w1.heap.size := fun i hi => hi.elim (fun e => h1'.foot_lt e) (fun e => h2'.foot_lt e)
  have h1 := h1'.below hb
  have h2 := h2'.below hb
  have h6 : Below w0.heap.size w0 w := h6'.trans (hb.mono h6'.size)
  have hK : ∀ i, (F i ∨ G i) → w0.heap.size ≤ i := fun i hi => hi.elim (h4 i) (h5 i)
  have hL : Lst w (fun i => F i ∨ G i) (.slice (some ⟨g, 0, none⟩) 1 1) [⟨k, 0, a, d, [], []⟩] := by
    refine ⟨_, 1, rfl, fun i t hi => ?_⟩
    have hi0 : i = 0 := by have := (List.getElem?_eq_some_iff.1 hi).1; simp at this; omega
    subst hi0
    have ht : t = ⟨k, 0, a, d, [], []⟩ := by simpa using hi.symm
    subst ht
    refine ⟨g, 0, .slice none 0 0, .slice none 0 0, fun w' hk => ?_⟩
    have hB := (hk.block g (t_lt hblk) fun e => by have := hlow g e; omega).trans hblk
    obtain ⟨x0, x1, x2, x3, x4, x5, _⟩ := six6 hB
    exact ⟨rfl, ⟨x0, x1, x2, x3, x4, x5⟩, ⟨none, 0, rfl, fun i z h => by simp at h⟩, ⟨none, 0, rfl, fun i z h => by simp at h⟩, Nat.zero_le _, Nat.zero_le _⟩
  refine (lawput_any _ _ b c L F G aA w h1 h2 h3 h7 hL (fun t ht => by rw [List.mem_singleton.1 ht]; exact ⟨by simp, by simp⟩) hlen (fun w' hk => hE.below (h6.trans (hk.below h6.size hK)))).mono ?_
  rintro r w' ⟨rfl, L', F', G', hT', hG', hl'⟩
  refine ⟨rfl, L', ⟨F', G', hT'.s, hT'.r, hT'.ap, fun i hi => ?_, fun i hi => ?_, h6.trans (hT'.k.below h6.size hK), hG'⟩, hl'⟩
  · rcases hT'.f i hi with e | e
    · exact h4 i e
    · have := h6.size; omega
  · rcases hT'.g i hi with e | e
    · exact h5 i e
    · have := h6.size; omega
end Go.Proofs.YthnenpncajpibaaGreatDoor
