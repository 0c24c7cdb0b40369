/- A term's number in another store: plain; contract of term.moved. -/
import Derived.Test.YtoamnhhegneegaaDoorTmAlive
namespace Go.Proofs.YtoamnhhegneegaaDoor
open Go.RowKit Go.Maps
namespace Tm
def two (t : Tm) : Bool := t.kind == 3 || t.kind == 4
def one (t : Tm) : Bool := t.kind == 2 || t.kind == 5 || t.kind == 6
/-- A term with its parts by other numbers. -/
def moved (t : Tm) (f : Int → Int) : Tm := { t with a := if t.two || t.one then f t.a else t.a, b := if t.two then f t.b else t.b }
end Tm
theorem moved_congr {t : Tm} {f g : Int → Int} (h : ∀ p ∈ t.parts, f p = g p) : t.moved f = t.moved g := by
  obtain ⟨k, l, a, b, ns, ps⟩ := t
  unfold Tm.parts at h
  simp only at h
  unfold Tm.moved Tm.two Tm.one
  simp only
  by_cases h1 : k = 2 ∨ k = 5 ∨ k = 6
  · rw [if_pos h1] at h
    have := h a (by simp)
    rcases h1 with rfl | rfl | rfl <;> simp [this]
  · rw [if_neg h1] at h
    by_cases h2 : k = 3 ∨ k = 4
    · rw [if_pos h2] at h
      have e1 := h a (by simp)
      have e2 := h b (by simp)
      rcases h2 with rfl | rfl <;> simp [e1, e2]
    · have n1 : ((k == 3) || (k == 4)) = false := by simp; omega
      have n2 : ((k == 2) || (k == 5) || (k == 6)) = false := by simp; omega
      simp [n1, n2]
theorem moved_id (t : Tm) : t.moved (fun z => z) = t := by
  unfold Tm.moved
  simp
theorem moved_names (t : Tm) (f : Int → Int) : (t.moved f).names = t.names ∧ (t.moved f).pairs = t.pairs ∧ (t.moved f).kind = t.kind ∧ (t.moved f).label = t.label := ⟨rfl, rfl, rfl, rfl⟩
theorem moved_wf {t : Tm} (h : t.Wf) {f : Int → Int} (hf : ∀ p ∈ t.parts, 0 ≤ f p ∧ f p ≤ 1000000) : (t.moved f).Wf := by
  have hab : (Lit.int .i64 (t.moved f).a).wf = true ∧ (Lit.int .i64 (t.moved f).b).wf = true := by
    obtain ⟨k, l, a, b, ns, ps⟩ := t
    unfold Tm.parts at hf
    simp only at hf
    unfold Tm.moved Tm.two Tm.one
    simp only
    by_cases h1 : k = 2 ∨ k = 5 ∨ k = 6
    · rw [if_pos h1] at hf
      have := hf a (by simp)
      have n1 : ((k == 3) || (k == 4)) = false := by simp; omega
      have n2 : ((k == 2) || (k == 5) || (k == 6)) = true := by simp; omega
      simp only [n1, n2, Bool.or_true, if_true, Bool.false_eq_true, if_false]
      exact ⟨wf64 (by omega) (by omega), h.fits.b⟩
    · rw [if_neg h1] at hf
      by_cases h2 : k = 3 ∨ k = 4
      · rw [if_pos h2] at hf
        have e1 := hf a (by simp)
        have e2 := hf b (by simp)
        have n1 : ((k == 3) || (k == 4)) = true := by simp; omega
        simp only [n1, Bool.true_or, if_true]
        exact ⟨wf64 (by omega) (by omega), wf64 (by omega) (by omega)⟩
      · have n1 : ((k == 3) || (k == 4)) = false := by simp; omega
        have n2 : ((k == 2) || (k == 5) || (k == 6)) = false := by simp; omega
        simp only [n1, n2, Bool.or_false, Bool.false_eq_true, if_false]
        exact ⟨h.fits.a, h.fits.b⟩
  exact ⟨⟨h.fits.k, h.fits.l, hab.1, hab.2, h.fits.len⟩, h.n, h.p, h.nb, h.pb, h.nl, h.pl⟩
/-- What the map of numbers answers. -/
def Looks (w : World) (bm : Nat) (p q : Int) : Prop := (Instr.lookup 66 (.map (some bm)) (.int .i64 p) false).run Tryd.prog w = .ok (.int .i64 q) w
set_option maxRecDepth 100000 in
set_option maxHeartbeats 1000000 in
theorem moved3 (l a b' x y : Int) (an ap : Option Addr) (nn np cn cp bm : Nat) (w : World) (ha : ∀ W, Below w.heap.size w W → Looks W bm a x) (hb : ∀ W, Below w.heap.size w W → Looks W bm b' y) :
    Calls Tryd.prog 30 #[.agg #[.int .i64 3, .int .i64 l, .int .i64 a, .int .i64 b', .slice an nn cn, .slice ap np cp], .map (some bm)] w fun r w' => r = .returned (.agg #[.int .i64 3, .int .i64 l, .int .i64 x, .int .i64 y, .slice an nn cn, .slice ap np cp]) ∧ Below w.heap.size w w' := by
  have e1 := hb ((w.alloc (.cells #[.int .i64 3, .int .i64 l, .int .i64 a, .int .i64 b', .slice an nn cn, .slice ap np cp] 39)).alloc (.cells #[.int .i64 0, .int .i64 0, .int .i64 0, .int .i64 0, .slice none 0 0, .slice none 0 0] 39)) (by repeat (first | exact Below.refl _ _ | assumption | refine Below.drew ?_ | refine Below.setCell ?_ (by simp) _ | refine Below.alloc ?_ (by simp) _))
  have e2 := ha ((w.alloc (.cells #[.int .i64 3, .int .i64 l, .int .i64 a, .int .i64 y, .slice an nn cn, .slice ap np cp] 39)).alloc (.cells #[.int .i64 0, .int .i64 0, .int .i64 0, .int .i64 0, .slice none 0 0, .slice none 0 0] 39)) (by repeat (first | exact Below.refl _ _ | assumption | refine Below.drew ?_ | refine Below.setCell ?_ (by simp) _ | refine Below.alloc ?_ (by simp) _))
  unfold Looks at e1 e2
  clear ha hb
  go_enter Tryd.func30, Tryd.ntmps30
  go_wp2_with fail
  refine bodyPost_ret (v := .agg #[.int .i64 3, .int .i64 l, .int .i64 x, .int .i64 y, .slice an nn cn, .slice ap np cp]) (by simp [results, Tryd.results30, go_sem]) rfl ⟨rfl, (by repeat (first | exact Below.refl _ _ | assumption | refine Below.drew ?_ | refine Below.setCell ?_ (by simp) _ | refine Below.alloc ?_ (by simp) _))⟩
set_option maxRecDepth 100000 in
set_option maxHeartbeats 1000000 in
theorem moved4 (l a b' x y : Int) (an ap : Option Addr) (nn np cn cp bm : Nat) (w : World) (ha : ∀ W, Below w.heap.size w W → Looks W bm a x) (hb : ∀ W, Below w.heap.size w W → Looks W bm b' y) :
    Calls Tryd.prog 30 #[.agg #[.int .i64 4, .int .i64 l, .int .i64 a, .int .i64 b', .slice an nn cn, .slice ap np cp], .map (some bm)] w fun r w' => r = .returned (.agg #[.int .i64 4, .int .i64 l, .int .i64 x, .int .i64 y, .slice an nn cn, .slice ap np cp]) ∧ Below w.heap.size w w' := by
  have e1 := hb ((w.alloc (.cells #[.int .i64 4, .int .i64 l, .int .i64 a, .int .i64 b', .slice an nn cn, .slice ap np cp] 39)).alloc (.cells #[.int .i64 0, .int .i64 0, .int .i64 0, .int .i64 0, .slice none 0 0, .slice none 0 0] 39)) (by repeat (first | exact Below.refl _ _ | assumption | refine Below.drew ?_ | refine Below.setCell ?_ (by simp) _ | refine Below.alloc ?_ (by simp) _))
  have e2 := ha ((w.alloc (.cells #[.int .i64 4, .int .i64 l, .int .i64 a, .int .i64 y, .slice an nn cn, .slice ap np cp] 39)).alloc (.cells #[.int .i64 0, .int .i64 0, .int .i64 0, .int .i64 0, .slice none 0 0, .slice none 0 0] 39)) (by repeat (first | exact Below.refl _ _ | assumption | refine Below.drew ?_ | refine Below.setCell ?_ (by simp) _ | refine Below.alloc ?_ (by simp) _))
  unfold Looks at e1 e2
  clear ha hb
  go_enter Tryd.func30, Tryd.ntmps30
  go_wp2_with fail
  refine bodyPost_ret (v := .agg #[.int .i64 4, .int .i64 l, .int .i64 x, .int .i64 y, .slice an nn cn, .slice ap np cp]) (by simp [results, Tryd.results30, go_sem]) rfl ⟨rfl, (by repeat (first | exact Below.refl _ _ | assumption | refine Below.drew ?_ | refine Below.setCell ?_ (by simp) _ | refine Below.alloc ?_ (by simp) _))⟩
set_option maxRecDepth 100000 in
set_option maxHeartbeats 1000000 in
theorem moved2 (l a b' x : Int) (an ap : Option Addr) (nn np cn cp bm : Nat) (w : World) (ha : ∀ W, Below w.heap.size w W → Looks W bm a x) :
    Calls Tryd.prog 30 #[.agg #[.int .i64 2, .int .i64 l, .int .i64 a, .int .i64 b', .slice an nn cn, .slice ap np cp], .map (some bm)] w fun r w' => r = .returned (.agg #[.int .i64 2, .int .i64 l, .int .i64 x, .int .i64 b', .slice an nn cn, .slice ap np cp]) ∧ Below w.heap.size w w' := by
  have e2 := ha ((w.alloc (.cells #[.int .i64 2, .int .i64 l, .int .i64 a, .int .i64 b', .slice an nn cn, .slice ap np cp] 39)).alloc (.cells #[.int .i64 0, .int .i64 0, .int .i64 0, .int .i64 0, .slice none 0 0, .slice none 0 0] 39)) (by repeat (first | exact Below.refl _ _ | assumption | refine Below.drew ?_ | refine Below.setCell ?_ (by simp) _ | refine Below.alloc ?_ (by simp) _))
  unfold Looks at e2
  clear ha
  go_enter Tryd.func30, Tryd.ntmps30
  go_wp2_with fail
  refine bodyPost_ret (v := .agg #[.int .i64 2, .int .i64 l, .int .i64 x, .int .i64 b', .slice an nn cn, .slice ap np cp]) (by simp [results, Tryd.results30, go_sem]) rfl ⟨rfl, (by repeat (first | exact Below.refl _ _ | assumption | refine Below.drew ?_ | refine Below.setCell ?_ (by simp) _ | refine Below.alloc ?_ (by simp) _))⟩
set_option maxRecDepth 100000 in
set_option maxHeartbeats 1000000 in
theorem moved5 (l a b' x : Int) (an ap : Option Addr) (nn np cn cp bm : Nat) (w : World) (ha : ∀ W, Below w.heap.size w W → Looks W bm a x) :
    Calls Tryd.prog 30 #[.agg #[.int .i64 5, .int .i64 l, .int .i64 a, .int .i64 b', .slice an nn cn, .slice ap np cp], .map (some bm)] w fun r w' => r = .returned (.agg #[.int .i64 5, .int .i64 l, .int .i64 x, .int .i64 b', .slice an nn cn, .slice ap np cp]) ∧ Below w.heap.size w w' := by
  have e2 := ha ((w.alloc (.cells #[.int .i64 5, .int .i64 l, .int .i64 a, .int .i64 b', .slice an nn cn, .slice ap np cp] 39)).alloc (.cells #[.int .i64 0, .int .i64 0, .int .i64 0, .int .i64 0, .slice none 0 0, .slice none 0 0] 39)) (by repeat (first | exact Below.refl _ _ | assumption | refine Below.drew ?_ | refine Below.setCell ?_ (by simp) _ | refine Below.alloc ?_ (by simp) _))
  unfold Looks at e2
  clear ha
  go_enter Tryd.func30, Tryd.ntmps30
  go_wp2_with fail
  refine bodyPost_ret (v := .agg #[.int .i64 5, .int .i64 l, .int .i64 x, .int .i64 b', .slice an nn cn, .slice ap np cp]) (by simp [results, Tryd.results30, go_sem]) rfl ⟨rfl, (by repeat (first | exact Below.refl _ _ | assumption | refine Below.drew ?_ | refine Below.setCell ?_ (by simp) _ | refine Below.alloc ?_ (by simp) _))⟩
set_option maxRecDepth 100000 in
set_option maxHeartbeats 1000000 in
theorem moved6 (l a b' x : Int) (an ap : Option Addr) (nn np cn cp bm : Nat) (w : World) (ha : ∀ W, Below w.heap.size w W → Looks W bm a x) :
    Calls Tryd.prog 30 #[.agg #[.int .i64 6, .int .i64 l, .int .i64 a, .int .i64 b', .slice an nn cn, .slice ap np cp], .map (some bm)] w fun r w' => r = .returned (.agg #[.int .i64 6, .int .i64 l, .int .i64 x, .int .i64 b', .slice an nn cn, .slice ap np cp]) ∧ Below w.heap.size w w' := by
  have e2 := ha ((w.alloc (.cells #[.int .i64 6, .int .i64 l, .int .i64 a, .int .i64 b', .slice an nn cn, .slice ap np cp] 39)).alloc (.cells #[.int .i64 0, .int .i64 0, .int .i64 0, .int .i64 0, .slice none 0 0, .slice none 0 0] 39)) (by repeat (first | exact Below.refl _ _ | assumption | refine Below.drew ?_ | refine Below.setCell ?_ (by simp) _ | refine Below.alloc ?_ (by simp) _))
  unfold Looks at e2
  clear ha
  go_enter Tryd.func30, Tryd.ntmps30
  go_wp2_with fail
  refine bodyPost_ret (v := .agg #[.int .i64 6, .int .i64 l, .int .i64 x, .int .i64 b', .slice an nn cn, .slice ap np cp]) (by simp [results, Tryd.results30, go_sem]) rfl ⟨rfl, (by repeat (first | exact Below.refl _ _ | assumption | refine Below.drew ?_ | refine Below.setCell ?_ (by simp) _ | refine Below.alloc ?_ (by simp) _))⟩
set_option maxRecDepth 100000 in
set_option maxHeartbeats 1000000 in
theorem moved0 (k l a b' : Int) (an ap : Option Addr) (nn np cn cp bm : Nat) (w : World) (h2 : (k == 2) = false) (h3 : (k == 3) = false) (h4 : (k == 4) = false) (h5 : (k == 5) = false) (h6 : (k == 6) = false) :
    Calls Tryd.prog 30 #[.agg #[.int .i64 k, .int .i64 l, .int .i64 a, .int .i64 b', .slice an nn cn, .slice ap np cp], .map (some bm)] w fun r w' => r = .returned (.agg #[.int .i64 k, .int .i64 l, .int .i64 a, .int .i64 b', .slice an nn cn, .slice ap np cp]) ∧ Below w.heap.size w w' := by
  go_enter Tryd.func30, Tryd.ntmps30
  go_wp2_with fail
  refine bodyPost_ret (v := .agg #[.int .i64 k, .int .i64 l, .int .i64 a, .int .i64 b', .slice an nn cn, .slice ap np cp]) (by simp [results, Tryd.results30, go_sem]) rfl ⟨rfl, (by repeat (first | exact Below.refl _ _ | assumption | refine Below.drew ?_ | refine Below.setCell ?_ (by simp) _ | refine Below.alloc ?_ (by simp) _))⟩
theorem moved_any (t : Tm) (f : Int → Int) (vn vp : Value) (bm : Nat) (w : World) (hn : HasI w vn t.names) (hp : HasP w vp t.pairs) (hL : ∀ p ∈ t.parts, ∀ W, Below w.heap.size w W → Looks W bm p (f p)) :
    Calls Tryd.prog 30 #[tmV t vn vp, .map (some bm)] w fun r w' => r = .returned (tmV (t.moved f) vn vp) ∧ Below w.heap.size w w' := by
  obtain ⟨an, cn, rfl, _⟩ := hn
  obtain ⟨ap, cp, rfl, _⟩ := hp
  obtain ⟨k, l, a, b', ns, ps⟩ := t
  unfold Tm.parts at hL
  simp only at hL
  unfold tmV Tm.moved Tm.two Tm.one
  simp only
  by_cases h2 : k = 2
  · subst h2
    rw [if_pos (by omega)] at hL
    exact moved2 l a b' (f a) an ap _ _ cn cp bm w (hL a (by simp))
  by_cases h5 : k = 5
  · subst h5
    rw [if_pos (by omega)] at hL
    exact moved5 l a b' (f a) an ap _ _ cn cp bm w (hL a (by simp))
  by_cases h6 : k = 6
  · subst h6
    rw [if_pos (by omega)] at hL
    exact moved6 l a b' (f a) an ap _ _ cn cp bm w (hL a (by simp))
  rw [if_neg (by omega)] at hL
  by_cases h3 : k = 3
  · subst h3
    rw [if_pos (by omega)] at hL
    exact moved3 l a b' (f a) (f b') an ap _ _ cn cp bm w (hL a (by simp)) (hL b' (by simp))
  by_cases h4 : k = 4
  · subst h4
    rw [if_pos (by omega)] at hL
    exact moved4 l a b' (f a) (f b') an ap _ _ cn cp bm w (hL a (by simp)) (hL b' (by simp))
  have n2 : (k == 2) = false := by simpa using h2
  have n3 : (k == 3) = false := by simpa using h3
  have n4 : (k == 4) = false := by simpa using h4
  have n5 : (k == 5) = false := by simpa using h5
  have n6 : (k == 6) = false := by simpa using h6
  simp only [n2, n3, n4, n5, n6, Bool.or_false, Bool.false_eq_true, if_false]
  exact moved0 k l a b' an ap _ _ cn cp bm w n2 n3 n4 n5 n6
end Go.Proofs.YtoamnhhegneegaaDoor
