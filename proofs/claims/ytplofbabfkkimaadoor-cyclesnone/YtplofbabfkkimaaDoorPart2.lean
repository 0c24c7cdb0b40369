/- Texts of this claim, joined: TsPass, TsLeave, TsAbs, TsOpen, TsWi, TsAhead. -/
import Derived.Test.YtplofbabfkkimaaDoorPart1
import Derived.Deep.LoopGhost
import Derived.BigRegion
/- A step is gone that leads to a state with a number: what always stands stays so. -/
namespace Go.Proofs.YtplofbabfkkimaaDoor.Ts
theorem Inv.pass {n : Nat} {out : Nat → List Nat} {s : St} {pd pd' : Nat → Prop} (h : Inv n out s pd) {v i t : Nat} {r : List (Nat × Nat)} (hp : s.path = (v, i) :: r) (ht : (out v)[i]? = some t) (htn : 0 ≤ s.num t) : Inv n out (s.pass v i t r) pd' := by
  obtain ⟨hov, hless⟩ := h.head hp
  have hpa : (s.pass v i t r).path = (v, i + 1) :: r := rfl
  have hil := (List.getElem?_eq_some_iff.1 ht).1
  have hnum : ∀ u, (s.pass v i t r).num u = s.num u := fun _ => rfl
  have hcls : ∀ u, (s.pass v i t r).cls u = s.cls u := fun _ => rfl
  have hop : ∀ u, (s.pass v i t r).op u ↔ s.op u := fun _ => Iff.rfl
  have hlu : ∀ u, u ≠ v → (s.pass v i t r).low u = s.low u := fun u hu => by simp [St.pass, hu]
  have hlle : ∀ u, (s.pass v i t r).low u ≤ s.low u := fun u => by
    by_cases e : u = v
    · subst e
      show (if u = u ∧ s.cls t = -1 then min (s.low u) (s.low t) else s.low u) ≤ s.low u
      split <;> omega
    · rw [hlu u e]; exact Int.le_refl _
  have hlt : s.cls t = -1 → (s.pass v i t r).low v ≤ s.low t := fun hc => by
    show (if v = v ∧ s.cls t = -1 then min (s.low v) (s.low t) else s.low v) ≤ s.low t
    rw [if_pos ⟨rfl, hc⟩]
    omega
  have hlor : (s.pass v i t r).low v = s.low v ∨ (s.cls t = -1 ∧ (s.pass v i t r).low v = s.low t) := by
    show (if v = v ∧ s.cls t = -1 then min (s.low v) (s.low t) else s.low v) = s.low v ∨ (s.cls t = -1 ∧ (if v = v ∧ s.cls t = -1 then min (s.low v) (s.low t) else s.low v) = s.low t)
    by_cases hc : s.cls t = -1
    · rw [if_pos ⟨rfl, hc⟩]
      rcases Int.le_total (s.low v) (s.low t) with h1 | h1
      · exact .inl (Int.min_eq_left h1)
      · exact .inr ⟨hc, Int.min_eq_right h1⟩
    · rw [if_neg (fun h => hc h.2)]
      exact .inl rfl
  have hrv : ∀ x ∈ r, x.1 ≠ v := fun x hx e => by have := hless x hx; rw [e] at this; omega
  have hon : ∀ u, (s.pass v i t r).on u ↔ s.on u := fun u => by
    constructor
    · rintro ⟨j, hj⟩
      rw [hpa] at hj
      rcases List.mem_cons.1 hj with e | e
      · exact ⟨i, by rw [hp, (Prod.mk.inj e).1]; exact List.mem_cons_self⟩
      · exact ⟨j, by rw [hp]; exact List.mem_cons_of_mem _ e⟩
    · rintro ⟨j, hj⟩
      rw [hp] at hj
      rcases List.mem_cons.1 hj with e | e
      · exact ⟨i + 1, by rw [hpa, (Prod.mk.inj e).1]; exact List.mem_cons_self⟩
      · exact ⟨j, by rw [hpa]; exact List.mem_cons_of_mem _ e⟩
  exact {
    rng := h.rng
    cnt := h.cnt
    cnt0 := h.cnt0
    neg := h.neg
    inj := h.inj
    clsn := h.clsn
    pth := by
      have h1 := h.pth
      rw [hp] at h1
      rw [hpa]
      exact List.pairwise_cons.2 ⟨fun y hy => hless y hy, (List.pairwise_cons.1 h1).2⟩
    pop := fun x hx => by
      rw [hpa] at hx
      rcases List.mem_cons.1 hx with rfl | hx
      · exact ⟨hov, hil⟩
      · exact h.pop x (by rw [hp]; exact List.mem_cons_of_mem _ hx)
    lown := fun u hu => Int.le_trans (hlle u) (h.lown u hu)
    lowr := fun u hu => by
      by_cases e : u = v
      · subst e
        rcases hlor with h1 | ⟨hc, h1⟩
        · rw [h1]; exact h.lowr u hu
        · rw [h1]
          obtain ⟨x, h2, h3, h4⟩ := h.lowr t ⟨htn, hc⟩
          exact ⟨x, h2, h3, (Rt.one (List.mem_of_getElem? ht)).trans h4⟩
      · rw [hlu u e]; exact h.lowr u hu
    edge := fun u hu j w hg hw => by
      by_cases e : u = v
      · subst e
        have hj := hg.2 (i + 1) (by rw [hpa]; exact List.mem_cons_self)
        rcases Nat.lt_or_ge j i with h1 | h1
        · obtain ⟨h2, h3⟩ := h.edge u hu j w ⟨hg.1, fun k hk => by rw [h.on_head hp hk]; exact h1⟩ hw
          exact ⟨h2, fun hc => Int.le_trans (hlle u) (h3 hc)⟩
        · obtain rfl : j = i := by omega
          rw [ht] at hw
          cases hw
          exact ⟨htn, fun hc => Int.le_trans (hlt hc) (h.lown t ⟨htn, hc⟩)⟩
      · obtain ⟨h2, h3⟩ := h.edge u hu j w ⟨hg.1, fun k hk => by
          rw [hp] at hk
          rcases List.mem_cons.1 hk with e2 | e2
          · exact absurd (Prod.mk.inj e2).1 e
          · exact hg.2 k (by rw [hpa]; exact List.mem_cons_of_mem _ e2)⟩ hw
        exact ⟨h2, fun hc => by rw [hlu u e]; exact h3 hc⟩
    shut := h.shut
    cyc := h.cyc
    root := h.root
    down := fun x hx u hu hle => by
      rw [hpa] at hx
      rcases List.mem_cons.1 hx with rfl | hx1
      · exact h.down (v, i) (by rw [hp]; exact List.mem_cons_self) u hu hle
      · exact h.down x (by rw [hp]; exact List.mem_cons_of_mem _ hx1) u hu hle
    off := fun u hu ho => by
      have ho2 : ¬ s.on u := fun h1 => ho ((hon u).2 h1)
      have e : u ≠ v := fun e => ho2 ⟨i, by rw [hp, e]; exact List.mem_cons_self⟩
      rw [hlu u e]
      exact h.off u hu ho2
    lows := fun u hu ho => by
      have ho2 : ¬ s.on u := fun h1 => ho ((hon u).2 h1)
      have e : u ≠ v := fun e => ho2 ⟨i, by rw [hp, e]; exact List.mem_cons_self⟩
      obtain ⟨x, hx, h1, h2, h3⟩ := h.lows u hu ho2
      have hmax : ∀ y ∈ (s.pass v i t r).path, (s.pass v i t r).num y.1 < (s.pass v i t r).num u → s.num y.1 ≤ s.num x.1 := fun y hy hlt2 => by
        rw [hpa] at hy
        rcases List.mem_cons.1 hy with rfl | hy1
        · exact h2 (v, i) (by rw [hp]; exact List.mem_cons_self) hlt2
        · exact h2 y (by rw [hp]; exact List.mem_cons_of_mem _ hy1) hlt2
      rw [hp] at hx
      rcases List.mem_cons.1 hx with rfl | hx1
      · refine ⟨(v, i + 1), by rw [hpa]; exact List.mem_cons_self, h1, hmax, .inl ?_⟩
        rw [hlu u e]
        rcases h3 with h4 | ⟨_, c, _, hc, ho3, h5⟩
        · exact Int.le_trans (hlle v) h4
        · simp only at ho3
          rw [ht] at ho3
          cases ho3
          exact Int.le_trans (hlt hc.2) h5
      · refine ⟨x, by rw [hpa]; exact List.mem_cons_of_mem _ hx1, h1, hmax, .inl ?_⟩
        rw [hlu u e, hlu _ (hrv x hx1)]
        rcases h3 with h4 | ⟨hh, _⟩
        · exact h4
        · rw [hp] at hh
          injection hh with hh
          exact absurd (by rw [← hh]) (hrv x hx1)
    link := fun x y r' l hl => by
      rw [hpa] at hl
      cases l with
      | nil =>
        injection hl with e1 e2
        subst e1
        exact h.link (v, i) y r' [] (by rw [hp, e2]; rfl)
      | cons a l =>
        injection hl with _ e2
        exact h.link x y r' ((v, i) :: l) (by rw [hp, e2]; rfl) }
end Go.Proofs.YtplofbabfkkimaaDoor.Ts
/- The walk leaves a state whose steps are all gone: what always stands stays so; a cycle that is whole is told. -/
namespace Go.Proofs.YtplofbabfkkimaaDoor.Ts
/-- No open state has a lesser number than the path's first one. -/
theorem Inv.bottom {n : Nat} {out : Nat → List Nat} {s : St} {pd : Nat → Prop} (h : Inv n out s pd) {v i : Nat} (hp : s.path = [(v, i)]) {u : Nat} (hu : s.op u) : s.num v ≤ s.num u := by
  by_cases ho : s.on u
  · obtain ⟨j, hj⟩ := ho
    rw [hp] at hj
    rw [(Prod.mk.inj (List.mem_singleton.1 hj)).1]
    exact Int.le_refl _
  · obtain ⟨x, hx, h1, _⟩ := h.lows u hu ho
    rw [hp] at hx
    rw [List.mem_singleton.1 hx] at h1
    exact Int.le_of_lt h1
/-- Where all steps of the last state are gone, the lows above it are no less than its own. -/
theorem Inv.above {n : Nat} {out : Nat → List Nat} {s : St} {pd : Nat → Prop} (h : Inv n out s pd) {v i : Nat} {r : List (Nat × Nat)} (hp : s.path = (v, i) :: r) (hi : (out v).length ≤ i) {u : Nat} (hu : s.op u) (hlt : s.num v < s.num u) : ¬ s.on u ∧ s.low v ≤ s.low u := by
  have hoff : ¬ s.on u := fun ⟨j, hj⟩ => by
    rw [hp] at hj
    rcases List.mem_cons.1 hj with e | e
    · rw [(Prod.mk.inj e).1] at hlt; omega
    · have := (h.head hp).2 _ e; simp only at this; omega
  refine ⟨hoff, ?_⟩
  obtain ⟨x, hx, h1, h2, h3⟩ := h.lows u hu hoff
  have hmx := h2 (v, i) (by rw [hp]; exact List.mem_cons_self) hlt
  have hxv : x = (v, i) := by
    rw [hp] at hx
    rcases List.mem_cons.1 hx with e | e
    · exact e
    · have := (h.head hp).2 _ e; simp only at hmx; omega
  subst hxv
  rcases h3 with h4 | ⟨_, c, _, _, ho, _⟩
  · exact h4
  · simp only at ho
    rw [List.getElem?_eq_none hi] at ho
    cases ho
theorem Inv.leave_on {n : Nat} {out : Nat → List Nat} {s : St} {pd : Nat → Prop} (h : Inv n out s pd) {v i : Nat} {r : List (Nat × Nat)} (hp : s.path = (v, i) :: r) (hi : (out v).length ≤ i) (hlow : s.low v < s.num v) : Inv n out (s.leave v r) (fun c => c = v) := by
  obtain ⟨hov, hless⟩ := h.head hp
  have hpa : (s.leave v r).path = r := rfl
  have hcls : ∀ u, (s.leave v r).cls u = s.cls u := fun u => by
    show (if s.num v ≤ s.low v ∧ s.num v ≤ s.num u ∧ s.cls u = -1 then (v : Int) else s.cls u) = s.cls u
    rw [if_neg (fun hc => by have := hc.1; omega)]
  have hop : ∀ u, (s.leave v r).op u ↔ s.op u := fun u => by unfold St.op; rw [hcls]; exact Iff.rfl
  have hrp : ∀ x ∈ r, x ∈ s.path := fun x hx => by rw [hp]; exact List.mem_cons_of_mem _ hx
  have hpr := h.pth
  rw [hp] at hpr
  have hpr2 := (List.pairwise_cons.1 hpr).2
  obtain ⟨y, r', hr⟩ : ∃ y r', r = y :: r' := by
    cases r with
    | nil =>
      obtain ⟨u, h1, h2, _⟩ := h.lowr v hov
      have := h.bottom hp h1
      omega
    | cons y r' => exact ⟨y, r', rfl⟩
  have hylt : s.num y.1 < s.num v := hless y (by rw [hr]; exact List.mem_cons_self)
  have hymax : ∀ z ∈ r, s.num z.1 ≤ s.num y.1 := fun z hz => by
    rw [hr] at hz hpr2
    rcases List.mem_cons.1 hz with e | e
    · rw [e]; exact Int.le_refl _
    · exact Int.le_of_lt ((List.pairwise_cons.1 hpr2).1 z e)
  have hlk : (out y.1)[y.2]? = some v := h.link (v, i) y r' [] (by rw [hp, hr]; rfl)
  have hyh : (s.leave v r).path.head? = some y := by rw [hpa, hr]; rfl
  have hym : y ∈ (s.leave v r).path := by rw [hpa, hr]; exact List.mem_cons_self
  have hon : ∀ u, u ≠ v → ¬ (s.leave v r).on u → ¬ s.on u := fun u hu ho ⟨j, hj⟩ => by
    rw [hp] at hj
    rcases List.mem_cons.1 hj with e | e
    · exact hu (Prod.mk.inj e).1
    · exact ho ⟨j, e⟩
  exact {
    rng := h.rng
    cnt := h.cnt
    cnt0 := h.cnt0
    neg := h.neg
    inj := h.inj
    clsn := fun u hu => h.clsn u (by rw [← hcls]; exact hu)
    pth := hpr2
    pop := fun x hx => ⟨(hop _).2 (h.pop x (hrp x hx)).1, (h.pop x (hrp x hx)).2⟩
    lown := fun u hu => h.lown u ((hop u).1 hu)
    lowr := fun u hu => by
      obtain ⟨x, h1, h2, h3⟩ := h.lowr u ((hop u).1 hu)
      exact ⟨x, (hop x).2 h1, h2, h3⟩
    edge := fun u hu j t hg ht => by
      rw [hcls]
      by_cases e : u = v
      · subst e
        exact h.edge u ((hop u).1 hu) j t ⟨hg.1, fun k hk => by rw [h.on_head hp hk]; have := hg.1; omega⟩ ht
      · exact h.edge u ((hop u).1 hu) j t ⟨hg.1, fun k hk => by
          rw [hp] at hk
          rcases List.mem_cons.1 hk with e2 | e2
          · exact absurd (Prod.mk.inj e2).1 e
          · exact hg.2 k e2⟩ ht
    shut := fun u hu t ht => by rw [hcls] at hu ⊢; exact h.shut u hu t ht
    cyc := fun a b ha hb => by rw [hcls] at ha hb; rw [hcls, hcls]; exact h.cyc a b ha hb
    root := fun u hu => by
      rw [hcls] at hu
      obtain ⟨x, h1, h2, h3⟩ := h.root u hu
      exact ⟨x, by rw [hcls]; exact h1, by rw [hcls]; exact h2, h3⟩
    down := fun x hx u hu hle => h.down x (hrp x hx) u ((hop u).1 hu) hle
    off := fun u hu ho => by
      by_cases e : u = v
      · subst e; exact hlow
      · exact h.off u ((hop u).1 hu) (hon u e ho)
    lows := fun u hu ho => by
      have hu1 := (hop u).1 hu
      by_cases e : u = v
      · subst e
        exact ⟨y, hym, hylt, fun z hz _ => hymax z hz, .inr ⟨hyh, u, rfl, hu, hlk, Int.le_refl _⟩⟩
      · obtain ⟨x, hx, h1, h2, h3⟩ := h.lows u hu1 (hon u e ho)
        rw [hp] at hx
        rcases List.mem_cons.1 hx with rfl | hx1
        · simp only at h1
          have h4 := (h.above hp hi hu1 h1).2
          exact ⟨y, hym, Int.lt_trans hylt h1, fun z hz _ => hymax z hz, .inr ⟨hyh, v, rfl, (hop v).2 hov, hlk, h4⟩⟩
        · refine ⟨x, hx1, h1, fun z hz hlt => h2 z (hrp z hz) hlt, .inl ?_⟩
          rcases h3 with h4 | ⟨hh, _⟩
          · exact h4
          · rw [hp] at hh
            injection hh with hh
            have := hless x hx1
            rw [← hh] at this
            simp at this
    link := fun x z r2 l hl => h.link x z r2 ((v, i) :: l) (by rw [hp, ← hpa, hl]; rfl) }
theorem Inv.leave_whole {n : Nat} {out : Nat → List Nat} {s : St} {pd pd' : Nat → Prop} (h : Inv n out s pd) {v i : Nat} {r : List (Nat × Nat)} (hp : s.path = (v, i) :: r) (hi : (out v).length ≤ i) (hlow : s.num v ≤ s.low v) : Inv n out (s.leave v r) pd' := by
  obtain ⟨hov, hless⟩ := h.head hp
  have hpa : (s.leave v r).path = r := rfl
  have hrp : ∀ x ∈ r, x ∈ s.path := fun x hx => by rw [hp]; exact List.mem_cons_of_mem _ hx
  have hvp : (v, i) ∈ s.path := by rw [hp]; exact List.mem_cons_self
  have hpr := h.pth
  rw [hp] at hpr
  have hpr2 := (List.pairwise_cons.1 hpr).2
  obtain ⟨C, hC⟩ : ∃ C : Nat → Prop, C = fun u => s.op u ∧ s.num v ≤ s.num u := ⟨_, rfl⟩
  have hCi : ∀ u, C u ↔ s.op u ∧ s.num v ≤ s.num u := fun u => by rw [hC]
  have hin : ∀ u, C u → (s.leave v r).cls u = (v : Int) := fun u hu => by
    show (if s.num v ≤ s.low v ∧ s.num v ≤ s.num u ∧ s.cls u = -1 then (v : Int) else s.cls u) = _
    rw [if_pos ⟨hlow, ((hCi u).1 hu).2, ((hCi u).1 hu).1.2⟩]
  have hold : ∀ u, s.cls u ≠ -1 → (s.leave v r).cls u = s.cls u := fun u hu => by
    show (if s.num v ≤ s.low v ∧ s.num v ≤ s.num u ∧ s.cls u = -1 then (v : Int) else s.cls u) = _
    rw [if_neg (fun hc => hu hc.2.2)]
  have hsome : ∀ u, (s.leave v r).cls u ≠ -1 → C u ∨ s.cls u ≠ -1 := fun u hu => by
    have h1 : (if s.num v ≤ s.low v ∧ s.num v ≤ s.num u ∧ s.cls u = -1 then (v : Int) else s.cls u) ≠ -1 := hu
    by_cases hc : s.num v ≤ s.low v ∧ s.num v ≤ s.num u ∧ s.cls u = -1
    · refine .inl ((hCi u).2 ⟨⟨?_, hc.2.2⟩, hc.2.1⟩)
      have := hov.1
      omega
    · rw [if_neg hc] at h1
      exact .inr h1
  have hsome2 : ∀ u, C u ∨ s.cls u ≠ -1 → (s.leave v r).cls u ≠ -1 := fun u hu => by
    rcases hu with hu | hu
    · rw [hin u hu]; omega
    · rw [hold u hu]; exact hu
  have hop : ∀ u, (s.leave v r).op u ↔ s.op u ∧ s.num u < s.num v := fun u => by
    constructor
    · rintro ⟨h1, h2⟩
      have h1' : 0 ≤ s.num u := h1
      have hc : s.cls u = -1 := Classical.byContradiction fun hc => hsome2 u (.inr hc) h2
      refine ⟨⟨h1', hc⟩, Classical.byContradiction fun hn => hsome2 u (.inl ((hCi u).2 ⟨⟨h1', hc⟩, by omega⟩)) h2⟩
    · rintro ⟨h1, h2⟩
      refine ⟨h1.1, Classical.byContradiction fun hc => ?_⟩
      rcases hsome u hc with h3 | h3
      · have := ((hCi u).1 h3).2; omega
      · exact h3 h1.2
  have hCv : C v := (hCi v).2 ⟨hov, Int.le_refl _⟩
  have hlowC : ∀ u, C u → s.num v ≤ s.low u := fun u hu => by
    obtain ⟨h1, h2⟩ := (hCi u).1 hu
    by_cases e : s.num v = s.num u
    · rw [← h.inj v u hov.1 e]; exact hlow
    · have := (h.above hp hi h1 (by omega)).2
      omega
  have hto : ∀ u, C u → Rt out v u := fun u hu => h.down (v, i) hvp u ((hCi u).1 hu).1 ((hCi u).1 hu).2
  have hfrom : ∀ (k : Nat) (u : Nat), C u → s.num u ≤ s.num v + (k : Int) → Rt out u v := fun k => by
    induction k with
    | zero =>
      intro u hu hle
      have h1 := ((hCi u).1 hu).2
      rw [h.inj v u hov.1 (by omega)]
      exact .refl _
    | succ k ih =>
      intro u hu hle
      by_cases e : s.num u ≤ s.num v + (k : Int)
      · exact ih u hu e
      · obtain ⟨h1, h2⟩ := (hCi u).1 hu
        have h3 := h.off u h1 (h.above hp hi h1 (by omega)).1
        obtain ⟨x, h4, h5, h6⟩ := h.lowr u h1
        have h7 := hlowC u hu
        exact h6.trans (ih x ((hCi x).2 ⟨h4, by omega⟩) (by omega))
  have hback : ∀ u, C u → Rt out u v := fun u hu => hfrom (s.num u - s.num v).toNat u hu (by have := ((hCi u).1 hu).2; omega)
  have hstay : ∀ u, (C u ∨ s.cls u ≠ -1) → ∀ t ∈ out u, (C t ∨ s.cls t ≠ -1) := fun u hu t ht => by
    rcases hu with hu | hu
    · obtain ⟨h1, h2⟩ := (hCi u).1 hu
      obtain ⟨j, hj⟩ := List.mem_iff_getElem?.1 ht
      have hjl := (List.getElem?_eq_some_iff.1 hj).1
      have hg : s.gone out u j := ⟨hjl, fun k hk => by
        by_cases e : u = v
        · subst e
          rw [h.on_head hp hk]; omega
        · have h3 : s.num v < s.num u := by
            rcases Int.lt_or_le (s.num v) (s.num u) with h4 | h4
            · exact h4
            · exact absurd (h.inj u v h1.1 (by omega)) e
          exact absurd ⟨k, hk⟩ (h.above hp hi h1 h3).1⟩
      obtain ⟨h3, h4⟩ := h.edge u h1 j t hg hj
      by_cases hc : s.cls t = -1
      · have h5 := h4 hc
        have h6 := hlowC u hu
        exact .inl ((hCi t).2 ⟨⟨h3, hc⟩, by omega⟩)
      · exact .inr hc
    · exact .inr (h.shut u hu t ht)
  have hmix : ∀ a b, s.cls a ≠ -1 → C b → ¬ (s.leave v r).cls a = (s.leave v r).cls b ∧ ¬ Rt out a b := fun a b ha hb => by
    refine ⟨fun e => ?_, fun hr => ?_⟩
    · rw [hold a ha, hin b hb] at e
      obtain ⟨x, h1, h2, _⟩ := h.root a ha
      rw [h1] at e
      have : x = v := by omega
      rw [this] at h2
      exact h2 hov.2
    · exact Rt.stay (P := fun w => s.cls w ≠ -1) h.shut hr ha ((hCi b).1 hb).1.2
  exact {
    rng := h.rng
    cnt := h.cnt
    cnt0 := h.cnt0
    neg := h.neg
    inj := h.inj
    clsn := fun u hu => by
      rcases hsome u hu with h1 | h1
      · exact ((hCi u).1 h1).1.1
      · exact h.clsn u h1
    pth := hpr2
    pop := fun x hx => ⟨(hop _).2 ⟨(h.pop x (hrp x hx)).1, hless x hx⟩, (h.pop x (hrp x hx)).2⟩
    lown := fun u hu => h.lown u ((hop u).1 hu).1
    lowr := fun u hu => by
      obtain ⟨h1, h2⟩ := (hop u).1 hu
      obtain ⟨x, h3, h4, h5⟩ := h.lowr u h1
      have h6 := h.lown u h1
      exact ⟨x, (hop x).2 ⟨h3, by omega⟩, h4, h5⟩
    edge := fun u hu j t hg ht => by
      obtain ⟨h1, h2⟩ := (hop u).1 hu
      have e : u ≠ v := fun e => by rw [e] at h2; omega
      obtain ⟨h3, h4⟩ := h.edge u h1 j t ⟨hg.1, fun k hk => by
        rw [hp] at hk
        rcases List.mem_cons.1 hk with e2 | e2
        · exact absurd (Prod.mk.inj e2).1 e
        · exact hg.2 k e2⟩ ht
      refine ⟨h3, fun hc => h4 (Classical.byContradiction fun hn => hsome2 t (.inr hn) hc)⟩
    shut := fun u hu t ht => hsome2 t (hstay u (hsome u hu) t ht)
    cyc := fun a b ha hb => by
      rcases hsome a ha with h1 | h1
      · rcases hsome b hb with h2 | h2
        · rw [hin a h1, hin b h2]
          exact ⟨fun _ => ⟨(hback a h1).trans (hto b h2), (hback b h2).trans (hto a h1)⟩, fun _ => rfl⟩
        · have h3 := hmix b a h2 h1
          exact ⟨fun e => absurd e.symm h3.1, fun e => absurd e.2 h3.2⟩
      · rcases hsome b hb with h2 | h2
        · have h3 := hmix a b h1 h2
          exact ⟨fun e => absurd e h3.1, fun e => absurd e.1 h3.2⟩
        · rw [hold a h1, hold b h2]
          exact h.cyc a b h1 h2
    root := fun u hu => by
      rcases hsome u hu with h1 | h1
      · exact ⟨v, hin u h1, by rw [hin v hCv]; omega, hto u h1, hback u h1⟩
      · obtain ⟨x, h2, h3, h4⟩ := h.root u h1
        exact ⟨x, by rw [hold u h1]; exact h2, by rw [hold x h3]; exact h3, h4⟩
    down := fun x hx u hu hle => h.down x (hrp x hx) u ((hop u).1 hu).1 hle
    off := fun u hu ho => by
      obtain ⟨h1, h2⟩ := (hop u).1 hu
      refine h.off u h1 fun ⟨j, hj⟩ => ?_
      rw [hp] at hj
      rcases List.mem_cons.1 hj with e | e
      · rw [(Prod.mk.inj e).1] at h2; omega
      · exact ho ⟨j, e⟩
    lows := fun u hu ho => by
      obtain ⟨h1, h2⟩ := (hop u).1 hu
      obtain ⟨x, hx, h3, h4, h5⟩ := h.lows u h1 fun ⟨j, hj⟩ => by
        rw [hp] at hj
        rcases List.mem_cons.1 hj with e | e
        · rw [(Prod.mk.inj e).1] at h2; omega
        · exact ho ⟨j, e⟩
      rw [hp] at hx
      rcases List.mem_cons.1 hx with rfl | hx1
      · simp only at h3; omega
      · refine ⟨x, hx1, h3, fun z hz hlt => h4 z (hrp z hz) hlt, .inl ?_⟩
        rcases h5 with h6 | ⟨hh, _⟩
        · exact h6
        · rw [hp] at hh
          injection hh with hh
          have := hless x hx1
          rw [← hh] at this
          simp at this
    link := fun x z r2 l hl => h.link x z r2 ((v, i) :: l) (by rw [hp, ← hpa, hl]; rfl) }
/-- Behind a walk that has left all of its path, a state that has a number has a class. -/
theorem Inv.whole {n : Nat} {out : Nat → List Nat} {s : St} {pd : Nat → Prop} (h : Inv n out s pd) (hp : s.path = []) {v : Nat} (hv : 0 ≤ s.num v) : s.cls v ≠ -1 := fun hc => by
  obtain ⟨x, hx, _⟩ := h.lows v ⟨hv, hc⟩ fun ⟨j, hj⟩ => by rw [hp] at hj; simp at hj
  rw [hp] at hx
  simp at hx
end Go.Proofs.YtplofbabfkkimaaDoor.Ts
/- What the walk's lists in memory say as a plain state; its moves are the plain ones. -/
namespace Go.Proofs.YtplofbabfkkimaaDoor.Ts
def Wk.st (x : Wk) (path : List (Nat × Nat)) : St := ⟨path, x.cnt, fun u => x.ns[u]?.getD (-1), fun u => x.ls[u]?.getD 0, fun u => x.cs[u]?.getD (-1)⟩
theorem getD_set (l : List Int) (v u : Nat) (z d : Int) (hv : v < l.length) : (l.set v z)[u]?.getD d = if u = v then z else l[u]?.getD d := by
  by_cases e : u = v
  · subst e
    rw [if_pos rfl, List.getElem?_set_self hv]
    rfl
  · rw [if_neg e, List.getElem?_set_ne (fun h => e h.symm)]
theorem st_enter (x : Wk) (path : List (Nat × Nat)) (v : Nat) (vo : Value) (hn : v < x.ns.length) (hl : v < x.ls.length) : (x.numd v vo).st ((v, 0) :: path) = (x.st path).enter v := by
  unfold Wk.st St.enter Wk.numd
  simp only
  congr 1
  · funext u; exact getD_set _ _ _ _ _ hn
  · funext u; exact getD_set _ _ _ _ _ hl
theorem st_pass (x : Wk) (out : Nat → List Nat) (r : List (Nat × Nat)) {i s st k j t : Nat} (h : (out s)[k + j]? = some t) (hs : s < x.ls.length) (ht : t < x.cs.length) : (x.gone out i s st k (j + 1)).st ((s, k + j + 1) :: r) = ((x.gone out i s st k j).st ((s, k + j) :: r)).pass s (k + j) t r := by
  have h1 := gone_ls x out (i := i) (st := st) h
  obtain ⟨z, hz⟩ : ∃ z, x.cs[t]? = some z := ⟨_, List.getElem?_eq_getElem ht⟩
  unfold Wk.st St.pass
  simp only
  rw [h1]
  have hs2 : s < (x.gone out i s st k j).ls.length := Nat.lt_of_lt_of_eq hs (passes_length _ _ _ _).symm
  have e2 : (x.gone out i s st k j).cs = x.cs := rfl
  congr 1
  funext u
  rw [e2, hz]
  unfold pass1
  simp only [Option.getD_some]
  by_cases hc : z = -1
  · rw [if_pos (by rw [hz, hc]), getD_set _ _ _ _ _ hs2]
    by_cases e : u = s
    · rw [if_pos e, if_pos ⟨e, hc⟩]
    · rw [if_neg e, if_neg (fun h => e h.1)]
  · rw [if_neg (by rw [hz]; intro e; exact hc (Option.some.inj e)), if_neg (fun h => hc h.2)]
theorem st_leave (x : Wk) (pre post : List Nat) (vo : Value) {v i : Nat} (r : List (Nat × Nat)) (hlow : (x.st ((v, i) :: r)).num v ≤ (x.st ((v, i) :: r)).low v) (hm : ∀ u, u ∈ v :: post ↔ (x.st ((v, i) :: r)).num v ≤ (x.st ((v, i) :: r)).num u ∧ (x.st ((v, i) :: r)).cls u = -1) (hl : ∀ u ∈ v :: post, u < x.cs.length) : (x.pop v pre (v :: post) vo).st r = (x.st ((v, i) :: r)).leave v r := by
  unfold St.leave
  show St.mk _ _ _ _ _ = St.mk _ _ _ _ _
  congr 1
  funext u
  by_cases hu : u ∈ v :: post
  · rw [if_pos ⟨hlow, (hm u).1 hu⟩]
    show (setAll x.cs (v :: post) (v : Int))[u]?.getD (-1) = _
    rw [setAll_in _ _ _ hu (hl u hu)]
    rfl
  · rw [if_neg (fun h => hu ((hm u).2 h.2))]
    show (setAll x.cs (v :: post) (v : Int))[u]?.getD (-1) = _
    rw [setAll_not _ _ _ hu]
    rfl
theorem st_stay (x : Wk) {v i : Nat} (r : List (Nat × Nat)) (hlow : (x.st ((v, i) :: r)).low v < (x.st ((v, i) :: r)).num v) : x.st r = (x.st ((v, i) :: r)).leave v r := by
  unfold St.leave
  show St.mk _ _ _ _ _ = St.mk _ _ _ _ _
  congr 1
  funext u
  rw [if_neg (fun h => by have := h.1; omega)]
  rfl
end Go.Proofs.YtplofbabfkkimaaDoor.Ts
/- The open states, by rising numbers: what the walk's moves make of their list. Plain facts. -/
namespace Go.Proofs.YtplofbabfkkimaaDoor.Ts
structure OpL (s : St) (os : List Nat) : Prop where
  mem : ∀ u, u ∈ os ↔ s.op u
  ord : os.Pairwise fun a b => s.num a < s.num b
theorem OpL.nodup {s : St} {os : List Nat} (h : OpL s os) : os.Nodup := h.ord.imp fun hab e => by rw [e] at hab; omega
theorem OpL.start : OpL ⟨[], 0, fun _ => -1, fun _ => 0, fun _ => -1⟩ [] := ⟨fun u => by simp [St.op], .nil⟩
theorem OpL.enter {n : Nat} {out : Nat → List Nat} {s : St} {pd : Nat → Prop} {os : List Nat} (h : OpL s os) (hI : Inv n out s pd) {v : Nat} (hv : s.num v = -1) : OpL (s.enter v) (os ++ [v]) := by
  have hcv : s.cls v = -1 := Classical.byContradiction fun hc => by have := hI.clsn v hc; omega
  have hnu : ∀ u, u ≠ v → (s.enter v).num u = s.num u := fun u hu => by simp [St.enter, hu]
  have hnv : (s.enter v).num v = s.cnt := by simp [St.enter]
  have hne : ∀ u ∈ os, u ≠ v := fun u hu e => by have := ((h.mem u).1 hu).1; rw [e] at this; omega
  refine ⟨fun u => ?_, List.pairwise_append.2 ⟨h.ord.imp_of_mem fun {a b} ha hb hab => ?_, by simp, fun a ha b hb => ?_⟩⟩
  · rw [List.mem_append, List.mem_singleton]
    by_cases e : u = v
    · subst e
      exact ⟨fun _ => ⟨by rw [hnv]; exact hI.cnt0, hcv⟩, fun _ => .inr rfl⟩
    · constructor
      · rintro (h1 | h1)
        · have h2 := (h.mem u).1 h1
          exact ⟨by rw [hnu u e]; exact h2.1, h2.2⟩
        · exact absurd h1 e
      · rintro ⟨h1, h2⟩
        rw [hnu u e] at h1
        exact .inl ((h.mem u).2 ⟨h1, h2⟩)
  · rw [hnu a (hne a ha), hnu b (hne b hb)]; exact hab
  · rw [List.mem_singleton.1 hb, hnv, hnu a (hne a ha)]; exact hI.cnt a
theorem OpL.pass {s : St} {os : List Nat} (h : OpL s os) (v i t : Nat) (r : List (Nat × Nat)) : OpL (s.pass v i t r) os := ⟨h.mem, h.ord⟩
/-- An open state parts the list: from it on stand just the open ones whose numbers are no less. -/
theorem OpL.split {s : St} {os : List Nat} (h : OpL s os) {v : Nat} (hv : s.op v) : ∃ pre post, os = pre ++ v :: post ∧ (∀ u, u ∈ v :: post ↔ s.num v ≤ s.num u ∧ s.cls u = -1) ∧ ∀ u ∈ pre, s.num u < s.num v := by
  obtain ⟨pre, post, rfl⟩ := List.append_of_mem ((h.mem v).2 hv)
  obtain ⟨_, h2, h3⟩ := List.pairwise_append.1 h.ord
  have hpre : ∀ u ∈ pre, s.num u < s.num v := fun u hu => h3 u hu v List.mem_cons_self
  refine ⟨pre, post, rfl, fun u => ⟨fun hu => ?_, fun hu => ?_⟩, hpre⟩
  · have hop := (h.mem u).1 (List.mem_append.2 (.inr hu))
    rcases List.mem_cons.1 hu with e | e
    · rw [e]; exact ⟨Int.le_refl _, hv.2⟩
    · exact ⟨Int.le_of_lt ((List.pairwise_cons.1 h2).1 u e), hop.2⟩
  · have hop : s.op u := ⟨Int.le_trans hv.1 hu.1, hu.2⟩
    rcases List.mem_append.1 ((h.mem u).2 hop) with h1 | h1
    · have := hpre u h1; omega
    · exact h1
theorem OpL.leave_on {s : St} {os : List Nat} (h : OpL s os) {v : Nat} (r : List (Nat × Nat)) (hlow : s.low v < s.num v) : OpL (s.leave v r) os := by
  have hcls : ∀ u, (s.leave v r).cls u = s.cls u := fun u => by
    show (if s.num v ≤ s.low v ∧ s.num v ≤ s.num u ∧ s.cls u = -1 then (v : Int) else s.cls u) = s.cls u
    rw [if_neg (fun hc => by have := hc.1; omega)]
  exact ⟨fun u => by rw [h.mem u]; unfold St.op; rw [hcls]; exact Iff.rfl, h.ord⟩
theorem OpL.leave_whole {s : St} {pre post : List Nat} {v : Nat} (h : OpL s (pre ++ v :: post)) (r : List (Nat × Nat)) (hlow : s.num v ≤ s.low v) (hm : ∀ u, u ∈ v :: post ↔ s.num v ≤ s.num u ∧ s.cls u = -1) (hpre : ∀ u ∈ pre, s.num u < s.num v) : OpL (s.leave v r) pre := by
  refine ⟨fun u => ?_, (List.pairwise_append.1 h.ord).1⟩
  have hc : (s.leave v r).cls u = if s.num v ≤ s.low v ∧ s.num v ≤ s.num u ∧ s.cls u = -1 then (v : Int) else s.cls u := rfl
  constructor
  · intro hu
    have hop := (h.mem u).1 (List.mem_append.2 (.inl hu))
    refine ⟨hop.1, ?_⟩
    rw [hc, if_neg (fun e => by have := hpre u hu; have := e.2.1; omega)]
    exact hop.2
  · rintro ⟨h1, h2⟩
    rw [hc] at h2
    by_cases e : s.num v ≤ s.low v ∧ s.num v ≤ s.num u ∧ s.cls u = -1
    · rw [if_pos e] at h2; omega
    · rw [if_neg e] at h2
      rcases List.mem_append.1 ((h.mem u).2 ⟨h1, h2⟩) with h3 | h3
      · exact h3
      · exact absurd ⟨hlow, (hm u).1 h3⟩ e
end Go.Proofs.YtplofbabfkkimaaDoor.Ts
/- The walk between two goOns: its lists keep the plain invariant; what number, ahead and close make of it. Plain facts. -/
namespace Go.Proofs.YtplofbabfkkimaaDoor.Ts
/-- The path's entries in memory: the last state stands last, each at stage 1. -/
def seen (path : List (Nat × Nat)) : List (Nat × Nat × Nat) := path.reverse.map fun p => (p.1, 1, p.2)
theorem seen_cons (p : Nat × Nat) (r : List (Nat × Nat)) : seen (p :: r) = seen r ++ [(p.1, 1, p.2)] := by simp [seen]
theorem seen_length (path : List (Nat × Nat)) : (seen path).length = path.length := by simp [seen]
structure Wi (n : Nat) (out : Nat → List Nat) (x : Wk) (path : List (Nat × Nat)) (os : List Nat) (pd : Nat → Prop) : Prop where
  inv : Inv n out (x.st path) pd
  opl : OpL (x.st path) os
  os : x.os = cast os
  ns : x.ns.length = n
  ls : x.ls.length = n
  cs : x.cs.length = n
theorem Wi.ps {n : Nat} {out : Nat → List Nat} {x : Wk} {path : List (Nat × Nat)} {os : List Nat} {pd : Nat → Prop} (h : Wi n out x path os pd) (vp : Value) (ps : List (Nat × Nat × Nat)) : Wi n out { x with vp := vp, ps := ps } path os pd := ⟨h.inv, h.opl, h.os, h.ns, h.ls, h.cs⟩
theorem Wi.number {n : Nat} {out : Nat → List Nat} {x : Wk} {path : List (Nat × Nat)} {os : List Nat} {pd pd' : Nat → Prop} (h : Wi n out x path os pd) {v : Nat} (hv : v < n) (hn : x.ns[v]? = some (-1)) (hp : path = [] ∨ ∃ p i r, path = (p, i) :: r ∧ (out p)[i]? = some v) (vo : Value) : Wi n out (x.numd v vo) ((v, 0) :: path) (os ++ [v]) pd' := by
  have hnum : (x.st path).num v = -1 := by show x.ns[v]?.getD (-1) = -1; rw [hn]; rfl
  have hst := st_enter x path v vo (by rw [h.ns]; exact hv) (by rw [h.ls]; exact hv)
  refine ⟨by rw [hst]; exact h.inv.enter hv hnum hp, by rw [hst]; exact h.opl.enter h.inv hnum, ?_, ?_, ?_, h.cs⟩
  · show x.os ++ [(v : Int)] = _
    rw [h.os, cast_snoc]
  · show (x.ns.set v x.cnt).length = n
    rw [List.length_set, h.ns]
  · show (x.ls.set v x.cnt).length = n
    rw [List.length_set, h.ls]
theorem Wi.gone {n : Nat} {out : Nat → List Nat} {x : Wk} {s k : Nat} {r : List (Nat × Nat)} {os : List Nat} {pd : Nat → Prop} (h : Wi n out x ((s, k) :: r) os pd) (hs : s < n) (hout : ∀ t ∈ out s, t < n) (i st : Nat) (hps : x.ps[i]? = some (s, st, k)) (j : Nat) (hle : k + j ≤ (out s).length) (hnum : ∀ m t, k ≤ m → m < k + j → (out s)[m]? = some t → x.ns[t]? ≠ some (-1)) : ∃ pd', Wi n out (x.gone out i s st k j) ((s, k + j) :: r) os pd' := by
  induction j with
  | zero => rw [gone_zero x out hps]; exact ⟨pd, h⟩
  | succ j ih =>
    obtain ⟨pd', h1⟩ := ih (by omega) fun m t a b => hnum m t a (by omega)
    obtain ⟨t, ht⟩ : ∃ t, (out s)[k + j]? = some t := ⟨_, List.getElem?_eq_getElem (by omega)⟩
    have htn : t < n := hout t (List.mem_of_getElem? ht)
    have hst := st_pass x out r (i := i) (st := st) ht (by rw [h.ls]; exact hs) (by rw [h.cs]; exact htn)
    obtain ⟨z, hz⟩ : ∃ z, x.ns[t]? = some z := ⟨_, List.getElem?_eq_getElem (by rw [h.ns]; exact htn)⟩
    have hz1 : z ≠ -1 := fun e => hnum (k + j) t (by omega) (by omega) ht (by rw [hz, e])
    have hnt : 0 ≤ ((x.gone out i s st k j).st ((s, k + j) :: r)).num t := by
      rcases h1.inv.neg t with h2 | h2
      · exfalso
        have h3 : x.ns[t]?.getD (-1) = -1 := h2
        rw [hz] at h3
        exact hz1 h3
      · exact h2
    refine ⟨fun _ => False, by rw [← Nat.add_assoc, hst]; exact h1.inv.pass rfl ht hnt, by rw [← Nat.add_assoc, hst]; exact h1.opl.pass _ _ _ _, h.os, h.ns, ?_, h.cs⟩
    exact (passes_length _ _ _ _).trans h.ls
/-- The state is left; its low is less than its number. -/
theorem Wi.leave_on {n : Nat} {out : Nat → List Nat} {x : Wk} {v k : Nat} {r : List (Nat × Nat)} {os : List Nat} {pd : Nat → Prop} (h : Wi n out x ((v, k) :: r) os pd) (hk : (out v).length ≤ k) {lo nu : Int} (hlo : x.ls[v]? = some lo) (hnu : x.ns[v]? = some nu) (hlt : lo < nu) : Wi n out x r os (fun c => c = v) := by
  have hlow : (x.st ((v, k) :: r)).low v < (x.st ((v, k) :: r)).num v := by show x.ls[v]?.getD 0 < x.ns[v]?.getD (-1); rw [hlo, hnu]; exact hlt
  have hst := st_stay x r hlow
  exact ⟨by rw [hst]; exact h.inv.leave_on rfl hk hlow, by rw [hst]; exact h.opl.leave_on r hlow, h.os, h.ns, h.ls, h.cs⟩
/-- The state is left; its cycle is whole. -/
theorem Wi.leave_whole {n : Nat} {out : Nat → List Nat} {x : Wk} {v k : Nat} {r : List (Nat × Nat)} {os : List Nat} {pd pd' : Nat → Prop} (h : Wi n out x ((v, k) :: r) os pd) (hk : (out v).length ≤ k) {lo nu : Int} (hlo : x.ls[v]? = some lo) (hnu : x.ns[v]? = some nu) (hlt : ¬ lo < nu) {pre post : List Nat} (ho : os = pre ++ v :: post) (hm : ∀ u, u ∈ v :: post ↔ (x.st ((v, k) :: r)).num v ≤ (x.st ((v, k) :: r)).num u ∧ (x.st ((v, k) :: r)).cls u = -1) (hpre : ∀ u ∈ pre, (x.st ((v, k) :: r)).num u < (x.st ((v, k) :: r)).num v) (vo : Value) : Wi n out (x.pop v pre (v :: post) vo) r pre pd' := by
  have hlow : (x.st ((v, k) :: r)).num v ≤ (x.st ((v, k) :: r)).low v := by show x.ns[v]?.getD (-1) ≤ x.ls[v]?.getD 0; rw [hlo, hnu]; simp only [Option.getD_some]; omega
  have hin : ∀ u ∈ v :: post, u < x.cs.length := fun u hu => by
    rw [h.cs]
    exact h.inv.rng u ((h.opl.mem u).1 (by rw [ho]; exact List.mem_append.2 (.inr hu))).1
  have hst := st_leave x pre post vo r hlow hm hin
  have hop := h.opl
  rw [ho] at hop
  exact ⟨by rw [hst]; exact h.inv.leave_whole rfl hk hlow, by rw [hst]; exact hop.leave_whole r hlow hm hpre, rfl, h.ns, h.ls, (setAll_length _ _ _).trans h.cs⟩
end Go.Proofs.YtplofbabfkkimaaDoor.Ts
/- tauscc: contract of the walk's ahead. -/
namespace Go.Proofs.YtplofbabfkkimaaDoor.Ts
open Go.RowKit Go.Maps
attribute [local go_sem ↓] Go.wp_at_zero Go.wp_at_succ
set_option linter.unusedSimpArgs false in
set_option maxRecDepth 100000 in
set_option maxHeartbeats 4000000 in
theorem ahead_any (B r n gs os cp : Nat) (x : Wk) (out : Nat → List Nat) (i s st k gp cap : Nat) (w : World) (hM : WkM w B r x) (hS : Sil w r x n out gs os cp) (hvp : x.vp = .slice (some ⟨gp, 0, none⟩) x.ps.length cap) (hp : x.ps[i]? = some (s, st, k)) (hk : k ≤ (out s).length) (hs : s < n) (hout : ∀ t ∈ out s, t < n) (hol : (out s).length ≤ 100000) (hns : x.ns.length = n) (hls : x.ls.length = n) (hcs : x.cs.length = n) :
    Calls Tryd.prog 66 #[.pointer (some ⟨r, 0, none⟩), .pointer (some ⟨gp, i * 3, none⟩)] w fun e w' => ∃ j, Ahead e x out s k j ∧ AhAt w w' B r x out i s st k j := by
  obtain ⟨L, hL⟩ : ∃ L, L = (out s).length := ⟨_, rfl⟩
  have hst : AhAt w w B r x out i s st k 0 := ⟨hk, fun m t h1 h2 => by omega, by rw [gone_zero x out hp]; exact hM, by rw [gone_zero x out hp]; exact Grew.refl _ _ _⟩
  have hpl := (List.getElem?_eq_some_iff.1 hp).1
  have H : Hid _ := And.intro hst (And.intro hS (And.intro hvp (And.intro hp (And.intro hs (And.intro hout (And.intro hol (And.intro hns (And.intro hls (And.intro hcs (And.intro hL (And.intro hpl hM)))))))))))
  clear hst hS hvp hp hs hout hol hns hls hcs hL hpl hM
  go_enter Tryd.func66, Tryd.ntmps66
  go_wp2_with fail
  go_loopg [] (L - k) (fun g wr => ∃ j : Nat, g = L - (k + j) ∧ AhAt w wr B r x out i s st k j)
  case atStart => exact ⟨0, rfl, H.out.1⟩
  case round =>
    obtain ⟨j, rfl, hA⟩ := hrel
    obtain ⟨xj, hxj⟩ : ∃ xj, xj = x.gone out i s st k j := ⟨_, rfl⟩
    have hmj : WkM wr B r xj := by rw [hxj]; exact hA.m
    have hgj : Grew w wr r x xj := by rw [hxj]; exact hA.gw
    have hpj : xj.ps[i]? = some (s, st, k + j) := by rw [hxj]; exact List.getElem?_set_self H.out.2.2.2.2.2.2.2.2.2.2.2.1
    obtain ⟨b0, _, _, _, b4, b5, b6⟩ := seven_cells hmj.box
    obtain ⟨gp', cap', hvj, _, e0, _, e2, ef⟩ := hmj.entry hpj
    have hvp2 : xj.vp = .slice (some ⟨gp, 0, none⟩) x.ps.length cap := by rw [hxj]; exact H.out.2.2.1
    have hlj : xj.ps.length = x.ps.length := by rw [hxj]; exact List.length_set
    rw [hvp2] at hvj
    injection hvj with q1 q2 q3
    injection q1 with q1
    injection q1 with q1
    subst q1
    have hSj := H.out.2.1.grew hgj (by rw [hxj]; rfl)
    obtain ⟨vq, hcq, hIq, _⟩ := hSj.at_ s H.out.2.2.2.2.1
    have hvs := hSj.vs
    rw [hvs] at b0
    obtain ⟨aq, cq, rfl, hcell⟩ := hIq
    rw [cast_length, ← H.out.2.2.2.2.2.2.2.2.2.2.1] at hcq
    obtain ⟨m, hm⟩ : ∃ m, m = k + j := ⟨_, rfl⟩
    rw [← hm] at e2
    have p0 : (0 : Int) ≤ (s : Int) := by omega
    have p1 : (s : Int) < (n : Int) := by have := H.out.2.2.2.2.1; omega
    have p2 : (0 : Int) ≤ (m : Int) := by omega
    have ef0 := ef (i * 3 + 2)
    have HJ : Hid _ := And.intro hA (And.intro hxj (And.intro hmj (And.intro hgj (And.intro hpj (And.intro hlj (And.intro hSj (And.intro hvp2 (And.intro hm hvs))))))))
    by_cases hlt : m < L
    · have r1 : (m : Int) < (L : Int) := by omega
      have hnsj : xj.ns.length = n := by rw [hxj]; exact H.out.2.2.2.2.2.2.2.1
      have hcsj : xj.cs.length = n := by rw [hxj]; exact H.out.2.2.2.2.2.2.2.2.2.1
      have hlsj : xj.ls.length = n := by rw [hxj]; exact (passes_length _ _ _ _).trans H.out.2.2.2.2.2.2.2.2.1
      obtain ⟨t, ht⟩ : ∃ t, (out s)[m]? = some t := ⟨_, List.getElem?_eq_getElem (by have := H.out.2.2.2.2.2.2.2.2.2.2.1; omega)⟩
      have htn : t < n := H.out.2.2.2.2.2.1 t (List.mem_of_getElem? ht)
      obtain ⟨a, rfl, ct⟩ := hcell m (t : Int) (by unfold cast; rw [List.getElem?_map, ht]; rfl)
      obtain ⟨zn, hzn⟩ : ∃ z, xj.ns[t]? = some z := ⟨_, List.getElem?_eq_getElem (by omega)⟩
      obtain ⟨zc, hzc⟩ : ∃ z, xj.cs[t]? = some z := ⟨_, List.getElem?_eq_getElem (by omega)⟩
      obtain ⟨zt, hzt⟩ : ∃ z, xj.ls[t]? = some z := ⟨_, List.getElem?_eq_getElem (by omega)⟩
      obtain ⟨zs, hzs⟩ : ∃ z, xj.ls[s]? = some z := ⟨_, List.getElem?_eq_getElem (by have := H.out.2.2.2.2.1; omega)⟩
      obtain ⟨gn, on, cn, hvn, _, cnn, _⟩ := que_cell (hmj.q.q 1 (xj.vn, xj.ns) rfl) hzn
      obtain ⟨gc, oc, cc, hvc, _, ccc, _⟩ := que_cell (hmj.q.q 3 (xj.vc, xj.cs) rfl) hzc
      obtain ⟨gl, ol, cl, hvl, _, clt, _⟩ := que_cell (hmj.q.q 2 (xj.vl, xj.ls) rfl) hzt
      obtain ⟨gl', ol', cl', hvl', _, cls, fls⟩ := que_cell (hmj.q.q 2 (xj.vl, xj.ls) rfl) hzs
      simp only at hvn hvc hvl hvl'
      rw [hnsj] at hvn
      rw [hcsj] at hvc
      rw [hlsj] at hvl hvl'
      rw [hvl] at hvl'
      injection hvl' with u1 u2 u3
      injection u1 with u1
      injection u1 with u4 u5
      subst u4; subst u5
      rw [hvn] at b4
      rw [hvl] at b5
      rw [hvc] at b6
      have p3 : (0 : Int) ≤ (t : Int) := by omega
      have p5 : IntKind.i64.wrap ((m : Int) + 1) = (m : Int) + 1 := by have := H.out.2.2.2.2.2.2.1; have := H.out.2.2.2.2.2.2.2.2.2.2.1; rw [IntKind.wrap_i64]; omega
      have hme : L - (k + (j + 1)) < L - (k + j) := by omega
      have hmi : (m : Int) + 1 = ((k + (j + 1) : Nat) : Int) := by omega
      have HE : Hid _ := And.intro hme hmi
      clear hme hmi
      have p4 : (t : Int) < (n : Int) := by omega
      have HT : Hid _ := And.intro ht (And.intro hzn (And.intro hzc (And.intro hzt (And.intro hzs (And.intro hvl (And.intro hlsj htn))))))
      clear hA hxj hmj hgj hpj hlj hSj hvp2 hm hvs q2 q3 ef hcell ht hzn hzc hzt hzs hvn hvc hvl u2 u3 hnsj hcsj hlsj
      go_upto_region 1 with fail
      go_region
      go_upto_region 3 with fail
      go_region
      by_cases hfr : zn = -1
      · subst hfr
        go_wp2_with fail
        go_ret2
        refine ⟨j, .inl ⟨t, rfl, ?_, ?_⟩, ?_⟩
        · rw [← HJ.out.2.2.2.2.2.2.2.2.1]; exact HT.out.1
        · have h9 := HT.out.2.1; rw [HJ.out.2.1] at h9; exact h9
        · exact HJ.out.1.below (Below.refl _ _).drew.drew
      · have hnn : x.ns[t]? ≠ some (-1) := fun e => by have h9 := HT.out.2.1; rw [HJ.out.2.1] at h9; exact hfr (Option.some.inj (h9.symm.trans e))
        have hmt : (out s)[k + j]? = some t := by rw [← HJ.out.2.2.2.2.2.2.2.2.1]; exact HT.out.1
        have HN : Hid _ := And.intro hnn hmt
        clear hnn hmt
        go_upto_region 6 with fail
        by_cases hop : zc = -1
        · subst hop
          go_upto_region 7 with fail
          obtain ⟨w1, hw1⟩ : ∃ w1, w1 = wr.drew.drew := ⟨_, rfl⟩
          rw [← hw1]
          have hb1 : Below wr.heap.size wr w1 := by rw [hw1]; exact (Below.refl _ _).drew.drew
          have hm1 := HJ.out.2.2.1.below hb1
          have y0 := cell_up e0 hb1
          have y2 := cell_up e2 hb1
          have y5 := cell_up b5 hb1
          have yt := cell_up clt hb1
          have ys := cell_up cls hb1
          have yf : w1.frozen? ⟨gl, ol + s, none⟩ = false := (World.frozen?_of_block (hb1.block gl (World.block_lt_of_cell? wr _ cls))).trans fls
          have yg : w1.frozen? ⟨gp, i * 3 + 2, none⟩ = false := (World.frozen?_of_block (hb1.block gp (World.block_lt_of_cell? wr _ e2))).trans ef0
          have hks : ∀ (W : World) (z : Int), (W.cell? ⟨r, 5, none⟩ = some (.slice (some ⟨gl, ol, none⟩) n cl) ∧ W.cell? ⟨gp, i * 3, none⟩ = some (.int .i64 s)) → (W.setCell ⟨gl, ol + s, none⟩ (.int .i64 z)).cell? ⟨r, 5, none⟩ = some (.slice (some ⟨gl, ol, none⟩) n cl) ∧ (W.setCell ⟨gl, ol + s, none⟩ (.int .i64 z)).cell? ⟨gp, i * 3, none⟩ = some (.int .i64 s) := fun W z hW => by
            have hf : Foot xj.L gl := ⟨(xj.vl, xj.ls), by simp [Wk.L], by rw [HT.out.2.2.2.2.2.1]; rfl⟩
            have hr : r ≠ gl := fun e => hm1.r_foot (.inr (by rw [e]; exact hf))
            have hp : gp ≠ gl := fun e => hm1.path_list (b := gp) (by rw [HJ.out.2.2.2.2.2.2.2.1]; rfl) (by rw [e]; exact hf)
            exact ⟨(World.cell?_of_block (a := ⟨r, 5, none⟩) (set_other _ _ _ _ _ hr)).trans hW.1, (World.cell?_of_block (a := ⟨gp, i * 3, none⟩) (set_other _ _ _ _ _ hp)).trans hW.2⟩
          have HKS : Hid _ := hks
          clear hks
          have H1 : Hid _ := And.intro hm1 hb1
          clear hm1 hb1 hw1 e0 e2 b0 b4 b5 b6 ct hcq cnn ccc clt cls fls ef0 hlt r1
          refine wp_region_held_drew (S := (fun w' => w'.cell? ⟨r, 5, none⟩ = some (.slice (some ⟨gl, ol, none⟩) n cl) ∧ w'.cell? ⟨gp, i * 3, none⟩ = some (.int .i64 s))) (by kernel_rfl) ?_ (fun hHeld => ?_)
          · exact ⟨y5, y0⟩
          refine wpAnyH_take (i := 0) (oi := _) (v := ?_) rfl (by kernel_rfl) (by kernel_rfl) (by kernel_rfl) (fun _ _ _ h => h) (Or.inl ⟨by rfl, ?_⟩) (by assumption) ?_
          rotate_left
          · (intro w hSw; (try dsimp only at hSw); go_simp; (try with_reducible rfl))
          (try simp only [List.getElem_toArray, List.getElem_cons_succ, List.getElem_cons_zero, Act.put, List.setIfInBounds_toArray, List.set_cons_zero, List.set_cons_succ])
          refine wpAnyH_take (i := 1) (oi := _) (v := ?_) rfl (by kernel_rfl) (by kernel_rfl) (by kernel_rfl) (fun _ _ _ h => h) (Or.inl ⟨by rfl, ?_⟩) (by assumption) ?_
          rotate_left
          · (intro w hSw; (try dsimp only at hSw); go_simp; (try with_reducible rfl))
          (try simp only [List.getElem_toArray, List.getElem_cons_succ, List.getElem_cons_zero, Act.put, List.setIfInBounds_toArray, List.set_cons_zero, List.set_cons_succ])
          refine wpAnyH_take (i := 2) (oi := _) (v := ?_) rfl (by kernel_rfl) (by kernel_rfl) (by kernel_rfl) (fun _ _ _ h => h) (Or.inl ⟨by rfl, ?_⟩) (by assumption) ?_
          rotate_left
          · (intro w hSw; (try dsimp only at hSw); go_simp; (try with_reducible rfl))
          (try simp only [List.getElem_toArray, List.getElem_cons_succ, List.getElem_cons_zero, Act.put, List.setIfInBounds_toArray, List.set_cons_zero, List.set_cons_succ])
          refine wpAnyH_take (i := 3) (oi := _) (v := ?_) rfl (by kernel_rfl) (by kernel_rfl) (by kernel_rfl) (fun _ _ _ h => h) (Or.inl ⟨by rfl, ?_⟩) (by assumption) ?_
          rotate_left
          · (intro w hSw; (try dsimp only at hSw); go_simp; (try with_reducible rfl))
          (try simp only [List.getElem_toArray, List.getElem_cons_succ, List.getElem_cons_zero, Act.put, List.setIfInBounds_toArray, List.set_cons_zero, List.set_cons_succ])
          refine wpAnyH_take (i := 4) (oi := _) (v := ?_) rfl (by kernel_rfl) (by kernel_rfl) (by kernel_rfl) (fun _ _ _ h => h) (Or.inl ⟨by rfl, ?_⟩) (by assumption) ?_
          rotate_left
          · (intro w hSw; (try dsimp only at hSw); go_simp; (try with_reducible rfl))
          (try simp only [List.getElem_toArray, List.getElem_cons_succ, List.getElem_cons_zero, Act.put, List.setIfInBounds_toArray, List.set_cons_zero, List.set_cons_succ])
          refine wpAnyH_take (i := 5) (oi := _) (v := ?_) rfl (by kernel_rfl) (by kernel_rfl) (by kernel_rfl) (fun _ _ _ h => h) (Or.inl ⟨by rfl, ?_⟩) (by assumption) ?_
          rotate_left
          · (intro w hSw; (try dsimp only at hSw); go_simp; (try with_reducible rfl))
          (try simp only [List.getElem_toArray, List.getElem_cons_succ, List.getElem_cons_zero, Act.put, List.setIfInBounds_toArray, List.set_cons_zero, List.set_cons_succ])
          refine wpAnyH_take (i := 6) (oi := _) (v := ?_) rfl (by kernel_rfl) (by kernel_rfl) (by kernel_rfl) (fun _ _ _ h => h) (Or.inl ⟨by rfl, ?_⟩) (by assumption) ?_
          rotate_left
          · (intro w hSw; (try dsimp only at hSw); go_simp; (try with_reducible rfl))
          (try simp only [List.getElem_toArray, List.getElem_cons_succ, List.getElem_cons_zero, Act.put, List.setIfInBounds_toArray, List.set_cons_zero, List.set_cons_succ])
          refine wpAnyH_take (i := 7) (oi := _) (v := ?_) rfl (by kernel_rfl) (by kernel_rfl) (by kernel_rfl) (fun _ _ _ h => h) (Or.inl ⟨by rfl, ?_⟩) (by assumption) ?_
          rotate_left
          · (intro w hSw; (try dsimp only at hSw); go_simp; (try with_reducible rfl))
          (try simp only [List.getElem_toArray, List.getElem_cons_succ, List.getElem_cons_zero, Act.put, List.setIfInBounds_toArray, List.set_cons_zero, List.set_cons_succ])
          refine wpAnyH_take (i := 8) (oi := _) (v := ?_) rfl (by kernel_rfl) (by kernel_rfl) (by kernel_rfl) (fun _ _ _ h => h) (Or.inl ⟨by rfl, ?_⟩) (by assumption) ?_
          rotate_left
          · (intro w hSw; (try dsimp only at hSw); go_simp; (try with_reducible rfl))
          (try simp only [List.getElem_toArray, List.getElem_cons_succ, List.getElem_cons_zero, Act.put, List.setIfInBounds_toArray, List.set_cons_zero, List.set_cons_succ])
          refine wpAnyH_take (i := 9) (oi := _) (v := ?_) rfl (by kernel_rfl) (by kernel_rfl) (by kernel_rfl) (fun _ _ _ h => h) (Or.inl ⟨by rfl, ?_⟩) (by assumption) ?_
          rotate_left
          · (intro w hSw; (try dsimp only at hSw); go_simp; (try with_reducible rfl))
          (try simp only [List.getElem_toArray, List.getElem_cons_succ, List.getElem_cons_zero, Act.put, List.setIfInBounds_toArray, List.set_cons_zero, List.set_cons_succ])
          refine wpAnyH_take (i := 10) (oi := _) (v := ?_) rfl (by kernel_rfl) (by kernel_rfl) (by kernel_rfl) (fun _ _ _ h => h) (Or.inl ⟨by rfl, ?_⟩) (by assumption) ?_
          rotate_left
          · (intro w hSw; (try dsimp only at hSw); go_simp; (try with_reducible rfl))
          (try simp only [List.getElem_toArray, List.getElem_cons_succ, List.getElem_cons_zero, Act.put, List.setIfInBounds_toArray, List.set_cons_zero, List.set_cons_succ])
          refine wpAnyH_take (i := 11) (oi := _) (v := ?_) rfl (by kernel_rfl) (by kernel_rfl) (by kernel_rfl) (fun _ _ _ h => h) (Or.inl ⟨by rfl, ?_⟩) (by assumption) ?_
          rotate_left
          · (intro w hSw; (try dsimp only at hSw); go_simp; (try with_reducible rfl))
          (try simp only [List.getElem_toArray, List.getElem_cons_succ, List.getElem_cons_zero, Act.put, List.setIfInBounds_toArray, List.set_cons_zero, List.set_cons_succ])
          refine wpAnyH_take (i := 12) (oi := _) (v := ?_) rfl (by kernel_rfl) (by kernel_rfl) (by kernel_rfl) (fun _ _ _ h => h) (Or.inl ⟨by rfl, ?_⟩) (by assumption) ?_
          rotate_left
          · (intro w hSw; (try dsimp only at hSw); go_simp; (try with_reducible rfl))
          (try simp only [List.getElem_toArray, List.getElem_cons_succ, List.getElem_cons_zero, Act.put, List.setIfInBounds_toArray, List.set_cons_zero, List.set_cons_succ])
          refine wpAnyH_take (i := 13) (oi := _) (v := ?_) rfl (by kernel_rfl) (by kernel_rfl) (by kernel_rfl) (fun _ _ _ h => h) (Or.inl ⟨by rfl, ?_⟩) (by assumption) ?_
          rotate_left
          · (intro w hSw; (try dsimp only at hSw); go_simp; (try with_reducible rfl))
          (try simp only [List.getElem_toArray, List.getElem_cons_succ, List.getElem_cons_zero, Act.put, List.setIfInBounds_toArray, List.set_cons_zero, List.set_cons_succ])
          refine wpAnyH_take (i := 14) (oi := _) (v := ?_) rfl (by kernel_rfl) (by kernel_rfl) (by kernel_rfl) (fun _ _ _ h => h) (Or.inl ⟨by rfl, ?_⟩) (by assumption) ?_
          rotate_left
          · (intro w hSw; (try dsimp only at hSw); go_simp; (try with_reducible rfl))
          (try simp only [List.getElem_toArray, List.getElem_cons_succ, List.getElem_cons_zero, Act.put, List.setIfInBounds_toArray, List.set_cons_zero, List.set_cons_succ])
          refine wpAnyH_take (i := 15) (oi := _) (v := ?_) rfl (by kernel_rfl) (by kernel_rfl) (by kernel_rfl) (fun _ _ _ h => h) (Or.inl ⟨by rfl, ?_⟩) (by assumption) ?_
          rotate_left
          · (intro w hSw; (try dsimp only at hSw); go_simp; (try with_reducible rfl))
          (try simp only [List.getElem_toArray, List.getElem_cons_succ, List.getElem_cons_zero, Act.put, List.setIfInBounds_toArray, List.set_cons_zero, List.set_cons_succ])
          refine wpAnyH_take (i := 16) (oi := _) (v := ?_) rfl (by kernel_rfl) (by kernel_rfl) (by kernel_rfl) (fun _ _ _ h => h) (Or.inl ⟨by rfl, ?_⟩) (by assumption) ?_
          rotate_left
          · (intro w hSw; (try dsimp only at hSw); go_simp; (try with_reducible rfl))
          (try simp only [List.getElem_toArray, List.getElem_cons_succ, List.getElem_cons_zero, Act.put, List.setIfInBounds_toArray, List.set_cons_zero, List.set_cons_succ])
          refine wpAnyH_take (i := 18) (oi := _) (v := ?_) rfl (by kernel_rfl) (by kernel_rfl) (by kernel_rfl) (fun _ _ _ h => h) (Or.inl ⟨by rfl, ?_⟩) (by assumption) ?_
          rotate_left
          · (intro w hSw; (try dsimp only at hSw); go_simp; (try with_reducible rfl))
          (try simp only [List.getElem_toArray, List.getElem_cons_succ, List.getElem_cons_zero, Act.put, List.setIfInBounds_toArray, List.set_cons_zero, List.set_cons_succ])
          refine wpAnyH_take (i := 19) (oi := _) (v := ?_) rfl (by kernel_rfl) (by kernel_rfl) (by kernel_rfl) (fun _ _ _ h => h) (Or.inl ⟨by rfl, ?_⟩) (by assumption) ?_
          rotate_left
          · (intro w hSw; (try dsimp only at hSw); go_simp; (try with_reducible rfl))
          (try simp only [List.getElem_toArray, List.getElem_cons_succ, List.getElem_cons_zero, Act.put, List.setIfInBounds_toArray, List.set_cons_zero, List.set_cons_succ])
          refine wpAnyH_take (i := 20) (oi := _) (v := ?_) rfl (by kernel_rfl) (by kernel_rfl) (by kernel_rfl) (fun _ _ _ h => h) (Or.inl ⟨by rfl, ?_⟩) (by assumption) ?_
          rotate_left
          · (intro w hSw; (try dsimp only at hSw); go_simp; (try with_reducible rfl))
          (try simp only [List.getElem_toArray, List.getElem_cons_succ, List.getElem_cons_zero, Act.put, List.setIfInBounds_toArray, List.set_cons_zero, List.set_cons_succ])
          refine wpAnyH_take (i := 21) (oi := _) (v := ?_) rfl (by kernel_rfl) (by kernel_rfl) (by kernel_rfl) (fun _ _ _ h => h) (Or.inl ⟨by rfl, ?_⟩) (by assumption) ?_
          rotate_left
          · (intro w hSw; (try dsimp only at hSw); go_simp; (try with_reducible rfl))
          (try simp only [List.getElem_toArray, List.getElem_cons_succ, List.getElem_cons_zero, Act.put, List.setIfInBounds_toArray, List.set_cons_zero, List.set_cons_succ])
          refine wpAnyH_take (i := 22) (oi := _) (v := ?_) rfl (by kernel_rfl) (by kernel_rfl) (by kernel_rfl) (fun _ _ _ h => h) (Or.inl ⟨by rfl, ?_⟩) (by assumption) ?_
          rotate_left
          · (intro w hSw; (try dsimp only at hSw); go_simp; (try with_reducible rfl))
          (try simp only [List.getElem_toArray, List.getElem_cons_succ, List.getElem_cons_zero, Act.put, List.setIfInBounds_toArray, List.set_cons_zero, List.set_cons_succ])
          refine wpAnyH_take (i := 23) (oi := _) (v := ?_) rfl (by kernel_rfl) (by kernel_rfl) (by kernel_rfl) (fun _ _ _ h => h) (Or.inl ⟨by rfl, ?_⟩) (by assumption) ?_
          rotate_left
          · (intro w hSw; (try dsimp only at hSw); go_simp; (try with_reducible rfl))
          (try simp only [List.getElem_toArray, List.getElem_cons_succ, List.getElem_cons_zero, Act.put, List.setIfInBounds_toArray, List.set_cons_zero, List.set_cons_succ])
          refine wpAnyH_ready (rs := [17, 24]) (by kernel_rfl) (by simp) ?_
          refine AllReadyH.cons (o := _) rfl (fun K hK => ?_) ?_
          · (go_simp)
            refine hK.out _ _ ?_ (fun hHeld => ?_)
            · exact hHeld
            clear hK K
            (try simp only [List.getElem_toArray, List.getElem_cons_succ, List.getElem_cons_zero, Act.put, List.setIfInBounds_toArray, List.set_cons_zero, List.set_cons_succ])
            refine wpAnyH_ready (rs := [24]) (by kernel_rfl) (by simp) ?_
            refine AllReadyH.cons (o := _) rfl (fun K hK => ?_) ?_
            · (go_simp)
              refine hK.out _ _ ?_ (fun hHeld => ?_)
              · exact hHeld
              clear hK K
              (try simp only [List.getElem_toArray, List.getElem_cons_succ, List.getElem_cons_zero, Act.put, List.setIfInBounds_toArray, List.set_cons_zero, List.set_cons_succ])
              refine wpAnyH_ready (rs := [25]) (by kernel_rfl) (by simp) ?_
              refine AllReadyH.cons (o := _) rfl (fun K hK => ?_) ?_
              · (go_simp)
                refine hK.out _ _ ?_ (fun hHeld => ?_)
                · exact hHeld
                clear hK K
                (try simp only [List.getElem_toArray, List.getElem_cons_succ, List.getElem_cons_zero, Act.put, List.setIfInBounds_toArray, List.set_cons_zero, List.set_cons_succ])
                refine wpAnyH_take (i := 26) (oi := _) (v := ?_) rfl (by kernel_rfl) (by kernel_rfl) (by kernel_rfl) (fun _ _ _ h => h) (Or.inl ⟨by rfl, ?_⟩) (by assumption) ?_
                rotate_left
                · (intro w hSw; (try dsimp only at hSw); go_simp; (try with_reducible rfl))
                (try simp only [List.getElem_toArray, List.getElem_cons_succ, List.getElem_cons_zero, Act.put, List.setIfInBounds_toArray, List.set_cons_zero, List.set_cons_succ])
                refine wpAnyH_ready (rs := [27]) (by kernel_rfl) (by simp) ?_
                refine AllReadyH.cons (o := _) rfl (fun K hK => ?_) ?_
                · (go_simp)
                  refine hK.out _ _ ?_ (fun hHeld => ?_)
                  · exact HKS.out w1 _ hHeld
                  clear hK K
                  (try simp only [List.getElem_toArray, List.getElem_cons_succ, List.getElem_cons_zero, Act.put, List.setIfInBounds_toArray, List.set_cons_zero, List.set_cons_succ])
                  refine wpAnyH_done (by kernel_rfl) ?_ _
                  (try go_simp)
                  obtain ⟨z, hz⟩ : ∃ z, z = min zs zt := ⟨_, rfl⟩
                  have hif : (if zt < zs then zt else zs) = z := by rw [hz]; split <;> omega
                  rw [hif]
                  obtain ⟨w2, hw2⟩ : ∃ w2, w2 = (w1.setCell ⟨gl, ol + s, none⟩ (.int .i64 z)).drew := ⟨_, rfl⟩
                  rw [← hw2]
                  obtain ⟨x2, hx2⟩ : ∃ x2 : Wk, x2 = { xj with ls := xj.ls.set s z } := ⟨_, rfl⟩
                  have h2 : WkM w2 B r x2 ∧ Grew w w2 r x x2 := by
                    obtain ⟨e1, e2⟩ := H1.out.1.set (x' := x2) (k := 2) (g := gl) (off := ol) (n := n) (cap := cl) (zs := xj.ls) (i := s) (by show some (xj.vl, xj.ls) = _; rw [HT.out.2.2.2.2.2.1]) (by rw [HT.out.2.2.2.2.2.2.1]; exact H.out.2.2.2.2.1) z (by rw [hx2]; show [_, _, _, _] = [_, _, _, _]; simp only; rw [HT.out.2.2.2.2.2.1]) (by rw [hx2]) ⟨by rw [hx2], by rw [hx2]⟩
                    rw [hw2]
                    exact ⟨e1.below (Below.refl _ _).drew, ((HJ.out.2.2.2.1.below H1.out.2).trans e2).below (Below.refl _ _).drew⟩
                  have hp2 : x2.ps[i]? = some (s, st, k + j) := by rw [hx2]; exact HJ.out.2.2.2.2.1
                  have hv2 : x2.vp = .slice (some ⟨gp, 0, none⟩) x2.ps.length cap := by rw [hx2]; show xj.vp = .slice _ xj.ps.length _; rw [HJ.out.2.2.2.2.2.1]; exact HJ.out.2.2.2.2.2.2.2.1
                  obtain ⟨gp2, cap2, hv3, _, _, _, f2, ff⟩ := h2.1.entry hp2
                  rw [hv2] at hv3
                  injection hv3 with v1 v2 v3
                  injection v1 with v1
                  injection v1 with v1
                  subst v1
                  rw [← HJ.out.2.2.2.2.2.2.2.2.1] at f2
                  have ff0 := ff (i * 3 + 2)
                  have H2 : Hid _ := And.intro h2 (And.intro hx2 (And.intro hp2 (And.intro hv2 hz)))
                  clear h2 hx2 hp2 hv2 hz hif hw2 v2 v3 ff y0 y2 y5 yt ys yf yg hHeld
                  go_wp2_with fail
                  have hfin := H2.out.1.1.setStep H2.out.2.2.2.1 H2.out.2.2.1 (k + (j + 1))
                  have hcj : x.cs[t]? = some (-1) := by have h9 := HT.out.2.2.1; rw [HJ.out.2.1] at h9; exact h9
                  have hx : { x2 with ps := x2.ps.set i (s, st, k + (j + 1)) } = x.gone out i s st k (j + 1) := by
                    have h8 := HT.out.2.2.2.1
                    have h9 := HT.out.2.2.2.2.1
                    rw [HJ.out.2.1] at h8 h9
                    rw [H2.out.2.1, H2.out.2.2.2.2, HJ.out.2.1]
                    exact (gone_open x out HN.out.2 hcj h9 h8).symm
                  go_roundg (L - (k + (j + 1)))
                  case measure => exact HE.out.1
                  case rel =>
                    refine ⟨j + 1, rfl, ?_⟩
                    rw [HE.out.2]
                    exact HJ.out.1.next HN.out.2 HN.out.1 hfin.1 (H2.out.1.2.trans hfin.2) hx
                exact AllReadyH.nil
              exact AllReadyH.nil
            exact AllReadyH.nil
          refine AllReadyH.cons (o := _) rfl (fun K hK => ?_) ?_
          · (go_simp)
            refine hK.out _ _ ?_ (fun hHeld => ?_)
            · exact hHeld
            clear hK K
            (try simp only [List.getElem_toArray, List.getElem_cons_succ, List.getElem_cons_zero, Act.put, List.setIfInBounds_toArray, List.set_cons_zero, List.set_cons_succ])
            refine wpAnyH_ready (rs := [17]) (by kernel_rfl) (by simp) ?_
            refine AllReadyH.cons (o := _) rfl (fun K hK => ?_) ?_
            · (go_simp)
              refine hK.out _ _ ?_ (fun hHeld => ?_)
              · exact hHeld
              clear hK K
              (try simp only [List.getElem_toArray, List.getElem_cons_succ, List.getElem_cons_zero, Act.put, List.setIfInBounds_toArray, List.set_cons_zero, List.set_cons_succ])
              refine wpAnyH_ready (rs := [25]) (by kernel_rfl) (by simp) ?_
              refine AllReadyH.cons (o := _) rfl (fun K hK => ?_) ?_
              · (go_simp)
                refine hK.out _ _ ?_ (fun hHeld => ?_)
                · exact hHeld
                clear hK K
                (try simp only [List.getElem_toArray, List.getElem_cons_succ, List.getElem_cons_zero, Act.put, List.setIfInBounds_toArray, List.set_cons_zero, List.set_cons_succ])
                refine wpAnyH_take (i := 26) (oi := _) (v := ?_) rfl (by kernel_rfl) (by kernel_rfl) (by kernel_rfl) (fun _ _ _ h => h) (Or.inl ⟨by rfl, ?_⟩) (by assumption) ?_
                rotate_left
                · (intro w hSw; (try dsimp only at hSw); go_simp; (try with_reducible rfl))
                (try simp only [List.getElem_toArray, List.getElem_cons_succ, List.getElem_cons_zero, Act.put, List.setIfInBounds_toArray, List.set_cons_zero, List.set_cons_succ])
                refine wpAnyH_ready (rs := [27]) (by kernel_rfl) (by simp) ?_
                refine AllReadyH.cons (o := _) rfl (fun K hK => ?_) ?_
                · (go_simp)
                  refine hK.out _ _ ?_ (fun hHeld => ?_)
                  · exact HKS.out w1 _ hHeld
                  clear hK K
                  (try simp only [List.getElem_toArray, List.getElem_cons_succ, List.getElem_cons_zero, Act.put, List.setIfInBounds_toArray, List.set_cons_zero, List.set_cons_succ])
                  refine wpAnyH_done (by kernel_rfl) ?_ _
                  (try go_simp)
                  obtain ⟨z, hz⟩ : ∃ z, z = min zs zt := ⟨_, rfl⟩
                  have hif : (if zt < zs then zt else zs) = z := by rw [hz]; split <;> omega
                  rw [hif]
                  obtain ⟨w2, hw2⟩ : ∃ w2, w2 = (w1.setCell ⟨gl, ol + s, none⟩ (.int .i64 z)).drew := ⟨_, rfl⟩
                  rw [← hw2]
                  obtain ⟨x2, hx2⟩ : ∃ x2 : Wk, x2 = { xj with ls := xj.ls.set s z } := ⟨_, rfl⟩
                  have h2 : WkM w2 B r x2 ∧ Grew w w2 r x x2 := by
                    obtain ⟨e1, e2⟩ := H1.out.1.set (x' := x2) (k := 2) (g := gl) (off := ol) (n := n) (cap := cl) (zs := xj.ls) (i := s) (by show some (xj.vl, xj.ls) = _; rw [HT.out.2.2.2.2.2.1]) (by rw [HT.out.2.2.2.2.2.2.1]; exact H.out.2.2.2.2.1) z (by rw [hx2]; show [_, _, _, _] = [_, _, _, _]; simp only; rw [HT.out.2.2.2.2.2.1]) (by rw [hx2]) ⟨by rw [hx2], by rw [hx2]⟩
                    rw [hw2]
                    exact ⟨e1.below (Below.refl _ _).drew, ((HJ.out.2.2.2.1.below H1.out.2).trans e2).below (Below.refl _ _).drew⟩
                  have hp2 : x2.ps[i]? = some (s, st, k + j) := by rw [hx2]; exact HJ.out.2.2.2.2.1
                  have hv2 : x2.vp = .slice (some ⟨gp, 0, none⟩) x2.ps.length cap := by rw [hx2]; show xj.vp = .slice _ xj.ps.length _; rw [HJ.out.2.2.2.2.2.1]; exact HJ.out.2.2.2.2.2.2.2.1
                  obtain ⟨gp2, cap2, hv3, _, _, _, f2, ff⟩ := h2.1.entry hp2
                  rw [hv2] at hv3
                  injection hv3 with v1 v2 v3
                  injection v1 with v1
                  injection v1 with v1
                  subst v1
                  rw [← HJ.out.2.2.2.2.2.2.2.2.1] at f2
                  have ff0 := ff (i * 3 + 2)
                  have H2 : Hid _ := And.intro h2 (And.intro hx2 (And.intro hp2 (And.intro hv2 hz)))
                  clear h2 hx2 hp2 hv2 hz hif hw2 v2 v3 ff y0 y2 y5 yt ys yf yg hHeld
                  go_wp2_with fail
                  have hfin := H2.out.1.1.setStep H2.out.2.2.2.1 H2.out.2.2.1 (k + (j + 1))
                  have hcj : x.cs[t]? = some (-1) := by have h9 := HT.out.2.2.1; rw [HJ.out.2.1] at h9; exact h9
                  have hx : { x2 with ps := x2.ps.set i (s, st, k + (j + 1)) } = x.gone out i s st k (j + 1) := by
                    have h8 := HT.out.2.2.2.1
                    have h9 := HT.out.2.2.2.2.1
                    rw [HJ.out.2.1] at h8 h9
                    rw [H2.out.2.1, H2.out.2.2.2.2, HJ.out.2.1]
                    exact (gone_open x out HN.out.2 hcj h9 h8).symm
                  go_roundg (L - (k + (j + 1)))
                  case measure => exact HE.out.1
                  case rel =>
                    refine ⟨j + 1, rfl, ?_⟩
                    rw [HE.out.2]
                    exact HJ.out.1.next HN.out.2 HN.out.1 hfin.1 (H2.out.1.2.trans hfin.2) hx
                exact AllReadyH.nil
              exact AllReadyH.nil
            exact AllReadyH.nil
          exact AllReadyH.nil
        · go_wp2_with fail
          have hcj : x.cs[t]? ≠ some (-1) := fun e => by have h9 := HT.out.2.2.1; rw [HJ.out.2.1] at h9; exact hop (Option.some.inj (h9.symm.trans e))
          have hfin := HJ.out.2.2.1.setStep (gp := gp) (cap := cap) (by rw [HJ.out.2.2.2.2.2.1]; exact HJ.out.2.2.2.2.2.2.2.1) HJ.out.2.2.2.2.1 (k + (j + 1))
          have hx : { xj with ps := xj.ps.set i (s, st, k + (j + 1)) } = x.gone out i s st k (j + 1) := by rw [HJ.out.2.1]; exact (gone_shut x out HN.out.2 hcj).symm
          go_roundg (L - (k + (j + 1)))
          case measure => exact HE.out.1
          case rel =>
            refine ⟨j + 1, rfl, ?_⟩
            rw [HE.out.2]
            exact HJ.out.1.next HN.out.2 HN.out.1 (hfin.1.below (Below.refl _ _).drew.drew) ((HJ.out.2.2.2.1.trans hfin.2).below (Below.refl _ _).drew.drew) hx
    · have hml : m = L := by have h9 := hA.le; rw [← H.out.2.2.2.2.2.2.2.2.2.2.1] at h9; omega
      have r1 : ¬ (m : Int) < (L : Int) := by omega
      clear hA hxj hmj hgj hpj hlj hSj hvp2 hm hvs q2 q3 ef hcell
      go_upto_region 1 with fail
      go_region
      go_wp2_with fail
      go_ret2
      refine ⟨j, .inr ⟨rfl, ?_⟩, ?_⟩
      · rw [← HJ.out.2.2.2.2.2.2.2.2.1, ← H.out.2.2.2.2.2.2.2.2.2.2.1]; exact hml
      · exact ⟨HJ.out.1.le, HJ.out.1.num, HJ.out.1.m.below (Below.refl _ _).drew, HJ.out.1.gw.below (Below.refl _ _).drew⟩
end Go.Proofs.YtplofbabfkkimaaDoor.Ts
