/- Texts of this claim, joined: TsPass, TsLeave, TsAbs, TsOpen, TsWi, TsAhead, TsClose, TsPush, TsGo. -/
import Derived.Test.YtplofbabfkkimaaGreatDoorPart0
import Derived.Deep.LoopGhost
import Derived.BigRegion
/- A step is gone that leads to a state with a number: what always stands stays so. -/
namespace Go.Proofs.YtplofbabfkkimaaGreatDoor.Ts
theorem Inv.pass {n : Nat} {out : Nat → List Nat} {s : St} {pd pd' : Nat → Prop} (h : Inv n out s pd) {v i t : Nat} {r : List (Nat × Nat)} (hp : s.path = (v, i) :: r) (ht : (out v)[i]? = some t) (htn : 0 ≤ s.num t) : Inv n out (s.pass v i t r) pd' := by
 obtain ⟨hov, hless⟩ := h.head hp
 have hpa : (s.pass v i t r).path = (v, i + 1) :: r := rfl
 have hil := (List.getElem?_eq_some_iff.1 ht).1
 have hnum : ∀ u, (s.pass v i t r).num u = s.num u := fun _ => rfl
 have hcls : ∀ u, (s.pass v i t r).cls u = s.cls u := fun _ => rfl
 have hop : ∀ u, (s.pass v i t r).op u ↔ s.op u := fun _ => Iff.rfl
 have hlu : ∀ u, u ≠ v → (s.pass v i t r).low u = s.low u := fun u hu => by simp [St.pass, hu]
 have hlle : ∀ u, (s.pass v i t r).low u ≤ s.low u := fun u => by
  by_cases e : u = v
  ·subst e
   show (if u = u ∧ s.cls t = -1 then min (s.low u) (s.low t) else s.low u) ≤ s.low u
   split <;> omega
  ·rw [hlu u e]; exact Int.le_refl _
 have hlt : s.cls t = -1 → (s.pass v i t r).low v ≤ s.low t := fun hc => by
  show (if v = v ∧ s.cls t = -1 then min (s.low v) (s.low t) else s.low v) ≤ s.low t
  rw [if_pos ⟨rfl, hc⟩]
  omega
 have hlor : (s.pass v i t r).low v = s.low v ∨ (s.cls t = -1 ∧ (s.pass v i t r).low v = s.low t) := by
  show (if v = v ∧ s.cls t = -1 then min (s.low v) (s.low t) else s.low v) = s.low v ∨ (s.cls t = -1 ∧ (if v = v ∧ s.cls t = -1 then min (s.low v) (s.low t) else s.low v) = s.low t)
  by_cases hc : s.cls t = -1
  ·rw [if_pos ⟨rfl, hc⟩]
   rcases Int.le_total (s.low v) (s.low t) with h1 | h1
   ·exact .inl (Int.min_eq_left h1)
   ·exact .inr ⟨hc, Int.min_eq_right h1⟩
  ·rw [if_neg (fun h => hc h.2)]
   exact .inl rfl
 have hrv : ∀ x ∈ r, x.1 ≠ v := fun x hx e => by have := hless x hx; rw [e] at this; omega
 have hon : ∀ u, (s.pass v i t r).on u ↔ s.on u := fun u => by
  constructor
  ·rintro ⟨j, hj⟩
   rw [hpa] at hj
   rcases List.mem_cons.1 hj with e | e
   ·exact ⟨i, by rw [hp, (Prod.mk.inj e).1]; exact List.mem_cons_self⟩
   ·exact ⟨j, by rw [hp]; exact List.mem_cons_of_mem _ e⟩
  ·rintro ⟨j, hj⟩
   rw [hp] at hj
   rcases List.mem_cons.1 hj with e | e
   ·exact ⟨i + 1, by rw [hpa, (Prod.mk.inj e).1]; exact List.mem_cons_self⟩
   ·exact ⟨j, by rw [hpa]; exact List.mem_cons_of_mem _ e⟩
 exact {
  rng := h.rng
  cnt := h.cnt
  cnt0 := h.cnt0
  neg := h.neg
  inj := h.inj
  clsn := h.clsn
  pth := by
   have h1 := h.pth
   rw [hp] at h1
   rw [hpa]
   exact List.pairwise_cons.2 ⟨fun y hy => hless y hy, (List.pairwise_cons.1 h1).2⟩
  pop := fun x hx => by
   rw [hpa] at hx
   rcases List.mem_cons.1 hx with rfl | hx
   ·exact ⟨hov, hil⟩
   ·exact h.pop x (by rw [hp]; exact List.mem_cons_of_mem _ hx)
  lown := fun u hu => Int.le_trans (hlle u) (h.lown u hu)
  lowr := fun u hu => by
   by_cases e : u = v
   ·subst e
    rcases hlor with h1 | ⟨hc, h1⟩
    ·rw [h1]; exact h.lowr u hu
    ·rw [h1]
     obtain ⟨x, h2, h3, h4⟩ := h.lowr t ⟨htn, hc⟩
     exact ⟨x, h2, h3, (Rt.one (List.mem_of_getElem? ht)).trans h4⟩
   ·rw [hlu u e]; exact h.lowr u hu
  edge := fun u hu j w hg hw => by
   by_cases e : u = v
   ·subst e
    have hj := hg.2 (i + 1) (by rw [hpa]; exact List.mem_cons_self)
    rcases Nat.lt_or_ge j i with h1 | h1
    ·obtain ⟨h2, h3⟩ := h.edge u hu j w ⟨hg.1, fun k hk => by rw [h.on_head hp hk]; exact h1⟩ hw
     exact ⟨h2, fun hc => Int.le_trans (hlle u) (h3 hc)⟩
    ·obtain rfl : j = i := by omega
     rw [ht] at hw
     cases hw
     exact ⟨htn, fun hc => Int.le_trans (hlt hc) (h.lown t ⟨htn, hc⟩)⟩
   ·obtain ⟨h2, h3⟩ := h.edge u hu j w ⟨hg.1, fun k hk => by
     rw [hp] at hk
     rcases List.mem_cons.1 hk with e2 | e2
     ·exact absurd (Prod.mk.inj e2).1 e
     ·exact hg.2 k (by rw [hpa]; exact List.mem_cons_of_mem _ e2)⟩ hw
    exact ⟨h2, fun hc => by rw [hlu u e]; exact h3 hc⟩
  shut := h.shut
  cyc := h.cyc
  root := h.root
  down := fun x hx u hu hle => by
   rw [hpa] at hx
   rcases List.mem_cons.1 hx with rfl | hx1
   ·exact h.down (v, i) (by rw [hp]; exact List.mem_cons_self) u hu hle
   ·exact h.down x (by rw [hp]; exact List.mem_cons_of_mem _ hx1) u hu hle
  off := fun u hu ho => by
   have ho2 : ¬ s.on u := fun h1 => ho ((hon u).2 h1)
   have e : u ≠ v := fun e => ho2 ⟨i, by rw [hp, e]; exact List.mem_cons_self⟩
   rw [hlu u e]
   exact h.off u hu ho2
  lows := fun u hu ho => by
   have ho2 : ¬ s.on u := fun h1 => ho ((hon u).2 h1)
   have e : u ≠ v := fun e => ho2 ⟨i, by rw [hp, e]; exact List.mem_cons_self⟩
   obtain ⟨x, hx, h1, h2, h3⟩ := h.lows u hu ho2
   have hmax : ∀ y ∈ (s.pass v i t r).path, (s.pass v i t r).num y.1 < (s.pass v i t r).num u → s.num y.1 ≤ s.num x.1 := fun y hy hlt2 => by
    rw [hpa] at hy
    rcases List.mem_cons.1 hy with rfl | hy1
    ·exact h2 (v, i) (by rw [hp]; exact List.mem_cons_self) hlt2
    ·exact h2 y (by rw [hp]; exact List.mem_cons_of_mem _ hy1) hlt2
   rw [hp] at hx
   rcases List.mem_cons.1 hx with rfl | hx1
   ·refine ⟨(v, i + 1), by rw [hpa]; exact List.mem_cons_self, h1, hmax, .inl ?_⟩
    rw [hlu u e]
    rcases h3 with h4 | ⟨_, c, _, hc, ho3, h5⟩
    ·exact Int.le_trans (hlle v) h4
    ·simp only at ho3
     rw [ht] at ho3
     cases ho3
     exact Int.le_trans (hlt hc.2) h5
   ·refine ⟨x, by rw [hpa]; exact List.mem_cons_of_mem _ hx1, h1, hmax, .inl ?_⟩
    rw [hlu u e, hlu _ (hrv x hx1)]
    rcases h3 with h4 | ⟨hh, _⟩
    ·exact h4
    ·rw [hp] at hh
     injection hh with hh
     exact absurd (by rw [← hh]) (hrv x hx1)
  link := fun x y r' l hl => by
   rw [hpa] at hl
   cases l with
   | nil =>
     injection hl with e1 e2
     subst e1
     exact h.link (v, i) y r' [] (by rw [hp, e2]; rfl)
   | cons a l =>
     injection hl with _ e2
     exact h.link x y r' ((v, i) :: l) (by rw [hp, e2]; rfl) }
end Go.Proofs.YtplofbabfkkimaaGreatDoor.Ts
/- The walk leaves a state whose steps are all gone: what always stands stays so; a cycle that is whole is told. -/
namespace Go.Proofs.YtplofbabfkkimaaGreatDoor.Ts
theorem Inv.bottom {n : Nat} {out : Nat → List Nat} {s : St} {pd : Nat → Prop} (h : Inv n out s pd) {v i : Nat} (hp : s.path = [(v, i)]) {u : Nat} (hu : s.op u) : s.num v ≤ s.num u := by
 by_cases ho : s.on u
 ·obtain ⟨j, hj⟩ := ho
  rw [hp] at hj
  rw [(Prod.mk.inj (List.mem_singleton.1 hj)).1]
  exact Int.le_refl _
 ·obtain ⟨x, hx, h1, _⟩ := h.lows u hu ho
  rw [hp] at hx
  rw [List.mem_singleton.1 hx] at h1
  exact Int.le_of_lt h1
theorem Inv.above {n : Nat} {out : Nat → List Nat} {s : St} {pd : Nat → Prop} (h : Inv n out s pd) {v i : Nat} {r : List (Nat × Nat)} (hp : s.path = (v, i) :: r) (hi : (out v).length ≤ i) {u : Nat} (hu : s.op u) (hlt : s.num v < s.num u) : ¬ s.on u ∧ s.low v ≤ s.low u := by
 have hoff : ¬ s.on u := fun ⟨j, hj⟩ => by
  rw [hp] at hj
  rcases List.mem_cons.1 hj with e | e
  ·rw [(Prod.mk.inj e).1] at hlt; omega
  ·have := (h.head hp).2 _ e; simp only at this; omega
 refine ⟨hoff, ?_⟩
 obtain ⟨x, hx, h1, h2, h3⟩ := h.lows u hu hoff
 have hmx := h2 (v, i) (by rw [hp]; exact List.mem_cons_self) hlt
 have hxv : x = (v, i) := by
  rw [hp] at hx
  rcases List.mem_cons.1 hx with e | e
  ·exact e
  ·have := (h.head hp).2 _ e; simp only at hmx; omega
 subst hxv
 rcases h3 with h4 | ⟨_, c, _, _, ho, _⟩
 ·exact h4
 ·simp only at ho
  rw [List.getElem?_eq_none hi] at ho
  cases ho
theorem Inv.leave_on {n : Nat} {out : Nat → List Nat} {s : St} {pd : Nat → Prop} (h : Inv n out s pd) {v i : Nat} {r : List (Nat × Nat)} (hp : s.path = (v, i) :: r) (hi : (out v).length ≤ i) (hlow : s.low v < s.num v) : Inv n out (s.leave v r) (fun c => c = v) := by
 obtain ⟨hov, hless⟩ := h.head hp
 have hpa : (s.leave v r).path = r := rfl
 have hcls : ∀ u, (s.leave v r).cls u = s.cls u := fun u => by
  show (if s.num v ≤ s.low v ∧ s.num v ≤ s.num u ∧ s.cls u = -1 then (v : Int) else s.cls u) = s.cls u
  rw [if_neg (fun hc => by have := hc.1; omega)]
 have hop : ∀ u, (s.leave v r).op u ↔ s.op u := fun u => by unfold St.op; rw [hcls]; exact Iff.rfl
 have hrp : ∀ x ∈ r, x ∈ s.path := fun x hx => by rw [hp]; exact List.mem_cons_of_mem _ hx
 have hpr := h.pth
 rw [hp] at hpr
 have hpr2 := (List.pairwise_cons.1 hpr).2
 obtain ⟨y, r', hr⟩ : ∃ y r', r = y :: r' := by
  cases r with
  | nil =>
    obtain ⟨u, h1, h2, _⟩ := h.lowr v hov
    have := h.bottom hp h1
    omega
  | cons y r' => exact ⟨y, r', rfl⟩
 have hylt : s.num y.1 < s.num v := hless y (by rw [hr]; exact List.mem_cons_self)
 have hymax : ∀ z ∈ r, s.num z.1 ≤ s.num y.1 := fun z hz => by
  rw [hr] at hz hpr2
  rcases List.mem_cons.1 hz with e | e
  ·rw [e]; exact Int.le_refl _
  ·exact Int.le_of_lt ((List.pairwise_cons.1 hpr2).1 z e)
 have hlk : (out y.1)[y.2]? = some v := h.link (v, i) y r' [] (by rw [hp, hr]; rfl)
 have hyh : (s.leave v r).path.head? = some y := by rw [hpa, hr]; rfl
 have hym : y ∈ (s.leave v r).path := by rw [hpa, hr]; exact List.mem_cons_self
 have hon : ∀ u, u ≠ v → ¬ (s.leave v r).on u → ¬ s.on u := fun u hu ho ⟨j, hj⟩ => by
  rw [hp] at hj
  rcases List.mem_cons.1 hj with e | e
  ·exact hu (Prod.mk.inj e).1
  ·exact ho ⟨j, e⟩
 exact {
  rng := h.rng
  cnt := h.cnt
  cnt0 := h.cnt0
  neg := h.neg
  inj := h.inj
  clsn := fun u hu => h.clsn u (by rw [← hcls]; exact hu)
  pth := hpr2
  pop := fun x hx => ⟨(hop _).2 (h.pop x (hrp x hx)).1, (h.pop x (hrp x hx)).2⟩
  lown := fun u hu => h.lown u ((hop u).1 hu)
  lowr := fun u hu => by
   obtain ⟨x, h1, h2, h3⟩ := h.lowr u ((hop u).1 hu)
   exact ⟨x, (hop x).2 h1, h2, h3⟩
  edge := fun u hu j t hg ht => by
   rw [hcls]
   by_cases e : u = v
   ·subst e
    exact h.edge u ((hop u).1 hu) j t ⟨hg.1, fun k hk => by rw [h.on_head hp hk]; have := hg.1; omega⟩ ht
   ·exact h.edge u ((hop u).1 hu) j t ⟨hg.1, fun k hk => by
     rw [hp] at hk
     rcases List.mem_cons.1 hk with e2 | e2
     ·exact absurd (Prod.mk.inj e2).1 e
     ·exact hg.2 k e2⟩ ht
  shut := fun u hu t ht => by rw [hcls] at hu ⊢; exact h.shut u hu t ht
  cyc := fun a b ha hb => by rw [hcls] at ha hb; rw [hcls, hcls]; exact h.cyc a b ha hb
  root := fun u hu => by
   rw [hcls] at hu
   obtain ⟨x, h1, h2, h3⟩ := h.root u hu
   exact ⟨x, by rw [hcls]; exact h1, by rw [hcls]; exact h2, h3⟩
  down := fun x hx u hu hle => h.down x (hrp x hx) u ((hop u).1 hu) hle
  off := fun u hu ho => by
   by_cases e : u = v
   ·subst e; exact hlow
   ·exact h.off u ((hop u).1 hu) (hon u e ho)
  lows := fun u hu ho => by
   have hu1 := (hop u).1 hu
   by_cases e : u = v
   ·subst e
    exact ⟨y, hym, hylt, fun z hz _ => hymax z hz, .inr ⟨hyh, u, rfl, hu, hlk, Int.le_refl _⟩⟩
   ·obtain ⟨x, hx, h1, h2, h3⟩ := h.lows u hu1 (hon u e ho)
    rw [hp] at hx
    rcases List.mem_cons.1 hx with rfl | hx1
    ·simp only at h1
     have h4 := (h.above hp hi hu1 h1).2
     exact ⟨y, hym, Int.lt_trans hylt h1, fun z hz _ => hymax z hz, .inr ⟨hyh, v, rfl, (hop v).2 hov, hlk, h4⟩⟩
    ·refine ⟨x, hx1, h1, fun z hz hlt => h2 z (hrp z hz) hlt, .inl ?_⟩
     rcases h3 with h4 | ⟨hh, _⟩
     ·exact h4
     ·rw [hp] at hh
      injection hh with hh
      have := hless x hx1
      rw [← hh] at this
      simp at this
  link := fun x z r2 l hl => h.link x z r2 ((v, i) :: l) (by rw [hp, ← hpa, hl]; rfl) }
theorem Inv.leave_whole {n : Nat} {out : Nat → List Nat} {s : St} {pd pd' : Nat → Prop} (h : Inv n out s pd) {v i : Nat} {r : List (Nat × Nat)} (hp : s.path = (v, i) :: r) (hi : (out v).length ≤ i) (hlow : s.num v ≤ s.low v) : Inv n out (s.leave v r) pd' := by
 obtain ⟨hov, hless⟩ := h.head hp
 have hpa : (s.leave v r).path = r := rfl
 have hrp : ∀ x ∈ r, x ∈ s.path := fun x hx => by rw [hp]; exact List.mem_cons_of_mem _ hx
 have hvp : (v, i) ∈ s.path := by rw [hp]; exact List.mem_cons_self
 have hpr := h.pth
 rw [hp] at hpr
 have hpr2 := (List.pairwise_cons.1 hpr).2
 obtain ⟨C, hC⟩ : ∃ C : Nat → Prop, C = fun u => s.op u ∧ s.num v ≤ s.num u := ⟨_, rfl⟩
 have hCi : ∀ u, C u ↔ s.op u ∧ s.num v ≤ s.num u := fun u => by rw [hC]
 have hin : ∀ u, C u → (s.leave v r).cls u = (v : Int) := fun u hu => by
  show (if s.num v ≤ s.low v ∧ s.num v ≤ s.num u ∧ s.cls u = -1 then (v : Int) else s.cls u) = _
  rw [if_pos ⟨hlow, ((hCi u).1 hu).2, ((hCi u).1 hu).1.2⟩]
 have hold : ∀ u, s.cls u ≠ -1 → (s.leave v r).cls u = s.cls u := fun u hu => by
  show (if s.num v ≤ s.low v ∧ s.num v ≤ s.num u ∧ s.cls u = -1 then (v : Int) else s.cls u) = _
  rw [if_neg (fun hc => hu hc.2.2)]
 have hsome : ∀ u, (s.leave v r).cls u ≠ -1 → C u ∨ s.cls u ≠ -1 := fun u hu => by
  have h1 : (if s.num v ≤ s.low v ∧ s.num v ≤ s.num u ∧ s.cls u = -1 then (v : Int) else s.cls u) ≠ -1 := hu
  by_cases hc : s.num v ≤ s.low v ∧ s.num v ≤ s.num u ∧ s.cls u = -1
  ·refine .inl ((hCi u).2 ⟨⟨?_, hc.2.2⟩, hc.2.1⟩)
   have := hov.1
   omega
  ·rw [if_neg hc] at h1
   exact .inr h1
 have hsome2 : ∀ u, C u ∨ s.cls u ≠ -1 → (s.leave v r).cls u ≠ -1 := fun u hu => by
  rcases hu with hu | hu
  ·rw [hin u hu]; omega
  ·rw [hold u hu]; exact hu
 have hop : ∀ u, (s.leave v r).op u ↔ s.op u ∧ s.num u < s.num v := fun u => by
  constructor
  ·rintro ⟨h1, h2⟩
   have h1' : 0 ≤ s.num u := h1
   have hc : s.cls u = -1 := Classical.byContradiction fun hc => hsome2 u (.inr hc) h2
   refine ⟨⟨h1', hc⟩, Classical.byContradiction fun hn => hsome2 u (.inl ((hCi u).2 ⟨⟨h1', hc⟩, by omega⟩)) h2⟩
  ·rintro ⟨h1, h2⟩
   refine ⟨h1.1, Classical.byContradiction fun hc => ?_⟩
   rcases hsome u hc with h3 | h3
   ·have := ((hCi u).1 h3).2; omega
   ·exact h3 h1.2
 have hCv : C v := (hCi v).2 ⟨hov, Int.le_refl _⟩
 have hlowC : ∀ u, C u → s.num v ≤ s.low u := fun u hu => by
  obtain ⟨h1, h2⟩ := (hCi u).1 hu
  by_cases e : s.num v = s.num u
  ·rw [← h.inj v u hov.1 e]; exact hlow
  ·have := (h.above hp hi h1 (by omega)).2
   omega
 have hto : ∀ u, C u → Rt out v u := fun u hu => h.down (v, i) hvp u ((hCi u).1 hu).1 ((hCi u).1 hu).2
 have hfrom : ∀ (k : Nat) (u : Nat), C u → s.num u ≤ s.num v + (k : Int) → Rt out u v := fun k => by
  induction k with
  | zero =>
    intro u hu hle
    have h1 := ((hCi u).1 hu).2
    rw [h.inj v u hov.1 (by omega)]
    exact .refl _
  | succ k ih =>
    intro u hu hle
    by_cases e : s.num u ≤ s.num v + (k : Int)
    ·exact ih u hu e
    ·obtain ⟨h1, h2⟩ := (hCi u).1 hu
     have h3 := h.off u h1 (h.above hp hi h1 (by omega)).1
     obtain ⟨x, h4, h5, h6⟩ := h.lowr u h1
     have h7 := hlowC u hu
     exact h6.trans (ih x ((hCi x).2 ⟨h4, by omega⟩) (by omega))
 have hback : ∀ u, C u → Rt out u v := fun u hu => hfrom (s.num u - s.num v).toNat u hu (by have := ((hCi u).1 hu).2; omega)
 have hstay : ∀ u, (C u ∨ s.cls u ≠ -1) → ∀ t ∈ out u, (C t ∨ s.cls t ≠ -1) := fun u hu t ht => by
  rcases hu with hu | hu
  ·obtain ⟨h1, h2⟩ := (hCi u).1 hu
   obtain ⟨j, hj⟩ := List.mem_iff_getElem?.1 ht
   have hjl := (List.getElem?_eq_some_iff.1 hj).1
   have hg : s.gone out u j := ⟨hjl, fun k hk => by
    by_cases e : u = v
    ·subst e
     rw [h.on_head hp hk]; omega
    ·have h3 : s.num v < s.num u := by
      rcases Int.lt_or_le (s.num v) (s.num u) with h4 | h4
      ·exact h4
      ·exact absurd (h.inj u v h1.1 (by omega)) e
     exact absurd ⟨k, hk⟩ (h.above hp hi h1 h3).1⟩
   obtain ⟨h3, h4⟩ := h.edge u h1 j t hg hj
   by_cases hc : s.cls t = -1
   ·have h5 := h4 hc
    have h6 := hlowC u hu
    exact .inl ((hCi t).2 ⟨⟨h3, hc⟩, by omega⟩)
   ·exact .inr hc
  ·exact .inr (h.shut u hu t ht)
 have hmix : ∀ a b, s.cls a ≠ -1 → C b → ¬ (s.leave v r).cls a = (s.leave v r).cls b ∧ ¬ Rt out a b := fun a b ha hb => by
  refine ⟨fun e => ?_, fun hr => ?_⟩
  ·rw [hold a ha, hin b hb] at e
   obtain ⟨x, h1, h2, _⟩ := h.root a ha
   rw [h1] at e
   have : x = v := by omega
   rw [this] at h2
   exact h2 hov.2
  ·exact Rt.stay (P := fun w => s.cls w ≠ -1) h.shut hr ha ((hCi b).1 hb).1.2
 exact {
  rng := h.rng
  cnt := h.cnt
  cnt0 := h.cnt0
  neg := h.neg
  inj := h.inj
  clsn := fun u hu => by
   rcases hsome u hu with h1 | h1
   ·exact ((hCi u).1 h1).1.1
   ·exact h.clsn u h1
  pth := hpr2
  pop := fun x hx => ⟨(hop _).2 ⟨(h.pop x (hrp x hx)).1, hless x hx⟩, (h.pop x (hrp x hx)).2⟩
  lown := fun u hu => h.lown u ((hop u).1 hu).1
  lowr := fun u hu => by
   obtain ⟨h1, h2⟩ := (hop u).1 hu
   obtain ⟨x, h3, h4, h5⟩ := h.lowr u h1
   have h6 := h.lown u h1
   exact ⟨x, (hop x).2 ⟨h3, by omega⟩, h4, h5⟩
  edge := fun u hu j t hg ht => by
   obtain ⟨h1, h2⟩ := (hop u).1 hu
   have e : u ≠ v := fun e => by rw [e] at h2; omega
   obtain ⟨h3, h4⟩ := h.edge u h1 j t ⟨hg.1, fun k hk => by
    rw [hp] at hk
    rcases List.mem_cons.1 hk with e2 | e2
    ·exact absurd (Prod.mk.inj e2).1 e
    ·exact hg.2 k e2⟩ ht
   refine ⟨h3, fun hc => h4 (Classical.byContradiction fun hn => hsome2 t (.inr hn) hc)⟩
  shut := fun u hu t ht => hsome2 t (hstay u (hsome u hu) t ht)
  cyc := fun a b ha hb => by
   rcases hsome a ha with h1 | h1
   ·rcases hsome b hb with h2 | h2
    ·rw [hin a h1, hin b h2]
     exact ⟨fun _ => ⟨(hback a h1).trans (hto b h2), (hback b h2).trans (hto a h1)⟩, fun _ => rfl⟩
    ·have h3 := hmix b a h2 h1
     exact ⟨fun e => absurd e.symm h3.1, fun e => absurd e.2 h3.2⟩
   ·rcases hsome b hb with h2 | h2
    ·have h3 := hmix a b h1 h2
     exact ⟨fun e => absurd e h3.1, fun e => absurd e.1 h3.2⟩
    ·rw [hold a h1, hold b h2]
     exact h.cyc a b h1 h2
  root := fun u hu => by
   rcases hsome u hu with h1 | h1
   ·exact ⟨v, hin u h1, by rw [hin v hCv]; omega, hto u h1, hback u h1⟩
   ·obtain ⟨x, h2, h3, h4⟩ := h.root u h1
    exact ⟨x, by rw [hold u h1]; exact h2, by rw [hold x h3]; exact h3, h4⟩
  down := fun x hx u hu hle => h.down x (hrp x hx) u ((hop u).1 hu).1 hle
  off := fun u hu ho => by
   obtain ⟨h1, h2⟩ := (hop u).1 hu
   refine h.off u h1 fun ⟨j, hj⟩ => ?_
   rw [hp] at hj
   rcases List.mem_cons.1 hj with e | e
   ·rw [(Prod.mk.inj e).1] at h2; omega
   ·exact ho ⟨j, e⟩
  lows := fun u hu ho => by
   obtain ⟨h1, h2⟩ := (hop u).1 hu
   obtain ⟨x, hx, h3, h4, h5⟩ := h.lows u h1 fun ⟨j, hj⟩ => by
    rw [hp] at hj
    rcases List.mem_cons.1 hj with e | e
    ·rw [(Prod.mk.inj e).1] at h2; omega
    ·exact ho ⟨j, e⟩
   rw [hp] at hx
   rcases List.mem_cons.1 hx with rfl | hx1
   ·simp only at h3; omega
   ·refine ⟨x, hx1, h3, fun z hz hlt => h4 z (hrp z hz) hlt, .inl ?_⟩
    rcases h5 with h6 | ⟨hh, _⟩
    ·exact h6
    ·rw [hp] at hh
     injection hh with hh
     have := hless x hx1
     rw [← hh] at this
     simp at this
  link := fun x z r2 l hl => h.link x z r2 ((v, i) :: l) (by rw [hp, ← hpa, hl]; rfl) }
theorem Inv.whole {n : Nat} {out : Nat → List Nat} {s : St} {pd : Nat → Prop} (h : Inv n out s pd) (hp : s.path = []) {v : Nat} (hv : 0 ≤ s.num v) : s.cls v ≠ -1 := fun hc => by
 obtain ⟨x, hx, _⟩ := h.lows v ⟨hv, hc⟩ fun ⟨j, hj⟩ => by rw [hp] at hj; simp at hj
 rw [hp] at hx
 simp at hx
end Go.Proofs.YtplofbabfkkimaaGreatDoor.Ts
/- What the walk's lists in memory say as a plain state; its moves are the plain ones. -/
namespace Go.Proofs.YtplofbabfkkimaaGreatDoor.Ts
def Wk.st (x : Wk) (path : List (Nat × Nat)) : St := ⟨path, x.cnt, fun u => x.ns[u]?.getD (-1), fun u => x.ls[u]?.getD 0, fun u => x.cs[u]?.getD (-1)⟩
theorem getD_set (l : List Int) (v u : Nat) (z d : Int) (hv : v < l.length) : (l.set v z)[u]?.getD d = if u = v then z else l[u]?.getD d := by
 by_cases e : u = v
 ·subst e
  rw [if_pos rfl, List.getElem?_set_self hv]
  rfl
 ·rw [if_neg e, List.getElem?_set_ne (fun h => e h.symm)]
theorem st_enter (x : Wk) (path : List (Nat × Nat)) (v : Nat) (vo : Value) (hn : v < x.ns.length) (hl : v < x.ls.length) : (x.numd v vo).st ((v, 0) :: path) = (x.st path).enter v := by
 unfold Wk.st St.enter Wk.numd
 simp only
 congr 1
 ·funext u; exact getD_set _ _ _ _ _ hn
 ·funext u; exact getD_set _ _ _ _ _ hl
theorem st_pass (x : Wk) (out : Nat → List Nat) (r : List (Nat × Nat)) {i s st k j t : Nat} (h : (out s)[k + j]? = some t) (hs : s < x.ls.length) (ht : t < x.cs.length) : (x.gone out i s st k (j + 1)).st ((s, k + j + 1) :: r) = ((x.gone out i s st k j).st ((s, k + j) :: r)).pass s (k + j) t r := by
 have h1 := gone_ls x out (i := i) (st := st) h
 obtain ⟨z, hz⟩ : ∃ z, x.cs[t]? = some z := ⟨_, List.getElem?_eq_getElem ht⟩
 unfold Wk.st St.pass
 simp only
 rw [h1]
 have hs2 : s < (x.gone out i s st k j).ls.length := Nat.lt_of_lt_of_eq hs (passes_length _ _ _ _).symm
 have e2 : (x.gone out i s st k j).cs = x.cs := rfl
 congr 1
 funext u
 rw [e2, hz]
 unfold pass1
 simp only [Option.getD_some]
 by_cases hc : z = -1
 ·rw [if_pos (by rw [hz, hc]), getD_set _ _ _ _ _ hs2]
  by_cases e : u = s
  ·rw [if_pos e, if_pos ⟨e, hc⟩]
  ·rw [if_neg e, if_neg (fun h => e h.1)]
 ·rw [if_neg (by rw [hz]; intro e; exact hc (Option.some.inj e)), if_neg (fun h => hc h.2)]
theorem st_leave (x : Wk) (pre post : List Nat) (vo : Value) {v i : Nat} (r : List (Nat × Nat)) (hlow : (x.st ((v, i) :: r)).num v ≤ (x.st ((v, i) :: r)).low v) (hm : ∀ u, u ∈ v :: post ↔ (x.st ((v, i) :: r)).num v ≤ (x.st ((v, i) :: r)).num u ∧ (x.st ((v, i) :: r)).cls u = -1) (hl : ∀ u ∈ v :: post, u < x.cs.length) : (x.pop v pre (v :: post) vo).st r = (x.st ((v, i) :: r)).leave v r := by
 unfold St.leave
 show St.mk _ _ _ _ _ = St.mk _ _ _ _ _
 congr 1
 funext u
 by_cases hu : u ∈ v :: post
 ·rw [if_pos ⟨hlow, (hm u).1 hu⟩]
  show (setAll x.cs (v :: post) (v : Int))[u]?.getD (-1) = _
  rw [setAll_in _ _ _ hu (hl u hu)]
  rfl
 ·rw [if_neg (fun h => hu ((hm u).2 h.2))]
  show (setAll x.cs (v :: post) (v : Int))[u]?.getD (-1) = _
  rw [setAll_not _ _ _ hu]
  rfl
theorem st_stay (x : Wk) {v i : Nat} (r : List (Nat × Nat)) (hlow : (x.st ((v, i) :: r)).low v < (x.st ((v, i) :: r)).num v) : x.st r = (x.st ((v, i) :: r)).leave v r := by
 unfold St.leave
 show St.mk _ _ _ _ _ = St.mk _ _ _ _ _
 congr 1
 funext u
 rw [if_neg (fun h => by have := h.1; omega)]
 rfl
end Go.Proofs.YtplofbabfkkimaaGreatDoor.Ts
/- The open states, by rising numbers: what the walk's moves make of their list. Plain facts. -/
namespace Go.Proofs.YtplofbabfkkimaaGreatDoor.Ts
structure OpL (s : St) (os : List Nat) : Prop where
 mem : ∀ u, u ∈ os ↔ s.op u
 ord : os.Pairwise fun a b => s.num a < s.num b
theorem OpL.nodup {s : St} {os : List Nat} (h : OpL s os) : os.Nodup := h.ord.imp fun hab e => by rw [e] at hab; omega
theorem OpL.start : OpL ⟨[], 0, fun _ => -1, fun _ => 0, fun _ => -1⟩ [] := ⟨fun u => by simp [St.op], .nil⟩
theorem OpL.enter {n : Nat} {out : Nat → List Nat} {s : St} {pd : Nat → Prop} {os : List Nat} (h : OpL s os) (hI : Inv n out s pd) {v : Nat} (hv : s.num v = -1) : OpL (s.enter v) (os ++ [v]) := by
 have hcv : s.cls v = -1 := Classical.byContradiction fun hc => by have := hI.clsn v hc; omega
 have hnu : ∀ u, u ≠ v → (s.enter v).num u = s.num u := fun u hu => by simp [St.enter, hu]
 have hnv : (s.enter v).num v = s.cnt := by simp [St.enter]
 have hne : ∀ u ∈ os, u ≠ v := fun u hu e => by have := ((h.mem u).1 hu).1; rw [e] at this; omega
 refine ⟨fun u => ?_, List.pairwise_append.2 ⟨h.ord.imp_of_mem fun {a b} ha hb hab => ?_, by simp, fun a ha b hb => ?_⟩⟩
 ·rw [List.mem_append, List.mem_singleton]
  by_cases e : u = v
  ·subst e
   exact ⟨fun _ => ⟨by rw [hnv]; exact hI.cnt0, hcv⟩, fun _ => .inr rfl⟩
  ·constructor
   ·rintro (h1 | h1)
    ·have h2 := (h.mem u).1 h1
     exact ⟨by rw [hnu u e]; exact h2.1, h2.2⟩
    ·exact absurd h1 e
   ·rintro ⟨h1, h2⟩
    rw [hnu u e] at h1
    exact .inl ((h.mem u).2 ⟨h1, h2⟩)
 ·rw [hnu a (hne a ha), hnu b (hne b hb)]; exact hab
 ·rw [List.mem_singleton.1 hb, hnv, hnu a (hne a ha)]; exact hI.cnt a
theorem OpL.pass {s : St} {os : List Nat} (h : OpL s os) (v i t : Nat) (r : List (Nat × Nat)) : OpL (s.pass v i t r) os := ⟨h.mem, h.ord⟩
theorem OpL.split {s : St} {os : List Nat} (h : OpL s os) {v : Nat} (hv : s.op v) : ∃ pre post, os = pre ++ v :: post ∧ (∀ u, u ∈ v :: post ↔ s.num v ≤ s.num u ∧ s.cls u = -1) ∧ ∀ u ∈ pre, s.num u < s.num v := by
 obtain ⟨pre, post, rfl⟩ := List.append_of_mem ((h.mem v).2 hv)
 obtain ⟨_, h2, h3⟩ := List.pairwise_append.1 h.ord
 have hpre : ∀ u ∈ pre, s.num u < s.num v := fun u hu => h3 u hu v List.mem_cons_self
 refine ⟨pre, post, rfl, fun u => ⟨fun hu => ?_, fun hu => ?_⟩, hpre⟩
 ·have hop := (h.mem u).1 (List.mem_append.2 (.inr hu))
  rcases List.mem_cons.1 hu with e | e
  ·rw [e]; exact ⟨Int.le_refl _, hv.2⟩
  ·exact ⟨Int.le_of_lt ((List.pairwise_cons.1 h2).1 u e), hop.2⟩
 ·have hop : s.op u := ⟨Int.le_trans hv.1 hu.1, hu.2⟩
  rcases List.mem_append.1 ((h.mem u).2 hop) with h1 | h1
  ·have := hpre u h1; omega
  ·exact h1
theorem OpL.leave_on {s : St} {os : List Nat} (h : OpL s os) {v : Nat} (r : List (Nat × Nat)) (hlow : s.low v < s.num v) : OpL (s.leave v r) os := by
 have hcls : ∀ u, (s.leave v r).cls u = s.cls u := fun u => by
  show (if s.num v ≤ s.low v ∧ s.num v ≤ s.num u ∧ s.cls u = -1 then (v : Int) else s.cls u) = s.cls u
  rw [if_neg (fun hc => by have := hc.1; omega)]
 exact ⟨fun u => by rw [h.mem u]; unfold St.op; rw [hcls]; exact Iff.rfl, h.ord⟩
theorem OpL.leave_whole {s : St} {pre post : List Nat} {v : Nat} (h : OpL s (pre ++ v :: post)) (r : List (Nat × Nat)) (hlow : s.num v ≤ s.low v) (hm : ∀ u, u ∈ v :: post ↔ s.num v ≤ s.num u ∧ s.cls u = -1) (hpre : ∀ u ∈ pre, s.num u < s.num v) : OpL (s.leave v r) pre := by
 refine ⟨fun u => ?_, (List.pairwise_append.1 h.ord).1⟩
 have hc : (s.leave v r).cls u = if s.num v ≤ s.low v ∧ s.num v ≤ s.num u ∧ s.cls u = -1 then (v : Int) else s.cls u := rfl
 constructor
 ·intro hu
  have hop := (h.mem u).1 (List.mem_append.2 (.inl hu))
  refine ⟨hop.1, ?_⟩
  rw [hc, if_neg (fun e => by have := hpre u hu; have := e.2.1; omega)]
  exact hop.2
 ·rintro ⟨h1, h2⟩
  rw [hc] at h2
  by_cases e : s.num v ≤ s.low v ∧ s.num v ≤ s.num u ∧ s.cls u = -1
  ·rw [if_pos e] at h2; omega
  ·rw [if_neg e] at h2
   rcases List.mem_append.1 ((h.mem u).2 ⟨h1, h2⟩) with h3 | h3
   ·exact h3
   ·exact absurd ⟨hlow, (hm u).1 h3⟩ e
end Go.Proofs.YtplofbabfkkimaaGreatDoor.Ts
/- The walk between two goOns: its lists keep the plain invariant; what number, ahead and close make of it. Plain facts. -/
namespace Go.Proofs.YtplofbabfkkimaaGreatDoor.Ts
def seen (path : List (Nat × Nat)) : List (Nat × Nat × Nat) := path.reverse.map fun p => (p.1, 1, p.2)
theorem seen_cons (p : Nat × Nat) (r : List (Nat × Nat)) : seen (p :: r) = seen r ++ [(p.1, 1, p.2)] := by simp [seen]
theorem seen_length (path : List (Nat × Nat)) : (seen path).length = path.length := by simp [seen]
structure Wi (n : Nat) (out : Nat → List Nat) (x : Wk) (path : List (Nat × Nat)) (os : List Nat) (pd : Nat → Prop) : Prop where
 inv : Inv n out (x.st path) pd
 opl : OpL (x.st path) os
 os : x.os = cast os
 ns : x.ns.length = n
 ls : x.ls.length = n
 cs : x.cs.length = n
theorem Wi.ps {n : Nat} {out : Nat → List Nat} {x : Wk} {path : List (Nat × Nat)} {os : List Nat} {pd : Nat → Prop} (h : Wi n out x path os pd) (vp : Value) (ps : List (Nat × Nat × Nat)) : Wi n out { x with vp := vp, ps := ps } path os pd := ⟨h.inv, h.opl, h.os, h.ns, h.ls, h.cs⟩
theorem Wi.number {n : Nat} {out : Nat → List Nat} {x : Wk} {path : List (Nat × Nat)} {os : List Nat} {pd pd' : Nat → Prop} (h : Wi n out x path os pd) {v : Nat} (hv : v < n) (hn : x.ns[v]? = some (-1)) (hp : path = [] ∨ ∃ p i r, path = (p, i) :: r ∧ (out p)[i]? = some v) (vo : Value) : Wi n out (x.numd v vo) ((v, 0) :: path) (os ++ [v]) pd' := by
 have hnum : (x.st path).num v = -1 := by show x.ns[v]?.getD (-1) = -1; rw [hn]; rfl
 have hst := st_enter x path v vo (by rw [h.ns]; exact hv) (by rw [h.ls]; exact hv)
 refine ⟨by rw [hst]; exact h.inv.enter hv hnum hp, by rw [hst]; exact h.opl.enter h.inv hnum, ?_, ?_, ?_, h.cs⟩
 ·show x.os ++ [(v : Int)] = _
  rw [h.os, cast_snoc]
 ·show (x.ns.set v x.cnt).length = n
  rw [List.length_set, h.ns]
 ·show (x.ls.set v x.cnt).length = n
  rw [List.length_set, h.ls]
theorem Wi.gone {n : Nat} {out : Nat → List Nat} {x : Wk} {s k : Nat} {r : List (Nat × Nat)} {os : List Nat} {pd : Nat → Prop} (h : Wi n out x ((s, k) :: r) os pd) (hs : s < n) (hout : ∀ t ∈ out s, t < n) (i st : Nat) (hps : x.ps[i]? = some (s, st, k)) (j : Nat) (hle : k + j ≤ (out s).length) (hnum : ∀ m t, k ≤ m → m < k + j → (out s)[m]? = some t → x.ns[t]? ≠ some (-1)) : ∃ pd', Wi n out (x.gone out i s st k j) ((s, k + j) :: r) os pd' := by
 induction j with
 | zero => rw [gone_zero x out hps]; exact ⟨pd, h⟩
 | succ j ih =>
   obtain ⟨pd', h1⟩ := ih (by omega) fun m t a b => hnum m t a (by omega)
   obtain ⟨t, ht⟩ : ∃ t, (out s)[k + j]? = some t := ⟨_, List.getElem?_eq_getElem (by omega)⟩
   have htn : t < n := hout t (List.mem_of_getElem? ht)
   have hst := st_pass x out r (i := i) (st := st) ht (by rw [h.ls]; exact hs) (by rw [h.cs]; exact htn)
   obtain ⟨z, hz⟩ : ∃ z, x.ns[t]? = some z := ⟨_, List.getElem?_eq_getElem (by rw [h.ns]; exact htn)⟩
   have hz1 : z ≠ -1 := fun e => hnum (k + j) t (by omega) (by omega) ht (by rw [hz, e])
   have hnt : 0 ≤ ((x.gone out i s st k j).st ((s, k + j) :: r)).num t := by
    rcases h1.inv.neg t with h2 | h2
    ·exfalso
     have h3 : x.ns[t]?.getD (-1) = -1 := h2
     rw [hz] at h3
     exact hz1 h3
    ·exact h2
   refine ⟨fun _ => False, by rw [← Nat.add_assoc, hst]; exact h1.inv.pass rfl ht hnt, by rw [← Nat.add_assoc, hst]; exact h1.opl.pass _ _ _ _, h.os, h.ns, ?_, h.cs⟩
   exact (passes_length _ _ _ _).trans h.ls
theorem Wi.leave_on {n : Nat} {out : Nat → List Nat} {x : Wk} {v k : Nat} {r : List (Nat × Nat)} {os : List Nat} {pd : Nat → Prop} (h : Wi n out x ((v, k) :: r) os pd) (hk : (out v).length ≤ k) {lo nu : Int} (hlo : x.ls[v]? = some lo) (hnu : x.ns[v]? = some nu) (hlt : lo < nu) : Wi n out x r os (fun c => c = v) := by
 have hlow : (x.st ((v, k) :: r)).low v < (x.st ((v, k) :: r)).num v := by show x.ls[v]?.getD 0 < x.ns[v]?.getD (-1); rw [hlo, hnu]; exact hlt
 have hst := st_stay x r hlow
 exact ⟨by rw [hst]; exact h.inv.leave_on rfl hk hlow, by rw [hst]; exact h.opl.leave_on r hlow, h.os, h.ns, h.ls, h.cs⟩
theorem Wi.leave_whole {n : Nat} {out : Nat → List Nat} {x : Wk} {v k : Nat} {r : List (Nat × Nat)} {os : List Nat} {pd pd' : Nat → Prop} (h : Wi n out x ((v, k) :: r) os pd) (hk : (out v).length ≤ k) {lo nu : Int} (hlo : x.ls[v]? = some lo) (hnu : x.ns[v]? = some nu) (hlt : ¬ lo < nu) {pre post : List Nat} (ho : os = pre ++ v :: post) (hm : ∀ u, u ∈ v :: post ↔ (x.st ((v, k) :: r)).num v ≤ (x.st ((v, k) :: r)).num u ∧ (x.st ((v, k) :: r)).cls u = -1) (hpre : ∀ u ∈ pre, (x.st ((v, k) :: r)).num u < (x.st ((v, k) :: r)).num v) (vo : Value) : Wi n out (x.pop v pre (v :: post) vo) r pre pd' := by
 have hlow : (x.st ((v, k) :: r)).num v ≤ (x.st ((v, k) :: r)).low v := by show x.ns[v]?.getD (-1) ≤ x.ls[v]?.getD 0; rw [hlo, hnu]; simp only [Option.getD_some]; omega
 have hin : ∀ u ∈ v :: post, u < x.cs.length := fun u hu => by
  rw [h.cs]
  exact h.inv.rng u ((h.opl.mem u).1 (by rw [ho]; exact List.mem_append.2 (.inr hu))).1
 have hst := st_leave x pre post vo r hlow hm hin
 have hop := h.opl
 rw [ho] at hop
 exact ⟨by rw [hst]; exact h.inv.leave_whole rfl hk hlow, by rw [hst]; exact hop.leave_whole r hlow hm hpre, rfl, h.ns, h.ls, (setAll_length _ _ _).trans h.cs⟩
end Go.Proofs.YtplofbabfkkimaaGreatDoor.Ts
/- tauscc: contract of the walk's ahead. -/
namespace Go.Proofs.YtplofbabfkkimaaGreatDoor.Ts
open Go.RowKit Go.Maps
attribute [local go_sem ↓] Go.wp_at_zero Go.wp_at_succ
set_option linter.unusedSimpArgs false in
set_option maxRecDepth 100000 in
set_option maxHeartbeats 4000000 in
theorem ahead_any (B r n gs os cp : Nat) (x : Wk) (out : Nat → List Nat) (i s st k gp cap : Nat) (w : World) (hM : WkM w B r x) (hS : Sil w r x n out gs os cp) (hvp : x.vp = .slice (some ⟨gp, 0, none⟩) x.ps.length cap) (hp : x.ps[i]? = some (s, st, k)) (hk : k ≤ (out s).length) (hs : s < n) (hout : ∀ t ∈ out s, t < n) (hol : (out s).length ≤ 100000) (hns : x.ns.length = n) (hls : x.ls.length = n) (hcs : x.cs.length = n) :
 Calls Tryz.prog 153 #[.pointer (some ⟨r, 0, none⟩), .pointer (some ⟨gp, i * 3, none⟩)] w fun e w' => ∃ j, Ahead e x out s k j ∧ AhAt w w' B r x out i s st k j := by
 obtain ⟨L, hL⟩ : ∃ L, L = (out s).length := ⟨_, rfl⟩
 have hst : AhAt w w B r x out i s st k 0 := ⟨hk, fun m t h1 h2 => by omega, by rw [gone_zero x out hp]; exact hM, by rw [gone_zero x out hp]; exact Grew.refl _ _ _⟩
 have hpl := (List.getElem?_eq_some_iff.1 hp).1
 have H : Hid _ := And.intro hst (And.intro hS (And.intro hvp (And.intro hp (And.intro hs (And.intro hout (And.intro hol (And.intro hns (And.intro hls (And.intro hcs (And.intro hL (And.intro hpl hM)))))))))))
 clear hst hS hvp hp hs hout hol hns hls hcs hL hpl hM
 go_enter Tryz.func153, Tryz.ntmps153
 go_wp2_with fail
 go_loopg [] (L - k) (fun g wr => ∃ j : Nat, g = L - (k + j) ∧ AhAt w wr B r x out i s st k j)
 case atStart => exact ⟨0, rfl, H.out.1⟩
 case round =>
  obtain ⟨j, rfl, hA⟩ := hrel
  obtain ⟨xj, hxj⟩ : ∃ xj, xj = x.gone out i s st k j := ⟨_, rfl⟩
  have hmj : WkM wr B r xj := by rw [hxj]; exact hA.m
  have hgj : Grew w wr r x xj := by rw [hxj]; exact hA.gw
  have hpj : xj.ps[i]? = some (s, st, k + j) := by rw [hxj]; exact List.getElem?_set_self H.out.2.2.2.2.2.2.2.2.2.2.2.1
  obtain ⟨b0, _, _, _, b4, b5, b6⟩ := seven_cells hmj.box
  obtain ⟨gp', cap', hvj, _, e0, _, e2, ef⟩ := hmj.entry hpj
  have hvp2 : xj.vp = .slice (some ⟨gp, 0, none⟩) x.ps.length cap := by rw [hxj]; exact H.out.2.2.1
  have hlj : xj.ps.length = x.ps.length := by rw [hxj]; exact List.length_set
  rw [hvp2] at hvj
  injection hvj with q1 q2 q3
  injection q1 with q1
  injection q1 with q1
  subst q1
  have hSj := H.out.2.1.grew hgj (by rw [hxj]; rfl)
  obtain ⟨vq, hcq, hIq, _⟩ := hSj.at_ s H.out.2.2.2.2.1
  have hvs := hSj.vs
  rw [hvs] at b0
  obtain ⟨aq, cq, rfl, hcell⟩ := hIq
  rw [cast_length, ← H.out.2.2.2.2.2.2.2.2.2.2.1] at hcq
  obtain ⟨m, hm⟩ : ∃ m, m = k + j := ⟨_, rfl⟩
  rw [← hm] at e2
  have p0 : (0 : Int) ≤ (s : Int) := by omega
  have p1 : (s : Int) < (n : Int) := by have := H.out.2.2.2.2.1; omega
  have p2 : (0 : Int) ≤ (m : Int) := by omega
  have ef0 := ef (i * 3 + 2)
  have HJ : Hid _ := And.intro hA (And.intro hxj (And.intro hmj (And.intro hgj (And.intro hpj (And.intro hlj (And.intro hSj (And.intro hvp2 (And.intro hm hvs))))))))
  by_cases hlt : m < L
  ·have r1 : (m : Int) < (L : Int) := by omega
   have hnsj : xj.ns.length = n := by rw [hxj]; exact H.out.2.2.2.2.2.2.2.1
   have hcsj : xj.cs.length = n := by rw [hxj]; exact H.out.2.2.2.2.2.2.2.2.2.1
   have hlsj : xj.ls.length = n := by rw [hxj]; exact (passes_length _ _ _ _).trans H.out.2.2.2.2.2.2.2.2.1
   obtain ⟨t, ht⟩ : ∃ t, (out s)[m]? = some t := ⟨_, List.getElem?_eq_getElem (by have := H.out.2.2.2.2.2.2.2.2.2.2.1; omega)⟩
   have htn : t < n := H.out.2.2.2.2.2.1 t (List.mem_of_getElem? ht)
   obtain ⟨a, rfl, ct⟩ := hcell m (t : Int) (by unfold cast; rw [List.getElem?_map, ht]; rfl)
   obtain ⟨zn, hzn⟩ : ∃ z, xj.ns[t]? = some z := ⟨_, List.getElem?_eq_getElem (by omega)⟩
   obtain ⟨zc, hzc⟩ : ∃ z, xj.cs[t]? = some z := ⟨_, List.getElem?_eq_getElem (by omega)⟩
   obtain ⟨zt, hzt⟩ : ∃ z, xj.ls[t]? = some z := ⟨_, List.getElem?_eq_getElem (by omega)⟩
   obtain ⟨zs, hzs⟩ : ∃ z, xj.ls[s]? = some z := ⟨_, List.getElem?_eq_getElem (by have := H.out.2.2.2.2.1; omega)⟩
   obtain ⟨gn, on, cn, hvn, _, cnn, _⟩ := que_cell (hmj.q.q 1 (xj.vn, xj.ns) rfl) hzn
   obtain ⟨gc, oc, cc, hvc, _, ccc, _⟩ := que_cell (hmj.q.q 3 (xj.vc, xj.cs) rfl) hzc
   obtain ⟨gl, ol, cl, hvl, _, clt, _⟩ := que_cell (hmj.q.q 2 (xj.vl, xj.ls) rfl) hzt
   obtain ⟨gl', ol', cl', hvl', _, cls, fls⟩ := que_cell (hmj.q.q 2 (xj.vl, xj.ls) rfl) hzs
   simp only at hvn hvc hvl hvl'
   rw [hnsj] at hvn
   rw [hcsj] at hvc
   rw [hlsj] at hvl hvl'
   rw [hvl] at hvl'
   injection hvl' with u1 u2 u3
   injection u1 with u1
   injection u1 with u4 u5
   subst u4; subst u5
   rw [hvn] at b4
   rw [hvl] at b5
   rw [hvc] at b6
   have p3 : (0 : Int) ≤ (t : Int) := by omega
   have p5 : IntKind.i64.wrap ((m : Int) + 1) = (m : Int) + 1 := by have := H.out.2.2.2.2.2.2.1; have := H.out.2.2.2.2.2.2.2.2.2.2.1; rw [IntKind.wrap_i64]; omega
   have hme : L - (k + (j + 1)) < L - (k + j) := by omega
   have hmi : (m : Int) + 1 = ((k + (j + 1) : Nat) : Int) := by omega
   have HE : Hid _ := And.intro hme hmi
   clear hme hmi
   have p4 : (t : Int) < (n : Int) := by omega
   have HT : Hid _ := And.intro ht (And.intro hzn (And.intro hzc (And.intro hzt (And.intro hzs (And.intro hvl (And.intro hlsj htn))))))
   clear hA hxj hmj hgj hpj hlj hSj hvp2 hm hvs q2 q3 ef hcell ht hzn hzc hzt hzs hvn hvc hvl u2 u3 hnsj hcsj hlsj
   go_upto_region 1 with fail
   go_region
   go_upto_region 3 with fail
   go_region
   by_cases hfr : zn = -1
   ·subst hfr
    go_wp2_with fail
    go_ret2
    refine ⟨j, .inl ⟨t, rfl, ?_, ?_⟩, ?_⟩
    ·rw [← HJ.out.2.2.2.2.2.2.2.2.1]; exact HT.out.1
    ·have h9 := HT.out.2.1; rw [HJ.out.2.1] at h9; exact h9
    ·exact HJ.out.1.below (Below.refl _ _).drew.drew
   ·have hnn : x.ns[t]? ≠ some (-1) := fun e => by have h9 := HT.out.2.1; rw [HJ.out.2.1] at h9; exact hfr (Option.some.inj (h9.symm.trans e))
    have hmt : (out s)[k + j]? = some t := by rw [← HJ.out.2.2.2.2.2.2.2.2.1]; exact HT.out.1
    have HN : Hid _ := And.intro hnn hmt
    clear hnn hmt
    go_upto_region 6 with fail
    by_cases hop : zc = -1
    ·subst hop
     go_upto_region 7 with fail
     obtain ⟨w1, hw1⟩ : ∃ w1, w1 = wr.drew.drew := ⟨_, rfl⟩
     rw [← hw1]
     have hb1 : Below wr.heap.size wr w1 := by rw [hw1]; exact (Below.refl _ _).drew.drew
     have hm1 := HJ.out.2.2.1.below hb1
     have y0 := cell_up e0 hb1
     have y2 := cell_up e2 hb1
     have y5 := cell_up b5 hb1
     have yt := cell_up clt hb1
     have ys := cell_up cls hb1
     have yf : w1.frozen? ⟨gl, ol + s, none⟩ = false := (World.frozen?_of_block (hb1.block gl (World.block_lt_of_cell? wr _ cls))).trans fls
     have yg : w1.frozen? ⟨gp, i * 3 + 2, none⟩ = false := (World.frozen?_of_block (hb1.block gp (World.block_lt_of_cell? wr _ e2))).trans ef0
     have hks : ∀ (W : World) (z : Int), (W.cell? ⟨r, 5, none⟩ = some (.slice (some ⟨gl, ol, none⟩) n cl) ∧ W.cell? ⟨gp, i * 3, none⟩ = some (.int .i64 s)) → (W.setCell ⟨gl, ol + s, none⟩ (.int .i64 z)).cell? ⟨r, 5, none⟩ = some (.slice (some ⟨gl, ol, none⟩) n cl) ∧ (W.setCell ⟨gl, ol + s, none⟩ (.int .i64 z)).cell? ⟨gp, i * 3, none⟩ = some (.int .i64 s) := fun W z hW => by
      have hf : Foot xj.L gl := ⟨(xj.vl, xj.ls), by simp [Wk.L], by rw [HT.out.2.2.2.2.2.1]; rfl⟩
      have hr : r ≠ gl := fun e => hm1.r_foot (.inr (by rw [e]; exact hf))
      have hp : gp ≠ gl := fun e => hm1.path_list (b := gp) (by rw [HJ.out.2.2.2.2.2.2.2.1]; rfl) (by rw [e]; exact hf)
      exact ⟨(World.cell?_of_block (a := ⟨r, 5, none⟩) (set_other _ _ _ _ _ hr)).trans hW.1, (World.cell?_of_block (a := ⟨gp, i * 3, none⟩) (set_other _ _ _ _ _ hp)).trans hW.2⟩
     have HKS : Hid _ := hks
     clear hks
     have H1 : Hid _ := And.intro hm1 hb1
     clear hm1 hb1 hw1 e0 e2 b0 b4 b5 b6 ct hcq cnn ccc clt cls fls ef0 hlt r1
     refine wp_region_held_drew (S := (fun w' => w'.cell? ⟨r, 5, none⟩ = some (.slice (some ⟨gl, ol, none⟩) n cl) ∧ w'.cell? ⟨gp, i * 3, none⟩ = some (.int .i64 s))) (by kernel_rfl) ?_ (fun hHeld => ?_)
     ·exact ⟨y5, y0⟩
     refine tk9 0 ?_ rfl (by kernel_rfl) (fun _ _ _ h => h) ⟨by rfl, ?_⟩ (by assumption) ?_; rotate_left; (focus (intro w hSw; (try dsimp only at hSw); go_simp; (try with_reducible rfl))); (try simp only [ty9, Act.put])
     refine tk9 1 ?_ rfl (by kernel_rfl) (fun _ _ _ h => h) ⟨by rfl, ?_⟩ (by assumption) ?_; rotate_left; (focus (intro w hSw; (try dsimp only at hSw); go_simp; (try with_reducible rfl))); (try simp only [ty9, Act.put])
     refine tk9 2 ?_ rfl (by kernel_rfl) (fun _ _ _ h => h) ⟨by rfl, ?_⟩ (by assumption) ?_; rotate_left; (focus (intro w hSw; (try dsimp only at hSw); go_simp; (try with_reducible rfl))); (try simp only [ty9, Act.put])
     refine tk9 3 ?_ rfl (by kernel_rfl) (fun _ _ _ h => h) ⟨by rfl, ?_⟩ (by assumption) ?_; rotate_left; (focus (intro w hSw; (try dsimp only at hSw); go_simp; (try with_reducible rfl))); (try simp only [ty9, Act.put])
     refine tk9 4 ?_ rfl (by kernel_rfl) (fun _ _ _ h => h) ⟨by rfl, ?_⟩ (by assumption) ?_; rotate_left; (focus (intro w hSw; (try dsimp only at hSw); go_simp; (try with_reducible rfl))); (try simp only [ty9, Act.put])
     refine tk9 5 ?_ rfl (by kernel_rfl) (fun _ _ _ h => h) ⟨by rfl, ?_⟩ (by assumption) ?_; rotate_left; (focus (intro w hSw; (try dsimp only at hSw); go_simp; (try with_reducible rfl))); (try simp only [ty9, Act.put])
     refine tk9 6 ?_ rfl (by kernel_rfl) (fun _ _ _ h => h) ⟨by rfl, ?_⟩ (by assumption) ?_; rotate_left; (focus (intro w hSw; (try dsimp only at hSw); go_simp; (try with_reducible rfl))); (try simp only [ty9, Act.put])
     refine tk9 7 ?_ rfl (by kernel_rfl) (fun _ _ _ h => h) ⟨by rfl, ?_⟩ (by assumption) ?_; rotate_left; (focus (intro w hSw; (try dsimp only at hSw); go_simp; (try with_reducible rfl))); (try simp only [ty9, Act.put])
     refine tk9 8 ?_ rfl (by kernel_rfl) (fun _ _ _ h => h) ⟨by rfl, ?_⟩ (by assumption) ?_; rotate_left; (focus (intro w hSw; (try dsimp only at hSw); go_simp; (try with_reducible rfl))); (try simp only [ty9, Act.put])
     refine tk9 9 ?_ rfl (by kernel_rfl) (fun _ _ _ h => h) ⟨by rfl, ?_⟩ (by assumption) ?_; rotate_left; (focus (intro w hSw; (try dsimp only at hSw); go_simp; (try with_reducible rfl))); (try simp only [ty9, Act.put])
     refine tk9 10 ?_ rfl (by kernel_rfl) (fun _ _ _ h => h) ⟨by rfl, ?_⟩ (by assumption) ?_; rotate_left; (focus (intro w hSw; (try dsimp only at hSw); go_simp; (try with_reducible rfl))); (try simp only [ty9, Act.put])
     refine tk9 11 ?_ rfl (by kernel_rfl) (fun _ _ _ h => h) ⟨by rfl, ?_⟩ (by assumption) ?_; rotate_left; (focus (intro w hSw; (try dsimp only at hSw); go_simp; (try with_reducible rfl))); (try simp only [ty9, Act.put])
     refine tk9 12 ?_ rfl (by kernel_rfl) (fun _ _ _ h => h) ⟨by rfl, ?_⟩ (by assumption) ?_; rotate_left; (focus (intro w hSw; (try dsimp only at hSw); go_simp; (try with_reducible rfl))); (try simp only [ty9, Act.put])
     refine tk9 13 ?_ rfl (by kernel_rfl) (fun _ _ _ h => h) ⟨by rfl, ?_⟩ (by assumption) ?_; rotate_left; (focus (intro w hSw; (try dsimp only at hSw); go_simp; (try with_reducible rfl))); (try simp only [ty9, Act.put])
     refine tk9 14 ?_ rfl (by kernel_rfl) (fun _ _ _ h => h) ⟨by rfl, ?_⟩ (by assumption) ?_; rotate_left; (focus (intro w hSw; (try dsimp only at hSw); go_simp; (try with_reducible rfl))); (try simp only [ty9, Act.put])
     refine tk9 15 ?_ rfl (by kernel_rfl) (fun _ _ _ h => h) ⟨by rfl, ?_⟩ (by assumption) ?_; rotate_left; (focus (intro w hSw; (try dsimp only at hSw); go_simp; (try with_reducible rfl))); (try simp only [ty9, Act.put])
     refine tk9 16 ?_ rfl (by kernel_rfl) (fun _ _ _ h => h) ⟨by rfl, ?_⟩ (by assumption) ?_; rotate_left; (focus (intro w hSw; (try dsimp only at hSw); go_simp; (try with_reducible rfl))); (try simp only [ty9, Act.put])
     refine tk9 18 ?_ rfl (by kernel_rfl) (fun _ _ _ h => h) ⟨by rfl, ?_⟩ (by assumption) ?_; rotate_left; (focus (intro w hSw; (try dsimp only at hSw); go_simp; (try with_reducible rfl))); (try simp only [ty9, Act.put])
     refine tk9 19 ?_ rfl (by kernel_rfl) (fun _ _ _ h => h) ⟨by rfl, ?_⟩ (by assumption) ?_; rotate_left; (focus (intro w hSw; (try dsimp only at hSw); go_simp; (try with_reducible rfl))); (try simp only [ty9, Act.put])
     refine tk9 20 ?_ rfl (by kernel_rfl) (fun _ _ _ h => h) ⟨by rfl, ?_⟩ (by assumption) ?_; rotate_left; (focus (intro w hSw; (try dsimp only at hSw); go_simp; (try with_reducible rfl))); (try simp only [ty9, Act.put])
     refine tk9 21 ?_ rfl (by kernel_rfl) (fun _ _ _ h => h) ⟨by rfl, ?_⟩ (by assumption) ?_; rotate_left; (focus (intro w hSw; (try dsimp only at hSw); go_simp; (try with_reducible rfl))); (try simp only [ty9, Act.put])
     refine tk9 22 ?_ rfl (by kernel_rfl) (fun _ _ _ h => h) ⟨by rfl, ?_⟩ (by assumption) ?_; rotate_left; (focus (intro w hSw; (try dsimp only at hSw); go_simp; (try with_reducible rfl))); (try simp only [ty9, Act.put])
     refine tk9 23 ?_ rfl (by kernel_rfl) (fun _ _ _ h => h) ⟨by rfl, ?_⟩ (by assumption) ?_; rotate_left; (focus (intro w hSw; (try dsimp only at hSw); go_simp; (try with_reducible rfl))); (try simp only [ty9, Act.put])
     refine wpAnyH_ready (rs := [17, 24]) (by kernel_rfl) (by simp) ?_
     refine AllReadyH.cons (o := _) rfl (fun K hK => ?_) ?_
     ·(go_simp)
      refine hK.out _ _ ?_ (fun hHeld => ?_)
      ·exact hHeld
      clear hK K
      (try simp only [ty9, Act.put])
      refine wpAnyH_ready (rs := [24]) (by kernel_rfl) (by simp) ?_
      refine AllReadyH.cons (o := _) rfl (fun K hK => ?_) ?_
      ·(go_simp)
       refine hK.out _ _ ?_ (fun hHeld => ?_)
       ·exact hHeld
       clear hK K
       (try simp only [ty9, Act.put])
       refine wpAnyH_ready (rs := [25]) (by kernel_rfl) (by simp) ?_
       refine AllReadyH.cons (o := _) rfl (fun K hK => ?_) ?_
       ·(go_simp)
        refine hK.out _ _ ?_ (fun hHeld => ?_)
        ·exact hHeld
        clear hK K
        (try simp only [ty9, Act.put])
        refine tk9 26 ?_ rfl (by kernel_rfl) (fun _ _ _ h => h) ⟨by rfl, ?_⟩ (by assumption) ?_; rotate_left; (focus (intro w hSw; (try dsimp only at hSw); go_simp; (try with_reducible rfl))); (try simp only [ty9, Act.put])
        refine wpAnyH_ready (rs := [27]) (by kernel_rfl) (by simp) ?_
        refine AllReadyH.cons (o := _) rfl (fun K hK => ?_) ?_
        ·(go_simp)
         refine hK.out _ _ ?_ (fun hHeld => ?_)
         ·exact HKS.out w1 _ hHeld
         clear hK K
         (try simp only [ty9, Act.put])
         refine wpAnyH_done (by kernel_rfl) ?_ _
         (try go_simp)
         obtain ⟨z, hz⟩ : ∃ z, z = min zs zt := ⟨_, rfl⟩
         have hif : (if zt < zs then zt else zs) = z := by rw [hz]; split <;> omega
         rw [hif]
         obtain ⟨w2, hw2⟩ : ∃ w2, w2 = (w1.setCell ⟨gl, ol + s, none⟩ (.int .i64 z)).drew := ⟨_, rfl⟩
         rw [← hw2]
         obtain ⟨x2, hx2⟩ : ∃ x2 : Wk, x2 = { xj with ls := xj.ls.set s z } := ⟨_, rfl⟩
         have h2 : WkM w2 B r x2 ∧ Grew w w2 r x x2 := by
          obtain ⟨e1, e2⟩ := H1.out.1.set (x' := x2) (k := 2) (g := gl) (off := ol) (n := n) (cap := cl) (zs := xj.ls) (i := s) (by show some (xj.vl, xj.ls) = _; rw [HT.out.2.2.2.2.2.1]) (by rw [HT.out.2.2.2.2.2.2.1]; exact H.out.2.2.2.2.1) z (by rw [hx2]; show [_, _, _, _] = [_, _, _, _]; simp only; rw [HT.out.2.2.2.2.2.1]) (by rw [hx2]) ⟨by rw [hx2], by rw [hx2]⟩
          rw [hw2]
          exact ⟨e1.below (Below.refl _ _).drew, ((HJ.out.2.2.2.1.below H1.out.2).trans e2).below (Below.refl _ _).drew⟩
         have hp2 : x2.ps[i]? = some (s, st, k + j) := by rw [hx2]; exact HJ.out.2.2.2.2.1
         have hv2 : x2.vp = .slice (some ⟨gp, 0, none⟩) x2.ps.length cap := by rw [hx2]; show xj.vp = .slice _ xj.ps.length _; rw [HJ.out.2.2.2.2.2.1]; exact HJ.out.2.2.2.2.2.2.2.1
         obtain ⟨gp2, cap2, hv3, _, _, _, f2, ff⟩ := h2.1.entry hp2
         rw [hv2] at hv3
         injection hv3 with v1 v2 v3
         injection v1 with v1
         injection v1 with v1
         subst v1
         rw [← HJ.out.2.2.2.2.2.2.2.2.1] at f2
         have ff0 := ff (i * 3 + 2)
         have H2 : Hid _ := And.intro h2 (And.intro hx2 (And.intro hp2 (And.intro hv2 hz)))
         clear h2 hx2 hp2 hv2 hz hif hw2 v2 v3 ff y0 y2 y5 yt ys yf yg hHeld
         go_wp2_with fail
         have hfin := H2.out.1.1.setStep H2.out.2.2.2.1 H2.out.2.2.1 (k + (j + 1))
         have hcj : x.cs[t]? = some (-1) := by have h9 := HT.out.2.2.1; rw [HJ.out.2.1] at h9; exact h9
         have hx : { x2 with ps := x2.ps.set i (s, st, k + (j + 1)) } = x.gone out i s st k (j + 1) := by
          have h8 := HT.out.2.2.2.1
          have h9 := HT.out.2.2.2.2.1
          rw [HJ.out.2.1] at h8 h9
          rw [H2.out.2.1, H2.out.2.2.2.2, HJ.out.2.1]
          exact (gone_open x out HN.out.2 hcj h9 h8).symm
         go_roundg (L - (k + (j + 1)))
         case measure => exact HE.out.1
         case rel =>
          refine ⟨j + 1, rfl, ?_⟩
          rw [HE.out.2]
          exact HJ.out.1.next HN.out.2 HN.out.1 hfin.1 (H2.out.1.2.trans hfin.2) hx
        exact AllReadyH.nil
       exact AllReadyH.nil
      exact AllReadyH.nil
     refine AllReadyH.cons (o := _) rfl (fun K hK => ?_) ?_
     ·(go_simp)
      refine hK.out _ _ ?_ (fun hHeld => ?_)
      ·exact hHeld
      clear hK K
      (try simp only [ty9, Act.put])
      refine wpAnyH_ready (rs := [17]) (by kernel_rfl) (by simp) ?_
      refine AllReadyH.cons (o := _) rfl (fun K hK => ?_) ?_
      ·(go_simp)
       refine hK.out _ _ ?_ (fun hHeld => ?_)
       ·exact hHeld
       clear hK K
       (try simp only [ty9, Act.put])
       refine wpAnyH_ready (rs := [25]) (by kernel_rfl) (by simp) ?_
       refine AllReadyH.cons (o := _) rfl (fun K hK => ?_) ?_
       ·(go_simp)
        refine hK.out _ _ ?_ (fun hHeld => ?_)
        ·exact hHeld
        clear hK K
        (try simp only [ty9, Act.put])
        refine tk9 26 ?_ rfl (by kernel_rfl) (fun _ _ _ h => h) ⟨by rfl, ?_⟩ (by assumption) ?_; rotate_left; (focus (intro w hSw; (try dsimp only at hSw); go_simp; (try with_reducible rfl))); (try simp only [ty9, Act.put])
        refine wpAnyH_ready (rs := [27]) (by kernel_rfl) (by simp) ?_
        refine AllReadyH.cons (o := _) rfl (fun K hK => ?_) ?_
        ·(go_simp)
         refine hK.out _ _ ?_ (fun hHeld => ?_)
         ·exact HKS.out w1 _ hHeld
         clear hK K
         (try simp only [ty9, Act.put])
         refine wpAnyH_done (by kernel_rfl) ?_ _
         (try go_simp)
         obtain ⟨z, hz⟩ : ∃ z, z = min zs zt := ⟨_, rfl⟩
         have hif : (if zt < zs then zt else zs) = z := by rw [hz]; split <;> omega
         rw [hif]
         obtain ⟨w2, hw2⟩ : ∃ w2, w2 = (w1.setCell ⟨gl, ol + s, none⟩ (.int .i64 z)).drew := ⟨_, rfl⟩
         rw [← hw2]
         obtain ⟨x2, hx2⟩ : ∃ x2 : Wk, x2 = { xj with ls := xj.ls.set s z } := ⟨_, rfl⟩
         have h2 : WkM w2 B r x2 ∧ Grew w w2 r x x2 := by
          obtain ⟨e1, e2⟩ := H1.out.1.set (x' := x2) (k := 2) (g := gl) (off := ol) (n := n) (cap := cl) (zs := xj.ls) (i := s) (by show some (xj.vl, xj.ls) = _; rw [HT.out.2.2.2.2.2.1]) (by rw [HT.out.2.2.2.2.2.2.1]; exact H.out.2.2.2.2.1) z (by rw [hx2]; show [_, _, _, _] = [_, _, _, _]; simp only; rw [HT.out.2.2.2.2.2.1]) (by rw [hx2]) ⟨by rw [hx2], by rw [hx2]⟩
          rw [hw2]
          exact ⟨e1.below (Below.refl _ _).drew, ((HJ.out.2.2.2.1.below H1.out.2).trans e2).below (Below.refl _ _).drew⟩
         have hp2 : x2.ps[i]? = some (s, st, k + j) := by rw [hx2]; exact HJ.out.2.2.2.2.1
         have hv2 : x2.vp = .slice (some ⟨gp, 0, none⟩) x2.ps.length cap := by rw [hx2]; show xj.vp = .slice _ xj.ps.length _; rw [HJ.out.2.2.2.2.2.1]; exact HJ.out.2.2.2.2.2.2.2.1
         obtain ⟨gp2, cap2, hv3, _, _, _, f2, ff⟩ := h2.1.entry hp2
         rw [hv2] at hv3
         injection hv3 with v1 v2 v3
         injection v1 with v1
         injection v1 with v1
         subst v1
         rw [← HJ.out.2.2.2.2.2.2.2.2.1] at f2
         have ff0 := ff (i * 3 + 2)
         have H2 : Hid _ := And.intro h2 (And.intro hx2 (And.intro hp2 (And.intro hv2 hz)))
         clear h2 hx2 hp2 hv2 hz hif hw2 v2 v3 ff y0 y2 y5 yt ys yf yg hHeld
         go_wp2_with fail
         have hfin := H2.out.1.1.setStep H2.out.2.2.2.1 H2.out.2.2.1 (k + (j + 1))
         have hcj : x.cs[t]? = some (-1) := by have h9 := HT.out.2.2.1; rw [HJ.out.2.1] at h9; exact h9
         have hx : { x2 with ps := x2.ps.set i (s, st, k + (j + 1)) } = x.gone out i s st k (j + 1) := by
          have h8 := HT.out.2.2.2.1
          have h9 := HT.out.2.2.2.2.1
          rw [HJ.out.2.1] at h8 h9
          rw [H2.out.2.1, H2.out.2.2.2.2, HJ.out.2.1]
          exact (gone_open x out HN.out.2 hcj h9 h8).symm
         go_roundg (L - (k + (j + 1)))
         case measure => exact HE.out.1
         case rel =>
          refine ⟨j + 1, rfl, ?_⟩
          rw [HE.out.2]
          exact HJ.out.1.next HN.out.2 HN.out.1 hfin.1 (H2.out.1.2.trans hfin.2) hx
        exact AllReadyH.nil
       exact AllReadyH.nil
      exact AllReadyH.nil
     exact AllReadyH.nil
    ·go_wp2_with fail
     have hcj : x.cs[t]? ≠ some (-1) := fun e => by have h9 := HT.out.2.2.1; rw [HJ.out.2.1] at h9; exact hop (Option.some.inj (h9.symm.trans e))
     have hfin := HJ.out.2.2.1.setStep (gp := gp) (cap := cap) (by rw [HJ.out.2.2.2.2.2.1]; exact HJ.out.2.2.2.2.2.2.2.1) HJ.out.2.2.2.2.1 (k + (j + 1))
     have hx : { xj with ps := xj.ps.set i (s, st, k + (j + 1)) } = x.gone out i s st k (j + 1) := by rw [HJ.out.2.1]; exact (gone_shut x out HN.out.2 hcj).symm
     go_roundg (L - (k + (j + 1)))
     case measure => exact HE.out.1
     case rel =>
      refine ⟨j + 1, rfl, ?_⟩
      rw [HE.out.2]
      exact HJ.out.1.next HN.out.2 HN.out.1 (hfin.1.below (Below.refl _ _).drew.drew) ((HJ.out.2.2.2.1.trans hfin.2).below (Below.refl _ _).drew.drew) hx
  ·have hml : m = L := by have h9 := hA.le; rw [← H.out.2.2.2.2.2.2.2.2.2.2.1] at h9; omega
   have r1 : ¬ (m : Int) < (L : Int) := by omega
   clear hA hxj hmj hgj hpj hlj hSj hvp2 hm hvs q2 q3 ef hcell
   go_upto_region 1 with fail
   go_region
   go_wp2_with fail
   go_ret2
   refine ⟨j, .inr ⟨rfl, ?_⟩, ?_⟩
   ·rw [← HJ.out.2.2.2.2.2.2.2.2.1, ← H.out.2.2.2.2.2.2.2.2.2.2.1]; exact hml
   ·exact ⟨HJ.out.1.le, HJ.out.1.num, HJ.out.1.m.below (Below.refl _ _).drew, HJ.out.1.gw.below (Below.refl _ _).drew⟩
end Go.Proofs.YtplofbabfkkimaaGreatDoor.Ts
/- tauscc: contract of the walk's close. -/
namespace Go.Proofs.YtplofbabfkkimaaGreatDoor.Ts
open Go.RowKit Go.Maps
attribute [local go_sem ↓] Go.wp_at_zero Go.wp_at_succ
def Closed (w w' : World) (B r : Nat) (x : Wk) (v : Nat) (lo nu : Int) (pre post : List Nat) : Prop := (lo < nu → WkM w' B r x ∧ Grew w w' r x x) ∧ (¬ lo < nu → ∃ vo, WkM w' B r (x.pop v pre (v :: post) vo) ∧ Grew w w' r x (x.pop v pre (v :: post) vo))
set_option linter.unusedSimpArgs false in
set_option maxRecDepth 100000 in
set_option maxHeartbeats 4000000 in
theorem close_any (B r : Nat) (x : Wk) (v : Nat) (lo nu : Int) (pre post : List Nat) (w : World) (hM : WkM w B r x) (hlo : x.ls[v]? = some lo) (hnu : x.ns[v]? = some nu) (hc : x.cs[v]? = some (-1)) (ho : x.os = cast (pre ++ v :: post)) (hnd : (pre ++ v :: post).Nodup) (hin : ∀ u ∈ pre ++ v :: post, u < x.cs.length) (hlen : x.os.length ≤ 100000) :
 Calls Tryz.prog 154 #[.pointer (some ⟨r, 0, none⟩), .int .i64 v] w fun e w' => e = .returned (.tuple #[]) ∧ Closed w w' B r x v lo nu pre post := by
 obtain ⟨_, _, _, _, c4, c5, _⟩ := seven_cells hM.box
 obtain ⟨gn, on, cn, hvn, _, cnn, _⟩ := que_cell (hM.q.q 1 (x.vn, x.ns) rfl) hnu
 obtain ⟨gl, ol, cl, hvl, _, cll, _⟩ := que_cell (hM.q.q 2 (x.vl, x.ls) rfl) hlo
 simp only at hvn hvl
 have hvN := (List.getElem?_eq_some_iff.1 hnu).1
 have hvL := (List.getElem?_eq_some_iff.1 hlo).1
 obtain ⟨N, hN⟩ : ∃ N, N = x.ns.length := ⟨_, rfl⟩
 obtain ⟨M, hMl⟩ : ∃ M, M = x.ls.length := ⟨_, rfl⟩
 rw [← hMl] at hvl hvL
 rw [← hN] at hvn hvN
 rw [hvn] at c4
 rw [hvl] at c5
 have p0 : (0 : Int) ≤ (v : Int) := by omega
 have p1 : (v : Int) < (N : Int) := by omega
 have p2 : (v : Int) < (M : Int) := by omega
 have H : Hid _ := And.intro hM (And.intro hc (And.intro ho (And.intro hnd (And.intro hin hlen))))
 clear hM hlo hnu hc ho hnd hin hlen hvn hvl hN hMl hvN hvL
 go_enter Tryz.func154, Tryz.ntmps154
 go_upto_region 0 with fail
 by_cases hlt : lo < nu
 ·go_region
  go_wp2_with fail
  (try simp only [Exit.inBlock, Exit.then])
  refine bodyPost_ret (results_none rfl _ _ _) rfl ?_
  refine ⟨rfl, fun _ => ⟨H.out.1.below (Below.refl _ _).drew, (Grew.refl _ _ _).below (Below.refl _ _).drew⟩, fun h => absurd hlt (by omega)⟩
 ·have hp0 : x.pop v (pre ++ v :: post) [] x.vo = x := by unfold Wk.pop; rw [← H.out.2.2.1]; rfl
  have hst : ClAt w w.drew B r x v pre post (pre ++ v :: post) [] x.vo := ⟨by simp, by simp, by rw [hp0]; exact H.out.1.below (Below.refl _ _).drew, by rw [hp0]; exact (Grew.refl _ _ _).below (Below.refl _ _).drew⟩
  have HS : Hid _ := And.intro hst hp0
  clear hst hp0
  go_region
  go_wp2_with fail
  obtain ⟨K, hK⟩ : ∃ K, K = post.length + 1 := ⟨_, rfl⟩
  go_loopg [] K (fun g wr => ∃ (rest popped : List Nat) (vo : Value), g = rest.length - pre.length ∧ ClAt w wr B r x v pre post rest popped vo)
  case atStart => exact ⟨pre ++ v :: post, [], x.vo, by simp; omega, HS.out.1⟩
  case round =>
   obtain ⟨rest, popped, vo, rfl, hA⟩ := hrel
   obtain ⟨_, _, b2, _, _, _, b6⟩ := seven_cells hA.m.box
   have hvc : v < (setAll x.cs popped (v : Int)).length := by rw [setAll_length]; exact H.out.2.2.2.2.1 v (by simp)
   obtain ⟨zc, hzc⟩ : ∃ z, (setAll x.cs popped (v : Int))[v]? = some z := ⟨_, List.getElem?_eq_getElem hvc⟩
   obtain ⟨gc, oc, cc, hcc, _, ccv, _⟩ := que_cell (hA.m.q.q 3 (x.vc, setAll x.cs popped (v : Int)) rfl) hzc
   simp only at hcc
   obtain ⟨C, hC⟩ : ∃ C, C = (setAll x.cs popped (v : Int)).length := ⟨_, rfl⟩
   rw [← hC] at hcc hvc
   have b6' : wr.cell? ⟨r, 6, none⟩ = some (.slice (some ⟨gc, oc, none⟩) C cc) := by rw [← hcc]; exact b6
   have q1 : (v : Int) < (C : Int) := by omega
   clear b6
   by_cases hlt2 : pre.length < rest.length
   ·obtain ⟨rest', u, he, hle, hall⟩ := hA.more hlt2
    have hnp := hA.in_rest H.out.2.2.2.1 hlt2
    have hz : zc = -1 := by rw [setAll_not _ _ _ hnp, H.out.2.1] at hzc; exact (Option.some.inj hzc).symm
    subst hz
    subst he
    obtain ⟨R, hR⟩ : ∃ R, R = rest'.length := ⟨_, rfl⟩
    have hos : (cast (rest' ++ [u]))[R]? = some (u : Int) := by rw [cast_snoc, hR, ← cast_length rest']; simp
    obtain ⟨go, oo, co, hoe, hoc, cou, _⟩ := que_cell (hA.m.q.q 0 (vo, cast (rest' ++ [u])) rfl) hos
    simp only at hoe hoc
    rw [cast_length, List.length_append, ← hR] at hoe hoc
    simp only [List.length_cons, List.length_nil, Nat.zero_add] at hoe hoc
    subst hoe
    have b2' : wr.cell? ⟨r, 2, none⟩ = some (.slice (some ⟨go, oo, none⟩) (R + 1) co) := b2
    obtain ⟨no, hno⟩ : ∃ no, no = R + 1 := ⟨_, rfl⟩
    rw [← hno] at b2' hoc
    have hub : u < C := by rw [hC, setAll_length]; exact H.out.2.2.2.2.1 u (by rw [← hall]; simp)
    obtain ⟨zu, hzu⟩ : ∃ z, (setAll x.cs popped (v : Int))[u]? = some z := ⟨_, List.getElem?_eq_getElem (by omega)⟩
    have h9 := hA.m.q.q 3 (x.vc, setAll x.cs popped (v : Int)) rfl
    simp only at h9
    obtain ⟨gc', oc', cc', hcc', _, ccu, fcu⟩ := que_cell h9 hzu
    rw [hcc] at hcc'
    injection hcc' with e1 e2 e3
    injection e1 with e1
    injection e1 with e4 e5
    subst e4; subst e5
    have hRl : R ≤ 100000 := by
     have h8 := H.out.2.2.2.2.2
     have h7 := congrArg List.length hall
     rw [H.out.2.2.1, cast_length, ← h7] at h8
     simp at h8
     omega
    have q2 : IntKind.i64.wrap ((no : Int) - 1) = (R : Int) := by rw [IntKind.wrap_i64]; omega
    have q3 : (0 : Int) ≤ (R : Int) := by omega
    have q4 : (R : Int) < (no : Int) := by omega
    have q5 : (0 : Int) ≤ (u : Int) := by omega
    have q6 : (u : Int) < (C : Int) := by omega
    have q7 : (R : Int) ≤ (co : Int) := by omega
    have HA : Hid _ := And.intro hA (And.intro hall (And.intro hle (And.intro hR (And.intro hno (And.intro hcc hC)))))
    clear hA hall hle hR hno hcc hC hzc hzu h9 e2 e3 hos b2
    go_upto_region 3 with fail
    go_region
    obtain ⟨w2, hw2⟩ : ∃ w2, w2 = (wr.setCell ⟨gc, oc + u, none⟩ (.int .i64 (v : Int))).drew := ⟨_, rfl⟩
    rw [← hw2]
    obtain ⟨x2, hx2⟩ : ∃ x2 : Wk, x2 = { x with vo := .slice (some ⟨go, oo, none⟩) (R + 1) co, os := cast (rest' ++ [u]), cs := (setAll x.cs popped (v : Int)).set u (v : Int) } := ⟨_, rfl⟩
    have h2 : WkM w2 B r x2 ∧ Grew w w2 r x x2 := by
     obtain ⟨e1, e2⟩ := HA.out.1.m.set (x' := x2) (k := 3) (g := gc) (off := oc) (n := C) (cap := cc) (zs := setAll x.cs popped (v : Int)) (i := u) (by show some (x.vc, setAll x.cs popped (v : Int)) = _; rw [HA.out.2.2.2.2.2.1]) (by have := HA.out.2.2.2.2.2.2; omega) (v : Int) (by rw [hx2]; show [_, _, _, _] = [_, _, _, _]; simp only [Wk.pop]; rw [HA.out.2.2.2.2.2.1]) (by rw [hx2]; rfl) ⟨by rw [hx2]; rfl, by rw [hx2]; rfl⟩
     rw [hw2]
     exact ⟨e1.below (Below.refl _ _).drew, HA.out.1.gw.trans (e2.below (Below.refl _ _).drew)⟩
    obtain ⟨_, _, d2, _, _, _, _⟩ := seven_cells h2.1.box
    have d2' : w2.cell? ⟨r, 2, none⟩ = some (.slice (some ⟨go, oo, none⟩) no co) := by rw [d2, hx2, HA.out.2.2.2.2.1]
    have df := blk_free h2.1.box 2
    have H2 : Hid _ := And.intro h2 hx2
    clear h2 hx2 hw2 d2 b2' b6' ccv ccu fcu cou
    go_wp2_with fail
    have hvo : x2.vo = .slice (some ⟨go, oo, none⟩) (R + 1) co := by rw [H2.out.2]
    have hq0 : Que w2 B (.slice (some ⟨go, oo, none⟩) (R + 1) co) (cast rest' ++ [(u : Int)]) := by
     have h9 := H2.out.1.1.q.q 0 (x2.vo, x2.os) rfl
     simp only at h9
     rw [hvo, show x2.os = cast rest' ++ [(u : Int)] by rw [H2.out.2]; exact cast_snoc _ _] at h9
     exact h9
    have hpo := que_pop hq0
    rw [cast_length, ← HA.out.2.2.2.1] at hpo
    have hfin := H2.out.1.1.putOpen (w1 := w2) (v' := .slice (some ⟨go, oo, none⟩) R co) (zs' := cast rest') (Kept.refl _ _) hpo.1 (.inl (by rw [hvo]; rfl))
    have hx : x.pop v rest' (u :: popped) (.slice (some ⟨go, oo, none⟩) R co) = { x2 with vo := .slice (some ⟨go, oo, none⟩) R co, os := cast rest' } := by
     rw [H2.out.2]
     rfl
    go_roundg (rest'.length - pre.length)
    case measure => have := HA.out.2.2.1; simp; omega
    case rel =>
     refine ⟨rest', u :: popped, .slice (some ⟨go, oo, none⟩) R co, rfl, HA.out.2.1, HA.out.2.2.1, ?_, ?_⟩
     ·rw [hx]; exact hfin.1
     ·rw [hx]; exact H2.out.1.2.trans hfin.2
   ·have hre := hA.end (by have := hA.le; omega)
    have hz : zc = (v : Int) := by rw [hre.2, setAll_in _ _ _ List.mem_cons_self (by have := setAll_length x.cs popped (v : Int); omega)] at hzc; exact (Option.some.inj hzc).symm
    subst hz
    have q2 : ¬ (v : Int) = -1 := by omega
    have HA : Hid _ := And.intro hA hre
    clear hA hre hzc hC hcc
    go_wp2_with fail
    go_end0
    refine ⟨rfl, fun h => absurd h (by omega), fun _ => ⟨vo, ?_, ?_⟩⟩
    ·have h9 := HA.out.1.m; rw [HA.out.2.1, HA.out.2.2] at h9; exact h9
    ·have h9 := HA.out.1.gw; rw [HA.out.2.1, HA.out.2.2] at h9; exact h9
end Go.Proofs.YtplofbabfkkimaaGreatDoor.Ts
/- The walk's path in memory: one more entry, its last entry gone. -/
namespace Go.Proofs.YtplofbabfkkimaaGreatDoor.Ts
open Go.RowKit Go.Maps
theorem WkM.putPath {w w1 : World} {B r : Nat} {x : Wk} {v' : Value} {ps' : List (Nat × Nat × Nat)} (h : WkM w B r x) (hk : Kept (fun b => x.vp.ownBlock = some b) w w1) (hq : w1.ownsRow B 175 3 v' ps'.length (pC ps')) (hat : v'.ownBlock = x.vp.ownBlock ∨ ∀ b, v'.ownBlock = some b → w.heap.size ≤ b) :
 WkM (w1.setCell ⟨r, 1, none⟩ v') B r { x with vp := v', ps := ps' } ∧ Grew w (w1.setCell ⟨r, 1, none⟩ v') r x { x with vp := v', ps := ps' } := by
 have hr : w1.heap[r]? = w.heap[r]? := hk.block r (t_lt h.box) fun e => h.r_foot (.inl e)
 have hne : ∀ b, v'.ownBlock = some b → b ≠ r := fun b hb e => by
  rcases hat with h1 | h1
  ·exact h.r_foot (.inl (by rw [← h1, ← e]; exact hb))
  ·have := h1 b hb; have := t_lt h.box; omega
 refine ⟨⟨box_put (hr.trans h.box) v', own_up hq (Kept.setCell w1 r 1 v') fun b hb e => hne b hb e, ?_, h.up⟩, ⟨(hk.mono fun b _ e => .inr (.inl e)).trans ((Kept.setCell w1 r 1 v').mono fun b _ e => .inl e), fun b hb => ?_⟩⟩
 ·exact (h.q.kept hk fun b hb e => h.path_list e hb).kept (Kept.setCell w1 r 1 v') fun b hb e => h.r_foot (.inr (by rw [← e]; exact hb))
 ·rcases hb with hb | hb
  ·rcases hat with h1 | h1
   ·exact .inl (.inl (by rw [← h1]; exact hb))
   ·exact .inr (h1 b hb)
  ·exact .inl (.inr hb)
theorem path_pop {w : World} {B gp n cap : Nat} {ps : List (Nat × Nat × Nat)} {p : Nat × Nat × Nat} (h : w.ownsRow B 175 3 (.slice (some ⟨gp, 0, none⟩) n cap) (ps ++ [p]).length (pC (ps ++ [p]))) : w.ownsRow B 175 3 (.slice (some ⟨gp, 0, none⟩) ps.length cap) ps.length (pC ps) ∧ ps.length ≤ cap ∧ n = ps.length + 1 := by
 rcases h.2 with ⟨e, _⟩ | ⟨g, c, cur, e, hB, hg, hn, hm, hs, ht⟩
 ·cases e
 ·cases e
  simp only [List.length_append, List.length_cons, List.length_nil, Nat.zero_add] at hn ht
  refine ⟨⟨pC_length ps, .inr ⟨_, _, cur, rfl, hB, hg, by omega, hm, hs, ?_⟩⟩, by omega, by simp⟩
  have h1 := congrArg (List.take (ps.length * 3)) ht
  rw [List.take_take, Nat.min_eq_left (by omega)] at h1
  rw [h1, pC_snoc, List.take_append_of_le_length (by rw [pC_length]; exact Nat.le_refl _), ← pC_length, List.take_length]
end Go.Proofs.YtplofbabfkkimaaGreatDoor.Ts
/- tauscc: contract of the walk's goOn, at a state that has its number. -/
namespace Go.Proofs.YtplofbabfkkimaaGreatDoor.Ts
open Go.RowKit Go.Maps
attribute [local go_sem ↓] Go.wp_at_zero Go.wp_at_succ
theorem Tryz.infoVi : (Tryz.prog.info? 175).map (fun i => (i.zero, i.size, i.bytes)) = some (some (.agg #[.int .i64 0, .int .i64 0, .int .i64 0]), 3, 24) := by kernel_rfl
theorem nodup_sub {α : Type} [DecidableEq α] : ∀ (l m : List α), l.Nodup → (∀ a ∈ l, a ∈ m) → l.length ≤ m.length
 | [], _, _, _ => Nat.zero_le _
 | a :: r, m, hd, h => by
   obtain ⟨h1, h2⟩ := List.nodup_cons.1 hd
   have h3 := nodup_sub r (m.erase a) h2 fun b hb => by
    refine (List.mem_erase_of_ne ?_).2 (h b (List.mem_cons_of_mem _ hb))
    rintro rfl
    exact h1 hb
   have h4 := List.length_erase_of_mem (h a List.mem_cons_self)
   have h5 : 0 < m.length := List.length_pos_of_mem (h a List.mem_cons_self)
   rw [List.length_cons]
   omega
def Ready (n : Nat) (out : Nat → List Nat) (x : Wk) (N : Nat) : Prop := ∃ (path : List (Nat × Nat)) (os : List Nat) (pd : Nat → Prop), Wi n out x path os pd ∧ x.cnt + (x.ns.count (-1) : Nat) = n ∧
 ((∃ t : Nat, x.ps = seen path ++ [(t, 0, 0)] ∧ t < n ∧ x.ns[t]? = some (-1) ∧ (path = [] ∨ ∃ p i r, path = (p, i) :: r ∧ (out p)[i]? = some t) ∧ N = 3 * x.ns.count (-1) + 2 * path.length) ∨ (x.ps = seen path ∧ N = 3 * x.ns.count (-1) + 2 * path.length + 1))
structure GoAt (w w' : World) (B r n : Nat) (out : Nat → List Nat) (x x' : Wk) (N : Nat) : Prop where
 m : WkM w' B r x'
 gw : Grew w w' r x x'
 vs : x'.vs = x.vs
 rd : ∃ N', Ready n out x' N' ∧ N' < N
 nn : ((∀ t, x.ps.getLast? ≠ some (t, 0, 0)) ∧ x'.ns = x.ns) ∨ ∃ s, x.ps.getLast? = some (s, 0, 0) ∧ x'.ns = x.ns.set s x.cnt
theorem closed_wi {w2 w3 : World} {B r n : Nat} {out : Nat → List Nat} {x2 : Wk} {s kk : Nat} {rs : List (Nat × Nat)} {os pre post : List Nat} {pd : Nat → Prop} {lo nu : Int} (h : Closed w2 w3 B r x2 s lo nu pre post) (hW : Wi n out x2 ((s, kk) :: rs) os pd) (hk : (out s).length ≤ kk) (hlo : x2.ls[s]? = some lo) (hnu : x2.ns[s]? = some nu) (hos : os = pre ++ s :: post) (hm : ∀ u, u ∈ s :: post ↔ (x2.st ((s, kk) :: rs)).num s ≤ (x2.st ((s, kk) :: rs)).num u ∧ (x2.st ((s, kk) :: rs)).cls u = -1) (hpre : ∀ u ∈ pre, (x2.st ((s, kk) :: rs)).num u < (x2.st ((s, kk) :: rs)).num s) :
 ∃ x3, WkM w3 B r x3 ∧ Grew w2 w3 r x2 x3 ∧ (x3.vp = x2.vp ∧ x3.ps = x2.ps ∧ x3.vs = x2.vs ∧ x3.ns = x2.ns ∧ x3.cnt = x2.cnt) ∧ ∃ os' pd', Wi n out x3 rs os' pd' := by
 by_cases hlt : lo < nu
 ·obtain ⟨h1, h2⟩ := h.1 hlt
  exact ⟨x2, h1, h2, ⟨rfl, rfl, rfl, rfl, rfl⟩, os, _, hW.leave_on hk hlo hnu hlt⟩
 ·obtain ⟨vo, h1, h2⟩ := h.2 hlt
  exact ⟨_, h1, h2, ⟨rfl, rfl, rfl, rfl, rfl⟩, pre, fun _ => False, hW.leave_whole hk hlo hnu hlt hos hm hpre vo⟩
theorem top_at (r : List (Nat × Nat)) (s k : Nat) : (seen ((s, k) :: r))[r.length]? = some (s, 1, k) := by
 rw [seen_cons, List.getElem?_append_right (by rw [seen_length]; exact Nat.le_refl _), seen_length, Nat.sub_self]
 rfl
set_option linter.unusedSimpArgs false in
set_option maxRecDepth 100000 in
set_option maxHeartbeats 4000000 in
theorem goOn_back (B r n gs ds cp : Nat) (x : Wk) (out : Nat → List Nat) (s k : Nat) (rs : List (Nat × Nat)) (os : List Nat) (pd : Nat → Prop) (w : World) (hM : WkM w B r x) (hS : Sil w r x n out gs ds cp) (hW : Wi n out x ((s, k) :: rs) os pd) (hps : x.ps = seen ((s, k) :: rs)) (hn : n ≤ 1000) (hout : ∀ q, q < n → ∀ t ∈ out q, t < n) (hol : ∀ q, q < n → (out q).length ≤ 100000) (hpl : x.ps.length ≤ 1000) (hct : x.cnt + (x.ns.count (-1) : Nat) = n) :
 Calls Tryz.prog 132 #[.pointer (some ⟨r, 0, none⟩)] w fun e w' => e = .returned (.tuple #[]) ∧ ∃ x', GoAt w w' B r n out x x' (3 * x.ns.count (-1) + 2 * (rs.length + 1) + 1) := by
 have hop := hW.inv.pop (s, k) List.mem_cons_self
 have hsn : s < n := hW.inv.rng s hop.1.1
 obtain ⟨i, hi⟩ : ∃ i, i = rs.length := ⟨_, rfl⟩
 have htop : x.ps[i]? = some (s, 1, k) := by rw [hps, hi]; exact top_at rs s k
 obtain ⟨gp, cap, hvp, hcap, e0, e1, e2, ef⟩ := hM.entry htop
 have hil := (List.getElem?_eq_some_iff.1 htop).1
 have hAh := fun W (hb : Below w.heap.size w W) => ahead_any B r n gs ds cp x out i s 1 k gp cap W (hM.below hb) (hS.grew ((Grew.refl w r x).below hb) rfl) hvp htop hop.2 hsn (hout s hsn) (hol s hsn) hW.ns hW.ls hW.cs
 obtain ⟨_, c1, _⟩ := seven_cells hM.box
 obtain ⟨P, hP⟩ : ∃ P, P = x.ps.length := ⟨_, rfl⟩
 have hPi : P = i + 1 := by rw [hP, hps, seen_length, hi]; rfl
 rw [hvp, ← hP] at c1
 have p0 : IntKind.i64.wrap ((P : Int) - 1) = (i : Int) := by rw [IntKind.wrap_i64]; omega
 have p1 : (0 : Int) ≤ (i : Int) := by omega
 have p2 : (i : Int) < (P : Int) := by omega
 have H : Hid _ := And.intro hM (And.intro hS (And.intro hW (And.intro hps (And.intro htop (And.intro hvp (And.intro hAh (And.intro hP (And.intro hPi (And.intro hi (And.intro hop (And.intro hsn (And.intro hcap (And.intro hol (And.intro hout hpl))))))))))))))
 have HCt : Hid _ := hct
 clear hct hM hS hW hps htop hvp hAh hP hPi hi hop hsn hcap hol hout hpl ef
 go_enter Tryz.func132, Tryz.ntmps132
 go_upto_region 9 with (go_at_call 153; refine Calls.mono (H.out.2.2.2.2.2.2.1 _ (by repeat (first | exact Below.refl _ _ | assumption | refine Below.drew ?_))) ?_; rintro r1 w1 ⟨j, hA, hAt⟩; rcases hA with ⟨t, rfl, ht1, ht2⟩ | ⟨rfl, hkj⟩)
 ·obtain ⟨x1, hx1⟩ : ∃ x1, x1 = x.gone out i s 1 k j := ⟨_, rfl⟩
  have hM1 : WkM w1 B r x1 := by rw [hx1]; exact hAt.m
  have hv1 : x1.vp = .slice (some ⟨gp, 0, none⟩) P cap := by rw [hx1, H.out.2.2.2.2.2.2.2.1]; exact H.out.2.2.2.2.2.1
  have hl1 : x1.ps.length = P := by rw [hx1, H.out.2.2.2.2.2.2.2.1]; exact List.length_set
  have hO1 : w1.ownsRow B 175 3 (.slice (some ⟨gp, 0, none⟩) P cap) P (pC x1.ps) := by have h9 := hM1.pa; rw [hv1, hl1] at h9; exact h9
  obtain ⟨_, d1, _⟩ := seven_cells hM1.box
  rw [hv1] at d1
  have hml : P + 1 ≤ maxLen := by unfold maxLen; have := H.out.2.2.2.2.2.2.2.2.2.2.2.2.2.2.2; have := H.out.2.2.2.2.2.2.2.1; omega
  have hby : (P + 1) * 24 ≤ 140737488355328 := by have := H.out.2.2.2.2.2.2.2.2.2.2.2.2.2.2.2; have := H.out.2.2.2.2.2.2.2.1; omega
  have hle : B ≤ (w1.alloc (.cells #[.int .i64 t, .int .i64 0, .int .i64 0] 175)).heap.size := by have := t_lt hM1.box; have := hM1.up; rw [World.size_alloc]; omega
  obtain ⟨i0, hi0, hz0, hz1, hz2⟩ := info_parts Tryz.infoVi
  have H1 : Hid _ := And.intro hM1 (And.intro hAt (And.intro hx1 (And.intro hv1 (And.intro hl1 (And.intro hO1 (And.intro ht1 ht2))))))
  clear hM1 hAt hx1 hv1 hl1 hO1 ht1 ht2 c1 e0 e1 e2
  go_wp2_with (at_builtin; refine wpList_append_own_at _ rfl _ _ 119 rfl B 175 i0 (.agg #[.int .i64 0, .int .i64 0, .int .i64 0]) 3 24 Tryz.underlying119 hi0 hz0 hz1 hz2 rfl (by decide) (.slice (some ⟨gp, 0, none⟩) P cap) P (pC x1.ps) rfl (H1.out.2.2.2.2.2.1.alloc _) ⟨w1.heap.size, 0, none⟩ 1 1 [.int .i64 t, .int .i64 0, .int .i64 0] rfl rfl (World.news_of_block (cs := #[.int .i64 t, .int .i64 0, .int .i64 0]) (t := 175) (fr := (0, 0)) (heap_alloc_new w1 _)) (by simp [Value.oneCell']) hml hby hle ?_; intro v7 w7 hO7 hg7 hnil7 hat7; obtain ⟨a7, c7, hv7⟩ := row_shape hO7; subst hv7; have hk7 := grown_alloc hg7; have hbx := (hk7.block r (t_lt H1.out.1.box) fun e => H1.out.1.r_foot (.inl (by rw [H1.out.2.2.2.1]; exact e))).trans H1.out.1.box; have bc := (seven_cells hbx).2.1; have bf := blk_free hbx 1; have H7 : Hid _ := And.intro hO7 (And.intro hk7 hat7); clear hO7 hg7 hk7 hnil7 hat7 hbx)
  refine bodyPost_ret (results_none rfl _ _ _) rfl ?_
  obtain ⟨x2, hx2⟩ : ∃ x2 : Wk, x2 = { x1 with vp := .slice a7 (P + 1) c7, ps := x1.ps ++ [(t, 0, 0)] } := ⟨_, rfl⟩
  have hrow : w7.ownsRow B 175 3 (.slice a7 (P + 1) c7) (x1.ps ++ [(t, 0, 0)]).length (pC (x1.ps ++ [(t, 0, 0)])) := by
   rw [pC_snoc, List.length_append, H1.out.2.2.2.2.1]
   exact H7.out.1
  have hfin := H1.out.1.putPath (w1 := w7) (v' := .slice a7 (P + 1) c7) (ps' := x1.ps ++ [(t, 0, 0)]) (by rw [H1.out.2.2.2.1]; exact H7.out.2.1) hrow (by rw [H1.out.2.2.2.1]; exact que_up H7.out.2.2)
  have hps1 : x1.ps = seen ((s, k + j) :: rs) := by
   rw [H1.out.2.2.1]
   show x.ps.set i (s, 1, k + j) = _
   rw [H.out.2.2.2.1, seen_cons, seen_cons, H.out.2.2.2.2.2.2.2.2.2.1, ← seen_length rs]
   simp
  obtain ⟨pd', hW'⟩ := H.out.2.2.1.gone H.out.2.2.2.2.2.2.2.2.2.2.2.1 (H.out.2.2.2.2.2.2.2.2.2.2.2.2.2.2.1 s H.out.2.2.2.2.2.2.2.2.2.2.2.1) i 1 H.out.2.2.2.2.1 j H1.out.2.1.le H1.out.2.1.num
  have hns : x1.ns = x.ns := by rw [H1.out.2.2.1]; rfl
  refine ⟨rfl, x2, ?_, ?_, ?_, ⟨3 * x.ns.count (-1) + 2 * (rs.length + 1), ⟨(s, k + j) :: rs, os, pd', ?_, ?_, .inl ⟨t, ?_, ?_, ?_, ?_, ?_⟩⟩, by omega⟩, .inl ⟨fun t => (by rw [H.out.2.2.2.1, seen_cons, List.getLast?_append]; intro e; cases e), by rw [hx2]; exact hns⟩⟩
  ·rw [hx2]; exact hfin.1
  ·rw [hx2]; exact Grew.trans (by rw [H1.out.2.2.1]; exact H1.out.2.1.gw) hfin.2
  ·rw [hx2, H1.out.2.2.1]; rfl
  ·rw [hx2, H1.out.2.2.1]; exact hW'.ps _ _
  ·rw [hx2]; show x1.cnt + ((x1.ns.count (-1) : Nat) : Int) = n; rw [hns, show x1.cnt = x.cnt by rw [H1.out.2.2.1]; rfl]; exact HCt.out
  ·rw [hx2]; show x1.ps ++ _ = _; rw [hps1]
  ·exact H.out.2.2.2.2.2.2.2.2.2.2.2.2.2.2.1 s H.out.2.2.2.2.2.2.2.2.2.2.2.1 t (List.mem_of_getElem? H1.out.2.2.2.2.2.2.1)
  ·rw [hx2]; show x1.ns[t]? = _; rw [hns]; exact H1.out.2.2.2.2.2.2.2
  ·exact .inr ⟨s, k + j, rs, rfl, H1.out.2.2.2.2.2.2.1⟩
  ·rw [hx2]; show _ = 3 * x1.ns.count (-1) + _; rw [hns]; rfl
 ·obtain ⟨pd', hW'⟩ := H.out.2.2.1.gone H.out.2.2.2.2.2.2.2.2.2.2.2.1 (H.out.2.2.2.2.2.2.2.2.2.2.2.2.2.2.1 s H.out.2.2.2.2.2.2.2.2.2.2.2.1) i 1 H.out.2.2.2.2.1 j hAt.le hAt.num
  obtain ⟨x1, hx1⟩ : ∃ x1, x1 = x.gone out i s 1 k j := ⟨_, rfl⟩
  rw [← hx1] at hW'
  have hM1 : WkM w1 B r x1 := by rw [hx1]; exact hAt.m
  have hG1 : Grew w w1 r x x1 := by rw [hx1]; exact hAt.gw
  have hl1 : x1.ps.length = P := by rw [hx1, H.out.2.2.2.2.2.2.2.1]; exact List.length_set
  have hv1 : x1.vp = .slice (some ⟨gp, 0, none⟩) x1.ps.length cap := by rw [hl1, hx1, H.out.2.2.2.2.2.2.2.1]; exact H.out.2.2.2.2.2.1
  have hps1 : x1.ps = seen ((s, k + j) :: rs) := by
   rw [hx1]
   show x.ps.set i (s, 1, k + j) = _
   rw [H.out.2.2.2.1, seen_cons, seen_cons, H.out.2.2.2.2.2.2.2.2.2.1, ← seen_length rs]
   simp
  have htop1 : x1.ps[i]? = some (s, 1, k + j) := by rw [hps1, H.out.2.2.2.2.2.2.2.2.2.1]; exact top_at rs s (k + j)
  have hop1 := (hW'.inv.pop (s, k + j) List.mem_cons_self).1
  obtain ⟨pre, post, hos, hmem, hpre⟩ := hW'.opl.split hop1
  have hsn := H.out.2.2.2.2.2.2.2.2.2.2.2.1
  obtain ⟨lo, hlo⟩ : ∃ z, x1.ls[s]? = some z := ⟨_, List.getElem?_eq_getElem (by rw [hW'.ls]; exact hsn)⟩
  obtain ⟨nu, hnu⟩ : ∃ z, x1.ns[s]? = some z := ⟨_, List.getElem?_eq_getElem (by rw [hW'.ns]; exact hsn)⟩
  obtain ⟨zc, hzc⟩ : ∃ z, x1.cs[s]? = some z := ⟨_, List.getElem?_eq_getElem (by rw [hW'.cs]; exact hsn)⟩
  have hcs : x1.cs[s]? = some (-1) := by have h9 : x1.cs[s]?.getD (-1) = -1 := hop1.2; rw [hzc] at h9 ⊢; exact congrArg some h9
  have hin : ∀ u ∈ pre ++ s :: post, u < x1.cs.length := fun u hu => by rw [hW'.cs]; exact hW'.inv.rng u ((hW'.opl.mem u).1 (by rw [hos]; exact hu)).1
  have hnd : (pre ++ s :: post).Nodup := by rw [← hos]; exact hW'.opl.nodup
  have hol2 : x1.os.length ≤ 100000 := by
   rw [hW'.os, cast_length, hos]
   have h9 := nodup_sub _ (List.range x1.cs.length) hnd fun u hu => List.mem_range.2 (hin u hu)
   rw [List.length_range, hW'.cs] at h9
   refine Nat.le_trans h9 ?_
   omega
  have hSt := hM1.setStage hv1 htop1 2
  obtain ⟨x2, hx2⟩ : ∃ x2 : Wk, x2 = { x1 with ps := x1.ps.set i (s, 2, k + j) } := ⟨_, rfl⟩
  obtain ⟨w2, hw2⟩ : ∃ w2, w2 = w1.setCell ⟨gp, i * 3 + 1, none⟩ (.int .i64 2) := ⟨_, rfl⟩
  rw [← hx2, show ((2 : Nat) : Int) = 2 from rfl, ← hw2] at hSt
  have hCl := close_any B r x2 s lo nu pre post w2 hSt.1 (by rw [hx2]; exact hlo) (by rw [hx2]; exact hnu) (by rw [hx2]; exact hcs) (by rw [hx2]; show x1.os = _; rw [hW'.os, hos]) hnd (by rw [hx2]; exact hin) (by rw [hx2]; exact hol2)
  obtain ⟨gp', cap', hv', _, f0, f1, f2, ff⟩ := hM1.entry htop1
  rw [hv1] at hv'
  injection hv' with u1 u2 u3
  injection u1 with u1
  injection u1 with u1
  subst u1
  have ff1 := ff (i * 3 + 1)
  have htop2 : x2.ps[i]? = some (s, 2, k + j) := by rw [hx2]; exact List.getElem?_set_self (List.getElem?_eq_some_iff.1 htop1).1
  have hv2 : x2.vp = .slice (some ⟨gp, 0, none⟩) x2.ps.length cap := by rw [hx2]; show x1.vp = .slice _ (x1.ps.set _ _).length _; rw [List.length_set]; exact hv1
  obtain ⟨gp', cap', hv', _, g0, _, _, _⟩ := hSt.1.entry htop2
  rw [hv2] at hv'
  injection hv' with u4 u5 u6
  injection u4 with u4
  injection u4 with u4
  subst u4
  have H1 : Hid _ := And.intro hSt (And.intro hCl (And.intro hW' (And.intro hx1 (And.intro hx2 (And.intro hw2 (And.intro hG1 (And.intro hv2 (And.intro hps1 (And.intro hlo (And.intro hnu (And.intro hos (And.intro hmem (And.intro hpre hkj)))))))))))))
  clear hSt hCl hW' hx1 hx2 hG1 hv2 hps1 hlo hnu hos hmem hpre hkj hAt hM1 hl1 hv1 htop1 hop1 hsn hzc hcs hin hnd hol2 u2 u3 u5 u6 ff htop2 c1 e0 e1 e2
  go_upto_region 12 with fail
  rw [← hw2]
  clear hw2
  have hic : (i : Int) ≤ (cap : Int) := by have := H.out.2.2.2.2.2.2.2.2.2.2.2.2.1; omega
  go_wp2_with (go_at_call 154; refine Calls.mono H1.out.2.1 ?_; rintro r3 w3 ⟨rfl, hc3⟩; have hW2 : Wi n out x2 ((s, k + j) :: rs) os pd' := (by rw [H1.out.2.2.2.2.1]; exact H1.out.2.2.1.ps _ _); obtain ⟨x3, hM3, hG3, hx3, hW3⟩ := closed_wi hc3 hW2 (Nat.le_of_eq H1.out.2.2.2.2.2.2.2.2.2.2.2.2.2.2.symm) (by rw [H1.out.2.2.2.2.1]; exact H1.out.2.2.2.2.2.2.2.2.2.1) (by rw [H1.out.2.2.2.2.1]; exact H1.out.2.2.2.2.2.2.2.2.2.2.1) H1.out.2.2.2.2.2.2.2.2.2.2.2.1 (by rw [H1.out.2.2.2.2.1]; exact H1.out.2.2.2.2.2.2.2.2.2.2.2.2.1) (by rw [H1.out.2.2.2.2.1]; exact H1.out.2.2.2.2.2.2.2.2.2.2.2.2.2.1); have hl3 : x2.ps.length = P := (by rw [H1.out.2.2.2.2.1, H1.out.2.2.2.1]; show ((x.ps.set _ _).set _ _).length = P; rw [List.length_set, List.length_set]; exact H.out.2.2.2.2.2.2.2.1.symm); have hv3 : x3.vp = .slice (some ⟨gp, 0, none⟩) P cap := (by rw [hx3.1, H1.out.2.2.2.2.2.2.2.1, hl3]); have bc := (seven_cells hM3.box).2.1; rw [hv3] at bc; have bf := blk_free hM3.box 1; have H3 : Hid _ := And.intro hM3 (And.intro hG3 (And.intro hx3 (And.intro hW3 hv3))); clear hM3 hG3 hx3 hW3 hv3 hl3 hc3 hW2)
  go_end0
  obtain ⟨os', pd3, hW3⟩ := H3.out.2.2.2.1
  have hps3 : x3.ps = seen rs ++ [(s, 2, k + j)] := by
   rw [H3.out.2.2.1.2.1, H1.out.2.2.2.2.1]
   show x1.ps.set i (s, 2, k + j) = _
   rw [H1.out.2.2.2.2.2.2.2.2.1, seen_cons, H.out.2.2.2.2.2.2.2.2.2.1, ← seen_length rs]
   simp
  have hpa := H3.out.1.pa
  rw [H3.out.2.2.2.2, hps3] at hpa
  have hpo := path_pop hpa
  rw [seen_length, ← H.out.2.2.2.2.2.2.2.2.2.1] at hpo
  have hfin := H3.out.1.putPath (w1 := w3) (v' := .slice (some ⟨gp, 0, none⟩) i cap) (ps' := seen rs) (Kept.refl _ _) (by rw [seen_length, ← H.out.2.2.2.2.2.2.2.2.2.1]; exact hpo.1) (.inl (by rw [H3.out.2.2.2.2]; rfl))
  obtain ⟨x4, hx4⟩ : ∃ x4 : Wk, x4 = { x3 with vp := .slice (some ⟨gp, 0, none⟩) i cap, ps := seen rs } := ⟨_, rfl⟩
  have hns : x3.ns = x.ns := by rw [H3.out.2.2.1.2.2.2.1, H1.out.2.2.2.2.1, H1.out.2.2.2.1]; rfl
  have hcn : x3.cnt = x.cnt := by rw [H3.out.2.2.1.2.2.2.2, H1.out.2.2.2.2.1, H1.out.2.2.2.1]; rfl
  refine ⟨rfl, x4, ?_, ?_, ?_, ⟨3 * x.ns.count (-1) + 2 * rs.length + 1, ⟨rs, os', pd3, ?_, ?_, .inr ⟨?_, ?_⟩⟩, by omega⟩, .inl ⟨fun t => (by rw [H.out.2.2.2.1, seen_cons, List.getLast?_append]; intro e; cases e), by rw [hx4]; exact hns⟩⟩
  ·rw [hx4]; exact hfin.1
  ·rw [hx4]; exact ((H1.out.2.2.2.2.2.2.1.trans H1.out.1.2).trans H3.out.2.1).trans hfin.2
  ·rw [hx4]; show x3.vs = x.vs; rw [H3.out.2.2.1.2.2.1, H1.out.2.2.2.2.1, H1.out.2.2.2.1]; rfl
  ·rw [hx4]; exact hW3.ps _ _
  ·rw [hx4]; show x3.cnt + ((x3.ns.count (-1) : Nat) : Int) = n; rw [hns, hcn]; exact HCt.out
  ·rw [hx4]
  ·rw [hx4]; show _ = 3 * x3.ns.count (-1) + _ + 1; rw [hns]
end Go.Proofs.YtplofbabfkkimaaGreatDoor.Ts
