/- The constants within a term: plain. -/
import Derived.Test.YthnenpncajpibaaGreatDoorTmWeight
namespace Go.Proofs.YthnenpncajpibaaGreatDoor
open Go.RowKit Go.Maps
namespace Tm
/-- The constant that a number stands for. -/
def constAt (L : List Tm) (z : Int) : Option Int := match L[z.toNat]? with | some t => if t.kind = 7 then some t.a else none | none => none
end Tm
theorem constAt_of {L : List Tm} {m : Nat} {t : Tm} (h : L[m]? = some t) : Tm.constAt L (m : Int) = if t.kind = 7 then some t.a else none := by
  unfold Tm.constAt
  rw [Int.toNat_natCast, h]
theorem const_form {n : Nat} {t : Tm} (h : t.may n = true) (hk : t.kind = 7) : t = ⟨7, 0, t.a, 0, [], []⟩ ∧ 0 ≤ t.a ∧ t.a < 200 := by
  obtain ⟨k, l, a, b, ns, ps⟩ := t
  simp only at hk
  subst hk
  simp [Tm.may, Tm.right, Tm.rest] at h
  obtain ⟨⟨h1, h2⟩, h3⟩ := h
  simp only [Tm.mk.injEq]
  refine ⟨⟨trivial, ?_, trivial, ?_, ?_, ?_⟩, h1, h2⟩
  · omega
  · omega
  · exact h3.1.2
  · exact h3.2
theorem rise_mem {x : Int} {l : List Int} (h : (x :: l).Pairwise (· < ·)) : ∀ z ∈ l, x < z := (List.pairwise_cons.1 h).1
theorem rise_ext : ∀ {l r : List Int}, l.Pairwise (· < ·) → r.Pairwise (· < ·) → (∀ z, z ∈ l ↔ z ∈ r) → l = r
  | [], [], _, _, _ => rfl
  | [], y :: r, _, _, h => by have := (h y).2 (by simp); simp at this
  | x :: l, [], _, _, h => by have := (h x).1 (by simp); simp at this
  | x :: l, y :: r, hl, hr, h => by
    have e : x = y := by
      have h1 := (h x).1 (by simp)
      have h2 := (h y).2 (by simp)
      rcases List.mem_cons.1 h1 with e | e
      · exact e
      rcases List.mem_cons.1 h2 with e2 | e2
      · exact e2.symm
      have a := rise_mem hr x e
      have b := rise_mem hl y e2
      omega
    subst e
    have hl' := (List.pairwise_cons.1 hl).2
    have hr' := (List.pairwise_cons.1 hr).2
    rw [rise_ext hl' hr' fun z => ?_]
    constructor
    · intro hz
      have a := rise_mem hl z hz
      rcases List.mem_cons.1 ((h z).1 (by simp [hz])) with e | e
      · omega
      · exact e
    · intro hz
      have a := rise_mem hr z hz
      rcases List.mem_cons.1 ((h z).2 (by simp [hz])) with e | e
      · omega
      · exact e
/-- What both lists of constants are. -/
structure CsOf (L : List Tm) (ts cs : List Int) : Prop where
  rise : cs.Pairwise (· < ·)
  mem : ∀ z, z ∈ cs ↔ ∃ m ∈ ts, Tm.constAt L m = some z
theorem CsOf.ext {L : List Tm} {ts cs ds : List Int} (h : CsOf L ts cs) (k : CsOf L ts ds) : cs = ds := rise_ext h.rise k.rise fun z => (h.mem z).trans (k.mem z).symm
/-- A number within is not above the whole. -/
theorem withi_le {L : List Tm} (hG : Tm.Good L) {id : Nat} {ts : List Int} (h : Withi L id ts) : ∀ z ∈ ts, z ≤ (id : Int) := by
  have gen : ∀ (d : Nat) (z : Nat), L.length - z ≤ d → (z : Int) ∈ ts → (z : Int) ≤ (id : Int) := by
    intro d
    induction d with
    | zero => intro z hd hz; have := h.range z hz; omega
    | succ d ih =>
      intro z hd hz
      rcases h.frm z hz with e | ⟨y, hy, e⟩
      · omega
      · have hyr := h.range y hy
        obtain ⟨m, rfl⟩ : ∃ m : Nat, y = m := ⟨y.toNat, by omega⟩
        obtain ⟨t, ht⟩ : ∃ t, L[m]? = some t := ⟨L[m]'(by omega), List.getElem?_eq_getElem _⟩
        have hlt := good_parts hG ht _ (by rw [partsAt_of ht] at e; exact e)
        have := ih m (by omega) hy
        omega
  intro z hz
  have hr := h.range z hz
  obtain ⟨m, rfl⟩ : ∃ m : Nat, z = m := ⟨z.toNat, by omega⟩
  exact gen _ m (Nat.le_refl _) hz
/-- The set within is one alone. -/
theorem withi_sub {L : List Tm} (hG : Tm.Good L) {id : Int} {ts us : List Int} (h : Withi L id ts) (k : Withi L id us) : ∀ (d : Nat) (z : Nat), L.length - z ≤ d → (z : Int) ∈ ts → (z : Int) ∈ us := by
  intro d
  induction d with
  | zero => intro z hd hz; have := h.range z hz; omega
  | succ d ih =>
    intro z hd hz
    rcases h.frm z hz with e | ⟨y, hy, e⟩
    · rw [e]; exact k.head
    · have hyr := h.range y hy
      obtain ⟨m, rfl⟩ : ∃ m : Nat, y = m := ⟨y.toNat, by omega⟩
      obtain ⟨t, ht⟩ : ∃ t, L[m]? = some t := ⟨L[m]'(by omega), List.getElem?_eq_getElem _⟩
      have hlt := good_parts hG ht _ (by rw [partsAt_of ht] at e; exact e)
      exact k.closed _ (ih m (by omega) hy) _ e
theorem withi_mem {L : List Tm} (hG : Tm.Good L) {id : Int} {ts us : List Int} (h : Withi L id ts) (k : Withi L id us) (z : Int) : z ∈ ts ↔ z ∈ us := by
  constructor
  · intro hz
    have hr := h.range z hz
    obtain ⟨m, rfl⟩ : ∃ m : Nat, z = m := ⟨z.toNat, by omega⟩
    exact withi_sub hG h k _ m (Nat.le_refl _) hz
  · intro hz
    have hr := k.range z hz
    obtain ⟨m, rfl⟩ : ∃ m : Nat, z = m := ⟨z.toNat, by omega⟩
    exact withi_sub hG k h _ m (Nat.le_refl _) hz
theorem withi_eq {L : List Tm} (hG : Tm.Good L) {id : Int} {ts us : List Int} (h : Withi L id ts) (k : Withi L id us) : ts = us := rise_ext h.rise k.rise (withi_mem hG h k)
/-- The program's list: gathered along ts, then sorted. -/
theorem csOf_sorted {L : List Tm} (hG : Tm.Good L) (nd : ∀ t (i j : Nat), L[i]? = some t → L[j]? = some t → i = j) {id : Int} {ts cs : List Int} (h : Withi L id ts) (hp : cs.Perm (ts.filterMap (Tm.constAt L))) (hs : cs.Pairwise (· ≤ ·)) : CsOf L ts cs := by
  have key : ∀ x ∈ ts, ∀ y ∈ ts, ∀ a, Tm.constAt L x = some a → Tm.constAt L y = some a → x = y := fun x hx y hy a ha hb => by
    have hxr := h.range x hx
    have hyr := h.range y hy
    obtain ⟨m, rfl⟩ : ∃ m : Nat, x = m := ⟨x.toNat, by omega⟩
    obtain ⟨n, rfl⟩ : ∃ n : Nat, y = n := ⟨y.toNat, by omega⟩
    obtain ⟨t, ht⟩ : ∃ t, L[m]? = some t := ⟨L[m]'(by omega), List.getElem?_eq_getElem _⟩
    obtain ⟨s, hs'⟩ : ∃ s, L[n]? = some s := ⟨L[n]'(by omega), List.getElem?_eq_getElem _⟩
    rw [constAt_of ht] at ha
    rw [constAt_of hs'] at hb
    split at ha
    · rename_i k7
      split at hb
      · rename_i k7'
        have e1 := (const_form (hG m t ht) k7).1
        have e2 := (const_form (hG n s hs') k7').1
        have ea : t.a = s.a := by
          have h1 := Option.some.inj ha
          have h2 := Option.some.inj hb
          omega
        have : t = s := by rw [e1, e2, ea]
        rw [← this] at hs'
        have := nd t m n ht hs'
        omega
      · cases hb
    · cases ha
  have hnd : (ts.filterMap (Tm.constAt L)).Nodup := by
    have gen : ∀ (us : List Int), us.Nodup → (∀ x ∈ us, x ∈ ts) → (us.filterMap (Tm.constAt L)).Nodup := by
      intro us
      induction us with
      | nil => intro _ _; simp
      | cons x us ih =>
        intro hu hsub
        rw [List.nodup_cons] at hu
        have ih' := ih hu.2 fun y hy => hsub y (by simp [hy])
        cases e : Tm.constAt L x with
        | none => rw [List.filterMap_cons_none e]; exact ih'
        | some a =>
          rw [List.filterMap_cons_some e, List.nodup_cons]
          refine ⟨fun hin => ?_, ih'⟩
          obtain ⟨y, hy, e2⟩ := List.mem_filterMap.1 hin
          have := key x (hsub x (by simp)) y (hsub y (by simp [hy])) a e e2
          subst this
          exact hu.1 hy
    exact gen ts (h.rise.imp fun hlt => by omega) fun _ hx => hx
  refine ⟨rise_of hs (hp.nodup_iff.2 hnd), fun z => ?_⟩
  rw [hp.mem_iff, List.mem_filterMap]
end Go.Proofs.YthnenpncajpibaaGreatDoor
