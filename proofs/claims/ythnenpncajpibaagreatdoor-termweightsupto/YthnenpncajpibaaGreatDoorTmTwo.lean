/- A store of the program and one of the document beside each other, and a list that came in. -/
import Derived.Test.YthnenpncajpibaaGreatDoorLent
import Derived.Test.YthnenpncajpibaaGreatDoorTmBack0
import Derived.Test.YthnenpncajpibaaGreatDoorToldTm
namespace Go.Proofs.YthnenpncajpibaaGreatDoor
open Go.RowKit Go.Maps
/-- A list of these terms that stands while only blocks of F turn. -/
def Lst (w : World) (F : Nat → Prop) (v : Value) (l : List Tm) : Prop := ∃ ao cap, v = .slice ao l.length cap ∧ ∀ (i : Nat) (t : Tm), l[i]? = some t → ∃ g o vn vp, ∀ w', Kept F w w' → OneT w' ao i t g o vn vp
/-- Lengths that memory has room for. -/
def Room (t : Tm) : Prop := t.names.length * 8 ≤ 140737488351232 ∧ t.pairs.length * 16 ≤ 140737488351232
/-- The two stores, told from where the call began. -/
structure Two (w w' : World) (b c : Nat) (L M : List Tm) (F G F' G' : Nat → Prop) : Prop where
  s : StoB w' b L F'
  r : RStoB w' c M G'
  ap : ∀ i, F' i → ¬ G' i
  k : Kept (fun i => F i ∨ G i) w w'
  f : ∀ i, F' i → F i ∨ w.heap.size ≤ i
  g : ∀ i, G' i → G i ∨ w.heap.size ≤ i
theorem Two.start {w : World} {b c : Nat} {L M : List Tm} {F G : Nat → Prop} (h : StoB w b L F) (k : RStoB w c M G) (hd : ∀ i, F i → ¬ G i) : Two w w b c L M F G F G :=
  ⟨h, k, hd, Kept.refl _ _, fun _ h => .inl h, fun _ h => .inl h⟩
theorem Two.below {w w1 w2 : World} {b c : Nat} {L M : List Tm} {F G F' G' : Nat → Prop} (h : Two w w1 b c L M F G F' G') (hb : Below w1.heap.size w1 w2) : Two w w2 b c L M F G F' G' :=
  ⟨h.s.below hb, h.r.below hb, h.ap, h.k.trans (.of_below hb), h.f, h.g⟩
theorem Two.sput {w w1 w2 : World} {b c : Nat} {L L' M : List Tm} {F G F' G' F2 : Nat → Prop} (h : Two w w1 b c L M F G F' G') (hs : StoB w2 b L' F2) (hk : Kept F' w1 w2) (hf : ∀ i, F2 i → F' i ∨ w1.heap.size ≤ i) : Two w w2 b c L' M F G F2 G' := by
  refine ⟨hs, h.r.kept hk fun i hi hf => h.ap i hf hi, fun i hi hg => ?_, h.k.trans2 hk fun i hi => ?_, fun i hi => ?_, h.g⟩
  · rcases hf i hi with e | e
    · exact h.ap i e hg
    · have := h.r.foot_lt hg; omega
  · rcases h.f i hi with e | e
    · exact .inl (.inl e)
    · exact .inr e
  · rcases hf i hi with e | e
    · exact h.f i e
    · have := h.k.size; exact .inr (by omega)
theorem Two.rput {w w1 w2 : World} {b c : Nat} {L M M' : List Tm} {F G F' G' G2 : Nat → Prop} (h : Two w w1 b c L M F G F' G') (hs : RStoB w2 c M' G2) (hk : Kept G' w1 w2) (hf : ∀ i, G2 i → G' i ∨ w1.heap.size ≤ i) : Two w w2 b c L M' F G F' G2 := by
  refine ⟨h.s.kept hk fun i hi hf => h.ap i hi hf, hs, fun i hi hg => ?_, h.k.trans2 hk fun i hi => ?_, h.f, fun i hi => ?_⟩
  · rcases hf i hg with e | e
    · exact h.ap i hi e
    · have := h.s.foot_lt hi; omega
  · rcases h.g i hi with e | e
    · exact .inl (.inr e)
    · exact .inr e
  · rcases hf i hi with e | e
    · exact h.g i e
    · have := h.k.size; exact .inr (by omega)
/-- A block that was laid since and is none of the stores'. -/
theorem Two.other {w w1 w2 : World} {b c : Nat} {L M : List Tm} {F G F' G' H : Nat → Prop} (h : Two w w1 b c L M F G F' G') (hk : Kept H w1 w2) (hH : ∀ i, H i → w.heap.size ≤ i ∧ ¬ F' i ∧ ¬ G' i) : Two w w2 b c L M F G F' G' :=
  ⟨h.s.kept hk fun i hi hf => (hH i hf).2.1 hi, h.r.kept hk fun i hi hf => (hH i hf).2.2 hi, h.ap, h.k.trans2 hk fun i hi => .inr (hH i hi).1, h.f, h.g⟩
/-- The document's Put of a term that may be put. -/
theorem rput_ok (b : Nat) (L : List Tm) (F : Nat → Prop) (t : Tm) (vn vp : Value) (w : World) (hS : RStoB w b L F) (hn : HasI w vn t.names) (hp : HasP w vp t.pairs) (hmay : t.may L.length = true) (hlen : L.length < 100000) :
    Calls Tryz.prog 23 #[.pointer (some ⟨b, 0, none⟩), tmV t vn vp] w fun r w' => ∃ (k : Nat) (L' : List Tm) (F' : Nat → Prop), r = .returned (.int .i64 k) ∧ L'[k]? = some t ∧ ((t ∈ L ∧ L' = L) ∨ (t ∉ L ∧ L' = L ++ [t])) ∧ RStoB w' b L' F' ∧ Kept F w w' ∧ (∀ i, F' i → F i ∨ w.heap.size ≤ i) := by
  by_cases hin : t ∈ L
  · refine (rput_old b L F t vn vp w hS hn hp hmay hin).mono ?_
    rintro r w' ⟨⟨k, rfl, hk⟩, hb⟩
    exact ⟨k, L, F, rfl, hk, .inl ⟨hin, rfl⟩, hS.below hb, .of_below hb, fun i hi => .inl hi⟩
  · refine (rput_new b L F t vn vp w hS hn hp hmay hin hlen).mono ?_
    rintro r w' ⟨rfl, F', h1, h2, h3⟩
    exact ⟨L.length, L ++ [t], F', rfl, by simp, .inr ⟨hin, rfl⟩, h1, h2, h3⟩
/-- The program's Put likewise, and which of the two it was. -/
theorem put_ok2 (b : Nat) (L : List Tm) (F : Nat → Prop) (t : Tm) (vn vp : Value) (w : World) (hS : StoB w b L F) (hh : Hand w F t vn vp) (hmay : t.may L.length = true) (hlen : L.length < 100000) :
    Calls Tryz.prog 20 #[.pointer (some ⟨b, 0, none⟩), tmV t vn vp] w fun r w' => ∃ (k : Nat) (L' : List Tm) (F' : Nat → Prop), r = .returned (.tuple #[.int .i64 k, .nilIface]) ∧ L'[k]? = some t ∧ ((t ∈ L ∧ L' = L) ∨ (t ∉ L ∧ L' = L ++ [t])) ∧ StoB w' b L' F' ∧ Kept F w w' ∧ (∀ i, F' i → F i ∨ w.heap.size ≤ i) := by
  by_cases hin : t ∈ L
  · obtain ⟨k, hk, rfl⟩ := List.getElem_of_mem hin
    refine (put_old b L F _ vn vp w hS hh hmay k (List.getElem?_eq_getElem hk)).mono ?_
    rintro r w' ⟨rfl, hb⟩
    exact ⟨k, L, F, rfl, List.getElem?_eq_getElem hk, .inl ⟨hin, rfl⟩, hS.below hb, .of_below hb, fun i hi => .inl hi⟩
  · refine (put_new b L F t vn vp w hS hh hmay hin hlen).mono ?_
    rintro r w' ⟨rfl, F', h1, h2, h3⟩
    exact ⟨L.length, L ++ [t], F', rfl, by simp, .inr ⟨hin, rfl⟩, h1, h2, h3⟩
theorem both_same {L A B : List Tm} {t : Tm} (ha : (t ∈ L ∧ A = L) ∨ (t ∉ L ∧ A = L ++ [t])) (hb : (t ∈ L ∧ B = L) ∨ (t ∉ L ∧ B = L ++ [t])) : A = B := by
  rcases ha with ⟨h1, rfl⟩ | ⟨h1, rfl⟩ <;> rcases hb with ⟨h2, rfl⟩ | ⟨h2, rfl⟩ <;> first | rfl | exact absurd h1 h2 | exact absurd h2 h1
end Go.Proofs.YthnenpncajpibaaGreatDoor
