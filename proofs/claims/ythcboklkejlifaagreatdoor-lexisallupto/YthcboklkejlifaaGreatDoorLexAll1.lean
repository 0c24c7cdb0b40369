/- The book's Line: each line, and the list of them. -/
import Derived.Test.YthcboklkejlifaaGreatDoorLexAll0
namespace Go.Proofs.YthcboklkejlifaaGreatDoor
open Go.RowKit Go.Maps
attribute [local go_sem ↓] Go.wp_at_zero Go.wp_at_succ
def asEl : Value → BLines.El
  | .slice a n c => (a, n, c)
  | _ => (none, 0, 0)
theorem asEl_sl {u : Value} (h : ∃ a n c, u = .slice a n c) : BLines.sl (asEl u) = u := by
  obtain ⟨a, n, c, rfl⟩ := h
  rfl
theorem asEl_C : ∀ (us : List Value), (∀ u ∈ us, ∃ a n c, u = .slice a n c) → BLines.C (us.map asEl) = us
  | [], _ => rfl
  | u :: r, h => by
    have ih := asEl_C r fun x hx => h x (List.mem_cons_of_mem _ hx)
    have h1 := asEl_sl (h u List.mem_cons_self)
    unfold BLines.C at ih ⊢
    rw [List.map_cons, List.flatMap_cons, ih]
    show [BLines.sl (asEl u)] ++ r = _
    rw [h1]
    rfl
set_option maxRecDepth 100000 in
set_option maxHeartbeats 4000000 in
theorem line_any {wB wr : World} {P Q X : Nat → Prop} (h : WTE wB wr P Q X) (v : Value) (D : List (List ZTok)) (B : Nat) (hR : RowsA wr B v D) (hB : wB.heap.size ≤ B) (hP : ∀ b, P b → b < B) (hQ : ∀ b, Q b → b < B) (hx : ∀ b, v.ownBlock = some b → X b) (hD : D.length ≤ 1000000) (hr : ∀ r ∈ D, r.length ≤ 1000000) :
    Calls Tryz.prog 12 #[.pointer (some ⟨wB.heap.size, 0, none⟩), v] wr fun r w' => r = .returned (.tuple #[]) ∧ (∃ Y : Nat → Prop, WTE wB w' (fun b => b < w'.heap.size) (fun b => b < w'.heap.size) (fun b => X b ∨ Y b)) ∧ Fr X wr w' := by
  obtain ⟨us, hrow, hrows, hdis⟩ := hR
  obtain ⟨w0, hw0⟩ : ∃ w0, w0 = wr := ⟨_, rfl⟩
  rw [← hw0] at h hrow hrows ⊢
  clear hw0
  have hul : us.length = D.length := by have := hrow.1; rw [Nat.mul_one] at this; exact this
  obtain ⟨ao, cap, rfl⟩ := row_shape hrow
  obtain ⟨n, hn⟩ : ∃ n, n = D.length := ⟨_, rfl⟩
  have HH : Hid _ := And.intro hrow (And.intro hrows (And.intro hdis (And.intro hul (And.intro hx (And.intro hr hn)))))
  have HP : Hid _ := And.intro hP hQ
  have h1 : WTE wB w0 (fun b => b < B ∨ ∃ j u, j < 0 ∧ us[j]? = some u ∧ u.ownBlock = some b) Q X := h.mono (fun b _ hb => .inl (hP b hb)) (fun b _ hb => hb)
  have H1 : Hid _ := h1
  rw [← hn] at hD ⊢
  clear h hrow hrows hdis hul hx hr hn hP hQ h1
  go_enter Tryz.func12, Tryz.ntmps12
  go_wp2_with fail
  go_loopg [4] n (fun q iv wr => ∃ k : Nat, q = n - k ∧ k ≤ n ∧ iv = .int .i64 k ∧ WTE wB wr (fun b => b < B ∨ ∃ j u, j < k ∧ us[j]? = some u ∧ u.ownBlock = some b) Q X ∧ Fr X w0 wr)
  case atStart => exact ⟨0, rfl, Nat.zero_le _, rfl, H1.out, Fr.refl _ _⟩
  case round =>
    obtain ⟨k, rfl, hk, rfl, hW, hF⟩ := hrel
    clear H1
    by_cases hlt : k < n
    · obtain ⟨r, hrk⟩ : ∃ r, D[k]? = some r := ⟨D[k]'(by have := HH.out.2.2.2.2.2.2; omega), List.getElem?_eq_getElem _⟩
      obtain ⟨u, huk, hu0⟩ := HH.out.2.1 k r hrk
      have hu := hF.toks hu0
      have hrw := hF.row HH.out.1 HH.out.2.2.2.2.1
      obtain ⟨g, c, hf, _, _⟩ := World.ownsRow.form hrw (by have := HH.out.2.2.2.2.2.2; omega)
      injection hf with e1 e2 e3
      subst e1
      have c0 : wr.cell? ⟨g, k, none⟩ = some u := by rw [hrw.cellAt k (by have := HH.out.2.2.2.2.2.2; omega), huk]
      obtain ⟨au, cu, rfl⟩ := row_shape hu
      have q0 : (0 : Int) ≤ (k : Int) := by omega
      have q1 : (k : Int) < (n : Int) := by omega
      have hT := WTE.tokens hW (.slice au r.length cu) (r.map zE) B (own_zs hu) hB (fun b hb hp => by
        rcases hp with hp | ⟨j, y, hj, hy, hyb⟩
        · have := (hu.lt b hb).1; omega
        · exact HH.out.2.2.1 j k y _ b hy huk (by omega) hyb hb) (by rw [List.length_map]; exact HH.out.2.2.2.2.2.1 r (List.mem_of_getElem? hrk))
      have HT : Hid _ := And.intro hT (And.intro hF huk)
      clear hT hF hW hrk huk hu hu0 hrw e2 e3
      go_wp2_with (go_at_call 11; refine Calls.mono HT.out.1 ?_; rintro r2 w2 ⟨rfl, hW2, hF2⟩; have H2 : Hid _ := And.intro hW2 hF2; clear hW2 hF2)
      go_roundg (n - (k + 1))
      case measure => omega
      case rel => exact ⟨k + 1, rfl, by omega, by go_num, H2.out.1.mono (fun b _ hb => by
        rcases hb with (hb | ⟨j, y, hj, hy, hyb⟩) | hb
        · exact .inl hb
        · exact .inr ⟨j, y, by omega, hy, hyb⟩
        · exact .inr ⟨k, _, by omega, HT.out.2.2, hb⟩) (fun b _ hb => hb), HT.out.2.1.trans H2.out.2⟩
    · obtain rfl : k = n := by omega
      have q1 : ¬ (k : Int) < (k : Int) := by omega
      have hrw := hF.row HH.out.1 HH.out.2.2.2.2.1
      have hsl : ∀ u ∈ us, ∃ a n c, u = .slice a n c := fun u hu => by
        obtain ⟨j, hj, rfl⟩ := List.getElem_of_mem hu
        obtain ⟨y, hy, ho⟩ := HH.out.2.1 j _ (List.getElem?_eq_getElem (by have := HH.out.2.2.2.1; omega : j < D.length))
        rw [List.getElem?_eq_getElem hj] at hy
        cases hy
        obtain ⟨a, c, e⟩ := row_shape ho
        exact ⟨a, _, c, e⟩
      have hOw : BLines.Own wr B (.slice ao k cap) (us.map asEl) := by
        unfold BLines.Own
        rw [List.length_map, asEl_C us hsl, HH.out.2.2.2.1]
        have := hrw
        rw [← HH.out.2.2.2.2.2.2] at this ⊢
        exact this
      have hL := WTE.lines hW (.slice ao k cap) (us.map asEl) B hOw hB (fun b hb hq => by rw [HH.out.2.2.2.2.2.2] at hb; have := (hrw.lt b hb).1; have := HP.out.2 b hq; omega) (fun b hb => by rw [HH.out.2.2.2.2.2.2] at hb; exact HH.out.2.2.2.2.1 b hb) (by rw [List.length_map, HH.out.2.2.2.1, ← HH.out.2.2.2.2.2.2]; exact hD) (fun z hz => by
        obtain ⟨u, hu, rfl⟩ := List.mem_map.1 hz
        rw [asEl_sl (hsl u hu)]
        obtain ⟨j, hj, rfl⟩ := List.getElem_of_mem hu
        have hjD : j < D.length := by have := HH.out.2.2.2.1; omega
        obtain ⟨y, hy, ho⟩ := HH.out.2.1 j _ (List.getElem?_eq_getElem hjD)
        rw [List.getElem?_eq_getElem hj] at hy
        cases hy
        exact ⟨(D[j]).map zE, by rw [List.length_map]; exact HH.out.2.2.2.2.2.1 _ (List.getElem_mem hjD), row_base (own_zs (hF.toks ho)) (Nat.zero_le _)⟩)
      have HL : Hid _ := And.intro hL hF
      clear hL hF hW hrw hOw hsl
      go_wp2_with (go_at_call 30; refine Calls.mono HL.out.1 ?_; rintro r2 w2 ⟨rfl, hW2, hF2⟩; have H2 : Hid _ := And.intro hW2 hF2; clear hW2 hF2)
      go_end0
      obtain ⟨⟨Y, hY⟩, hF2⟩ := H2.out
      exact ⟨rfl, ⟨Y, hY.mono (fun b hb _ => hb) (fun b hb _ => hb)⟩, HL.out.2.trans hF2⟩
end Go.Proofs.YthcboklkejlifaaGreatDoor
