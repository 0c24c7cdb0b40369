/- Contract of the document's Find. -/
import Derived.Test.YthnenpncajpibaaGreatDoorRtSto
namespace Go.Proofs.YthnenpncajpibaaGreatDoor
open Go.RowKit Go.Maps
attribute [local go_sem ↓] Go.wp_at_zero Go.wp_at_succ
theorem idx_no {L : List Tm} {t : Tm} (h : ∀ z ∈ Tm.idx L t.hash, ∀ i : Nat, z = i → L[i]? ≠ some t) : t ∉ L := fun hm => by
  obtain ⟨i, hi, e⟩ := List.getElem_of_mem hm
  have e' : L[i]? = some t := by rw [List.getElem?_eq_getElem hi, e]
  exact h i (Tm.idx_mem.2 ⟨i, t, rfl, e', rfl⟩) i rfl e'
theorem mem_take_succ {α : Type} {l : List α} {j : Nat} {x y : α} (h : l[j]? = some x) (hy : y ∈ l.take (j + 1)) : y ∈ l.take j ∨ y = x := by
  rw [take_next h] at hy
  simpa using hy
set_option maxRecDepth 100000 in
set_option maxHeartbeats 1600000 in
theorem rfind_any (b : Nat) (L : List Tm) (F : Nat → Prop) (t : Tm) (vn vp : Value) (w : World) (hS : RStoB w b L F) (hn : HasI w vn t.names) (hp : HasP w vp t.pairs) (hB : t.Bd) :
    Calls Tryz.prog 84 #[.pointer (some ⟨b, 0, none⟩), tmV t vn vp] w fun r w' => ((∃ k : Nat, r = .returned (.int .i64 k) ∧ L[k]? = some t) ∨ (r = .returned (.int .i64 (-1)) ∧ t ∉ L)) ∧ Below w.heap.size w w' := by
  obtain ⟨W, hW⟩ : ∃ W, W = w.alloc (.cells #[.int .i64 t.kind, .int .i64 t.label, .int .i64 t.a, .int .i64 t.b, vn, vp] 35) := ⟨_, rfl⟩
  have hb : Below w.heap.size w W := by rw [hW]; exact (Below.refl _ _).alloc (Nat.le_refl _) _
  have hX : W.heap[w.heap.size]? = some (.cells #[.int .i64 t.kind, .int .i64 t.label, .int .i64 t.a, .int .i64 t.b, vn, vp] 35 (0, 0)) := by rw [hW]; exact (MapKept.heap_alloc w _).1
  have hSum : ∀ W', Below W.heap.size W W' → Calls Tryz.prog 85 #[tmV t vn vp] W' fun r w' => r = .returned (.int .i64 t.hash) ∧ Below W'.heap.size W' w' := fun W' hb' => rsum_any t vn vp W' ((hn.below hb).below hb') ((hp.below hb).below hb') hB
  have hSame : ∀ W', Below W.heap.size W W' → ∀ (s : Tm) (un up : Value), HasI W' un s.names → HasP W' up s.pairs → s.Bd → Calls Tryz.prog 114 #[tmV s un up, tmV t vn vp] W' fun r w' => r = .returned (.bool (Tm.same s t)) ∧ Below W'.heap.size W' w' := fun W' hb' s un up h1 h2 h3 => rsame_any s t un up vn vp W' h1 h2 ((hn.below hb).below hb') ((hp.below hb).below hb') (by have := h3.nl; omega) (by have := h3.pl; omega) (by have := hB.nl; omega) (by have := hB.pl; omega)
  have hS' := hS.below hb
  obtain ⟨ao, cap, hc⟩ := hS'.cell
  have hblt : b < W.heap.size := World.block_lt_of_cell? W _ hc
  obtain ⟨an, cn, rfl, _⟩ := id hn
  obtain ⟨ap, cp, rfl, _⟩ := id hp
  unfold tmV at hSum hSame ⊢
  have HS : Hid _ := And.intro hS' (And.intro hb (And.intro hX (And.intro hB hSame)))
  have HU : Hid _ := hSum
  have HW : Hid _ := hW
  obtain ⟨x0, x1, x2, x3, x4, x5, xf⟩ := six6 hX
  have hh := Tm.hash_lt t
  obtain ⟨v, hv, hvI⟩ := hS'.rowAt hh
  have q0 : (0 : Int) ≤ (t.hash : Int) := by omega
  have q1 : (t.hash : Int) < 512 := by omega
  have hv' : W.cell? ⟨b, 1 + t.hash, none⟩ = some v := by rw [Nat.add_comm]; exact hv
  have HI : Hid _ := hvI
  clear hS hS' hb hX hB hSum hSame hn hp hvI hW
  go_enter Tryz.func84, Tryz.ntmps84
  go_wp2_with fail
  rw [← HW.out]
  go_region_law
    ((first
      | (go_simp; go_at_call 85; refine (HU.out _ (by repeat (first | exact Below.refl _ _ | assumption | refine Below.drew ?_ | refine Below.setCell ?_ (by simp) _ | refine Below.alloc ?_ (by simp) _))).mono ?_; rintro r3 w3 ⟨rfl, hb3'⟩; have hb3 := below_of_drew3 hb3'; have hv3 := cell_up hv hb3; have hv3' := cell_up hv' hb3; have H3 : Hid _ := hb3; clear hb3 hb3' HU)))
  all_goals
    obtain ⟨av, cv, rfl, hcv⟩ := id HI.out
    obtain ⟨I, hI⟩ : ∃ I, I = Tm.idx L t.hash := ⟨_, rfl⟩
    obtain ⟨n, hN⟩ : ∃ n, n = I.length := ⟨_, rfl⟩
    have hlen := Tm.idx_len L t.hash
    have hbig := HS.out.1.big
    rw [← hI, ← hN] at hlen
    rw [← hI] at hcv
    have HL : Hid _ := And.intro hI (And.intro hN hcv)
    rw [← hI, ← hN]
    clear hI hN hcv hv hv' hv3 hv3' x0 x1 x2 x3 x4 x5 hc
    (try go_simp)
    go_wp2_with fail
    go_loopg [6] n (fun g i wr => ∃ j : Nat, g = n - j ∧ j ≤ n ∧ i = .int .i64 j ∧ (∀ z ∈ I.take j, ∀ i : Nat, z = i → L[i]? ≠ some t) ∧ Below W.heap.size W wr)
    case atStart => exact ⟨0, rfl, Nat.zero_le _, rfl, fun z hz => by simp at hz, H3.out⟩
    case round =>
      obtain ⟨j, rfl, hj, rfl, hno, hbw⟩ := hrel
      have HR : Hid _ := And.intro hno hbw
      clear hno hbw
      by_cases hlt : j < n
      · obtain ⟨z, hz⟩ : ∃ z, I[j]? = some z := ⟨I[j]'(by have := HL.out.2.1; omega), List.getElem?_eq_getElem _⟩
        obtain ⟨k, s, rfl, hk, hsh⟩ := Tm.idx_mem.1 (by rw [← HL.out.1]; exact List.mem_of_getElem? hz)
        obtain ⟨aa, rfl, e0⟩ := HL.out.2.2 j _ hz
        have d0 := (HR.out.2.cell (World.block_lt_of_cell? W _ e0)).trans e0
        have hSr := HS.out.1.below HR.out.2
        obtain ⟨g, cg, un, up, hA⟩ := hSr.at hk
        have hXr := (HR.out.2.block _ (t_lt HS.out.2.2.1)).trans HS.out.2.2.1
        obtain ⟨x0, x1, x2, x3, x4, x5, xf'⟩ := six6 hXr
        have hkl := (List.getElem?_eq_some_iff.1 hk).1
        have hC : ∀ W', Below wr.heap.size wr W' → Calls Tryz.prog 114 #[.agg #[.int .i64 s.kind, .int .i64 s.label, .int .i64 s.a, .int .i64 s.b, un, up], .agg #[.int .i64 t.kind, .int .i64 t.label, .int .i64 t.a, .int .i64 t.b, .slice an t.names.length cn, .slice ap t.pairs.length cp]] W' fun r w' => r = .returned (.bool (Tm.same s t)) ∧ Below W'.heap.size W' w' := fun W' hb' => HS.out.2.2.2.2 W' (HR.out.2.trans (hb'.mono HR.out.2.size)) s un up (hA.n.below hb') (hA.p.below hb') (hSr.bd s (List.mem_of_getElem? hk))
        have HC : Hid _ := hC
        obtain ⟨an', cn', rfl, _⟩ := id hA.n
        obtain ⟨ap', cp', rfl, _⟩ := id hA.p
        obtain ⟨c0, y0, y1, y2, y3, y4, y5, _, _⟩ := hA
        have r0 : (0 : Int) ≤ (j : Int) := by omega
        have r1 : (j : Int) < (n : Int) := by omega
        have r2 : (0 : Int) ≤ (k : Int) := by omega
        have r3 : (k : Int) < (L.length : Int) := by omega
        have HK : Hid _ := And.intro hz hk
        clear hz hk hSr hXr hC e0 hsh
        by_cases hst : s = t
        · have he : Tm.same s t = true := (same_iff _ _).2 hst
          rw [he] at HC
          have HST : Hid _ := hst
          clear he hst
          go_wp2_with fail
          go_region_held3 (fun w' => w'.cell? ⟨b, 0, none⟩ = some (.slice (some ⟨g, 0, none⟩) L.length cg) ∧ w'.cell? (aa.add j) = some (.int .i64 k) ∧ (w'.cell? ⟨g, k * 6, none⟩ = some (.int .i64 s.kind) ∧ w'.cell? ⟨g, k * 6 + 1, none⟩ = some (.int .i64 s.label) ∧ w'.cell? ⟨g, k * 6 + 2, none⟩ = some (.int .i64 s.a) ∧ w'.cell? ⟨g, k * 6 + 3, none⟩ = some (.int .i64 s.b) ∧ w'.cell? ⟨g, k * 6 + 4, none⟩ = some (.slice an' s.names.length cn') ∧ w'.cell? ⟨g, k * 6 + 5, none⟩ = some (.slice ap' s.pairs.length cp')) ∧ w'.cell? ⟨w.heap.size, 0, none⟩ = some (.int .i64 t.kind) ∧ w'.cell? ⟨w.heap.size, 1, none⟩ = some (.int .i64 t.label) ∧ w'.cell? ⟨w.heap.size, 2, none⟩ = some (.int .i64 t.a) ∧ w'.cell? ⟨w.heap.size, 3, none⟩ = some (.int .i64 t.b) ∧ w'.cell? ⟨w.heap.size, 4, none⟩ = some (.slice an t.names.length cn) ∧ w'.cell? ⟨w.heap.size, 5, none⟩ = some (.slice ap t.pairs.length cp)) (go_keep)
            ((go_at_call 114; refine (HC.out _ (by repeat (first | exact Below.refl _ _ | assumption | refine Below.drew ?_ | refine Below.setCell ?_ (by simp) _ | refine Below.alloc ?_ (by simp) _))).mono ?_; rintro r6 w6 ⟨rfl, hb6'⟩; have hb6 := below_of_drew3 hb6'; have d6 := (hb6.cell (World.block_lt_of_cell? wr _ d0)).trans d0; clear HC; obtain ⟨c0, x0, x1, x2, x3, x4, x5, y0, y1, y2, y3, y4, y5⟩ : _ ∧ _ ∧ _ ∧ _ ∧ _ ∧ _ ∧ _ ∧ _ ∧ _ ∧ _ ∧ _ ∧ _ ∧ _ := ⟨cell_up c0 hb6, cell_up x0 hb6, cell_up x1 hb6, cell_up x2 hb6, cell_up x3 hb6, cell_up x4 hb6, cell_up x5 hb6, cell_up y0 hb6, cell_up y1 hb6, cell_up y2 hb6, cell_up y3 hb6, cell_up y4 hb6, cell_up y5 hb6⟩; have H6 : Hid _ := hb6; clear hb6 hb6'))
          all_goals
            (try go_simp)
            go_wp2_with fail
            go_ret
            exact ⟨.inl ⟨k, rfl, by rw [← HST.out]; exact HK.out.2⟩, HS.out.2.1.trans ((HR.out.2.trans (H6.out.mono HR.out.2.size)).mono HS.out.2.1.size)⟩
        · have he : Tm.same s t = false := by exact same_ne hst
          rw [he] at HC
          have HST : Hid _ := hst
          clear he hst
          go_wp2_with fail
          go_region_held3 (fun w' => w'.cell? ⟨b, 0, none⟩ = some (.slice (some ⟨g, 0, none⟩) L.length cg) ∧ w'.cell? (aa.add j) = some (.int .i64 k) ∧ (w'.cell? ⟨g, k * 6, none⟩ = some (.int .i64 s.kind) ∧ w'.cell? ⟨g, k * 6 + 1, none⟩ = some (.int .i64 s.label) ∧ w'.cell? ⟨g, k * 6 + 2, none⟩ = some (.int .i64 s.a) ∧ w'.cell? ⟨g, k * 6 + 3, none⟩ = some (.int .i64 s.b) ∧ w'.cell? ⟨g, k * 6 + 4, none⟩ = some (.slice an' s.names.length cn') ∧ w'.cell? ⟨g, k * 6 + 5, none⟩ = some (.slice ap' s.pairs.length cp')) ∧ w'.cell? ⟨w.heap.size, 0, none⟩ = some (.int .i64 t.kind) ∧ w'.cell? ⟨w.heap.size, 1, none⟩ = some (.int .i64 t.label) ∧ w'.cell? ⟨w.heap.size, 2, none⟩ = some (.int .i64 t.a) ∧ w'.cell? ⟨w.heap.size, 3, none⟩ = some (.int .i64 t.b) ∧ w'.cell? ⟨w.heap.size, 4, none⟩ = some (.slice an t.names.length cn) ∧ w'.cell? ⟨w.heap.size, 5, none⟩ = some (.slice ap t.pairs.length cp)) (go_keep)
            ((go_at_call 114; refine (HC.out _ (by repeat (first | exact Below.refl _ _ | assumption | refine Below.drew ?_ | refine Below.setCell ?_ (by simp) _ | refine Below.alloc ?_ (by simp) _))).mono ?_; rintro r6 w6 ⟨rfl, hb6'⟩; have hb6 := below_of_drew3 hb6'; have d6 := (hb6.cell (World.block_lt_of_cell? wr _ d0)).trans d0; clear HC; obtain ⟨c0, x0, x1, x2, x3, x4, x5, y0, y1, y2, y3, y4, y5⟩ : _ ∧ _ ∧ _ ∧ _ ∧ _ ∧ _ ∧ _ ∧ _ ∧ _ ∧ _ ∧ _ ∧ _ ∧ _ := ⟨cell_up c0 hb6, cell_up x0 hb6, cell_up x1 hb6, cell_up x2 hb6, cell_up x3 hb6, cell_up x4 hb6, cell_up x5 hb6, cell_up y0 hb6, cell_up y1 hb6, cell_up y2 hb6, cell_up y3 hb6, cell_up y4 hb6, cell_up y5 hb6⟩; have H6 : Hid _ := hb6; clear hb6 hb6'))
          all_goals
            (try go_simp)
            go_wp2_with fail
            go_roundg (n - (j + 1))
            case measure => omega
            case rel => exact ⟨j + 1, rfl, by omega, by go_num, fun z hz i hi => by
              rcases mem_take_succ HK.out.1 hz with h | h
              · exact HR.out.1 z h i hi
              · have : i = k := by omega
                subst this
                rw [HK.out.2]; intro e; exact HST.out (Option.some.inj e), HR.out.2.trans (H6.out.mono HR.out.2.size)⟩
      · obtain rfl : j = n := by omega
        have r1 : ¬ (j : Int) < (j : Int) := by omega
        go_wp2_with fail
        go_ret
        refine ⟨.inr ⟨rfl, idx_no ?_⟩, HS.out.2.1.trans (HR.out.2.mono HS.out.2.1.size)⟩
        have h := HR.out.1
        rw [HL.out.2.1, List.take_length, HL.out.1] at h
        exact h
end Go.Proofs.YthnenpncajpibaaGreatDoor
