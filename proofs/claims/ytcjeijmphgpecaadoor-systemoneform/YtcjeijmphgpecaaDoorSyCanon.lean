/- Contracts of the document's Canon, Together and Classes. -/
import Derived.Test.YtcjeijmphgpecaaDoorSyPure
import Derived.Test.YtcjeijmphgpecaaDoorSyArr
import Derived.Deep.QuietTactic
import Derived.BigQuiet
namespace Go.Proofs.YtcjeijmphgpecaaDoor
open Go.RowKit Go.Maps
attribute [local go_sem ↓] Go.wp_at_zero Go.wp_at_succ
namespace Sy
theorem canonG_bound (l : List Int) : ∀ seen k, k ∈ canonG seen l → k < (seenG seen l).length := by
  induction l with
  | nil => intro seen k h; simp [canonG] at h
  | cons c r ih =>
    intro seen k h
    simp only [canonG, List.mem_cons] at h
    simp only [seenG]
    have hmono : ∀ (m : List Int) (s : List Int), s.length ≤ (seenG s m).length := fun m => by
      induction m with
      | nil => intro s; simp [seenG]
      | cons d q ih2 =>
        intro s
        simp only [seenG]
        have := ih2 (if place d s < s.length then s else s ++ [d])
        have h2 : s.length ≤ (if place d s < s.length then s else s ++ [d]).length := by split <;> simp
        omega
    rcases h with rfl | h
    · have h1 := hmono r (if place c seen < seen.length then seen else seen ++ [c])
      have h2 : place c seen < (if place c seen < seen.length then seen else seen ++ [c]).length := by
        have h3 := place_le c seen
        split
        · assumption
        · simp; omega
      omega
    · exact ih _ k h
theorem place_app (c : Int) (a b : List Int) (h : ∀ x ∈ a, x ≠ c) : place c (a ++ b) = a.length + place c b := by
  induction a with
  | nil => simp
  | cons x r ih =>
    have hx := h x List.mem_cons_self
    simp only [List.cons_append, place, if_neg hx, List.length_cons]
    rw [ih fun y hy => h y (List.mem_cons_of_mem _ hy)]
    omega
theorem canon_step {zs : List Int} {i : Nat} {z : Int} (h : zs[i]? = some z) : canonG [] (zs.take (i + 1)) = canonG [] (zs.take i) ++ [place z (seenG [] (zs.take i))] := by
  obtain ⟨hl, rfl⟩ := List.getElem?_eq_some_iff.1 h
  rw [List.take_succ_eq_append_getElem hl, canonG_app]
  rfl
theorem seen_step {zs : List Int} {i : Nat} {z : Int} (h : zs[i]? = some z) : seenG [] (zs.take (i + 1)) = if place z (seenG [] (zs.take i)) < (seenG [] (zs.take i)).length then seenG [] (zs.take i) else seenG [] (zs.take i) ++ [z] := by
  obtain ⟨hl, rfl⟩ := List.getElem?_eq_some_iff.1 h
  rw [List.take_succ_eq_append_getElem hl, seenG_app]
  rfl
end Sy
/-- Numbers as cells. -/
def natC (l : List Nat) : List Value := l.map fun (k : Nat) => Value.int .i64 (k : Int)
theorem natC_len (l : List Nat) : (natC l).length = l.length := by simp [natC]
def natI (l : List Nat) : List Int := l.map fun (k : Nat) => (k : Int)
theorem iC_nat (l : List Nat) : iC (natI l) = natC l := by simp [iC, natI, natC]
theorem natC_step (C : List Nat) (n i k : Nat) (hC : C.length = i) (hi : i < n) : (natC C ++ List.replicate (n - i) (Value.int .i64 0)).set i (.int .i64 (k : Int)) = natC (C ++ [k]) ++ List.replicate (n - (i + 1)) (Value.int .i64 0) := by
  have e : n - i = (n - (i + 1)) + 1 := by omega
  rw [List.set_append_right _ _ (by rw [natC_len]; omega), natC_len, hC, Nat.sub_self, e, List.replicate_succ, List.set_cons_zero]
  simp [natC]
set_option maxRecDepth 100000 in
set_option maxHeartbeats 8000000 in
theorem refCanon_any (v : Value) (zs : List Int) (w : World) (hv : HasI w v zs) (hn : zs.length ≤ 100000) :
    Calls Tryd.prog 18 #[v] w fun e w' => ∃ u, e = .returned u ∧ OwnI w' w.heap.size u (natI (Sy.canon zs)) ∧ Below w.heap.size w w' := by
  obtain ⟨i0, hi0, hz0, hz1, hz2⟩ := info_parts Tryd.infoI4
  obtain ⟨ao, cap, rfl, hcs⟩ := hv
  obtain ⟨n, hN⟩ : ∃ n, n = zs.length := ⟨_, rfl⟩
  have HH : Hid _ := And.intro hcs hN
  rw [← hN] at hn ⊢
  clear hcs hN
  have hmk := makeI n (by omega) w
  go_enter Tryd.func18, Tryd.ntmps18
  go_wp2_with fail
  clear hmk
  go_loopg [4, 5] n (fun q sv iv wr => ∃ (i : Nat) (seen : List Int), q = n - i ∧ i ≤ n ∧ iv = .int .i64 i ∧ seen = Sy.seenG [] (zs.take i) ∧ OwnI wr (w.heap.size + 1) sv seen ∧ Arr 3 w wr w.heap.size (natC (Sy.canonG [] (zs.take i)) ++ List.replicate (n - i) (.int .i64 0)))
  case atStart => exact ⟨0, [], rfl, Nat.zero_le _, rfl, by simp [Sy.seenG], World.ownsRow_nil _ _ _ _, by simpa [Sy.canonG, natC] using arr_new 3 (.int .i64 0) rfl n w⟩
  case round =>
    obtain ⟨i, seen, rfl, hi, rfl, hseen, hO, hA⟩ := hrel
    obtain ⟨wq, rfl⟩ : ∃ wq, wq = wr := ⟨_, rfl⟩
    by_cases hlt : i < n
    · obtain ⟨z, hz⟩ : ∃ z, zs[i]? = some z := ⟨zs[i]'(by have := HH.out.2; omega), List.getElem?_eq_getElem _⟩
      obtain ⟨a, rfl, c0⟩ := HH.out.1 i z hz
      have cz : wq.cell? (a.add i) = some (.int .i64 z) := (hA.bl.cell (World.block_lt_of_cell? w _ c0)).trans c0
      have hsl : seen.length ≤ i := by
        have := Sy.seenG_len (zs.take i) []
        rw [← hseen, List.length_take] at this
        simp at this; omega
      obtain ⟨m, hm⟩ : ∃ m, m = seen.length := ⟨_, rfl⟩
      obtain ⟨as0, cs, rfl⟩ := row_shape hO
      have q0 : (0 : Int) ≤ (i : Int) := by omega
      have q1 : (i : Int) < (n : Int) := by omega
      have HO : Hid _ := And.intro hO (And.intro hA (And.intro hseen (And.intro hz hm)))
      rw [← hm]
      rw [← hm] at hsl
      clear hO hA hseen hz hm c0
      go_wp2_with fail
      go_loopg [6] m (fun q kv wr => ∃ (k d : Nat), q = m - k ∧ k ≤ m ∧ kv = .int .i64 k ∧ wr = wq.drewN d ∧ ∀ x ∈ seen.take k, x ≠ z)
      case atStart => exact ⟨0, 0, rfl, Nat.zero_le _, rfl, rfl, fun x hx => by simp at hx⟩
      case round =>
        obtain ⟨k, d, rfl, hk, rfl, rfl, hne⟩ := hrel
        have HN : Hid _ := hne
        clear hne
        by_cases hkm : k < m
        · obtain ⟨s, hs⟩ : ∃ s, seen[k]? = some s := ⟨seen[k]'(by have := HO.out.2.2.2.2; omega), List.getElem?_eq_getElem _⟩
          obtain ⟨ao2, cap2, hv2, hc2⟩ := HO.out.1.has
          injection hv2 with e1 e2 e3
          subst e1
          obtain ⟨b, rfl, cs0⟩ := hc2 k s hs
          have p0 : (0 : Int) ≤ (k : Int) := by omega
          have p1 : (k : Int) < (m : Int) := by omega
          have p2 : decide ((k : Int) < (m : Int)) = true := decide_eq_true p1
          have HS : Hid (seen[k]? = some s) := hs
          clear hs hc2 e2 e3
          by_cases hsz : s = z
          · have e1 : (s != z) = false := by simp [hsz]
            have hpl : Sy.place z seen = k := by
              have h1 := List.take_append_drop k seen
              have h2 : seen.drop k = s :: seen.drop (k + 1) := by
                obtain ⟨hl, rfl⟩ := List.getElem?_eq_some_iff.1 HS.out
                exact List.drop_eq_getElem_cons hl
              rw [← h1, Sy.place_app z _ _ HN.out, h2]
              simp only [Sy.place, if_pos hsz, List.length_take]
              have := HO.out.2.2.2.2
              omega
            have p3 : ((k : Int) == (m : Int)) = false := by simp; omega
            have cx := (HO.out.2.1).cell (i := i) (x := .int .i64 0) (by
              rw [List.getElem?_append_right (by rw [natC_len, Sy.canonG_len, List.length_take]; omega), natC_len, Sy.canonG_len, List.length_take, List.getElem?_replicate, if_pos (by have := HH.out.2; omega)])
            have cf := (HO.out.2.1).free i
            have HP : Hid _ := And.intro hpl hsz
            clear hpl hsz
            go_wp2_with fail
            go_quiet (fail)
            rw [World.drewN_drewN]
            go_wp2
            go_roundg (n - (i + 1))
            case measure => omega
            case rel =>
              have hC : (Sy.canonG [] (zs.take i)).length = i := by rw [Sy.canonG_len, List.length_take]; have := HH.out.2; omega
              have hAs := (HO.out.2.1.below (below_drewN (Below.refl _ _) (d + nq))).set i (.int .i64 (k : Int))
              rw [natC_step _ n i k hC hlt] at hAs
              refine ⟨i + 1, seen, rfl, by omega, by go_num, ?_, ?_, ?_⟩
              · rw [Sy.seen_step HO.out.2.2.2.1, ← HO.out.2.2.1, if_pos (by rw [HP.out.1]; have := HO.out.2.2.2.2; omega)]
              · have hO1 := HO.out.1
                rw [← HO.out.2.2.2.2] at hO1
                refine trow_at (w' := (wq.drewN (d + nq)).setCell ⟨w.heap.size, i, none⟩ (.int .i64 (k : Int))) hO1 fun b hb => ?_
                rw [set_other _ _ _ _ _ (by have := (hO1.lt b hb).1; omega)]
                rfl
              · rw [Sy.canon_step HO.out.2.2.2.1, ← HO.out.2.2.1, HP.out.1]
                exact hAs
          · have e1 : (s != z) = true := by simpa using hsz
            have HZ : Hid (¬ s = z) := hsz
            clear hsz
            go_wp2_with fail
            go_quiet (fail)
            rw [World.drewN_drewN]
            go_wp2
            go_roundg (m - (k + 1))
            case measure => omega
            case rel => exact ⟨k + 1, _, rfl, by omega, by go_num, rfl, fun x hx => by
              rw [take_succ_of HS.out] at hx
              rcases List.mem_append.1 hx with hx | hx
              · exact HN.out x hx
              · rw [List.mem_singleton.1 hx]; exact HZ.out⟩
        · obtain rfl : k = m := by omega
          have p1 : ¬ (k : Int) < (k : Int) := by omega
          have p2 : decide ((k : Int) < (k : Int)) = false := decide_eq_false p1
          have p3 : ((k : Int) == (k : Int)) = true := by simp
          have hpl : Sy.place z seen = k := by
            have h1 := HN.out
            rw [List.take_of_length_le (by have := HO.out.2.2.2.2; omega)] at h1
            have h2 := Sy.place_app z seen [] h1
            rw [List.append_nil] at h2
            rw [h2]; simp [Sy.place]; exact HO.out.2.2.2.2.symm
          have hml : k + 1 ≤ maxLen := by unfold maxLen; omega
          have hby : (k + 1) * 8 ≤ 140737488355328 := by omega
          have HP : Hid _ := hpl
          clear hpl
          go_wp2_with fail
          go_quiet (fail)
          rw [World.drewN_drewN]
          obtain ⟨wz, hwz⟩ : ∃ wz, wz = wq.drewN (d + nq) := ⟨_, rfl⟩
          have hbz : Below wq.heap.size wq wz := by rw [hwz]; exact below_drewN (Below.refl _ _) _
          have cz2 : wz.cell? (a.add i) = some (.int .i64 z) := (hbz.cell (World.block_lt_of_cell? wq _ cz)).trans cz
          have hAz := HO.out.2.1.below hbz
          have hOz : wz.ownsRow (w.heap.size + 1) 3 1 (.slice as0 k cs) k (iC seen) := by have h1 := trow_at (w' := wz) HO.out.1 fun b hb => hbz.block b (HO.out.1.lt b hb).2; rw [← HO.out.2.2.2.2] at h1; exact h1
          rw [← hwz]
          have hle : w.heap.size + 1 ≤ (wz.alloc (.cells #[.int .i64 z] 3)).heap.size := by have := hAz.lt; simp; omega
          have HZ : Hid _ := And.intro hAz hOz
          clear hwz hbz hAz hOz cz
          go_wp2_with (at_builtin; refine wpList_append_own_at _ rfl _ _ 38 rfl (w.heap.size + 1) 3 i0 (.int .i64 0) 1 8 Tryd.underlying38 hi0 hz0 hz1 hz2 rfl (by decide) (.slice as0 k cs) k (iC seen) rfl (HZ.out.2.alloc _) ⟨wz.heap.size, 0, none⟩ 1 1 [.int .i64 z] rfl rfl (World.news_of_block (cs := #[.int .i64 z]) (t := 3) (fr := (0, 0)) (heap_alloc_new wz _)) (by simp [Value.oneCell']) hml hby hle ?_; intro v2 w2 hown2 hgrow2 hnil2 hat2; have hA2 : Arr 3 w w2 w.heap.size (natC (Sy.canonG [] (zs.take i)) ++ List.replicate (n - i) (.int .i64 0)) := HZ.out.1.kept (grown_alloc hgrow2) (fun b hb => by have := (HZ.out.2.lt b hb).1; omega); have cx := hA2.cell (i := i) (x := .int .i64 0) (by rw [List.getElem?_append_right (by rw [natC_len, Sy.canonG_len, List.length_take]; omega), natC_len, Sy.canonG_len, List.length_take, List.getElem?_replicate, if_pos (by have := HH.out.2; omega)]); have cf := hA2.free i; have H2 : Hid _ := And.intro hown2 hA2; clear hown2 hgrow2 hnil2 hat2 hA2)
          go_roundg (n - (i + 1))
          case measure => omega
          case rel =>
            have hC : (Sy.canonG [] (zs.take i)).length = i := by rw [Sy.canonG_len, List.length_take]; have := HH.out.2; omega
            have hAs := H2.out.2.set i (.int .i64 (k : Int))
            rw [natC_step _ n i k hC hlt] at hAs
            refine ⟨i + 1, seen ++ [z], rfl, by omega, by go_num, ?_, ?_, ?_⟩
            · rw [Sy.seen_step HO.out.2.2.2.1, ← HO.out.2.2.1, if_neg (by rw [HP.out]; have := HO.out.2.2.2.2; omega)]
            · have h1 : w2.ownsRow (w.heap.size + 1) 3 1 v2 (k + 1) (iC seen ++ [.int .i64 z]) := H2.out.1
              have h2 : OwnI w2 (w.heap.size + 1) v2 (seen ++ [z]) := by unfold OwnI; rw [iC_snoc, List.length_append, ← HO.out.2.2.2.2]; exact h1
              exact trow_at h2 fun b hb => set_other _ _ _ _ _ (by have := (h2.lt b hb).1; omega)
            · rw [Sy.canon_step HO.out.2.2.2.1, ← HO.out.2.2.1, HP.out]
              exact hAs
    · obtain rfl : i = n := by omega
      have q1 : ¬ (i : Int) < (i : Int) := by omega
      have HA : Hid _ := hA
      clear hA hO hseen
      go_wp2_with fail
      go_ret
      have hzt : zs.take i = zs := List.take_of_length_le (by have := HH.out.2; omega)
      have h1 := HA.out.own (by rw [List.length_append, natC_len, Sy.canonG_len, List.length_replicate, List.length_take]; unfold maxLen; omega)
      rw [hzt, Nat.sub_self, List.replicate_zero, List.append_nil, natC_len, Sy.canonG_len, ← HH.out.2] at h1
      refine ⟨_, rfl, ?_, HA.out.bl⟩
      unfold OwnI
      rw [iC_nat]
      have h2 : (natI (Sy.canon zs)).length = i := by unfold natI Sy.canon; rw [List.length_map, Sy.canonG_len]; exact HH.out.2.symm
      rw [h2]
      exact h1
end Go.Proofs.YtcjeijmphgpecaaDoor
