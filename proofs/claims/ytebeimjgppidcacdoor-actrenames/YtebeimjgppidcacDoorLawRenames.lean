/- The statement ActRenames as a call: on any arguments it returns true, and nothing that was there has turned. -/
import Derived.Test.YtebeimjgppidcacDoorRenames0
namespace Go.Proofs.YtebeimjgppidcacDoor
open Go.RowKit
theorem HasP.cells {w : World} {ao : Option Addr} {n cap : Nat} {ps : List (Int × Int)} (h : HasP w (.slice ao n cap) ps) : ∀ (i : Nat) (p : Int × Int), ps[i]? = some p → ∃ a, ao = some a ∧ w.cell? (a.add (i * 2)) = some (.int .i64 p.1) ∧ w.cell? (a.add (i * 2 + 1)) = some (.int .i64 p.2) := by
  obtain ⟨ao', cap', he, hc⟩ := h
  injection he with e1 e2 e3
  subst e1
  exact hc
set_option maxRecDepth 100000 in
set_option maxHeartbeats 2000000 in
theorem lawRenames_in (v : Value) (ps : List (Int × Int)) (l : Int) (a : Addr) (w : World) (hH : HasP w v ps) (hn : ps.length ≤ 300) (hv : Ac.pairs (-1) ps = true) (h0 : 0 ≤ l) (h1 : l < 201) (hU : w.cell? ⟨3, 0, none⟩ = some (.iface 103 (.pointer (some a)))) :
    Calls Tryd.prog 7 #[v, .int .i64 l] w fun e w' => e = .returned (.bool true) ∧ Below w.heap.size w w' := by
  have hP := pairs_any v ps w hH (by unfold maxLen; omega)
  rw [hv] at hP
  obtain ⟨f1, f2⟩ := rename_co ps l hv h0 h1
  obtain ⟨hr, hall⟩ := Ac.pairs_facts ps (-1) hv
  have hul := World.block_lt_of_cell? w _ hU
  obtain ⟨ao, cap, hvv, hcells⟩ := hH
  subst hvv
  have HH : Hid (HasP w (.slice ao ps.length cap) ps ∧ ps.Pairwise (fun a b => a.1 < b.1) ∧ (∀ p ∈ ps, Ac.isN p.2 = true)) := ⟨⟨ao, cap, rfl, hcells⟩, hr, fun p hp => (hall p hp).2⟩
  obtain ⟨x, hx⟩ : ∃ x, x = Ac.rename ps l := ⟨_, rfl⟩
  obtain ⟨cl, hcl⟩ : ∃ cl, cl = Ac.co l := ⟨_, rfl⟩
  obtain ⟨cx, hcx⟩ : ∃ cx, cx = Ac.co x := ⟨_, rfl⟩
  obtain ⟨nn, hnn⟩ : ∃ nn, nn = Ac.nameN l := ⟨_, rfl⟩
  obtain ⟨nm, hnm⟩ : ∃ nm, nm = Ac.named l := ⟨_, rfl⟩
  obtain ⟨m, hm⟩ : ∃ m, m = Ac.nameN x := ⟨_, rfl⟩
  have HX : Hid (x = Ac.rename ps l ∧ nn = Ac.nameN l ∧ nm = Ac.named l ∧ m = Ac.nameN x ∧ cl = Ac.co l ∧ cx = Ac.co x) := ⟨hx, hnn, hnm, hm, hcl, hcx⟩
  have f1' : Ac.rename ps cl = cx := by rw [hcl, f1, hcx, hx]
  have f2' : (x == 0) = (l == 0) := by rw [hx]; exact f2
  have HF : Hid (Ac.rename ps cl = cx) := f1'
  have f3 : (cx != cx) = false := by simp
  have f4 : ((l == 0) != (l == 0)) = false := by simp
  clear hcells hr hall hv f1 f2 f1' hx hnn hnm hm hcl hcx
  have hn3 : ¬ (300 : Int) < (ps.length : Int) := by omega
  go_enter Tryd.func7, Tryd.ntmps7
  go_wp2_with fail
  refine hP.mono ?_
  rintro r w1 ⟨rfl, hb1⟩
  have H1 : Hid (HasP w1 (.slice ao ps.length cap) ps ∧ Below w.heap.size w w1) := ⟨HH.out.1.below hb1, hb1⟩
  clear hb1 hP
  go_wp2_with (go_at_call 32; refine (nameOf_any _ _).mono ?_; rw [← HX.out.2.1, ← HX.out.2.2.1]; rintro r w' ⟨rfl, hw⟩; obtain rfl := hw.symm)
  refine (rename_any _ ps l w1 H1.out.1 (by omega)).mono ?_
  rw [← HX.out.1]
  rintro r w2 ⟨rfl, hb2⟩
  have H2 : Hid (HasP w2 (.slice ao ps.length cap) ps ∧ Below w.heap.size w w2) := ⟨H1.out.1.below hb2, H1.out.2.trans (hb2.mono H1.out.2.size)⟩
  clear hb2 H1
  go_wp2_with (go_at_call 31; refine (co_any _ _).mono ?_; rw [← HX.out.2.2.2.2.1]; rintro r w' ⟨rfl, hw⟩; obtain rfl := hw.symm)
  refine (rename_any _ ps cl w2 H2.out.1 (by omega)).mono ?_
  rw [HF.out]
  rintro r w3 ⟨rfl, hb3⟩
  have H3 : Hid (HasP w3 (.slice ao ps.length cap) ps ∧ Below w.heap.size w w3) := ⟨H2.out.1.below hb3, H2.out.2.trans (hb3.mono H2.out.2.size)⟩
  clear hb3 H2
  go_wp2_with (go_at_call 31; refine (co_any _ _).mono ?_; rw [← HX.out.2.2.2.2.2]; rintro r w' ⟨rfl, hw⟩; obtain rfl := hw.symm)
  obtain ⟨n, hN⟩ : ∃ n, n = ps.length := ⟨_, rfl⟩
  have HN : Hid (n = ps.length) := hN
  have HC := H3.out.1.cells
  rw [← hN] at hn ⊢
  have HC3 : Hid (∀ (i : Nat) (p : Int × Int), ps[i]? = some p → ∃ a, ao = some a ∧ w3.cell? (a.add (i * 2)) = some (.int .i64 p.1) ∧ w3.cell? (a.add (i * 2 + 1)) = some (.int .i64 p.2)) := HC
  clear hN HC hn3
  go_loopg [9, 10] n (fun g fv i wr => ∃ (j : Nat) (f : Bool), g = n - j ∧ j ≤ n ∧ i = .int .i64 j ∧ fv = .bool f ∧ (f = false → nm = true → ∀ (k : Nat) (p : Int × Int), k < j → ps[k]? = some p → p.1 ≠ nn) ∧ w3 = wr)
  case atStart => exact ⟨0, false, rfl, Nat.zero_le _, rfl, rfl, fun _ _ k p h => by omega, rfl⟩
  case round =>
    obtain ⟨j, f, rfl, hj, rfl, rfl, hR, rfl⟩ := hrel
    have HR : Hid (f = false → nm = true → ∀ (k : Nat) (p : Int × Int), k < j → ps[k]? = some p → p.1 ≠ nn) := hR
    clear hR
    by_cases hlt : j < n
    · obtain ⟨p, hp⟩ : ∃ p, ps[j]? = some p := ⟨ps[j]'(by have := HN.out; omega), List.getElem?_eq_getElem _⟩
      obtain ⟨b, rfl, c0, c1⟩ := HC3.out j p hp
      obtain ⟨y, z⟩ := p
      have HP : Hid (ps[j]? = some (y, z)) := hp
      clear hp
      have d2 : w3.cell? ((b.add (j * 2)).add 1) = some (.int .i64 z) := by rw [add_two]; exact c1
      have d3 : w3.cell? ⟨(b.add (j * 2)).block, (b.add (j * 2)).off + 1, none⟩ = some (.int .i64 z) := by rw [← d2]; rfl
      have q0 : (0 : Int) ≤ (j : Int) := by omega
      have q1 : (j : Int) < (n : Int) := by omega
      cases nm with
      | false =>
        go_wp2_with fail
        go_roundg (n - (j + 1))
        case measure => omega
        case rel => exact ⟨j + 1, f, rfl, by omega, by go_num, rfl, fun _ h => by simp at h, rfl⟩
      | true =>
        by_cases hy : y = nn
        · have hz : m = z := by
            obtain ⟨e1, e2, e3, e4, _⟩ := HX.out
            have hzn := HH.out.2.2 _ (List.mem_of_getElem? HP.out)
            obtain ⟨z0, z1⟩ := isN_in hzn
            rw [e4, e1, Ac.rename_hit HH.out.2.1 e3.symm HP.out (by rw [← e2]; exact hy) hzn]
            exact (co_label z z0 z1 _).2.2
          have e5 : (y == nn) = true := by simpa using hy
          have e6 : (m != z) = false := by simpa using hz
          clear hy hz
          go_wp2_with (go_at_call 32; refine (nameOf_any _ _).mono ?_; rw [← HX.out.2.2.2.1]; rintro r w' ⟨rfl, hw⟩; obtain rfl := hw.symm)
          go_roundg (n - (j + 1))
          case measure => omega
          case rel => exact ⟨j + 1, true, rfl, by omega, by go_num, rfl, (fun h => absurd h (by decide)), rfl⟩
        · have e5 : (y == nn) = false := by simpa using hy
          have HY : Hid (y ≠ nn) := hy
          clear hy
          go_wp2_with fail
          go_roundg (n - (j + 1))
          case measure => omega
          case rel => exact ⟨j + 1, f, rfl, by omega, by go_num, rfl, fun hf hn k p hk hp => by
            rcases Nat.lt_or_ge k j with h | h
            · exact HR.out hf hn k p h hp
            · obtain rfl : k = j := by omega
              rw [HP.out] at hp
              cases hp
              exact HY.out, rfl⟩
    · have q1 : ¬ (j : Int) < (n : Int) := by omega
      have hU3 := (H3.out.2.cell hul).trans hU
      have HE : Hid (f = false → x = l) := (fun hf => by
        obtain ⟨e1, e2, e3, _⟩ := HX.out
        cases hnm : nm with
        | false =>
          rw [e1]
          unfold Ac.rename
          rw [← e3, hnm]; rfl
        | true =>
          rw [e1]
          refine Ac.rename_miss fun k p hk => ?_
          rw [← e2]
          have hkl := (List.getElem?_eq_some_iff.1 hk).1
          exact HR.out hf hnm k p (by have := HN.out; omega) hk : f = false → x = l)
      go_wp2_with fail
      refine (alive2_any a w3 hU3).mono ?_
      rintro r w9 ⟨rfl, hb9⟩
      have HB9 : Hid (Below w.heap.size w w9) := H3.out.2.trans (hb9.mono H3.out.2.size)
      clear hb9
      cases f with
      | true =>
        go_wp2_with fail
        go_ret
        exact ⟨rfl, HB9.out⟩
      | false =>
        have hxl : (x == l) = true := by simpa using HE.out rfl
        go_wp2_with fail
        go_ret
        exact ⟨rfl, HB9.out⟩
theorem lawRenames_any (v : Value) (ps : List (Int × Int)) (l : Int) (a : Addr) (w : World) (hH : HasP w v ps) (hn : ps.length ≤ maxLen) (hU : w.cell? ⟨3, 0, none⟩ = some (.iface 103 (.pointer (some a)))) :
    Calls Tryd.prog 7 #[v, .int .i64 l] w fun e w' => e = .returned (.bool true) ∧ Below w.heap.size w w' := by
  by_cases h : Ac.pairs (-1) ps = true ∧ 0 ≤ l ∧ l < 201 ∧ ps.length ≤ 300
  · exact lawRenames_in v ps l a w hH h.2.2.2 h.1 h.2.1 h.2.2.1 hU
  · refine lawRenames_out v ps l a w hH hn ?_ hU
    cases hp : Ac.pairs (-1) ps with
    | false => exact .inl rfl
    | true => right; simp [hp] at h; omega
end Go.Proofs.YtebeimjgppidcacDoor
