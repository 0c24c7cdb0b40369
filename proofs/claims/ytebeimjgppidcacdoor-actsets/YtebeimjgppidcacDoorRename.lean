/- Contracts of slices.IndexFunc with Rename's closure, and of act.Rename. -/
import Derived.Test.YtebeimjgppidcacDoorPairs
namespace Go.Proofs.YtebeimjgppidcacDoor
open Go.RowKit
theorem cellOf {w : World} {B : Nat} {cs : Array Value} {t : TypeId} {f : Nat × Nat} (h : w.heap[B]? = some (.cells cs t f)) (k : Nat) : w.cell? ⟨B, k, none⟩ = cs[k]? := by
  simp [World.cell?, h]
namespace Ac
/-- Where the first pair of this old name stands. -/
def find : List (Int × Int) → Int → Option Nat
  | [], _ => none
  | p :: r, n => if p.1 = n then some 0 else (find r n).map (· + 1)
def rename (ps : List (Int × Int)) (l : Int) : Int :=
  if named l then match find ps (nameN l) with
    | none => l
    | some i => match ps[i]? with
      | none => l
      | some p => if isN p.2 then label p.2 (nameC l) else l
  else l
def findI (ps : List (Int × Int)) (n : Int) : Int := match find ps n with
  | none => -1
  | some i => i
theorem find_some : ∀ (ps : List (Int × Int)) (n : Int) (i : Nat), find ps n = some i → ∃ p, ps[i]? = some p ∧ p.1 = n
  | [], _, _, h => by simp [find] at h
  | p :: r, n, i, h => by
    unfold find at h
    split at h
    · cases h; exact ⟨p, rfl, by assumption⟩
    · cases e : find r n with
      | none => rw [e] at h; cases h
      | some k =>
        rw [e] at h
        simp at h
        subst h
        obtain ⟨q, h1, h2⟩ := find_some r n k e
        exact ⟨q, by simpa using h1, h2⟩
theorem find_step (ps : List (Int × Int)) (n : Int) (j : Nat) (h : ∀ (k : Nat) (p : Int × Int), k < j → ps[k]? = some p → p.1 ≠ n) : find ps n = (find (ps.drop j) n).map (· + j) := by
  induction j generalizing ps with
  | zero => simp
  | succ j ih =>
    cases ps with
    | nil => rfl
    | cons p r =>
      have h0 := h 0 p (by omega) rfl
      have h1 := ih r (fun k q hk hq => h (k + 1) q (by omega) (by simpa using hq))
      show (if p.1 = n then some 0 else (find r n).map (· + 1)) = _
      rw [if_neg h0, h1, Option.map_map]
      show _ = Option.map (· + (j + 1)) (find (List.drop j r) n)
      congr 1
end Ac
set_option maxRecDepth 100000 in
set_option maxHeartbeats 1000000 in
theorem closure_any (x y n : Int) (c : Nat) (w : World) (hc : w.cell? ⟨c, 0, none⟩ = some (.int .i64 n)) :
    Calls Tryd.prog 40 #[.agg #[.int .i64 x, .int .i64 y], .pointer (some ⟨c, 0, none⟩)] w fun e w' => e = .returned (.bool (x == n)) ∧ Below w.heap.size w w' := by
  have hlt := World.block_lt_of_cell? w _ hc
  have hc' : (w.alloc (.cells #[.int .i64 x, .int .i64 y] 27)).cell? ⟨c, 0, none⟩ = some (.int .i64 n) := (((Below.refl w.heap.size w).alloc (Nat.le_refl _) _).cell hlt).trans hc
  go_enter Tryd.func40, Tryd.ntmps40
  go_wp2
  go_ret
  exact ⟨rfl, (Below.refl _ _).alloc (Nat.le_refl _) _⟩
set_option maxRecDepth 100000 in
set_option maxHeartbeats 1000000 in
theorem indexFunc_any (v : Value) (ps : List (Int × Int)) (x : Int) (c : Nat) (w : World) (hH : HasP w v ps) (hn : ps.length ≤ 1000000) (hc : w.cell? ⟨c, 0, none⟩ = some (.int .i64 x)) :
    Calls Tryd.prog 39 #[v, .func (.func 40) #[] #[.pointer (some ⟨c, 0, none⟩)]] w fun e w' => e = .returned (.int .i64 (Ac.findI ps x)) ∧ Below w.heap.size w w' := by
  obtain ⟨ao, cap, rfl, hcells⟩ := hH
  obtain ⟨n, hN⟩ : ∃ n, n = ps.length := ⟨_, rfl⟩
  have HH : Hid ((∀ (i : Nat) (p : Int × Int), ps[i]? = some p → ∃ a, ao = some a ∧ w.cell? (a.add (i * 2)) = some (.int .i64 p.1) ∧ w.cell? (a.add (i * 2 + 1)) = some (.int .i64 p.2)) ∧ n = ps.length ∧ w.cell? ⟨c, 0, none⟩ = some (.int .i64 x)) := ⟨hcells, hN, hc⟩
  rw [← hN] at hn ⊢
  clear hcells hN hc
  go_enter Tryd.func39, Tryd.ntmps39
  go_wp2_with fail
  go_loopg [8] n (fun g i wr => ∃ (j : Nat), g = n - j ∧ j ≤ n ∧ i = .int .i64 j ∧ (∀ (k : Nat) (p : Int × Int), k < j → ps[k]? = some p → p.1 ≠ x) ∧ Below w.heap.size w wr)
  case atStart => exact ⟨0, rfl, Nat.zero_le _, rfl, fun k p h => by omega, Below.refl _ _⟩
  case round =>
    obtain ⟨j, rfl, hj, rfl, hR, hb⟩ := hrel
    have HB : Hid (Below w.heap.size w wr ∧ (∀ (k : Nat) (p : Int × Int), k < j → ps[k]? = some p → p.1 ≠ x)) := ⟨hb, hR⟩
    clear hb hR
    by_cases hlt : j < n
    · obtain ⟨p, hp⟩ : ∃ p, ps[j]? = some p := ⟨ps[j]'(by have := HH.out.2.1; omega), List.getElem?_eq_getElem _⟩
      obtain ⟨a, rfl, c0, c1⟩ := HH.out.1 j p hp
      have d0 := (HB.out.1.cell (World.block_lt_of_cell? w _ c0)).trans c0
      have d1 := (HB.out.1.cell (World.block_lt_of_cell? w _ c1)).trans c1
      have hcr := (HB.out.1.cell (World.block_lt_of_cell? w _ HH.out.2.2)).trans HH.out.2.2
      have q0 : (0 : Int) ≤ (j : Int) := by omega
      have q1 : (j : Int) < (n : Int) := by omega
      obtain ⟨y, z⟩ := p
      have HP : Hid (ps[j]? = some (y, z)) := hp
      clear c0 c1 hp
      have d2 : wr.cell? ((a.add (j * 2)).add 1) = some (.int .i64 z) := by rw [add_two]; exact d1
      have d3 : wr.cell? ⟨(a.add (j * 2)).block, (a.add (j * 2)).off + 1, none⟩ = some (.int .i64 z) := by rw [← d2]; rfl
      have hC := closure_any y z x c wr hcr
      by_cases hyx : y = x
      · have HF : Hid (Ac.findI ps x = (j : Int)) := (by
          unfold Ac.findI
          rw [Ac.find_step ps x j HB.out.2, drop_at HP.out]
          show (match Option.map (· + j) (if y = x then some 0 else _) with | none => (-1 : Int) | some i => (i : Int)) = _
          rw [if_pos hyx]
          simp : Ac.findI ps x = (j : Int))
        have e1 : (y == x) = true := by simpa using hyx
        rw [e1] at hC
        clear hyx
        go_wp2_with fail
        refine hC.mono ?_
        rintro r w2 ⟨rfl, hb2⟩
        have HB2 : Hid (Below w.heap.size w w2) := HB.out.1.trans (hb2.mono HB.out.1.size)
        clear hb2 hC
        go_wp2_with fail
        go_ret
        exact ⟨by rw [HF.out]; rfl, HB2.out⟩
      · have e1 : (y == x) = false := by simpa using hyx
        rw [e1] at hC
        have HY : Hid (y ≠ x) := hyx
        clear hyx
        go_wp2_with fail
        refine hC.mono ?_
        rintro r w2 ⟨rfl, hb2⟩
        have HB2 : Hid (Below w.heap.size w w2) := HB.out.1.trans (hb2.mono HB.out.1.size)
        clear hb2 hC
        go_wp2_with fail
        go_roundg (n - (j + 1))
        case measure => omega
        case rel => exact ⟨j + 1, rfl, by omega, by go_num, fun k p hk hp => by
          rcases Nat.lt_or_ge k j with h | h
          · exact HB.out.2 k p h hp
          · obtain rfl : k = j := by omega
            rw [HP.out] at hp
            cases hp
            exact HY.out, HB2.out⟩
    · have q1 : ¬ (j : Int) < (n : Int) := by omega
      have HF : Hid (Ac.findI ps x = -1) := (by
        unfold Ac.findI
        rw [Ac.find_step ps x j HB.out.2, List.drop_eq_nil_of_le (by have := HH.out.2.1; omega)]
        rfl : Ac.findI ps x = -1)
      go_wp2_with fail
      go_ret
      exact ⟨by rw [HF.out]; rfl, HB.out.1⟩
set_option maxRecDepth 100000 in
set_option maxHeartbeats 1000000 in
theorem rename_any (v : Value) (ps : List (Int × Int)) (l : Int) (w : World) (hH : HasP w v ps) (hn : ps.length ≤ 1000000) :
    Calls Tryd.prog 17 #[v, .int .i64 l] w fun e w' => e = .returned (.int .i64 (Ac.rename ps l)) ∧ Below w.heap.size w w' := by
  have hC := nameOf_any l w
  cases hnm : Ac.named l with
  | false =>
    have HF : Hid (Ac.rename ps l = l) := (by unfold Ac.rename; rw [hnm]; rfl : Ac.rename ps l = l)
    rw [hnm] at hC
    obtain ⟨ao, cap, rfl, _⟩ := hH
    clear hnm
    go_enter Tryd.func17, Tryd.ntmps17
    go_wp2_with (go_at_call 32; refine hC.mono ?_; rintro r w' ⟨rfl, hw⟩; obtain rfl := hw.symm)
    go_ret
    exact ⟨by rw [HF.out]; rfl, (Below.refl _ _).alloc (Nat.le_refl _) _⟩
  | true =>
    rw [hnm] at hC
    obtain ⟨nn, hnn⟩ : ∃ nn, nn = Ac.nameN l := ⟨_, rfl⟩
    obtain ⟨cc, hcc⟩ : ∃ cc, cc = Ac.nameC l := ⟨_, rfl⟩
    rw [← hnn, ← hcc] at hC
    obtain ⟨w1, hw1⟩ : ∃ w1, w1 = w.alloc (.cells #[.int .i64 nn] 3) := ⟨_, rfl⟩
    have hb1 : Below w.heap.size w w1 := by rw [hw1]; exact (Below.refl _ _).alloc (Nat.le_refl _) _
    have hc1 : w1.cell? ⟨w.heap.size, 0, none⟩ = some (.int .i64 nn) := by rw [hw1]; exact cellOf (MapKept.heap_alloc w _).1 0
    have hH1 := hH.below hb1
    have hI := indexFunc_any v ps nn w.heap.size w1 hH1 hn hc1
    obtain ⟨ao, cap, rfl, hcells⟩ := hH1
    have HR : Hid (Ac.rename ps l = match Ac.find ps nn with
      | none => l
      | some i => match ps[i]? with
        | none => l
        | some p => if Ac.isN p.2 then Ac.label p.2 cc else l) := (by unfold Ac.rename; rw [hnm, hnn, hcc]; rfl)
    have HW : Hid (Below w.heap.size w w1 ∧ (∀ (i : Nat) (p : Int × Int), ps[i]? = some p → ∃ a, ao = some a ∧ w1.cell? (a.add (i * 2)) = some (.int .i64 p.1) ∧ w1.cell? (a.add (i * 2 + 1)) = some (.int .i64 p.2))) := ⟨hb1, hcells⟩
    clear hnm hnn hcc hb1 hcells hH hc1
    cases hf : Ac.find ps nn with
    | none =>
      have hI' : Ac.findI ps nn = -1 := by unfold Ac.findI; rw [hf]
      rw [hI'] at hI
      have HF : Hid (Ac.rename ps l = l) := (by rw [HR.out, hf] : Ac.rename ps l = l)
      clear hI' hf HR
      rw [hw1] at hI
      go_enter Tryd.func17, Tryd.ntmps17
      go_wp2_with (go_at_call 32; refine hC.mono ?_; rintro r w' ⟨rfl, hw⟩; obtain rfl := hw.symm)
      refine hI.mono ?_
      rw [← hw1]
      rintro r w2 ⟨rfl, hb2⟩
      have HB2 : Hid (Below w.heap.size w w2) := HW.out.1.trans (hb2.mono HW.out.1.size)
      clear hb2 hI
      go_wp2_with fail
      go_ret
      exact ⟨by rw [HF.out]; rfl, HB2.out⟩
    | some i =>
      have hI' : Ac.findI ps nn = (i : Int) := by unfold Ac.findI; rw [hf]
      rw [hI'] at hI
      obtain ⟨p, hp, _⟩ := Ac.find_some ps nn i hf
      have hlt := (List.getElem?_eq_some_iff.1 hp).1
      obtain ⟨a, rfl, _, c1⟩ := HW.out.2 i p hp
      have HF : Hid (Ac.rename ps l = if Ac.isN p.2 then Ac.label p.2 cc else l) := (by rw [HR.out, hf]; simp only [hp] : Ac.rename ps l = if Ac.isN p.2 then Ac.label p.2 cc else l)
      obtain ⟨m, hm⟩ : ∃ m, m = ps.length := ⟨_, rfl⟩
      rw [← hm] at hI hn hlt ⊢
      have q0 : (0 : Int) ≤ (i : Int) := by omega
      have q1 : (i : Int) < (m : Int) := by omega
      have q2 : ¬ (i : Int) < 0 := by omega
      obtain ⟨x, y⟩ := p
      clear hI' hf HR hp hm
      rw [hw1] at hI
      cases hy : Ac.isN y with
      | false =>
        have HF2 : Hid (Ac.rename ps l = l) := (by rw [HF.out]; simp [hy] : Ac.rename ps l = l)
        clear HF
        go_enter Tryd.func17, Tryd.ntmps17
        go_wp2_with (go_at_call 32; refine hC.mono ?_; rintro r w' ⟨rfl, hw⟩; obtain rfl := hw.symm)
        refine hI.mono ?_
        rw [← hw1]
        rintro r w2 ⟨rfl, hb2⟩
        have HB2 : Hid (Below w.heap.size w w2) := HW.out.1.trans (hb2.mono HW.out.1.size)
        have d1 : w2.cell? (a.add (i * 2 + 1)) = some (.int .i64 y) := (hb2.cell (World.block_lt_of_cell? w1 _ c1)).trans c1
        have d2 : w2.cell? ((a.add (i * 2)).add 1) = some (.int .i64 y) := by rw [add_two]; exact d1
        have d3 : w2.cell? ⟨(a.add (i * 2)).block, (a.add (i * 2)).off + 1, none⟩ = some (.int .i64 y) := by rw [← d2]; rfl
        clear hb2 hI hw1 c1
        go_wp2_with (go_at_call 36; refine (actName_any _ _).mono ?_; rw [hy]; rintro r w' ⟨rfl, hw⟩; obtain rfl := hw.symm)
        go_ret
        exact ⟨by rw [HF2.out]; rfl, HB2.out⟩
      | true =>
        have HF2 : Hid (Ac.rename ps l = Ac.label y cc) := (by rw [HF.out]; simp [hy] : Ac.rename ps l = Ac.label y cc)
        clear HF
        go_enter Tryd.func17, Tryd.ntmps17
        go_wp2_with (go_at_call 32; refine hC.mono ?_; rintro r w' ⟨rfl, hw⟩; obtain rfl := hw.symm)
        refine hI.mono ?_
        rw [← hw1]
        rintro r w2 ⟨rfl, hb2⟩
        have HB2 : Hid (Below w.heap.size w w2) := HW.out.1.trans (hb2.mono HW.out.1.size)
        have d1 : w2.cell? (a.add (i * 2 + 1)) = some (.int .i64 y) := (hb2.cell (World.block_lt_of_cell? w1 _ c1)).trans c1
        have d2 : w2.cell? ((a.add (i * 2)).add 1) = some (.int .i64 y) := by rw [add_two]; exact d1
        have d3 : w2.cell? ⟨(a.add (i * 2)).block, (a.add (i * 2)).off + 1, none⟩ = some (.int .i64 y) := by rw [← d2]; rfl
        clear hb2 hI hw1 c1
        go_wp2_with (first | (go_at_call 36; refine (actName_any _ _).mono ?_; rw [hy]; rintro r w' ⟨rfl, hw⟩; obtain rfl := hw.symm) | (go_at_call 33; refine (label_any _ _ _).mono ?_; rintro r w' ⟨rfl, hw⟩; obtain rfl := hw.symm))
        go_ret
        exact ⟨by rw [HF2.out]; rfl, HB2.out⟩
end Go.Proofs.YtebeimjgppidcacDoor
