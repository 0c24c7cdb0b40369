/- Texts of this claim, joined: SoIns, SoSmall, SyClone, SoOrd, SoCpt, SyNrm, SyTab. -/
import Derived.Test.YthcpliinddjkhaaGreatDoorPart7
import Derived.Test.YthcpliinddjkhaaGreatDoorPart4
import Derived.Test.YthcpliinddjkhaaGreatDoorPart1
import Derived.Test.YthcpliinddjkhaaGreatDoorPart6
import Derived.Lib.SliceRun
import Derived.Lib.Walk
import Derived.Laws.IdiomCopy
import Derived.BigQuiet
import Derived.Deep.DeepCutAuto
namespace Go.Proofs.YthcpliinddjkhaaGreatDoor
section
open Go.RowKit Go.Maps
attribute [local go_sem ↓] Go.wp_at_zero Go.wp_at_succ
set_option maxRecDepth 100000 in
set_option maxHeartbeats 8000000 in
theorem insSort_any (f : Nat) (vw : Sy.Ed → Sy.Ed) (hV : ViewAt f vw) (g cap a b : Nat) (d : Array Sy.Ed) (rest : List Value) (w0 w : World) (hR : RowE w0 w g d rest) (hab : a ≤ b) (hb : b ≤ d.size) (hsz : d.size ≤ 1000000) :
    Calls Tryz.prog 222 #[.slice (some ⟨g, 0, none⟩) d.size cap, .int .i64 a, .int .i64 b, cmpV f] w fun r w' => r = .returned (.tuple #[]) ∧ RowE w0 w' g (Sort.insertionSort (ltV vw) d a b) rest := by
  obtain ⟨n, hn⟩ : ∃ n, n = d.size := ⟨_, rfl⟩
  have HR : Hid _ := And.intro hR (And.intro hn hV)
  rw [← hn] at hb hsz ⊢
  unfold cmpV Sort.insertionSort
  clear hR hn hV
  have he := enter_cmp
  go_enter Tryz.func222, Tryz.ntmps222
  go_wp2_with fail
  go_loopg [8] (b - a) (fun q iv wr => ∃ (i : Nat) (dk : Array Sy.Ed), iv = .int .i64 i ∧ a < i ∧ b + 1 - i ≤ q + 1 ∧ dk.size = n ∧ RowE w0 wr g dk rest ∧ Hid (Sort.insOuter (ltV vw) a b i dk = Sort.insOuter (ltV vw) a b (a + 1) d))
  case atStart => exact ⟨a + 1, d, by go_num, by omega, by omega, HR.out.2.1.symm, HR.out.1, rfl⟩
  case round =>
    obtain ⟨i, dk, rfl, hai, hq, hsk, hRk, HO⟩ := hrel
    by_cases hlt : i < b
    · have hltz : (i : Int) < (b : Int) := by omega
      have HK : Hid _ := And.intro hRk hsk
      clear hRk hsk
      obtain ⟨wq, rfl⟩ : ∃ wq, wq = wr := ⟨_, rfl⟩
      go_wp2_with fail
      go_loopg [9] i (fun p jv wr => ∃ (j : Nat) (dj : Array Sy.Ed), jv = .int .i64 j ∧ j ≤ i ∧ j ≤ p ∧ dj.size = n ∧ RowE w0 wr g dj rest ∧ Hid (Sort.insInner (ltV vw) a j dj = Sort.insInner (ltV vw) a i dk))
      case atStart => exact ⟨i, dk, rfl, Nat.le_refl _, Nat.le_refl _, HK.out.2, HK.out.1, rfl⟩
      case round =>
        obtain ⟨j, dj, rfl, hji, hp, hsj, hRj, HI⟩ := hrel
        by_cases hja : a < j
        · obtain ⟨jp, rfl⟩ : ∃ jp, j = jp + 1 := ⟨j - 1, by omega⟩
          obtain ⟨x0, x1, x2⟩ := hRj.cells (j := jp + 1) (by omega)
          obtain ⟨y0, y1, y2⟩ := hRj.cells (j := jp) (by omega)
          have hcm := fun W => compare_any f vw HR.out.2.2 (dj[jp + 1]!) (dj[jp]!) W
          unfold edV at hcm
          have hlt2 := cmpV_neg vw (dj[jp + 1]!) (dj[jp]!)
          have HJ : Hid _ := And.intro hRj hsj
          obtain ⟨xe, hxe⟩ : ∃ xe, xe = dj[jp + 1]! := ⟨_, rfl⟩
          obtain ⟨ye, hye⟩ : ∃ ye, ye = dj[jp]! := ⟨_, rfl⟩
          rw [← hxe] at x0 x1 x2 hcm hlt2
          rw [← hye] at y0 y1 y2 hcm hlt2
          have HE : Hid _ := And.intro hxe hye
          clear hRj hsj hxe hye
          obtain ⟨xa, xb, xc⟩ := xe
          obtain ⟨ya, yb, yc⟩ := ye
          generalize cmpE (vw (xa, xb, xc)) (vw (ya, yb, yc)) = c at hcm hlt2
          have HC : Hid _ := hcm
          have HL : Hid _ := hlt2
          clear hcm hlt2
          simp only at x0 x1 x2 y0 y1 y2
          have p0 : (0 : Int) ≤ (jp : Int) + 1 := by omega
          have p1 : (jp : Int) + 1 < (n : Int) := by have := HJ.out.2; omega
          have p2 : (0 : Int) ≤ (jp : Int) := by omega
          have p3 : (jp : Int) < (n : Int) := by omega
          have p4 : decide ((a : Int) < (jp : Int) + 1) = true := decide_eq_true (by omega)
          have p5 : ((jp : Int) + 1).toNat = jp + 1 := by omega
          have p7 : IntKind.i64.wrap (jp : Int) = (jp : Int) := by rw [IntKind.wrap_i64]; omega
          have p8 : IntKind.i64.wrap ((jp : Int) + 1 - 1) = (jp : Int) := by rw [IntKind.wrap_i64]; omega
          by_cases hc : c < 0
          · have p6 : decide (c < 0) = true := decide_eq_true hc
            go_upto_region 4 with fail
            go_region_held3 (fun w' => ((w'.cell? ⟨g, (jp + 1) * 3, none⟩ = some (.int .i64 xa) ∧ w'.cell? ⟨g, (jp + 1) * 3 + 1, none⟩ = some (.int .i64 xb) ∧ w'.cell? ⟨g, (jp + 1) * 3 + 2, none⟩ = some (.int .i64 xc)) ∧ (w'.cell? ⟨g, jp * 3, none⟩ = some (.int .i64 ya) ∧ w'.cell? ⟨g, jp * 3 + 1, none⟩ = some (.int .i64 yb) ∧ w'.cell? ⟨g, jp * 3 + 2, none⟩ = some (.int .i64 yc))) ∧ Hid (Below wr.heap.size wr w')) (first | exact rg_up6 hb3 (by assumption) | exact ⟨⟨⟨x0, x1, x2⟩, ⟨y0, y1, y2⟩⟩, ((Below.refl _ _).drew : Below wr.heap.size wr wr.drew)⟩ | go_keep)
              ((first
                | (go_at_fn 195; refine (HC.out _).mono ?_; rintro r w3 ⟨rfl, hb3⟩)
                | fail))
            have hR3 : RowE w0 w3 g dj rest := HJ.out.1.below (rg_b (by assumption))
            have HJ3 : Hid _ := And.intro hR3 HJ.out.2
            have f0 := hR3.free ((jp + 1) * 3)
            have f1 := hR3.free ((jp + 1) * 3 + 1)
            have f2 := hR3.free ((jp + 1) * 3 + 2)
            have f3 := hR3.free (jp * 3)
            have f4 := hR3.free (jp * 3 + 1)
            have f5 := hR3.free (jp * 3 + 2)
            obtain ⟨z0, z1, z2⟩ := hR3.at (z := (xa, xb, xc)) (by rw [HE.out.1]; exact getb (by have := HJ.out.2; omega))
            obtain ⟨z3, z4, z5⟩ := hR3.at (z := (ya, yb, yc)) (by rw [HE.out.2]; exact getb (by have := HJ.out.2; omega))
            simp only at z0 z1 z2 z3 z4 z5
            clear x0 x1 x2 y0 y1 y2 hb3 hR3 HC HJ
            rename_i hS3
            clear hS3
            go_wp2_with fail
            go_region
            all_goals go_wp2_with fail
            go_roundg jp
            case measure => omega
            case rel =>
              refine ⟨jp, Sort.swp dj (jp + 1) jp, by go_num, by omega, Nat.le_refl _, by rw [Sort.size_swp]; exact HJ3.out.2, HJ3.out.1.swapped (i := jp + 1) (j := jp) (x := (xa, xb, xc)) (y := (ya, yb, yc)) (by have := HJ3.out.2; omega) (by have := HJ3.out.2; omega) HE.out.1 HE.out.2, (show Hid _ from ?_)⟩
              show _ = _
              rw [← HI.out, ins_go _ _ _ _ hja (by rw [← HE.out.1, ← HE.out.2]; exact HL.out.1 hc)]
          · have p6 : decide (c < 0) = false := decide_eq_false hc
            go_upto_region 4 with fail
            go_region_held3 (fun w' => ((w'.cell? ⟨g, (jp + 1) * 3, none⟩ = some (.int .i64 xa) ∧ w'.cell? ⟨g, (jp + 1) * 3 + 1, none⟩ = some (.int .i64 xb) ∧ w'.cell? ⟨g, (jp + 1) * 3 + 2, none⟩ = some (.int .i64 xc)) ∧ (w'.cell? ⟨g, jp * 3, none⟩ = some (.int .i64 ya) ∧ w'.cell? ⟨g, jp * 3 + 1, none⟩ = some (.int .i64 yb) ∧ w'.cell? ⟨g, jp * 3 + 2, none⟩ = some (.int .i64 yc))) ∧ Hid (Below wr.heap.size wr w')) (first | exact rg_up6 hb3 (by assumption) | exact ⟨⟨⟨x0, x1, x2⟩, ⟨y0, y1, y2⟩⟩, ((Below.refl _ _).drew : Below wr.heap.size wr wr.drew)⟩ | go_keep)
              ((first
                | (go_at_fn 195; refine (HC.out _).mono ?_; rintro r w3 ⟨rfl, hb3⟩)
                | fail))
            have hR3 : RowE w0 w3 g dj rest := HJ.out.1.below (rg_b (by assumption))
            have HJ3 : Hid _ := And.intro hR3 HJ.out.2
            clear x0 x1 x2 y0 y1 y2 hb3 hR3 HC HJ
            rename_i hS3
            clear hS3
            go_wp2_with fail
            go_roundg (b - (i + 1))
            case measure => omega
            case rel =>
              refine ⟨i + 1, dj, by go_num, by omega, by omega, HJ3.out.2, HJ3.out.1, (show Hid _ from ?_)⟩
              show _ = _
              have hl : ltV vw dj[jp + 1]! dj[jp]! = false := by
                rw [← HE.out.1, ← HE.out.2]
                cases h : ltV vw (xa, xb, xc) (ya, yb, yc) with
                | false => rfl
                | true => exact absurd (HL.out.2 h) (by omega)
              rw [← HO.out, ins_next _ _ _ _ _ hlt, ← HI.out, ins_stop _ _ _ _ hl]
        · have p4 : decide ((a : Int) < (j : Int)) = false := decide_eq_false (by omega)
          have p5 : ¬ (a : Int) < (j : Int) := by omega
          have HJ3 : Hid _ := And.intro hRj hsj
          clear hRj hsj
          go_wp2_with fail
          go_region
          all_goals go_wp2_with fail
          go_roundg (b - (i + 1))
          case measure => omega
          case rel =>
            refine ⟨i + 1, dj, by go_num, by omega, by omega, HJ3.out.2, HJ3.out.1.below (Below.refl _ _).drew, (show Hid _ from ?_)⟩
            show _ = _
            rw [← HO.out, ins_next _ _ _ _ _ hlt, ← HI.out, ins_at _ _ _ _ hja]
    · have hltz : ¬ (i : Int) < (b : Int) := by omega
      go_wp2
      go_end0
      exact ⟨rfl, by rw [← HO.out, ins_end _ _ _ _ _ hlt]; exact hRk⟩
end
section
open Go.RowKit Go.Maps
attribute [local go_sem ↓] Go.wp_at_zero Go.wp_at_succ
def SortOk (m : Nat) : Prop := ∀ (f : Nat) (vw : Sy.Ed → Sy.Ed), ViewAt f vw → ∀ (g cap : Nat) (d : Array Sy.Ed) (rest : List Value) (w0 w : World), RowE w0 w g d rest → d.size ≤ m →
  Calls Tryz.prog 194 #[.slice (some ⟨g, 0, none⟩) d.size cap, cmpV f] w fun r w' => r = .returned (.tuple #[]) ∧ ∃ d', Sort.PermIn 0 d.size d d' ∧ Sort.SortedIn (ltV vw) 0 d.size d' ∧ RowE w0 w' g d' rest
end
section
open Go.RowKit Go.Maps
theorem Tryz.infoClEdges : (Tryz.prog.info? 70).map (fun i => (i.zero, i.size, i.bytes)) = some (some (.agg #[.int .i64 0, .int .i64 0, .int .i64 0]), 3, 24) := by kernel_rfl
theorem Tryz.eqClEdges (w : World) (a : Option Addr) (n c n' c' : Nat) : (binOp .eql 22 (.slice a n c) (.slice none n' c')).run Tryz.prog w = .ok (.bool a.isNone) w := Lib.run_eql_slice_nil w _ _ a n c n' c' Tryz.underlying22
set_option maxRecDepth 100000 in
set_option maxHeartbeats 1000000 in
theorem cloneEdges_any (v : Value) (es : List BEdges.El) (w : World) (hn : es.length ≤ 1000000) (hv : BEdges.Has w v es) :
    Calls Tryz.prog 193 #[v] w fun r w' => ∃ u, r = .returned u ∧ BEdges.Own w' w.heap.size u es ∧ Below w.heap.size w w' := by
  obtain ⟨i0, hi0, hz0, hz1, hz2⟩ := info_parts Tryz.infoClEdges
  obtain ⟨ao, cap, rfl, _⟩ := _root_.id hv
  have hq := Tryz.eqClEdges
  have hl := BEdges.C_len es
  cases ao with
  | none =>
    have h0 : es = [] := by
      have h1 := (BEdges.copy_of hv).1 rfl
      exact List.eq_nil_of_length_eq_zero h1
    subst h0
    clear hv
    go_enter Tryz.func193, Tryz.ntmps193
    go_wp2
    go_ret
    exact ⟨_, rfl, World.ownsRow_nil _ _ _ _, Below.refl _ _⟩
  | some a =>
    have hcs := (BEdges.copy_of hv).2 a rfl
    obtain ⟨n, hN⟩ : ∃ n, n = es.length := ⟨_, rfl⟩
    have A : Aside (∀ j u, (BEdges.C es)[j]? = some u → w.cell? (a.add j) = some u) := hcs
    have HN : Hid _ := hN
    rw [← hN] at hn hl ⊢
    clear hv hcs hN
    go_enter Tryz.func193, Tryz.ntmps193
    go_wp2_with (at_builtin; refine wpList_append_own _ rfl _ _ 22 rfl w.heap.size 70 i0 (.agg #[.int .i64 0, .int .i64 0, .int .i64 0]) 3 24 Tryz.underlying22 hi0 hz0 hz1 hz2 rfl (by decide) _ _ _ rfl (World.ownsRow_made w #[] 0 (Nat.le_refl _) (Nat.zero_le _) (by simp)) a n cap (BEdges.C es) rfl ?qc1 ?qc2 ?qc3 ?qc4 ?qc5 ?qc6 ?_)
    case qc1 => exact hl
    case qc2 =>
      intro j u hj
      have h1 := A.out j u hj
      exact (((Below.refl _ w).alloc (Nat.le_refl _) _).cell (World.block_lt_of_cell? w _ h1)).trans h1
    case qc3 => exact BEdges.C_one es
    case qc4 => unfold maxLen; omega
    case qc5 => omega
    case qc6 => simp
    intro v' w1 hown hgrow hnil
    go_wp2
    go_ret
    refine ⟨v', rfl, ?_, ?_⟩
    · have h1 := hown
      rw [HN.out] at h1
      exact h1
    · exact ((Below.refl _ w).alloc (Nat.le_refl _) _).grown hgrow (by simp) (by intro k hk; simp [Value.ownBlock] at hk; omega)
theorem Tryz.infoClSteps : (Tryz.prog.info? 77).map (fun i => (i.zero, i.size, i.bytes)) = some (some (.agg #[.int .i64 0, .int .i64 0]), 2, 16) := by kernel_rfl
theorem Tryz.eqClSteps (w : World) (a : Option Addr) (n c n' c' : Nat) : (binOp .eql 75 (.slice a n c) (.slice none n' c')).run Tryz.prog w = .ok (.bool a.isNone) w := Lib.run_eql_slice_nil w _ _ a n c n' c' Tryz.underlying75
set_option maxRecDepth 100000 in
set_option maxHeartbeats 1000000 in
theorem cloneSteps_any (v : Value) (es : List BSteps.El) (w : World) (hn : es.length ≤ 1000000) (hv : BSteps.Has w v es) :
    Calls Tryz.prog 200 #[v] w fun r w' => ∃ u, r = .returned u ∧ BSteps.Own w' w.heap.size u es ∧ Below w.heap.size w w' := by
  obtain ⟨i0, hi0, hz0, hz1, hz2⟩ := info_parts Tryz.infoClSteps
  obtain ⟨ao, cap, rfl, _⟩ := _root_.id hv
  have hq := Tryz.eqClSteps
  have hl := BSteps.C_len es
  cases ao with
  | none =>
    have h0 : es = [] := by
      have h1 := (BSteps.copy_of hv).1 rfl
      exact List.eq_nil_of_length_eq_zero h1
    subst h0
    clear hv
    go_enter Tryz.func200, Tryz.ntmps200
    go_wp2
    go_ret
    exact ⟨_, rfl, World.ownsRow_nil _ _ _ _, Below.refl _ _⟩
  | some a =>
    have hcs := (BSteps.copy_of hv).2 a rfl
    obtain ⟨n, hN⟩ : ∃ n, n = es.length := ⟨_, rfl⟩
    have A : Aside (∀ j u, (BSteps.C es)[j]? = some u → w.cell? (a.add j) = some u) := hcs
    have HN : Hid _ := hN
    rw [← hN] at hn hl ⊢
    clear hv hcs hN
    go_enter Tryz.func200, Tryz.ntmps200
    go_wp2_with (at_builtin; refine wpList_append_own _ rfl _ _ 75 rfl w.heap.size 77 i0 (.agg #[.int .i64 0, .int .i64 0]) 2 16 Tryz.underlying75 hi0 hz0 hz1 hz2 rfl (by decide) _ _ _ rfl (World.ownsRow_made w #[] 0 (Nat.le_refl _) (Nat.zero_le _) (by simp)) a n cap (BSteps.C es) rfl ?qc1 ?qc2 ?qc3 ?qc4 ?qc5 ?qc6 ?_)
    case qc1 => exact hl
    case qc2 =>
      intro j u hj
      have h1 := A.out j u hj
      exact (((Below.refl _ w).alloc (Nat.le_refl _) _).cell (World.block_lt_of_cell? w _ h1)).trans h1
    case qc3 => exact BSteps.C_one es
    case qc4 => unfold maxLen; omega
    case qc5 => omega
    case qc6 => simp
    intro v' w1 hown hgrow hnil
    go_wp2
    go_ret
    refine ⟨v', rfl, ?_, ?_⟩
    · have h1 := hown
      rw [HN.out] at h1
      exact h1
    · exact ((Below.refl _ w).alloc (Nat.le_refl _) _).grown hgrow (by simp) (by intro k hk; simp [Value.ownBlock] at hk; omega)
end
section
open Go.RowKit Go.Maps
attribute [local go_sem ↓] Go.wp_at_zero Go.wp_at_succ
theorem row_of_own {w wr : World} {g n cap : Nat} {es : List Sy.Ed} (h : BEdges.Own wr w.heap.size (.slice (some ⟨g, 0, none⟩) n cap) es) (hb : Below w.heap.size w wr) : ∃ rest, RowE w wr g es.toArray rest ∧ n = es.length ∧ (es.length * 3 + rest.length = cap * 3) ∧ es.length ≤ cap ∧ cap ≤ maxLen := by
  rcases h.2 with ⟨e, _⟩ | ⟨g', cap', cur, e, hg, hc, h1, h2, h3, h4⟩
  · cases e
  injection e with e1 e2 e3
  have e4 := Option.some.inj e1
  injection e4 with e5
  subst e5; subst e3
  refine ⟨cur.toList.drop (es.length * 3), ⟨hb, ⟨cur, hc, ?_⟩, hg⟩, e2, ?_, h1, h2⟩
  · rw [← h4, List.take_append_drop]
  · have h5 : cur.toList.length = cap * 3 := by simpa using h3
    rw [List.length_drop, h5]; omega
theorem own_of_row {w wr : World} {g cap : Nat} {d : Array Sy.Ed} {rest : List Value} (h : RowE w wr g d rest) (hr : d.size * 3 + rest.length = cap * 3) (hc : d.size ≤ cap) (hm : cap ≤ maxLen) : BEdges.Own wr w.heap.size (.slice (some ⟨g, 0, none⟩) d.size cap) d.toList := by
  obtain ⟨hb, ⟨cs, h1, h2⟩, hg⟩ := h
  have hl := BEdges.C_len d.toList
  have hd : d.toList.length = d.size := Array.length_toList
  refine ⟨hl, .inr ⟨g, cap, cs, by rw [hd], hg, h1, by rw [hd]; exact hc, hm, ?_, ?_⟩⟩
  · rw [← Array.length_toList, h2, List.length_append, hl, hd]; exact hr
  · rw [h2, hd, ← hd, ← hl, List.take_left]
set_option maxRecDepth 100000 in
set_option maxHeartbeats 1000000 in
theorem insNone_any (ao : Option Addr) (cap : Nat) (u : Value) (w : World) : Calls Tryz.prog 222 #[.slice ao 0 cap, .int .i64 0, .int .i64 0, u] w fun r w' => r = .returned (.tuple #[]) ∧ w' = w := by
  go_enter Tryz.func222, Tryz.ntmps222
  go_wp2_with fail
  go_loopg [8] 0 (fun _ iv wr => iv = .int .i64 1 ∧ wr = w)
  case atStart => exact ⟨rfl, rfl⟩
  case round =>
    obtain ⟨rfl, rfl⟩ := hrel
    go_wp2
    go_end0
    exact ⟨rfl, rfl⟩
set_option maxRecDepth 100000 in
set_option maxHeartbeats 1000000 in
theorem pdqNone_any (ao : Option Addr) (cap : Nat) (lim : Int) (u : Value) (w : World) : Calls Tryz.prog 205 #[.slice ao 0 cap, .int .i64 0, .int .i64 0, .int .i64 lim, u] w fun r w' => r = .returned (.tuple #[]) ∧ w' = w := by
  have hI := insNone_any ao cap u w
  have HI : Hid _ := hI
  clear hI
  go_enter Tryz.func205, Tryz.ntmps205
  go_wp2_with fail
  go_loopg [1, 2] 0 (fun _ av bv wr => av = .int .i64 0 ∧ bv = .int .i64 0 ∧ wr = w)
  case atStart => exact ⟨rfl, rfl, rfl⟩
  case round =>
    obtain ⟨rfl, rfl, rfl⟩ := hrel
    go_wp2_with (go_at_call 222; refine Calls.mono HI.out ?_; rintro r w1 ⟨rfl, hw1⟩; obtain rfl := hw1.symm)
    exact bodyPost_ret (results_none rfl _ _ _) rfl ⟨rfl, rfl⟩
set_option maxRecDepth 100000 in
set_option maxHeartbeats 1000000 in
theorem sortNone_any (ao : Option Addr) (cap : Nat) (u : Value) (w : World) : Calls Tryz.prog 194 #[.slice ao 0 cap, u] w fun r w' => r = .returned (.tuple #[]) ∧ w' = w := by
  have hL := Tryz.bits_Len 0 w (by omega) (by omega)
  have hP := fun lim => pdqNone_any ao cap lim u w
  generalize Lib.bitLen _ = bl at hL
  have HI : Hid _ := And.intro hP hL
  clear hP hL
  go_enter Tryz.func194, Tryz.ntmps194
  go_wp2_with (first
    | (go_at_call 199; refine Calls.mono HI.out.2 ?_; rintro r w1 ⟨rfl, hw1⟩; obtain rfl := hw1.symm)
    | (go_at_call 205; refine Calls.mono (HI.out.1 _) ?_; rintro r w1 ⟨rfl, hw1⟩; obtain rfl := hw1.symm))
  go_end0
  exact ⟨rfl, rfl⟩
def InOrder (vw : Sy.Ed → Sy.Ed) (es os : List Sy.Ed) : Prop := os.Perm es ∧ os.Pairwise fun x y => ltV vw y x = false
theorem inOrder_of {vw : Sy.Ed → Sy.Ed} {es : List Sy.Ed} {d' : Array Sy.Ed} (hp : Sort.PermIn 0 es.toArray.size es.toArray d') (hs : Sort.SortedIn (ltV vw) 0 es.toArray.size d') : InOrder vw es d'.toList ∧ d'.size = es.length := by
  have hsz : d'.size = es.length := by simpa using hp.1
  refine ⟨⟨?_, ?_⟩, hsz⟩
  · have h := hp.2.2
    simp only [List.size_toArray] at h
    have e1 : (d'.extract 0 es.length).toList = d'.toList := by
      rw [← hsz]; simp
    have e2 : (es.toArray.extract 0 es.length).toList = es := by simp
    rw [e1, e2] at h
    exact h
  · rw [List.pairwise_iff_getElem]
    intro i j hi hj hij
    have hi' : i < d'.size := by simpa using hi
    have hj' : j < d'.size := by simpa using hj
    have h := hs i j (Nat.zero_le _) hij (by simp; omega)
    rw [getElem!_pos d' i hi', getElem!_pos d' j hj'] at h
    simpa using h
set_option maxRecDepth 100000 in
set_option maxHeartbeats 2000000 in
theorem ordered_any {M : Nat} (hS : SortOk M) (f : Nat) (vw : Sy.Ed → Sy.Ed) (hV : ViewAt f vw) (v : Value) (es : List Sy.Ed) (w : World) (hM : es.length ≤ M) (hn : es.length ≤ 1000000) (hv : BEdges.Has w v es) :
    Calls Tryz.prog 173 #[v, .func (.func f) #[] #[]] w fun r w' => ∃ u os, r = .returned u ∧ InOrder vw es os ∧ BEdges.Own w' w.heap.size u os ∧ Below w.heap.size w w' := by
  have hC := cloneEdges_any v es w hn hv
  have HC : Hid _ := And.intro hC (And.intro hS hV)
  obtain ⟨av, cv, rfl, _⟩ := hv
  clear hC hS hV
  go_enter Tryz.func173, Tryz.ntmps173
  go_wp2_with (go_at_call 193; refine Calls.mono HC.out.1 ?_; rintro r w1 ⟨u, rfl, hO, hb⟩; obtain ⟨ao, cap, rfl⟩ := row_shape hO)
  by_cases h0 : es = []
  · subst h0
    have hN := sortNone_any ao cap (.func (.func 195) #[.func (.func f) #[] #[]] #[]) w1
    have HO : Hid _ := And.intro hO (And.intro hb hN)
    clear hO hb hN
    simp only [List.length_nil]
    refine Calls.mono HO.out.2.2 ?_
    rintro r w2 ⟨rfl, hw2⟩
    obtain rfl := hw2.symm
    go_wp2_with fail
    go_ret
    exact ⟨_, [], rfl, ⟨.refl _, .nil⟩, HO.out.1, HO.out.2.1⟩
  · have hao : ∃ g, ao = some ⟨g, 0, none⟩ := by
      rcases hO.2 with ⟨_, e⟩ | ⟨g, cap', cur, e, _⟩
      · exact absurd (List.eq_nil_of_length_eq_zero e) h0
      · injection e with e1; exact ⟨g, e1⟩
    obtain ⟨g, rfl⟩ := hao
    obtain ⟨rest, hR, _, h3, h4, h5⟩ := row_of_own hO hb
    have hSo := HC.out.2.1 f vw HC.out.2.2 g cap es.toArray rest w w1 hR (by simpa using hM)
    have HO : Hid _ := And.intro hSo (And.intro h3 (And.intro h4 h5))
    unfold cmpV at HO
    simp only [List.size_toArray] at HO
    clear hO hb hR h3 h4 h5 hSo
    refine Calls.mono HO.out.1 ?_
    rintro r w2 ⟨rfl, d', hp, hs, hR2⟩
    obtain ⟨hI, hd⟩ := inOrder_of (by simpa using hp) (by simpa using hs)
    have H2 : Hid _ := And.intro hR2 (And.intro hI hd)
    clear hR2 hI hd hp hs
    go_wp2_with fail
    go_ret
    have hd := H2.out.2.2
    have how := own_of_row (cap := cap) H2.out.1 (by rw [hd]; exact HO.out.2.1) (by rw [hd]; exact HO.out.2.2.1) HO.out.2.2.2
    rw [hd] at how
    exact ⟨_, d'.toList, rfl, H2.out.2.1, how, H2.out.1.bl⟩
end
section
open Go.RowKit Go.Maps
attribute [local go_sem ↓] Go.wp_at_zero Go.wp_at_succ
def ddup (l : List Sy.Ed) : List Sy.Ed := l.foldl Sy.put []
theorem ddup_snoc (l : List Sy.Ed) (x : Sy.Ed) : ddup (l ++ [x]) = Sy.put (ddup l) x := by simp [ddup, List.foldl_append]
theorem put_last (o : List Sy.Ed) (x : Sy.Ed) : (Sy.put o x).getLast? = some x := by
  unfold Sy.put
  split
  · assumption
  · simp
theorem ddup_take {l : List Sy.Ed} {j : Nat} {x : Sy.Ed} (h : l[j]? = some x) : ddup (l.take (j + 1)) = Sy.put (ddup (l.take j)) x := by rw [take_succ_of h, ddup_snoc]
theorem ddup_last {l : List Sy.Ed} {j : Nat} {y : Sy.Ed} (h : l[j]? = some y) : (ddup (l.take (j + 1))).getLast? = some y := by rw [ddup_take h]; exact put_last _ _
theorem ddup_same {l : List Sy.Ed} {j : Nat} {x : Sy.Ed} (hx : l[j + 1]? = some x) (hy : l[j]? = some x) : ddup (l.take (j + 2)) = ddup (l.take (j + 1)) := by
  rw [ddup_take hx, Sy.put, if_pos (ddup_last hy)]
theorem ddup_more {l : List Sy.Ed} {j : Nat} {x y : Sy.Ed} (hx : l[j + 1]? = some x) (hy : l[j]? = some y) (hne : x ≠ y) : ddup (l.take (j + 2)) = ddup (l.take (j + 1)) ++ [x] := by
  rw [ddup_take hx, Sy.put, if_neg]
  rw [ddup_last hy]
  intro e
  exact hne (Option.some.inj e).symm
theorem ddup_len (l : List Sy.Ed) : (ddup l).length ≤ l.length := by
  suffices h : ∀ (m o : List Sy.Ed), (m.foldl Sy.put o).length ≤ o.length + m.length by simpa [ddup] using h l []
  intro m
  induction m with
  | nil => intro o; simp
  | cons x r ih =>
    intro o
    have h1 := ih (Sy.put o x)
    have h2 : (Sy.put o x).length ≤ o.length + 1 := by unfold Sy.put; split <;> simp
    simp only [List.foldl_cons, List.length_cons]
    omega
theorem ddup_mem (l : List Sy.Ed) (x : Sy.Ed) : x ∈ ddup l ↔ x ∈ l := by
  suffices h : ∀ (m o : List Sy.Ed), x ∈ m.foldl Sy.put o ↔ x ∈ o ∨ x ∈ m by simpa [ddup] using h l []
  intro m
  induction m with
  | nil => intro o; simp
  | cons y r ih =>
    intro o
    rw [List.foldl_cons, ih, Sy.put_mem]
    simp only [List.mem_cons]
    constructor
    · rintro ((h | h) | h) <;> simp [h]
    · rintro (h | h | h) <;> simp [h]
theorem ddup_str (l : List Sy.Ed) (h : l.Pairwise fun x y => Sy.lt y x = false) : Sy.Str (ddup l) := by
  suffices H : ∀ (m o : List Sy.Ed), Sy.Str o → (∀ x ∈ o, ∀ y ∈ m, Sy.lt y x = false) → m.Pairwise (fun x y => Sy.lt y x = false) → Sy.Str (m.foldl Sy.put o) from H l [] trivial (fun x hx => by simp at hx) h
  intro m
  induction m with
  | nil => intro o h1 _ _; exact h1
  | cons y r ih =>
    intro o h1 h2 h3
    obtain ⟨h4, h5⟩ := List.pairwise_cons.1 h3
    refine ih _ (Sy.put_str h1 fun x hx => h2 x hx y List.mem_cons_self) (fun x hx z hz => ?_) h5
    rcases (Sy.put_mem _ _ _).1 hx with hx | rfl
    · exact h2 x hx z (List.mem_cons_of_mem _ hz)
    · exact h4 z hz
theorem ddup_nf {es os : List Sy.Ed} (h : InOrder (fun x => x) es os) : ddup os = Sy.nf es :=
  Sy.nf_of (ddup_str os h.2) fun x => (ddup_mem os x).trans h.1.mem_iff
def setL (vs : List Value) (o : Nat) : List Value → List Value
  | [] => vs
  | u :: r => setL (vs.set o u) (o + 1) r
theorem setL_len (us : List Value) : ∀ (vs : List Value) (o : Nat), (setL vs o us).length = vs.length := by
  induction us with
  | nil => intro vs o; rfl
  | cons u r ih => intro vs o; simp only [setL]; rw [ih, List.length_set]
theorem setL_take (us : List Value) : ∀ (vs : List Value) (o k : Nat), k ≤ o → (setL vs o us).take k = vs.take k := by
  induction us with
  | nil => intro vs o k _; rfl
  | cons u r ih => intro vs o k hk; simp only [setL]; rw [ih _ _ _ (by omega), List.take_set_of_le hk]
theorem Arr.sets {ty : TypeId} {w : World} {gi : Nat} (us : List Value) : ∀ {wr : World} {vs : List Value} (o : Nat), Arr ty w wr gi vs → Arr ty w (wr.setCells gi o us) gi (setL vs o us) := by
  induction us with
  | nil => intro wr vs o h; exact h
  | cons u r ih => intro wr vs o h; exact ih (o + 1) (h.set o u)
theorem clear_row {w wr : World} {g : Nat} {vs : List Value} (h : Arr 70 w wr g vs) (o n c : Nat) (hn : 0 < n) (hl : o + n * 3 ≤ vs.length) :
    ∃ us, ∀ ty, (Builtin.clear_ #[22] ty #[.slice (some ⟨g, o, none⟩) n c]).run Tryz.prog wr = .ok (.tuple #[]) (wr.setCells g o us) := by
  obtain ⟨us, hus⟩ : ∃ us, us = (Builtin.zeroCells (Value.agg #[.int .i64 0, .int .i64 0, .int .i64 0]).cells n).toList := ⟨_, rfl⟩
  have hlen : us.length = n * 3 := by rw [hus]; simp [Builtin.zeroCells, Value.cells]
  have hone : ∀ v ∈ us, v.oneCell' = true := by
    intro v hv
    rw [hus] at hv
    simp [Builtin.zeroCells, Value.cells] at hv
    obtain ⟨a, ha, rfl⟩ := hv
    have h3 : a % 3 < 3 := Nat.mod_lt _ (by decide)
    have h4 : a % 3 = 0 ∨ a % 3 = 1 ∨ a % 3 = 2 := by omega
    rcases h4 with e | e | e <;> simp [e] <;> rfl
  have hst := run_storeCells_cells (P := Tryz.prog) g o us 0 wr (fun j hj => by
    obtain ⟨u, hu⟩ : ∃ u, vs[o + j]? = some u := ⟨vs[o + j]'(by omega), List.getElem?_eq_getElem _⟩
    rw [Nat.add_zero, h.cell hu]; rfl) (fun j hj => h.free _) hone
  simp only [Nat.add_zero] at hst
  obtain ⟨m, rfl⟩ : ∃ m, n = m + 1 := ⟨n - 1, by omega⟩
  refine ⟨us, fun ty => ?_⟩
  simp [Builtin.clear_, run_underlying Tryz.underlying22, ← hus, hst]
theorem ed_ne {x y : Sy.Ed} (h : x ≠ y) : (x.1 == y.1) = false ∨ (x.1 == y.1) = true ∧ ((x.2.1 == y.2.1) = false ∨ (x.2.1 == y.2.1) = true ∧ (x.2.2 == y.2.2) = false) := by
  obtain ⟨a, b, c⟩ := x
  obtain ⟨d, e, f⟩ := y
  simp only [beq_eq_false_iff_ne, beq_iff_eq]
  by_cases h1 : a = d
  · by_cases h2 : b = e
    · right; refine ⟨h1, .inr ⟨h2, fun h3 => h ?_⟩⟩; rw [h1, h2, h3]
    · right; exact ⟨h1, .inl h2⟩
  · left; exact h1
structure CpAt (w0 wr : World) (g n K : Nat) (l R : List Sy.Ed) (rest : List Value) (k2 kk : Nat) : Prop where
  row : RowE w0 wr g R.toArray rest
  len : R.length = n
  done : R.take kk = ddup (l.take (K + k2))
  size : kk = (ddup (l.take (K + k2))).length
  low : kk + 1 ≤ K + k2
  tail : ∀ j, K + k2 ≤ j + 1 → R[j]? = l[j]?
theorem CpAt.at {w0 wr : World} {g n K : Nat} {l R : List Sy.Ed} {rest : List Value} {k2 kk : Nat} (h : CpAt w0 wr g n K l R rest k2 kk) {j : Nat} {x : Sy.Ed} (hj : K + k2 ≤ K + j + 1) (hx : l[K + j]? = some x) :
    wr.cell? ⟨g, K * 3 + j * 3, none⟩ = some (.int .i64 x.1) ∧ wr.cell? ⟨g, K * 3 + j * 3 + 1, none⟩ = some (.int .i64 x.2.1) ∧ wr.cell? ⟨g, K * 3 + j * 3 + 2, none⟩ = some (.int .i64 x.2.2) := by
  have h1 := h.row.at (j := K + j) (z := x) (by rw [List.toList_toArray, h.tail _ (by omega)]; exact hx)
  rw [Nat.add_mul] at h1
  exact h1
theorem CpAt.same {w0 wr : World} {g n K : Nat} {l R : List Sy.Ed} {rest : List Value} {k2 kk : Nat} (h : CpAt w0 wr g n K l R rest k2 kk) {k1 : Nat} (hk : k2 = k1 + 1) {x : Sy.Ed} (hx : l[K + k2]? = some x) (hy : l[K + k1]? = some x) {w' : World} (hb : Below wr.heap.size wr w') : CpAt w0 w' g n K l R rest (k2 + 1) kk := by
  subst hk
  have e : ddup (l.take (K + (k1 + 1 + 1))) = ddup (l.take (K + (k1 + 1))) := ddup_same (j := K + k1) hx hy
  exact ⟨h.row.below hb, h.len, by rw [e]; exact h.done, by rw [e]; exact h.size, by have := h.low; omega, fun j hj => h.tail j (by omega)⟩
theorem CpAt.more {w0 wr : World} {g n K : Nat} {l R : List Sy.Ed} {rest : List Value} {k2 kk : Nat} (h : CpAt w0 wr g n K l R rest k2 kk) {k1 : Nat} (hk : k2 = k1 + 1) {x y : Sy.Ed} (hx : l[K + k2]? = some x) (hy : l[K + k1]? = some y) (hne : x ≠ y) (hl : l.length = n) {w' : World} (hb : Below wr.heap.size wr w') : CpAt w0 (st3 w' g kk x) g n K l (R.set kk x) rest (k2 + 1) (kk + 1) := by
  subst hk
  have hin := (List.getElem?_eq_some_iff.1 hx).1
  have hlow := h.low
  have hkl : kk < R.length := by rw [h.len]; omega
  have e : ddup (l.take (K + (k1 + 1 + 1))) = ddup (l.take (K + (k1 + 1))) ++ [x] := ddup_more (j := K + k1) hx hy hne
  refine ⟨?_, by rw [List.length_set]; exact h.len, ?_, ?_, by omega, fun j hj => ?_⟩
  · have h1 := (h.row.below hb).store (k := kk) (by simpa using hkl) x
    simpa using h1
  · rw [e, ← h.done]
    rw [take_succ_of (x := x) (by rw [List.getElem?_set_self hkl]), List.take_set_of_le (Nat.le_refl _)]
  · rw [e, List.length_append, ← h.size]; rfl
  · rw [List.getElem?_set_ne (by omega)]
    exact h.tail j (by omega)
set_option maxRecDepth 100000 in
set_option maxHeartbeats 8000000 in
theorem compact_any (g cap : Nat) (l : List Sy.Ed) (rest : List Value) (w0 w : World) (hR : RowE w0 w g l.toArray rest) (hr : l.length * 3 + rest.length = cap * 3) (hc : l.length ≤ cap) (hn : l.length ≤ 1000000) :
    Calls Tryz.prog 192 #[.slice (some ⟨g, 0, none⟩) l.length cap] w fun r w' => ∃ rest', r = .returned (.slice (some ⟨g, 0, none⟩) (ddup l).length cap) ∧ RowE w0 w' g (ddup l).toArray rest' ∧ (ddup l).length * 3 + rest'.length = cap * 3 := by
  obtain ⟨n, hN⟩ : ∃ n, n = l.length := ⟨_, rfl⟩
  have HR : Hid _ := And.intro hR (And.intro hr hN)
  rw [← hN] at hc hn ⊢
  clear hR hr hN
  by_cases h2 : n < 2
  · have q0 : (n : Int) < 2 := by omega
    go_enter Tryz.func192, Tryz.ntmps192
    go_wp2
    go_ret
    have e : ddup l = l := by
      have := HR.out.2.2
      match l, this with
      | [], _ => rfl
      | [x], _ => rfl
      | x :: y :: r, h => simp at h; omega
    rw [e]
    exact ⟨rest, by rw [HR.out.2.2]; rfl, HR.out.1, HR.out.2.1⟩
  · have q0 : ¬ (n : Int) < 2 := by omega
    go_enter Tryz.func192, Tryz.ntmps192
    go_wp2_with fail
    go_loopg [3] n (fun q kv wr => ∃ k : Nat, q = n + 1 - k ∧ 1 ≤ k ∧ k ≤ n ∧ kv = .int .i64 k ∧ RowE w0 wr g l.toArray rest ∧ ddup (l.take k) = l.take k)
    case atStart =>
      refine ⟨1, by omega, by omega, by omega, rfl, HR.out.1, ?_⟩
      cases l with
      | nil => rfl
      | cons x r => rfl
    case round =>
      obtain ⟨k, rfl, hk1, hkn, rfl, hRk, hdd⟩ := hrel
      obtain ⟨kp, rfl⟩ : ∃ kp, k = kp + 1 := ⟨k - 1, by omega⟩
      by_cases hlt : kp + 1 < n
      · obtain ⟨x, hx⟩ : ∃ x, l[kp + 1]? = some x := ⟨l[kp + 1]'(by have := HR.out.2.2; omega), List.getElem?_eq_getElem _⟩
        obtain ⟨y, hy⟩ : ∃ y, l[kp]? = some y := ⟨l[kp]'(by have := HR.out.2.2; omega), List.getElem?_eq_getElem _⟩
        obtain ⟨x0, x1, x2⟩ := hRk.at (j := kp + 1) (z := x) (by simpa using hx)
        obtain ⟨y0, y1, y2⟩ := hRk.at (j := kp) (z := y) (by simpa using hy)
        have p0 : (0 : Int) ≤ (kp : Int) + 1 := by omega
        have p1 : (kp : Int) + 1 < (n : Int) := by omega
        have p2 : (0 : Int) ≤ (kp : Int) := by omega
        have p3 : (kp : Int) < (n : Int) := by omega
        have p5 : ((kp : Int) + 1).toNat = kp + 1 := by omega
        have p7 : IntKind.i64.wrap (kp : Int) = (kp : Int) := by rw [IntKind.wrap_i64]; omega
        have HK : Hid _ := And.intro hRk (And.intro hdd (And.intro hx hy))
        clear hRk hdd hx hy
        by_cases hxy : x = y
        · have e0 : (x.1 == y.1) = true := by simp [hxy]
          have e1 : (x.2.1 == y.2.1) = true := by simp [hxy]
          have e2 : (x.2.2 == y.2.2) = true := by simp [hxy]
          have HX : Hid _ := hxy
          clear hxy
          have hcap : ¬ cap = kp + 1 := by omega
          go_wp2_with fail
          go_quiet (fail)
          obtain ⟨wz, hwz⟩ : ∃ wz, wz = wr.drewN nq := ⟨_, rfl⟩
          have hRz : RowE w0 wz g l.toArray rest := by rw [hwz]; exact HK.out.1.below (below_drewN (Below.refl _ _) _)
          rw [← hwz]
          have HZ : Hid _ := And.intro hRz (And.intro HK.out.2 HX.out)
          clear hwz hRz x0 x1 x2 y0 y1 y2 e0 e1 e2 HX HK p7
          obtain ⟨K, hK⟩ : ∃ K, K = kp + 1 := ⟨_, rfl⟩
          rw [← hK]
          rw [← hK] at hcap
          have HK : Hid _ := hK
          clear p0 p1 p2 p3 p5
          have p0 : (0 : Int) ≤ (K : Int) := by omega
          have p1 : (K : Int) < (n : Int) := by omega
          have p9 : (K : Int) ≤ (n : Int) := by omega
          have p10 : (n : Int) ≤ (cap : Int) := by omega
          have hKn : K < n := by omega
          have hK1 : 1 ≤ K := by omega
          have e0 : ((n : Int) - (K : Int)) = ((n - K : Nat) : Int) := by omega
          clear hK hlt
          go_wp2_with fail
          obtain ⟨m, hm⟩ : ∃ m, m = n - K := ⟨_, rfl⟩
          rw [← hm]
          have HM : Hid _ := hm
          have hmc : m ≤ n := by omega
          have hcp0 : CpAt w0 wz g n K l l rest 1 K := by
            have hz := HZ.out
            rw [← HK.out] at hz
            have e9 : ddup (l.take (K + 1)) = l.take K := by
              rw [show K + 1 = kp + 2 by have := HK.out; omega, ddup_same (j := kp) (x := x) (by rw [← HK.out]; exact hz.2.1.2.1) (by rw [hz.2.2]; exact hz.2.1.2.2), ← HK.out]
              exact hz.2.1.1
            exact ⟨hz.1, HR.out.2.2.symm, e9.symm, by rw [e9, List.length_take]; have := HR.out.2.2; omega, by omega, fun j _ => rfl⟩
          have HC0 : Hid _ := hcp0
          clear hm hcp0 HZ e0
          go_loopg [3, 5] m (fun q kv k2v wr => ∃ (k2 kk : Nat) (R : List Sy.Ed), q = m + 1 - k2 ∧ 1 ≤ k2 ∧ k2 ≤ m ∧ kv = .int .i64 kk ∧ k2v = .int .i64 k2 ∧ CpAt w0 wr g n K l R rest k2 kk)
          case atStart => exact ⟨1, K, l, by omega, Nat.le_refl _, by have := HM.out; omega, rfl, rfl, HC0.out⟩
          case round =>
            obtain ⟨k2, kk, R, rfl, hk1, hkm, rfl, rfl, hcp⟩ := hrel
            have hlow := hcp.low
            by_cases hlt2 : k2 < m
            · obtain ⟨k1, rfl⟩ : ∃ k1, k2 = k1 + 1 := ⟨k2 - 1, by omega⟩
              obtain ⟨x, hx⟩ : ∃ x, l[K + (k1 + 1)]? = some x := ⟨l[K + (k1 + 1)]'(by have := HR.out.2.2; have := HM.out; omega), List.getElem?_eq_getElem _⟩
              obtain ⟨y, hy⟩ : ∃ y, l[K + k1]? = some y := ⟨l[K + k1]'(by have := HR.out.2.2; have := HM.out; omega), List.getElem?_eq_getElem _⟩
              obtain ⟨x0, x1, x2⟩ := hcp.at (j := k1 + 1) (by omega) hx
              obtain ⟨y0, y1, y2⟩ := hcp.at (j := k1) (by omega) hy
              have q0 : (0 : Int) ≤ (k1 : Int) + 1 := by omega
              have q1 : (k1 : Int) + 1 < (m : Int) := by omega
              have q2 : (0 : Int) ≤ (k1 : Int) := by omega
              have q3 : (k1 : Int) < (m : Int) := by omega
              have q5 : ((k1 : Int) + 1).toNat = k1 + 1 := by omega
              have q7 : IntKind.i64.wrap (k1 : Int) = (k1 : Int) := by rw [IntKind.wrap_i64]; omega
              have HP : Hid _ := And.intro hcp (And.intro hx hy)
              by_cases hxy : x = y
              · have e0 : (x.1 == y.1) = true := by simp [hxy]
                have e1 : (x.2.1 == y.2.1) = true := by simp [hxy]
                have e2 : (x.2.2 == y.2.2) = true := by simp [hxy]
                have HX : Hid _ := hxy
                clear hxy hcp hx hy
                go_wp2_with fail
                go_quiet (fail)
                go_wp2_with fail
                go_roundg (m + 1 - (k1 + 2))
                case measure => omega
                case rel =>
                  refine ⟨k1 + 2, kk, R, rfl, by omega, by omega, rfl, by go_num, HP.out.1.same rfl HP.out.2.1 (by rw [HX.out]; exact HP.out.2.2) (below_drewN (Below.refl _ _) _)⟩
              · have hd := ed_ne hxy
                have r0 : (0 : Int) ≤ (kk : Int) := by omega
                have r1 : (kk : Int) < (n : Int) := by have := HM.out; omega
                have g0 := hcp.row.free (kk * 3)
                have g1 := hcp.row.free (kk * 3 + 1)
                have g2 := hcp.row.free (kk * 3 + 2)
                obtain ⟨zo, hzo⟩ : ∃ zo, R[kk]? = some zo := ⟨R[kk]'(by rw [hcp.len]; omega), List.getElem?_eq_getElem _⟩
                obtain ⟨z0, z1, z2⟩ := hcp.row.at (j := kk) (z := zo) (by simpa using hzo)
                have HX : Hid _ := hxy
                clear hxy hcp hx hy hzo
                rcases hd with e0 | ⟨e0, e1 | ⟨e1, e2⟩⟩
                all_goals
                  go_wp2_with fail
                  go_quiet (fail)
                  go_wp2_with fail
                  go_roundg (m + 1 - (k1 + 2))
                  case measure => omega
                  case rel =>
                    have h9 := HP.out.1.more rfl HP.out.2.1 HP.out.2.2 HX.out HR.out.2.2.symm (below_drewN (Below.refl _ _) nq)
                    exact ⟨k1 + 2, kk + 1, R.set kk x, rfl, by omega, by omega, by go_num, by go_num, h9⟩
            · obtain rfl : k2 = m := by omega
              have hRl : (BEdges.C R ++ rest).length = cap * 3 := by
                rw [List.length_append, BEdges.C_len, hcp.len]
                have h1 := HR.out.2.1
                rw [← HR.out.2.2] at h1
                exact h1
              have hkn : kk < n := by have := HM.out; omega
              have hkc : ¬ cap = kk := by omega
              obtain ⟨us, hcl⟩ := clear_row hcp.row (kk * 3) (n - kk) (cap - kk) (by omega) (by rw [List.toList_toArray, hRl]; omega)
              have r0 : (0 : Int) ≤ (kk : Int) := by omega
              have r1 : (kk : Int) ≤ (n : Int) := by omega
              have r2 : (kk : Int) ≤ (cap : Int) := by omega
              have q1 : ¬ (k2 : Int) < (k2 : Int) := by omega
              have HP : Hid _ := And.intro hcp hRl
              clear hcp hRl
              go_wp2_with fail
              go_ret
              have hA := Arr.sets us (kk * 3) HP.out.1.row
              rw [List.toList_toArray] at hA
              have hKm : K + k2 = n := by have := HM.out; omega
              have hdl : l.take (K + k2) = l := List.take_of_length_le (by have := HR.out.2.2; omega)
              have hdn := HP.out.1.done
              have hsz := HP.out.1.size
              rw [hdl] at hdn hsz
              obtain ⟨vs, hvs⟩ : ∃ vs, vs = setL (BEdges.C R ++ rest) (kk * 3) us := ⟨_, rfl⟩
              rw [← hvs] at hA
              have hvl : vs.length = cap * 3 := by rw [hvs, setL_len]; exact HP.out.2
              have hCl : (BEdges.C (ddup l)).length = kk * 3 := by rw [BEdges.C_len, ← hsz]
              have hvt : vs.take (kk * 3) = BEdges.C (ddup l) := by
                rw [hvs, setL_take us _ _ _ (Nat.le_refl _), List.take_append_of_le_length (by rw [BEdges.C_len, HP.out.1.len]; omega)]
                have e9 : R = R.take kk ++ R.drop kk := (List.take_append_drop kk R).symm
                rw [e9, BEdges.C_app, hdn, ← hCl, List.take_left]
              refine ⟨by rw [← hsz]; rfl, vs.drop (kk * 3), ?_, by rw [← hsz, List.length_drop, hvl]; omega⟩
              unfold RowE
              rw [List.toList_toArray, ← hvt, List.take_append_drop]
              exact hA
        · have hd := ed_ne hxy
          have HX : Hid _ := hxy
          clear hxy
          rcases hd with e0 | ⟨e0, e1 | ⟨e1, e2⟩⟩
          all_goals
            go_wp2_with fail
            go_quiet (fail)
            go_wp2_with fail
            go_roundg (n + 1 - (kp + 2))
            case measure => omega
            case rel =>
              refine ⟨kp + 2, rfl, by omega, by omega, by go_num, HK.out.1.below (below_drewN (Below.refl _ _) _), ?_⟩
              rw [ddup_more HK.out.2.2.1 HK.out.2.2.2 HX.out, HK.out.2.1, ← take_succ_of HK.out.2.2.1]
      · obtain rfl : kp + 1 = n := by omega
        have q1 : ¬ (kp : Int) + 1 < (kp : Int) + 1 := by omega
        have HK : Hid _ := And.intro hRk hdd
        clear hRk hdd
        go_wp2
        go_ret
        have e : ddup l = l := by
          have h1 := HK.out.2
          rw [List.take_of_length_le (by have := HR.out.2.2; omega)] at h1
          exact h1
        rw [e]
        exact ⟨by rw [← HR.out.2.2]; rfl, rest, HK.out.1, HR.out.2.1⟩
end
section
open Go.RowKit Go.Maps
attribute [local go_sem ↓] Go.wp_at_zero Go.wp_at_succ
set_option maxRecDepth 100000 in
theorem compactNil_any (w : World) : Calls Tryz.prog 192 #[.slice none 0 0] w fun r w' => r = .returned (.slice none 0 0) ∧ w' = w := by
  go_enter Tryz.func192, Tryz.ntmps192
  go_wp2
  go_ret
  exact ⟨rfl, rfl⟩
theorem compactO_any (u : Value) (os : List Sy.Ed) (w0 w : World) (hO : BEdges.Own w w0.heap.size u os) (hb : Below w0.heap.size w0 w) (hn : os.length ≤ 1000000) :
    Calls Tryz.prog 192 #[u] w fun r w' => ∃ u', r = .returned u' ∧ BEdges.Own w' w0.heap.size u' (ddup os) ∧ Below w0.heap.size w0 w' := by
  rcases hO.2 with ⟨rfl, h0⟩ | ⟨g, cap, cur, rfl, hg⟩
  · obtain rfl := List.eq_nil_of_length_eq_zero h0
    refine (compactNil_any w).mono fun r w' ⟨hr, hw⟩ => ⟨_, hr, ?_, by rw [hw]; exact hb⟩
    exact World.ownsRow_nil _ _ _ _
  · obtain ⟨rest, hR, _, h3, h4, h5⟩ := row_of_own hO hb
    refine (compact_any g cap os rest w0 w hR h3 h4 hn).mono fun r w' ⟨rest', hr, hR', hr'⟩ => ⟨_, hr, ?_, hR'.bl⟩
    have hl := ddup_len os
    have h := own_of_row (cap := cap) hR' (by simpa using hr') (by simp; omega) h5
    simpa using h
def st4 (w : World) (b : Nat) (x0 x1 x2 x3 : Value) : World := (((w.setCell ⟨b, 0, none⟩ x0).setCell ⟨b, 1, none⟩ x1).setCell ⟨b, 2, none⟩ x2).setCell ⟨b, 3, none⟩ x3
theorem st4_other (w : World) (b i : Nat) (x0 x1 x2 x3 : Value) (h : i ≠ b) : (st4 w b x0 x1 x2 x3).heap[i]? = w.heap[i]? := by
  unfold st4
  rw [set_other _ _ _ _ _ h, set_other _ _ _ _ _ h, set_other _ _ _ _ _ h, set_other _ _ _ _ _ h]
theorem chain_st4 {w : World} {a : Addr} {x : Value} {b : Nat} {cs : Array Value} (h : Chain w 0 0 a [sysB] x) (hb : w.heap[b]? = some (.cells cs 24 (0, 0))) (x0 x1 x2 x3 : Value) : Chain (st4 w b x0 x1 x2 x3) 0 0 a [sysB] x := by
  obtain ⟨c, u, h1, h2, h3⟩ := h
  refine ⟨c, u, h1, ?_, h3⟩
  rw [st4_other _ _ _ _ _ _ _ fun e => by rw [e, hb] at h2; exact absurd h2 (by simp)]
  exact h2
set_option maxRecDepth 100000 in
set_option maxHeartbeats 4000000 in
theorem normal_any {M : Nat} (hS : SortOk M) (n k s : Int) (v : Value) (es : List Sy.Ed) (a : Addr) (w : World) (hA : Sent w 11 a) (hv : BEdges.Has w v es) (hM : es.length ≤ M) (hm : es.length ≤ 1000000) :
    Calls Tryz.prog 170 #[sysV n k s v] w fun r w' => ∃ x u, r = .returned (.tuple #[if Sy.right n k s es = true then sysV n k s u else sysV 0 0 0 (.slice none 0 0), x]) ∧ SErr a w' (Sy.right n k s es) x ∧ (Sy.right n k s es = true → BEdges.Own w' w.heap.size u (Sy.nf es)) ∧ Below w.heap.size w w' := by
  obtain ⟨w1, hw1⟩ : ∃ w1, w1 = (w.alloc (.cells #[.int .i64 n, .int .i64 k, .int .i64 s, v] 24)).alloc (.cells #[.int .i64 0, .int .i64 0, .int .i64 0, .slice none 0 0] 24) := ⟨_, rfl⟩
  have hb1 : Below w.heap.size w w1 := by rw [hw1]; exact ((Below.refl _ _).alloc (Nat.le_refl _) _).alloc (by simp) _
  have hg : w1.heap[w.heap.size + 1]? = some (.cells #[.int .i64 0, .int .i64 0, .int .i64 0, .slice none 0 0] 24 (0, 0)) := by rw [hw1]; exact two_alloc w _ _
  have hg0 : w1.heap[w.heap.size]? = some (.cells #[.int .i64 n, .int .i64 k, .int .i64 s, v] 24 (0, 0)) := by rw [hw1, Below.heap_alloc _ _ _ (by simp)]; exact heap_alloc_new w _
  have hC := check_any n k s v es a w1 (hA.below hb1) (hv.below hb1)
  have hv0 := hv
  obtain ⟨ao, cap, rfl, _⟩ := hv0
  obtain ⟨m, hmm⟩ : ∃ m, m = es.length := ⟨_, rfl⟩
  have H1 : Hid _ := And.intro hC (And.intro hb1 (And.intro hg (And.intro hg0 (And.intro hw1 (And.intro hv hS)))))
  rw [← hmm] at H1 ⊢
  have HM : Hid _ := hmm
  unfold sysV at H1 ⊢
  cases hq : Sy.right n k s es with
  | false =>
    rw [hq] at H1
    clear hC hb1 hg hg0 hw1 hv hS hA hq hmm
    go_enter Tryz.func170, Tryz.ntmps170
    go_wp2_with fail
    rw [← H1.out.2.2.2.2.1]
    refine Calls.mono H1.out.1 ?_
    rintro r w2 ⟨x, rfl, hx, hb2⟩
    have hch : Chain w2 0 0 a [sysB] x := by simpa [SErr] using hx
    obtain ⟨T, u, rfl⟩ := hch.iface
    have hg2 := (hb2.block _ (t_lt H1.out.2.2.1)).trans H1.out.2.2.1
    obtain ⟨y0, y1, y2, y3⟩ := four_cells hg2
    have z0 := blk_free hg2 0
    have z1 := blk_free hg2 1
    have z2 := blk_free hg2 2
    have z3 := blk_free hg2 3
    have hbw := H1.out.2.1.trans (hb2.mono H1.out.2.1.size)
    have H2 : Hid _ := And.intro hch (And.intro hbw hg2)
    clear hb2 hg2 hbw hch hx
    go_wp2_with fail
    have hgf := four_set (a0 := .int .i64 0) (a1 := .int .i64 0) (a2 := .int .i64 0) (a3 := .slice none 0 0) H2.out.2.2
    have hbf := four_below H2.out.2.1 (b := w.heap.size + 1) (by omega) (.int .i64 0) (.int .i64 0) (.int .i64 0) (.slice none 0 0)
    have hcf := chain_st4 H2.out.1 H2.out.2.2 (.int .i64 0) (.int .i64 0) (.int .i64 0) (.slice none 0 0)
    unfold st4 at hcf
    generalize ((((w2.setCell ⟨w.heap.size + 1, 0, none⟩ (.int .i64 0)).setCell ⟨w.heap.size + 1, 1, none⟩ (.int .i64 0)).setCell ⟨w.heap.size + 1, 2, none⟩ (.int .i64 0)).setCell ⟨w.heap.size + 1, 3, none⟩ (.slice none 0 0)) = wf at hgf hbf hcf ⊢
    clear y0 y1 y2 y3 z0 z1 z2 z3
    obtain ⟨c0, c1, c2, c3⟩ := four_cells hgf
    exact bodyPost_ret (v := .tuple #[.agg #[.int .i64 0, .int .i64 0, .int .i64 0, .slice none 0 0], .iface T u]) (by simp [results, Tryz.results170, go_sem, c0, c1, c2, c3]) rfl (by first | exact ⟨.iface T u, rfl, by simpa [SErr] using hcf, hbf⟩ | exact ⟨.iface T u, rfl, by simpa [SErr] using hcf, .slice none 0 0, fun h => by cases h, hbf⟩ | exact ⟨.iface T u, .slice none 0 0, rfl, by simpa [SErr] using hcf, fun h => by cases h, hbf⟩)
  | true =>
    rw [hq] at H1
    clear hC hb1 hg hg0 hw1 hv hS hA hq hmm
    go_enter Tryz.func170, Tryz.ntmps170
    go_wp2_with fail
    rw [← H1.out.2.2.2.2.1]
    refine Calls.mono H1.out.1 ?_
    rintro r w2 ⟨x, rfl, hx, hb2⟩
    obtain rfl : x = .nilIface := by simpa [SErr] using hx
    have hg2 := (hb2.block _ (t_lt H1.out.2.2.1)).trans H1.out.2.2.1
    have hg3 := (hb2.block _ (t_lt H1.out.2.2.2.1)).trans H1.out.2.2.2.1
    obtain ⟨x0, x1, x2, x3⟩ := four_cells hg3
    have hbw := H1.out.2.1.trans (hb2.mono H1.out.2.1.size)
    have hO := ordered_any H1.out.2.2.2.2.2.2 _ _ forward_at (.slice ao m cap) es w2 (by omega) hm (H1.out.2.2.2.2.2.1.below hbw)
    have H2 : Hid _ := And.intro hO (And.intro hbw (And.intro hg2 hg3))
    clear hb2 hg2 hg3 hbw hx hO
    go_wp2_with fail
    refine Calls.mono H2.out.1 ?_
    rintro r w3 ⟨u3, os, rfl, hio, hO3, hb3⟩
    have hlo : os.length = es.length := hio.1.length_eq
    have hCp := compactO_any u3 os w2 w3 hO3 hb3 (by omega)
    rw [ddup_nf hio] at hCp
    have H3 : Hid _ := hCp
    obtain ⟨a3, c3, rfl⟩ := row_shape hO3
    clear hio hO3 hb3 hCp hlo hM hm
    go_wp2_with fail
    refine Calls.mono H3.out ?_
    rintro r w4 ⟨u4, rfl, hO4, hb4⟩
    obtain ⟨a4, c4, rfl⟩ := row_shape hO4
    have hg2 := (hb4.block _ (t_lt H2.out.2.2.1)).trans H2.out.2.2.1
    have hg3 := (hb4.block _ (t_lt H2.out.2.2.2)).trans H2.out.2.2.2
    obtain ⟨y0, y1, y2, y3⟩ := four_cells hg2
    clear x0 x1 x2 x3
    obtain ⟨x0, x1, x2, x3⟩ := four_cells hg3
    have z0 := blk_free hg2 0
    have z1 := blk_free hg2 1
    have z2 := blk_free hg2 2
    have z3 := blk_free hg2 3
    have z4 := blk_free hg3 3
    have nn : ¬ w.heap.size + 1 = w.heap.size := by omega
    have nn2 : ¬ w.heap.size = w.heap.size + 1 := by omega
    have hbw := H2.out.2.1.trans (hb4.mono H2.out.2.1.size)
    have H4 : Hid _ := And.intro hO4 (And.intro hbw (And.intro hg2 (And.intro hg3 H2.out.2.1.size)))
    clear hO4 hb4 hg2 hg3 hbw
    go_wp2_with fail
    have hgm : (w4.setCell ⟨w.heap.size, 3, none⟩ (.slice a4 (Sy.nf es).length c4)).heap[w.heap.size + 1]? = some (.cells #[.int .i64 0, .int .i64 0, .int .i64 0, .slice none 0 0] 24 (0, 0)) := (set_other _ _ _ _ _ nn).trans H4.out.2.2.1
    have hbm : Below w.heap.size w (w4.setCell ⟨w.heap.size, 3, none⟩ (.slice a4 (Sy.nf es).length c4)) := H4.out.2.1.setCell (Nat.le_refl _) _
    have hgf := four_set (a0 := .int .i64 n) (a1 := .int .i64 k) (a2 := .int .i64 s) (a3 := .slice a4 (Sy.nf es).length c4) hgm
    have hbf := four_below hbm (b := w.heap.size + 1) (by omega) (.int .i64 n) (.int .i64 k) (.int .i64 s) (.slice a4 (Sy.nf es).length c4)
    have hOf : BEdges.Own (((((w4.setCell ⟨w.heap.size, 3, none⟩ (.slice a4 (Sy.nf es).length c4)).setCell ⟨w.heap.size + 1, 0, none⟩ (.int .i64 n)).setCell ⟨w.heap.size + 1, 1, none⟩ (.int .i64 k)).setCell ⟨w.heap.size + 1, 2, none⟩ (.int .i64 s)).setCell ⟨w.heap.size + 1, 3, none⟩ (.slice a4 (Sy.nf es).length c4)) w.heap.size (.slice a4 (Sy.nf es).length c4) (Sy.nf es) := row_base (trow_at H4.out.1 fun b hb => by
      have h1 := own_bk H4.out.1 H4.out.2.2.1 (by decide)
      have h2 := own_bk H4.out.1 H4.out.2.2.2.1 (by decide)
      have n1 : b ≠ w.heap.size + 1 := fun e => h1 (e ▸ hb)
      have n2 : b ≠ w.heap.size := fun e => h2 (e ▸ hb)
      rw [set_other _ _ _ _ _ n1, set_other _ _ _ _ _ n1, set_other _ _ _ _ _ n1, set_other _ _ _ _ _ n1, set_other _ _ _ _ _ n2]) H4.out.2.2.2.2
    generalize (((((w4.setCell ⟨w.heap.size, 3, none⟩ (.slice a4 (Sy.nf es).length c4)).setCell ⟨w.heap.size + 1, 0, none⟩ (.int .i64 n)).setCell ⟨w.heap.size + 1, 1, none⟩ (.int .i64 k)).setCell ⟨w.heap.size + 1, 2, none⟩ (.int .i64 s)).setCell ⟨w.heap.size + 1, 3, none⟩ (.slice a4 (Sy.nf es).length c4)) = wf at hgf hbf hOf ⊢
    clear y0 y1 y2 y3 z0 z1 z2 z3 z4 x0 x1 x2 x3
    obtain ⟨c0, c1, c2, c3⟩ := four_cells hgf
    exact bodyPost_ret (v := .tuple #[.agg #[.int .i64 n, .int .i64 k, .int .i64 s, .slice a4 (Sy.nf es).length c4], .nilIface]) (by simp [results, Tryz.results170, go_sem, c0, c1, c2, c3]) rfl ⟨.nilIface, .slice a4 (Sy.nf es).length c4, rfl, by simp [SErr], hOf, hbf⟩
end
section
open Go.RowKit Go.Maps
attribute [local go_sem ↓] Go.wp_at_zero Go.wp_at_succ
theorem Tryz.infoSt8 : (Tryz.prog.info? 77).map (fun i => (i.zero, i.size, i.bytes)) = some (some (.agg #[.int .i64 0, .int .i64 0]), 2, 16) := by kernel_rfl
def madeSt (m : Nat) : Array Value := madeCells #[.int .i64 0, .int .i64 0] (m * 2)
theorem madeSt_eq (m : Nat) : (madeSt m).toList = BSteps.C (List.replicate m (0, 0)) := by
  apply List.ext_getElem?
  intro j
  by_cases hj : j < m * 2
  · have h1 := BSteps.C_at (List.replicate m (0, 0)) (j / 2) (0, 0) (by rw [List.getElem?_replicate, if_pos (by omega)]) (j % 2) (Nat.mod_lt _ (by decide))
    rw [show j / 2 * 2 + j % 2 = j by omega] at h1
    rw [h1, Array.getElem?_toList]
    unfold madeSt madeCells
    have h2 : j % 2 = 0 ∨ j % 2 = 1 := by omega
    rcases h2 with e | e <;> simp [hj, e, BSteps.enc]
  · rw [List.getElem?_eq_none (by simp [madeSt, madeCells]; omega), List.getElem?_eq_none (by rw [BSteps.C_len, List.length_replicate]; omega)]
theorem makeS2 (m : Nat) (hm : m ≤ 1000000) (w : World) : (Instr.makeSlice 75 (.int .i64 (m : Int)) (.int .i64 (m : Int))).run Tryz.prog w = .ok (.slice (some ⟨w.heap.size, 0, none⟩) m m) (w.alloc (.cells (madeSt m) 77)) := by
  obtain ⟨i0, hi0, hz0, hz1, hz2⟩ := info_parts Tryz.infoSt8
  have h := run_makeSlice (P := Tryz.prog) w 75 77 i0 _ Tryz.underlying75 hi0 hz0 .i64 .i64 (m : Int) (m : Int) (by omega) (Int.le_refl _) (by rw [hz1]; omega) (by rw [hz2]; omega) (by omega)
  rw [h, hz1]
  simp [madeSt, Value.cells]
structure TbAt (w wx : World) (bt bs bb m nb : Nat) (ss : List BSteps.El) (cs : List Int) : Prop where
  box : wx.heap[bt]? = some (.cells #[.slice (some ⟨bs, 0, none⟩) m m, .slice (some ⟨bb, 0, none⟩) nb nb] 242 (0, 0))
  up : w.heap.size < bt
  res : wx.heap[w.heap.size]? = some (.cells #[.slice none 0 0, .slice none 0 0] 242 (0, 0))
  steps : Arr 77 w wx bs (BSteps.C ss)
  nums : Arr 3 w wx bb (iC cs)
  ls : ss.length = m
  ln : cs.length = nb
theorem TbAt.below {w wx w' : World} {bt bs bb m nb : Nat} {ss : List BSteps.El} {cs : List Int} (h : TbAt w wx bt bs bb m nb ss cs) (hb : Below wx.heap.size wx w') : TbAt w w' bt bs bb m nb ss cs :=
  ⟨(hb.block _ (t_lt h.box)).trans h.box, h.up, (hb.block _ (t_lt h.res)).trans h.res, h.steps.below hb, h.nums.below hb, h.ls, h.ln⟩
theorem TbAt.cells {w wx : World} {bt bs bb m nb : Nat} {ss : List BSteps.El} {cs : List Int} (h : TbAt w wx bt bs bb m nb ss cs) : wx.cell? ⟨bt, 0, none⟩ = some (.slice (some ⟨bs, 0, none⟩) m m) ∧ wx.cell? ⟨bt, 1, none⟩ = some (.slice (some ⟨bb, 0, none⟩) nb nb) := ⟨cell0_of h.box rfl, cell0_of h.box rfl⟩
theorem arr_ne {t1 t2 : TypeId} {w wx : World} {g1 g2 : Nat} {v1 v2 : List Value} (h1 : Arr t1 w wx g1 v1) (h2 : Arr t2 w wx g2 v2) (hne : t1 ≠ t2) : g1 ≠ g2 := fun e => by
  obtain ⟨c1, a1, _⟩ := h1.ids
  obtain ⟨c2, a2, _⟩ := h2.ids
  rw [e, a2] at a1
  injection a1 with a1
  injection a1 with _ a1
  exact hne a1.symm
theorem arr_bk {t1 t2 : TypeId} {w wx : World} {g1 b : Nat} {v1 : List Value} {cs : Array Value} (h1 : Arr t1 w wx g1 v1) (h2 : wx.heap[b]? = some (.cells cs t2 (0, 0))) (hne : t1 ≠ t2) : b ≠ g1 := fun e => by
  obtain ⟨c1, a1, _⟩ := h1.ids
  rw [e, a1] at h2
  injection h2 with a1
  injection a1 with _ a1
  exact hne a1
theorem TbAt.num {w wx : World} {bt bs bb m nb : Nat} {ss : List BSteps.El} {cs : List Int} (h : TbAt w wx bt bs bb m nb ss cs) (i : Nat) (z : Int) : TbAt w (wx.setCell ⟨bb, i, none⟩ (.int .i64 z)) bt bs bb m nb ss (cs.set i z) := by
  refine ⟨(set_other _ _ _ _ _ (arr_bk h.nums h.box (by decide))).trans h.box, h.up, (set_other _ _ _ _ _ (arr_bk h.nums h.res (by decide))).trans h.res, ?_, ?_, h.ls, by rw [List.length_set]; exact h.ln⟩
  · exact h.steps.kept (Kept.setCell _ _ _ _) fun b e => by subst e; exact ⟨h.nums.gu, arr_ne h.nums h.steps (by decide)⟩
  · have h1 := h.nums.set i (.int .i64 z)
    unfold iC at h1 ⊢
    rw [List.map_set]
    exact h1
theorem TbAt.step {w wx : World} {bt bs bb m nb : Nat} {ss : List BSteps.El} {cs : List Int} (h : TbAt w wx bt bs bb m nb ss cs) {i : Nat} (hi : i < m) (z : BSteps.El) : TbAt w ((wx.setCell ⟨bs, i * 2, none⟩ (.int .i64 z.1)).setCell ⟨bs, i * 2 + 1, none⟩ (.int .i64 z.2)) bt bs bb m nb (ss.set i z) cs := by
  have hx := arr_bk h.steps h.box (by decide)
  have hy := arr_bk h.steps h.res (by decide)
  refine ⟨(set_other _ _ _ _ _ hx).trans ((set_other _ _ _ _ _ hx).trans h.box), h.up, (set_other _ _ _ _ _ hy).trans ((set_other _ _ _ _ _ hy).trans h.res), ?_, ?_, by rw [List.length_set]; exact h.ls, h.ln⟩
  · have h1 := (h.steps.set (i * 2) (.int .i64 z.1)).set (i * 2 + 1) (.int .i64 z.2)
    rw [← BSteps.C_set ss (by rw [h.ls]; exact hi) z] at h1
    exact h1
  · exact (h.nums.kept (Kept.setCell _ _ _ _) fun b e => by subst e; exact ⟨h.steps.gu, arr_ne h.steps h.nums (by decide)⟩).kept (Kept.setCell _ _ _ _) fun b e => by subst e; exact ⟨h.steps.gu, arr_ne h.steps h.nums (by decide)⟩
def stp (e : Sy.Ed) : BSteps.El := (e.2.1, e.2.2)
theorem step_done {l : List Sy.Ed} {i m : Nat} {x : Sy.Ed} (hx : l[i]? = some x) (hm : l.length = m) : ((l.take i).map stp ++ List.replicate (m - i) (0, 0)).set i (stp x) = (l.take (i + 1)).map stp ++ List.replicate (m - (i + 1)) (0, 0) := by
  have hi := (List.getElem?_eq_some_iff.1 hx).1
  have hl : ((l.take i).map stp).length = i := by rw [List.length_map, List.length_take]; omega
  have e : m - i = (m - (i + 1)) + 1 := by omega
  rw [List.set_append_right _ _ (by omega), hl, Nat.sub_self, e, List.replicate_succ, List.set_cons_zero, take_succ_of hx, List.map_append, List.append_assoc]
  rfl
theorem al_b (w : World) (a b c d : Obj) : Below w.heap.size w (((w.alloc a).alloc b).alloc c |>.alloc d).drew := (((((Below.refl _ w).alloc (Nat.le_refl _) a).alloc (by simp) b).alloc (by simp; omega) c).alloc (by simp; omega) d).drew
theorem sz1 (w : World) (a : Obj) : (w.alloc a).heap.size = w.heap.size + 1 := by simp
theorem al3 (w : World) (a b c d : Obj) : (((w.alloc a).alloc b).alloc c |>.alloc d).drew.heap[w.heap.size + 1 + 1 + 1]? = some d := by
  have h := heap_alloc_new (((w.alloc a).alloc b).alloc c) d
  rw [sz1, sz1, sz1] at h
  exact h
theorem al2 (w : World) (a b c d : Obj) : (((w.alloc a).alloc b).alloc c |>.alloc d).drew.heap[w.heap.size + 1 + 1]? = some c := by
  have h := heap_alloc_new ((w.alloc a).alloc b) c
  rw [sz1, sz1] at h
  exact (Below.heap_alloc _ _ _ (by rw [sz1, sz1, sz1]; omega)).trans h
theorem al1 (w : World) (a b c d : Obj) : (((w.alloc a).alloc b).alloc c |>.alloc d).drew.heap[w.heap.size + 1]? = some b := by
  have h := heap_alloc_new (w.alloc a) b
  rw [sz1] at h
  exact (Below.heap_alloc _ _ _ (by rw [sz1, sz1, sz1]; omega)).trans ((Below.heap_alloc _ _ _ (by rw [sz1, sz1]; omega)).trans h)
theorem al0 (w : World) (a b c d : Obj) : (((w.alloc a).alloc b).alloc c |>.alloc d).drew.heap[w.heap.size]? = some a :=
  (Below.heap_alloc _ _ _ (by rw [sz1, sz1, sz1]; omega)).trans ((Below.heap_alloc _ _ _ (by rw [sz1, sz1]; omega)).trans ((Below.heap_alloc _ _ _ (by rw [sz1]; omega)).trans (heap_alloc_new w a)))
theorem iC_rep (n : Nat) : List.replicate n (Value.int .i64 0) = iC (List.replicate n 0) := by simp [iC]
theorem tb_start {w wx : World} {bt bs bb m n : Nat} (hbt : wx.heap[bt]? = some (.cells #[.slice (some ⟨bs, 0, none⟩) m m, .slice (some ⟨bb, 0, none⟩) (n + 1) (n + 1)] 242 (0, 0))) (hup : w.heap.size < bt) (hres : wx.heap[w.heap.size]? = some (.cells #[.slice none 0 0, .slice none 0 0] 242 (0, 0)))
    (hb : Below w.heap.size w wx) (hs : wx.heap[bs]? = some (.cells (madeSt m) 77 (0, 0))) (gs : w.heap.size ≤ bs) (hn : wx.heap[bb]? = some (.cells (madeV (.int .i64 0) (n + 1)) 3 (0, 0))) (gn : w.heap.size ≤ bb) (l : List Sy.Ed) : TbAt w wx bt bs bb m (n + 1) ((l.take 0).map stp ++ List.replicate (m - 0) (0, 0)) (Sy.bndL n (l.take 0)) := by
  rw [List.take_zero, Sy.bnd_zero, List.map_nil, List.nil_append, Nat.sub_zero]
  refine ⟨hbt, hup, hres, ⟨hb, ⟨_, hs, madeSt_eq m⟩, gs⟩, ⟨hb, ⟨_, hn, ?_⟩, gn⟩, by simp, by simp⟩
  rw [madeV_eq _ rfl, iC_rep]
set_option maxRecDepth 100000 in
set_option maxHeartbeats 8000000 in
theorem tableOf_any (f : Nat) (vw : Sy.Ed → Sy.Ed) (hV : ViewAt f vw) (n : Nat) (v : Value) (os : List Sy.Ed) (w : World) (hn : n ≤ 100000) (hm : os.length ≤ 100000) (hv : BEdges.Has w v os) (hr : ∀ e ∈ os.map vw, 0 ≤ e.1 ∧ e.1 < (n : Int)) (hs : Sy.Rows (os.map vw)) :
    Calls Tryz.prog 171 #[.int .i64 n, v, .func (.func f) #[] #[]] w fun r w' => ∃ bs bb, r = .returned (.agg #[.slice (some ⟨bs, 0, none⟩) os.length os.length, .slice (some ⟨bb, 0, none⟩) (n + 1) (n + 1)]) ∧ Arr 77 w w' bs (BSteps.C ((os.map vw).map stp)) ∧ Arr 3 w w' bb (iC (Sy.bounds n (os.map vw))) := by
  obtain ⟨he, hV⟩ := hV
  obtain ⟨av, cv, rfl, _⟩ := _root_.id hv
  obtain ⟨m, hM⟩ : ∃ m, m = os.length := ⟨_, rfl⟩
  obtain ⟨l, hl⟩ : ∃ l, l = os.map vw := ⟨_, rfl⟩
  rw [← hl] at hr hs ⊢
  rw [← hM] at hv hm ⊢
  have hll : l.length = m := by rw [hl, List.length_map, hM]
  have HV : Hid _ := And.intro hv (And.intro hV (And.intro hl (And.intro hll (And.intro hr (And.intro hs hM)))))
  have hmk := makeS2 m (by omega)
  have hmi := makeI (n + 1) (by omega)
  have hwr : IntKind.i64.wrap ((n : Int) + 1) = (n : Int) + 1 := by rw [IntKind.wrap_i64]; omega
  have hcast : (((n + 1 : Nat)) : Int) = (n : Int) + 1 := by omega
  rw [hcast] at hmi
  clear hv hV hl hll hr hs hM hcast
  go_enter Tryz.func171, Tryz.ntmps171
  go_upto_region 1 with fail
  go_cut [7] (fun s7 wx => ∃ bt bs bb, s7 = .pointer (some ⟨bt, 0, none⟩) ∧ TbAt w wx bt bs bb m (n + 1) ((l.take 0).map stp ++ List.replicate (m - 0) (0, 0)) (Sy.bndL n (l.take 0)))
  case first =>
    go_region
    all_goals go_wp2_with fail
    all_goals (go_meet; case rel => first | exact ⟨_, _, _, rfl, tb_start (al1 w _ _ _ _) (by omega) (al0 w _ _ _ _) (al_b w _ _ _ _) (al2 w _ _ _ _) (by omega) (al3 w _ _ _ _) (by omega) l⟩ | exact ⟨_, _, _, rfl, tb_start (al1 w _ _ _ _) (by omega) (al0 w _ _ _ _) (al_b w _ _ _ _) (al3 w _ _ _ _) (by omega) (al2 w _ _ _ _) (by omega) l⟩ | exact ⟨_, _, _, rfl, tb_start (al2 w _ _ _ _) (by omega) (al0 w _ _ _ _) (al_b w _ _ _ _) (al1 w _ _ _ _) (by omega) (al3 w _ _ _ _) (by omega) l⟩ | exact ⟨_, _, _, rfl, tb_start (al2 w _ _ _ _) (by omega) (al0 w _ _ _ _) (al_b w _ _ _ _) (al3 w _ _ _ _) (by omega) (al1 w _ _ _ _) (by omega) l⟩ | exact ⟨_, _, _, rfl, tb_start (al3 w _ _ _ _) (by omega) (al0 w _ _ _ _) (al_b w _ _ _ _) (al1 w _ _ _ _) (by omega) (al2 w _ _ _ _) (by omega) l⟩ | exact ⟨_, _, _, rfl, tb_start (al3 w _ _ _ _) (by omega) (al0 w _ _ _ _) (al_b w _ _ _ _) (al2 w _ _ _ _) (by omega) (al1 w _ _ _ _) (by omega) l⟩)
  case rest =>
    obtain ⟨bt, bs, bb, rfl, hT⟩ := hcut
    have HT : Hid _ := hT
    clear hT hmk hmi
    go_wp2_with fail
    go_loopg [22] m (fun q iv wr => ∃ i : Nat, q = m - i ∧ i ≤ m ∧ iv = .int .i64 i ∧ TbAt w wr bt bs bb m (n + 1) ((l.take i).map stp ++ List.replicate (m - i) (0, 0)) (Sy.bndL n (l.take i)))
    case atStart => exact ⟨0, rfl, Nat.zero_le _, rfl, HT.out⟩
    case round =>
      obtain ⟨i, rfl, hi, rfl, hTi⟩ := hrel
      by_cases hlt : i < m
      · obtain ⟨e, hx⟩ : ∃ e, os[i]? = some e := ⟨os[i]'(by have := HV.out.2.2.2.2.2.2; omega), List.getElem?_eq_getElem _⟩
        have hlx : l[i]? = some (vw e) := by rw [HV.out.2.2.1, List.getElem?_map, hx]; rfl
        obtain ⟨a, rfl, z0, z1, z2⟩ := edge_at (HV.out.1.below hTi.steps.bl) hx
        have q0 : (0 : Int) ≤ (i : Int) := by omega
        have q1 : (i : Int) < (m : Int) := by omega
        obtain ⟨hr1, hr2⟩ := HV.out.2.2.2.2.1 (vw e) (List.mem_of_getElem? hlx)
        obtain ⟨q, hq⟩ : ∃ q : Nat, (vw e).1 = (q : Int) := ⟨(vw e).1.toNat, by omega⟩
        have hqn : q < n := by omega
        have hvw := HV.out.2.1 e
        obtain ⟨e0, e1, e2⟩ := e
        obtain ⟨p, hp⟩ : ∃ p, p = vw (e0, e1, e2) := ⟨_, rfl⟩
        rw [← hp] at hvw hlx hq
        obtain ⟨p0, p1, p2⟩ := p
        simp only at hq hvw z0 z1 z2
        subst hq
        unfold edV at hvw
        have HI : Hid _ := And.intro hTi (And.intro hlx hvw)
        clear hTi hlx hx hvw hp hr1 hr2
        go_wp2_with fail
        refine Calls.mono (HI.out.2.2 _) ?_
        rintro r w2 ⟨rfl, hb2⟩
        obtain ⟨w3, hw3⟩ : ∃ w3, w3 = w2.alloc (.cells #[.int .i64 p1, .int .i64 p2] 77) := ⟨_, rfl⟩
        have hb3 : Below wr.heap.size wr w3 := by
          rw [hw3]
          exact (((Below.refl _ wr).alloc (Nat.le_refl _) _).trans (hb2.mono (by simp))).alloc (by have := hb2.size; simp at this; omega) _
        have hg3 : w3.heap[w2.heap.size]? = some (.cells #[.int .i64 p1, .int .i64 p2] 77 (0, 0)) := by rw [hw3]; exact heap_alloc_new w2 _
        have hT3 := HI.out.1.below hb3
        obtain ⟨c0, c1⟩ := hT3.cells
        have s0 : w3.cell? ⟨w2.heap.size, 0, none⟩ = some (.int .i64 p1) := cell0_of hg3 rfl
        have s1 : w3.cell? ⟨w2.heap.size, 1, none⟩ = some (.int .i64 p2) := cell0_of hg3 rfl
        have f0 := hT3.steps.free (i * 2)
        have f1 := hT3.steps.free (i * 2 + 1)
        have f2 := hT3.nums.free (q + 1)
        have hn1 : ¬ bt = bs := arr_bk hT3.steps hT3.box (by decide)
        have hn2 : ¬ bb = bs := fun h => arr_ne hT3.steps hT3.nums (by decide) h.symm
        obtain ⟨o0, ho0⟩ : ∃ o, ((l.take i).map stp ++ List.replicate (m - i) (0, 0))[i]? = some o := ⟨_, List.getElem?_eq_getElem (by rw [hT3.ls]; exact hlt)⟩
        have d0 : w3.cell? ⟨bs, i * 2, none⟩ = some (.int .i64 o0.1) := hT3.steps.cell ((BSteps.C_at _ i o0 ho0 0 (by decide)).trans rfl)
        have d1 : w3.cell? ⟨bs, i * 2 + 1, none⟩ = some (.int .i64 o0.2) := hT3.steps.cell ((BSteps.C_at _ i o0 ho0 1 (by decide)).trans rfl)
        obtain ⟨o1, ho1⟩ : ∃ o, (Sy.bndL n (l.take i))[q + 1]? = some o := ⟨_, List.getElem?_eq_getElem (by rw [hT3.ln]; omega)⟩
        have d2 := hT3.nums.cell (i := q + 1) (x := .int .i64 o1) (by unfold iC; rw [List.getElem?_map, ho1]; rfl)
        have r0 : (0 : Int) ≤ (q : Int) + 1 := by omega
        have r1 : (q : Int) + 1 < (n : Int) + 1 := by omega
        have r2 : ((q : Int) + 1).toNat = q + 1 := by omega
        have r3 : IntKind.i64.wrap ((q : Int) + 1) = (q : Int) + 1 := by rw [IntKind.wrap_i64]; omega
        have r4 : IntKind.i64.wrap ((i : Int) + 1) = (i : Int) + 1 := by rw [IntKind.wrap_i64]; omega
        have H3 : Hid _ := And.intro hT3 hw3
        clear hb2 hb3 hg3 hT3 hw3 ho0 ho1
        go_upto_region 6 with fail
        rw [← H3.out.2]
        go_wp2_with fail
        go_roundg (m - (i + 1))
        case measure => omega
        case rel =>
          have h9 := (H3.out.1.step hlt (p1, p2)).num (q + 1) ((i : Int) + 1)
          rw [show (p1, p2) = stp ((q : Int), p1, p2) from rfl, step_done HI.out.2.1 HV.out.2.2.2.1, Sy.bnd_step HI.out.2.1 rfl] at h9
          exact ⟨i + 1, rfl, by omega, by go_num, h9⟩
      · obtain rfl : i = m := by omega
        have hTm : TbAt w wr bt bs bb i (n + 1) (l.map stp) (Sy.mixL n l 0) := by
          have h9 := hTi
          have hli := HV.out.2.2.2.1
          rw [Nat.sub_self, List.replicate_zero, List.append_nil, List.take_of_length_le (by omega)] at h9
          rw [Sy.mix_zero fun e he => (HV.out.2.2.2.2.1 e he).1]
          exact h9
        have HTm : Hid _ := hTm
        clear hTi hTm
        have q1 : ¬ (i : Int) < (i : Int) := by omega
        go_wp2_with fail
        go_loopg [47] n (fun q iv wr => ∃ st : Nat, q = n - st ∧ st ≤ n ∧ iv = .int .i64 st ∧ TbAt w wr bt bs bb i (n + 1) (l.map stp) (Sy.mixL n l st))
        case atStart => exact ⟨0, rfl, Nat.zero_le _, rfl, HTm.out⟩
        case round =>
          obtain ⟨st, rfl, hst, rfl, hTs⟩ := hrel
          by_cases hlt2 : st < n
          · obtain ⟨c0, c1⟩ := hTs.cells
            have x1 := hTs.nums.cell (i := st + 1) (x := .int .i64 (Sy.lastOf l (st : Int) : Nat)) (by
              unfold iC
              rw [List.getElem?_map, Sy.mix_at (by omega), if_neg (by omega), show ((st + 1 : Nat) : Int) - 1 = (st : Int) by omega]
              rfl)
            have x0 := hTs.nums.cell (i := st) (x := .int .i64 (Sy.cnt l (st : Int) : Nat)) (by
              unfold iC
              rw [List.getElem?_map, Sy.mix_at (by omega), if_pos (Nat.le_refl _)]
              rfl)
            have f1 := hTs.nums.free (st + 1)
            have hms := Sy.mix_step (n := n) (st := st) HV.out.2.2.2.2.2.1
            obtain ⟨A, hA⟩ : ∃ A, A = Sy.lastOf l (st : Int) := ⟨_, rfl⟩
            obtain ⟨B, hB⟩ : ∃ B, B = Sy.cnt l (st : Int) := ⟨_, rfl⟩
            rw [← hA, ← hB] at hms
            rw [← hA] at x1
            rw [← hB] at x0
            have r0 : (0 : Int) ≤ (st : Int) + 1 := by omega
            have r1 : (st : Int) + 1 < (n : Int) + 1 := by omega
            have r2 : ((st : Int) + 1).toNat = st + 1 := by omega
            have r3 : IntKind.i64.wrap ((st : Int) + 1) = (st : Int) + 1 := by rw [IntKind.wrap_i64]; omega
            have r5 : (0 : Int) ≤ (st : Int) := by omega
            have r6 : (st : Int) < (n : Int) + 1 := by omega
            have r7 : (st : Int) < (n : Int) := by omega
            have HS : Hid _ := And.intro hTs hms
            clear hTs hms hA hB c0
            go_wp2_with fail
            go_region
            all_goals go_wp2_with fail
            go_roundg (n - (st + 1))
            case measure => omega
            case rel =>
              refine ⟨st + 1, rfl, by omega, by go_num, ?_⟩
              have h9 := (HS.out.1.num (st + 1) ((max A B : Nat) : Int)).below (Below.refl _ _).drew
              rw [HS.out.2] at h9
              have e9 : max (A : Int) (B : Int) = ((max A B : Nat) : Int) := by omega
              rw [e9]
              exact h9
          · obtain rfl : st = n := by omega
            obtain ⟨c0, c1⟩ := hTs.cells
            have d0 : wr.cell? ⟨w.heap.size, 0, none⟩ = some (.slice none 0 0) := cell0_of hTs.res rfl
            have d1 : wr.cell? ⟨w.heap.size, 1, none⟩ = some (.slice none 0 0) := cell0_of hTs.res rfl
            have f0 := blk_free hTs.res 0
            have f1 := blk_free hTs.res 1
            have HS : Hid _ := hTs
            clear hTs
            have r7 : ¬ (st : Int) < (st : Int) := by omega
            go_wp2_with fail
            have hres := HS.out.res
            have g1 : ((wr.setCell ⟨w.heap.size, 0, none⟩ (.slice (some ⟨bs, 0, none⟩) i i)).setCell ⟨w.heap.size, 1, none⟩ (.slice (some ⟨bb, 0, none⟩) (st + 1) (st + 1))).heap[w.heap.size]? = some (.cells #[.slice (some ⟨bs, 0, none⟩) i i, .slice (some ⟨bb, 0, none⟩) (st + 1) (st + 1)] 242 (0, 0)) := heap_setCell_same _ _ 1 _ _ _ (heap_setCell_same _ _ 0 _ _ _ hres)
            have k1 := Kept.setCell wr w.heap.size 0 (.slice (some ⟨bs, 0, none⟩) i i)
            have k2 := Kept.setCell (wr.setCell ⟨w.heap.size, 0, none⟩ (.slice (some ⟨bs, 0, none⟩) i i)) w.heap.size 1 (.slice (some ⟨bb, 0, none⟩) (st + 1) (st + 1))
            have n1 := arr_bk HS.out.steps hres (by decide)
            have n2 := arr_bk HS.out.nums hres (by decide)
            have hs9 := (HS.out.steps.kept k1 fun b e => by subst e; exact ⟨Nat.le_refl _, n1⟩).kept k2 fun b e => by subst e; exact ⟨Nat.le_refl _, n1⟩
            have hn9 := (HS.out.nums.kept k1 fun b e => by subst e; exact ⟨Nat.le_refl _, n2⟩).kept k2 fun b e => by subst e; exact ⟨Nat.le_refl _, n2⟩
            rw [Sy.mix_full] at hn9
            generalize ((wr.setCell ⟨w.heap.size, 0, none⟩ (.slice (some ⟨bs, 0, none⟩) i i)).setCell ⟨w.heap.size, 1, none⟩ (.slice (some ⟨bb, 0, none⟩) (st + 1) (st + 1))) = wf at g1 hs9 hn9 ⊢
            have y0 : wf.cell? ⟨w.heap.size, 0, none⟩ = some (.slice (some ⟨bs, 0, none⟩) i i) := cell0_of g1 rfl
            have y1 : wf.cell? ⟨w.heap.size, 1, none⟩ = some (.slice (some ⟨bb, 0, none⟩) (st + 1) (st + 1)) := cell0_of g1 rfl
            clear c0 c1 d0 d1 f0 f1
            exact bodyPost_ret (v := .agg #[.slice (some ⟨bs, 0, none⟩) i i, .slice (some ⟨bb, 0, none⟩) (st + 1) (st + 1)]) (by simp [results, Tryz.results171, go_sem, y0, y1]) rfl ⟨bs, bb, rfl, hs9, hn9⟩
end
end Go.Proofs.YthcpliinddjkhaaGreatDoor
