/- Texts of this claim, joined: RoSig2, RoPart, SyTab0, BXEdges, SyRight, SySort, SySorted, Is, Sent, ErIs, ErCode, ErTold, SyNormal, SyForms, SyProg, SyChk. -/
import Derived.Test.YtkiapldehlnndabGreatDoorPart0
import Derived.Deep.RegionHeld3
import Derived.Deep.DrawnRows
import Derived.Maps.OwnSet
import Derived.Deep.QuietTactic
import Derived.BigQuiet
import Derived.Deep.DeepCutAuto
import Derived.Deep.RegionLaw
import Derived.Test.YtkiapldehlnndabGreatDoorProg
import Derived.WalkKit
import Derived.LaidEql
import Derived.Stop.Asserts
import Derived.RowKitTokens
import Derived.Below
import Derived.OneCell
import Derived.Deep.LoopGhost
import Derived.WalkSmall
import Derived.ProofKit
import Derived.Shelf.Abstract
/- Contract of the program's signature: the walk. -/
namespace Go.Proofs.YtkiapldehlnndabGreatDoor
open Go.RowKit Go.Maps
attribute [local go_sem ↓] Go.wp_at_zero Go.wp_at_succ
def sigB (c : Int) (es : List Int) : ByteArray := ⟨(Ro.sigL c es).toArray⟩
theorem ends_take {n : Int} {c : List Nat} {zs : List Ro.St} {i : Nat} {z : Ro.St} (h : zs[i]? = some z) : Ro.ends n c (zs.take (i + 1)) = Ro.ends n c (zs.take i) ++ [z.1 * n + Ro.cl c z.2] := by
  rw [take_succ_of h]
  simp [Ro.ends]
theorem ends_set {N i : Nat} {xs : List Int} {x : Int} (hl : xs.length = i) (hi : i < N) : (iC xs ++ List.replicate (N - i) (Value.int .i64 0)).set i (.int .i64 x) = iC (xs ++ [x]) ++ List.replicate (N - (i + 1)) (.int .i64 0) := by
  have e : N - i = (N - (i + 1)) + 1 := by omega
  have hl2 : (iC xs).length = i := by simp [iC, hl]
  rw [e, List.replicate_succ, List.set_append_right _ _ (by omega), hl2, Nat.sub_self, List.set_cons_zero]
  simp [iC]
theorem ends_sort_mem {zs : List Int} {n : Int} (h : ∀ z ∈ zs, 0 ≤ z ∧ z < n) : ∀ z ∈ Ro.sd (zs.mergeSort fun x y => decide (x ≤ y)), 0 ≤ z ∧ z < n := fun z hz => h z ((sort_perm zs).mem_iff.1 (Ro.mem_sd.1 hz))
theorem sd_sort (zs : List Int) : Ro.sd (zs.mergeSort fun x y => decide (x ≤ y)) = Ro.sd zs := Ro.sd_eq.2 fun _ => (sort_perm zs).mem_iff
theorem cl_lt {c : List Nat} {n : Nat} (h : ∀ u ∈ c, u < n) (t : Int) (h0 : 0 < n) : Ro.cl c t < n := by
  unfold Ro.cl
  cases hx : c[t.toNat]? with
  | none => simpa using h0
  | some u => exact h u (List.mem_of_getElem? hx)
set_option maxRecDepth 100000 in
set_option maxHeartbeats 8000000 in
theorem signature_any (k n : Nat) (c : List Nat) (zs : List Ro.St) (vs vc : Value) (w : World) (hk : k ≤ 1000) (hn : n ≤ 1000) (hc : c.length = n) (hcl : ∀ u ∈ c, u < n) (hz : ∀ z ∈ zs, (0 ≤ z.1 ∧ z.1 ≤ 300) ∧ 0 ≤ z.2 ∧ z.2 < (n : Int)) (hzl : zs.length ≤ 10000) (hs : BSteps.Has w vs zs) (hv : HasI w vc (natI c)) (hP : Pow w) :
    Calls Tryz.prog 71 #[.int .i64 k, vs, vc] w fun r w' => r = .returned (.string (sigB k (Ro.sd (Ro.ends n c zs)))) ∧ Below w.heap.size w w' := by
  obtain ⟨i0, hi0, hz0, hz1, hz2⟩ := info_parts Tryz.infoU8
  have hs0 := hs
  obtain ⟨av, cs, rfl, _⟩ := hs0
  obtain ⟨ac, cc, rfl, hcs⟩ := hv
  obtain ⟨N, hN⟩ : ∃ N, N = zs.length := ⟨_, rfl⟩
  have hcn : (natI c).length = n := by simp [natI, hc]
  rw [hcn]
  rw [← hN] at hs hzl ⊢
  have HH : Hid _ := And.intro hs (And.intro hcs (And.intro hc (And.intro hcl (And.intro hz (And.intro hP hN)))))
  have hmk := makeI N (by omega) w
  clear hs hcs hc hcl hz hP hN hcn
  go_enter Tryz.func71, Tryz.ntmps71
  go_wp2_with fail
  clear hmk
  go_loopg [18] N (fun q iv wr => ∃ i : Nat, q = N - i ∧ i ≤ N ∧ iv = .int .i64 i ∧ Arr 3 w wr w.heap.size (iC (Ro.ends n c (zs.take i)) ++ List.replicate (N - i) (.int .i64 0)))
  case atStart => exact ⟨0, rfl, Nat.zero_le _, rfl, by have h1 := arr_new 3 (.int .i64 0) rfl N w; simpa [Ro.ends, iC] using h1⟩
  case round =>
    obtain ⟨i, rfl, hi, rfl, hA⟩ := hrel
    by_cases hlt : i < N
    · obtain ⟨⟨l, t0⟩, hzi⟩ : ∃ z, zs[i]? = some z := ⟨zs[i]'(by have := HH.out.2.2.2.2.2.2; omega), List.getElem?_eq_getElem _⟩
      have hzb := HH.out.2.2.2.2.1 _ (List.mem_of_getElem? hzi)
      simp only at hzb
      obtain ⟨t, rfl⟩ : ∃ t : Nat, t0 = (t : Int) := ⟨t0.toNat, by omega⟩
      obtain ⟨x, hx⟩ : ∃ x, c[t]? = some x := ⟨c[t]'(by have := HH.out.2.2.1; omega), List.getElem?_eq_getElem _⟩
      have hxn := HH.out.2.2.2.1 x (List.mem_of_getElem? hx)
      have hst := ends_take (n := n) (c := c) hzi
      have hcx : Ro.cl c (t : Int) = x := by unfold Ro.cl; rw [Int.toNat_natCast, hx]; rfl
      simp only [hcx] at hst
      obtain ⟨a, rfl, d0, d1⟩ := step_at (HH.out.1.below hA.bl) hzi
      simp only at d0 d1
      obtain ⟨a2, rfl, d2⟩ := HH.out.2.1 t (x : Int) (by simp [natI, hx])
      obtain ⟨wb, hwb⟩ : ∃ wb, wb = wr.alloc (.cells #[.int .i64 l, .int .i64 t] 133) := ⟨_, rfl⟩
      have hbb : Below wr.heap.size wr wb := by rw [hwb]; exact (Below.refl _ _).alloc (Nat.le_refl _) _
      have hgb : wb.heap[wr.heap.size]? = some (.cells #[.int .i64 l, .int .i64 t] 133 (0, 0)) := by rw [hwb]; exact heap_alloc_new wr _
      have f0 : wb.cell? ⟨wr.heap.size, 0, none⟩ = some (.int .i64 l) := cell0_of hgb rfl
      have f1 : wb.cell? ⟨wr.heap.size, 1, none⟩ = some (.int .i64 t) := cell0_of hgb rfl
      have hbw : Below w.heap.size w wb := hA.bl.trans (hbb.mono hA.bl.size)
      have f2 : wb.cell? (a2.add t) = some (.int .i64 x) := (hbw.cell (World.block_lt_of_cell? w _ d2)).trans d2
      have hAb := hA.below hbb
      have hel : (Ro.ends n c (zs.take i)).length = i := by simp [Ro.ends]; have := HH.out.2.2.2.2.2.2; omega
      have hix : (iC (Ro.ends n c (zs.take i)) ++ List.replicate (N - i) (Value.int .i64 0))[i]? = some (.int .i64 0) := by
        rw [List.getElem?_append_right (by simp [iC, hel]), List.getElem?_replicate, if_pos (by simp [iC, hel]; omega)]
      have cx := hAb.cell hix
      have cf := hAb.free i
      have hset := ends_set (x := l * n + x) hel hlt
      have hAs := hAb.set i (.int .i64 (l * n + x))
      rw [hset, ← hst] at hAs
      have p0 : (0 : Int) ≤ (i : Int) := by omega
      have p1 : (i : Int) < (N : Int) := by omega
      have p2 : (0 : Int) ≤ (t : Int) := by omega
      have p3 : (t : Int) < (n : Int) := by omega
      have hm0 : 0 ≤ l * (n : Int) := Int.mul_nonneg hzb.1.1 (by omega)
      have hm1 : l * (n : Int) ≤ 300 * 1000 := Int.mul_le_mul hzb.1.2 (by omega) (by omega) (by omega)
      have hm2 : IntKind.i64.wrap (l * (n : Int)) = l * (n : Int) := by rw [IntKind.wrap_i64]; omega
      have hm3 : IntKind.i64.wrap (l * (n : Int) + (x : Int)) = l * (n : Int) + (x : Int) := by rw [IntKind.wrap_i64]; omega
      have n1 : ¬ w.heap.size = wr.heap.size := by have := hA.lt; omega
      have n2 : ¬ wr.heap.size = w.heap.size := fun e => n1 e.symm
      have HZ : Hid _ := And.intro hwb hAs
      clear hwb hbb hgb hbw hAb hA hix hset hAs hst hzi hx hcx d2 hel hzb hxn
      go_upto_region 5 with fail
      rw [← HZ.out.1]
      go_region
      all_goals go_wp2_with fail
      all_goals
        go_roundg (N - (i + 1))
        case measure => omega
        case rel => exact ⟨i + 1, rfl, by omega, by go_num, HZ.out.2.below (Below.refl _ _).drew⟩
    · obtain rfl : i = N := by omega
      have k1 : ¬ (i : Int) < (i : Int) := by omega
      obtain ⟨E, hE⟩ : ∃ E, E = Ro.ends n c zs := ⟨_, rfl⟩
      have hEl : E.length = i := by rw [hE]; simp [Ro.ends]; exact HH.out.2.2.2.2.2.2.symm
      have hEb : ∀ z ∈ E, 0 ≤ z ∧ z < 1000000 := fun z hz => by
        rw [hE] at hz
        obtain ⟨y, hy, rfl⟩ := List.mem_map.1 hz
        have h1 := HH.out.2.2.2.2.1 y hy
        have h2 := cl_lt HH.out.2.2.2.1 y.2 (by omega)
        have hm0 : 0 ≤ y.1 * (n : Int) := Int.mul_nonneg h1.1.1 (by omega)
        have hm1 : y.1 * (n : Int) ≤ 300 * 1000 := Int.mul_le_mul h1.1.2 (by omega) (by omega) (by omega)
        omega
      rw [List.take_of_length_le (by have := HH.out.2.2.2.2.2.2; omega), ← hE, Nat.sub_self, List.replicate_zero, List.append_nil] at hA
      have hO : OwnI wr w.heap.size (.slice (some ⟨w.heap.size, 0, none⟩) E.length E.length) E := by
        have h1 := hA.own (by simp [iC, hEl]; unfold maxLen; omega)
        rw [show (iC E).length = E.length by simp [iC]] at h1
        exact h1
      have hS := sortI_any wr w.heap.size w.heap.size E.length E hO (by omega)
      have hfin : Ro.sd (Ro.ends n c zs) = Ro.sd (E.mergeSort fun x y => decide (x ≤ y)) := by rw [← hE, sd_sort]
      obtain ⟨E2, hE2⟩ : ∃ E2, E2 = E.mergeSort fun x y => decide (x ≤ y) := ⟨_, rfl⟩
      have hr2 : E2.Pairwise (· ≤ ·) := by rw [hE2]; exact sort_rise E
      have hl2 : E2.length = i := by rw [hE2, List.length_mergeSort]; exact hEl
      have hb2 : ∀ z ∈ Ro.sd E2, 0 ≤ z ∧ z < 1000000 := by rw [hE2]; exact ends_sort_mem hEb
      have hsl : (Ro.sd E2).length ≤ i := by have := Ro.sd_len E2; omega
      rw [← hE2] at hS hfin
      rw [hEl] at hS
      have H1 : Hid _ := And.intro hS (And.intro hA.bl (And.intro hr2 (And.intro hl2 (And.intro hb2 hfin))))
      clear hA hO hS hE hEl hEb hE2 hr2 hl2 hb2 hi hlt hfin
      go_wp2_with fail
      refine Calls.mono H1.out.1 ?_
      rintro r w2 ⟨rfl, hO2, hg2⟩
      have hbl2 : Below w.heap.size w w2 := H1.out.2.1.grown hg2 H1.out.2.1.size fun b e => by injection e with e; omega
      have H2 : Hid _ := And.intro hO2 hbl2
      clear hO2 hg2 hbl2
      go_wp2_with fail
      refine Calls.mono (Tryz.strconv_AppendInt_10 w.heap.size 0 (k : Int) (by omega) (by omega) (.slice none 0 0) [] w2 (World.ownsRow_nil _ _ _ _) H2.out.2.size (by omega) (HH.out.2.2.2.2.2.1.from H2.out.2)) ?_
      rintro r w3 ⟨tv, rfl, hO3, hb3, hk3⟩
      have hOI : OwnI w3 w.heap.size (.slice (some ⟨w.heap.size, 0, none⟩) E2.length i) E2 := by
        have h1 := H2.out.1
        rw [H1.out.2.2.2.1]
        refine trow_at h1 fun b hb => ?_
        obtain ⟨c1, hc1⟩ := row_cells h1 hb
        rw [hc1]
        exact hk3 b _ hc1 (by simp) (fun c fz e9 => by injection e9 with _ e9; exact absurd e9 (by decide))
      have hC := compactI_any w3 w.heap.size w.heap.size i E2 hOI H1.out.2.2.1
      rw [H1.out.2.2.2.1] at hC
      have htx : w3.ownsRow w.heap.size 5 1 tv (Lib.itoa (k : Int)).length (Lib.byteCells (Lib.itoa (k : Int))) := by simpa using hO3
      have H3 : Hid _ := And.intro hC (And.intro (H2.out.2.trans hb3) (And.intro htx (row_cells hOI rfl)))
      obtain ⟨at0, ct0, htv⟩ := row_shape htx
      subst htv
      clear hOI hC htx hO3 hb3 hk3
      go_wp2_with fail
      refine Calls.mono H3.out.1 ?_
      rintro r w4 ⟨rfl, hcur4, hg4⟩
      obtain ⟨es, hes⟩ : ∃ es, es = Ro.sd E2 := ⟨_, rfl⟩
      rw [← hes] at hcur4 hsl
      have hM0 : (Ro.sd E2).length = es.length := by rw [hes]
      rw [hM0]
      have hSg : SgAt w w4 w.heap.size (.slice at0 (Lib.itoa (k : Int)).length ct0) (Ro.sigL k (es.take 0)) es := by
        refine ⟨H3.out.2.1.grown hg4 H3.out.2.1.size (fun b e => by injection e with e; omega), Nat.le_refl _, hcur4, ?_⟩
        have e0 : Ro.sigL (k : Int) (es.take 0) = Lib.itoa (k : Int) := by simp [Ro.sigL, Ro.words]
        rw [e0]
        refine own_up H3.out.2.2.1 (Kept.of_grown hg4) fun b hb hF => ?_
        injection hF with hF
        obtain ⟨c1, hc1⟩ := H3.out.2.2.2
        exact own_bk H3.out.2.2.1 hc1 (by decide) (by rw [hF]; exact hb)
      have hb4 : ∀ z ∈ es, 0 ≤ z ∧ z < 1000000 := by rw [hes]; exact H1.out.2.2.2.2.1
      have H4 : Hid _ := And.intro hSg (And.intro hb4 (hes.trans H1.out.2.2.2.2.2.symm))
      obtain ⟨M, hM⟩ : ∃ M, M = es.length := ⟨_, rfl⟩
      rw [← hM] at hsl ⊢
      have HM : Hid (M = es.length) := hM
      clear hSg hb4 hes hM hcur4 hg4 hM0
      go_wp2_with fail
      go_loopg [10, 45] M (fun q tv jv wr => ∃ j : Nat, q = M - j ∧ j ≤ M ∧ jv = .int .i64 j ∧ SgAt w wr w.heap.size tv (Ro.sigL k (es.take j)) es)
      case atStart => exact ⟨0, rfl, Nat.zero_le _, rfl, H4.out.1⟩
      case round =>
        obtain ⟨j, rfl, hj, rfl, hG⟩ := hrel
        obtain ⟨w5, rfl⟩ : ∃ w5, w5 = wr := ⟨_, rfl⟩
        have hlen := Ro.sigL_len k (es.take j) (by omega) (by omega) (fun z hz => H4.out.2.1 z (List.mem_of_mem_take hz))
        have hpos := Ro.sigL_pos k (es.take j)
        obtain ⟨a5, c5, hv5, hc5⟩ := byte_row hG.text hpos
        subst hv5
        obtain ⟨tx, htx⟩ : ∃ tx, tx = Ro.sigL k (es.take j) := ⟨_, rfl⟩
        rw [← htx] at hG hlen hpos hc5 ⊢
        obtain ⟨T, hT⟩ : ∃ T, T = tx.length := ⟨_, rfl⟩
        have hTl : T ≤ 100000 := by rw [hT]; rw [List.length_take] at hlen; omega
        by_cases hjM : j < M
        · obtain ⟨z, hz⟩ : ∃ z, es[j]? = some z := ⟨es[j]'(by have := HM.out; omega), List.getElem?_eq_getElem _⟩
          have hzb := H4.out.2.1 z (List.mem_of_getElem? hz)
          have cz := hG.cell hz
          have p0 : (0 : Int) ≤ (j : Int) := by omega
          have p1 : (j : Int) < (M : Int) := by omega
          have hOz : w5.ownsRow w.heap.size 5 1 (.slice (some a5) T c5) T (Lib.byteCells tx) := by rw [hT]; exact hG.text
          have hml : T + 1 ≤ maxLen := by unfold maxLen; omega
          have hby : (T + 1) * 1 ≤ 140737488355328 := by omega
          have hle : w.heap.size ≤ (w5.alloc (.cells #[.int .u8 32] 5)).heap.size := by have := hG.bl.size; simp; omega
          rw [← hT]
          have HG : Hid _ := And.intro hG (And.intro hOz (And.intro htx (And.intro hz hT)))
          clear hG hOz htx hz hT hc5 hlen hpos
          go_upto_region 13 with (at_builtin; refine wpList_append_own_at _ rfl _ _ 156 rfl w.heap.size 5 i0 (.int .u8 0) 1 1 Tryz.underlying156 hi0 hz0 hz1 hz2 rfl (by decide) (.slice (some a5) T c5) T (Lib.byteCells tx) rfl (HG.out.2.1.alloc _) ⟨w5.heap.size, 0, none⟩ 1 1 [.int .u8 32] rfl rfl (World.news_of_block (cs := #[.int .u8 32]) (t := 5) (fr := (0, 0)) (heap_alloc_new w5 _)) (by simp [Value.oneCell']) hml hby hle ?_; intro v6 w6 hO6 hg6 hnil6 hat6; have H6 : Hid _ := And.intro hO6 hg6; clear hO6 hg6 hnil6 hat6)
          have hG6 := HG.out.1.sp (by rw [← HG.out.2.2.2.2]; exact H6.out.1) (by rw [← HG.out.2.2.2.2]; exact H6.out.2)
          have hN := Tryz.strconv_AppendInt_10 w.heap.size (T + 1) z (by omega) (by omega) v6 _ w6 H6.out.1 hG6.bl.size (by omega) (HH.out.2.2.2.2.2.1.from hG6.bl)
          have H7 : Hid _ := And.intro hN hG6
          clear hN hG6
          go_wp2_with fail
          refine Calls.mono H7.out.1 ?_
          rintro r w7 ⟨v7, rfl, hO7, hb7, hk7⟩
          have H8 : Hid _ := H7.out.2.num z (by rw [List.length_append, ← HG.out.2.2.2.2, show Lib.byteCells (tx ++ [32]) = Lib.byteCells tx ++ [.int .u8 32] by simp [Lib.byteCells]]; exact hO7) hb7 hk7
          clear hO7 hb7 hk7
          go_wp2_with fail
          go_roundg (M - (j + 1))
          case measure => omega
          case rel =>
            refine ⟨j + 1, rfl, by omega, by go_num, ?_⟩
            have h9 := H8.out
            rw [HG.out.2.2.1, List.append_assoc, show ([32] : List UInt8) ++ Lib.itoa z = 32 :: Lib.itoa z from rfl, Ro.sigL_snoc, ← take_succ_of HG.out.2.2.2.1] at h9
            exact h9
        · obtain rfl : j = M := by omega
          have p1 : ¬ (j : Int) < (j : Int) := by omega
          have hcv := run_convert_bytes_back (P := Tryz.prog) w5 156 9 5 a5 c5 tx Tryz.underlying156 Tryz.underlying5 Tryz.underlying9 hc5
          rw [List.take_of_length_le (by have := HM.out; omega)] at htx
          have HG : Hid _ := And.intro hG.bl htx
          clear hG htx hc5 hlen hpos hT
          go_wp2_with fail
          go_ret
          refine ⟨?_, HG.out.1⟩
          rw [HG.out.2, ← H4.out.2.2]
          rfl
end Go.Proofs.YtkiapldehlnndabGreatDoor
/- Contract of the program's parted: the classes of the round behind one. -/
namespace Go.Proofs.YtkiapldehlnndabGreatDoor
open Go.RowKit Go.Maps
attribute [local go_sem ↓] Go.wp_at_zero Go.wp_at_succ
structure Stp (w : World) (gs n : Nat) (out : Nat → List Ro.St) : Prop where
  row : ∀ i, i < n → ∃ a c, w.cell? ⟨gs, i, none⟩ = some (.slice a (out i).length c) ∧ BSteps.Has w (.slice a (out i).length c) (out i)
theorem Stp.below {w w' : World} {gs n : Nat} {out : Nat → List Ro.St} (h : Stp w gs n out) (hb : Below w.heap.size w w') : Stp w' gs n out :=
  ⟨fun i hi => by obtain ⟨a, c, h1, h2⟩ := h.row i hi; exact ⟨a, c, cell_up h1 hb, h2.below hb⟩⟩
def Fit (n : Nat) (out : Nat → List Ro.St) : Prop := ∀ i, i < n → (out i).length ≤ 10000 ∧ ∀ z ∈ out i, (0 ≤ z.1 ∧ z.1 ≤ 300) ∧ 0 ≤ z.2 ∧ z.2 < (n : Int)
def tkey (s : ByteArray) : Lit := .string s.data.toList
theorem tkey_inj {s t : ByteArray} (h : tkey s = tkey t) : s = t := by
  unfold tkey at h
  injection h with h
  cases s; cases t
  simp at h; simp [h]
theorem tkey_key (s : ByteArray) : WideAt.IsKeyLit (tkey s) := by unfold tkey; exact trivial
structure MapT (D : DataW Unit) (ns : List ByteArray) : Prop where
  yes : ∀ (i : Nat) (s : ByteArray), ns[i]? = some s → Maps.has D (tkey s) = true ∧ D.atKey (tkey s) (.lit (.int .i64 0)) = .lit (.int .i64 i)
  no : ∀ s : ByteArray, s ∉ ns → Maps.has D (tkey s) = false
  size : Maps.size D = ns.length
theorem MapT.nil : MapT (.map []) [] := ⟨fun i s h => by simp at h, fun s _ => rfl, rfl⟩
theorem MapT.snoc {D : DataW Unit} {ns : List ByteArray} (h : MapT D ns) (hD : IsMap D) (hT : Tidy D) (s : ByteArray) (hs : s ∉ ns) : MapT (D.put (tkey s) (.lit (.int .i64 ns.length))) (ns ++ [s]) := by
  refine ⟨fun i t ht => ?_, fun t ht => ?_, ?_⟩
  · rcases Nat.lt_or_ge i ns.length with hi | hi
    · rw [List.getElem?_append_left hi] at ht
      have hne : tkey t ≠ tkey s := fun e => hs (tkey_inj e ▸ List.mem_of_getElem? ht)
      rw [has_put_other hne, atKey_put_other hne]
      exact h.yes i t ht
    · rw [List.getElem?_append_right hi] at ht
      have hi0 : i - ns.length = 0 := by
        have := (List.getElem?_eq_some_iff.1 ht).1
        simp at this; omega
      rw [hi0] at ht
      simp at ht
      subst ht
      have : i = ns.length := by omega
      subst this
      exact ⟨has_put_same hD (tkey_key _) _, atKey_put_same hD (tkey_key _) _ _⟩
  · have hne : tkey t ≠ tkey s := fun e => ht (by rw [tkey_inj e]; simp)
    rw [has_put_other hne]
    exact h.no t fun hm => ht (by simp [hm])
  · rw [size_put hT, h.no s hs]
    simp [h.size]
def stx (n : Nat) (out : Nat → List Ro.St) (c : List Nat) (i : Nat) : ByteArray := sigB ((c[i]?).getD 0) (Ro.sd (Ro.ends n c (out i)))
def stxs (n : Nat) (out : Nat → List Ro.St) (c : List Nat) : List ByteArray := (List.range n).map (stx n out c)
theorem stxs_at {n i : Nat} (out : Nat → List Ro.St) (c : List Nat) (h : i < n) : (stxs n out c)[i]? = some (stx n out c i) := by
  unfold stxs
  rw [List.getElem?_map, List.getElem?_range h]; rfl
theorem ends_nonneg {n : Nat} {c : List Nat} {zs : List Ro.St} (hz : ∀ z ∈ zs, 0 ≤ z.1) : ∀ e ∈ Ro.sd (Ro.ends n c zs), 0 ≤ e := fun e he => by
  obtain ⟨z, hz1, rfl⟩ := List.mem_map.1 (Ro.mem_sd.1 he)
  have h1 : 0 ≤ z.1 * (n : Int) := Int.mul_nonneg (hz z hz1) (by omega)
  omega
theorem stxs_num {n : Nat} {out : Nat → List Ro.St} {c : List Nat} (hc : c.length = n) (hn : n ≤ 1000) (hcl : ∀ u ∈ c, u < n) (hF : Fit n out) : Ro.num (stxs n out c) = Ro.nx n out c := by
  unfold Ro.nx
  refine Ro.num_congr (by simp [stxs]) fun i j x y u v hx hy hu hv => ?_
  have hi : i < n := by have := (List.getElem?_eq_some_iff.1 hx).1; simpa [stxs] using this
  have hj : j < n := by have := (List.getElem?_eq_some_iff.1 hy).1; simpa [stxs] using this
  rw [stxs_at out c hi] at hx
  rw [stxs_at out c hj] at hy
  rw [Ro.key_at out c hi] at hu
  rw [Ro.key_at out c hj] at hv
  simp only [Option.some.injEq] at hx hy hu hv
  subst hx; subst hy; subst hu; subst hv
  have e1 : stx n out c i = stx n out c j ↔ Ro.sigL ((c[i]?).getD 0) (Ro.sd (Ro.ends n c (out i))) = Ro.sigL ((c[j]?).getD 0) (Ro.sd (Ro.ends n c (out j))) := by
    unfold stx sigB
    constructor
    · intro h; injection h with h; simpa using h
    · intro h; rw [h]
  rw [e1, Ro.sig_inj (by omega) (by omega) (ends_nonneg fun z hz => ((hF i hi).2 z hz).1.1) (ends_nonneg fun z hz => ((hF j hj).2 z hz).1.1)]
  unfold Ro.key
  rw [Prod.mk.injEq]
  have hM : ∀ t : Int, (Ro.cl c t : Int) < 1001 ∧ (Ro.cl c t : Int) < (n : Int) := fun t => by have := cl_lt hcl t (by omega); omega
  rw [Ro.ends_eq (fun z _ => (hM z.2).2) (fun z _ => (hM z.2).2), Ro.ends_eq (fun z _ => (hM z.2).1) (fun z _ => (hM z.2).1)]
structure PtAt (w wr : World) (ts : List ByteArray) (n i : Nat) (D : DataW Unit) (seen : List ByteArray) : Prop where
  arr : Arr 3 w wr (w.heap.size + 1) (natC (Ro.num (ts.take i)) ++ List.replicate (n - i) (.int .i64 0))
  own : wr.ownsMap (H := Unit) Tryz.prog 9 (plainElem Tryz.prog 3) w.heap.size seen.length D
  map : MapT D seen
theorem ownsMap_up {w w' : World} {k : TypeId} {R : Value → Option (DataW Unit × List MemPlace)} {b n : Nat} {D : DataW Unit} (h : w.ownsMap Tryz.prog k R b n D) (hb : w'.heap[b]? = w.heap[b]?) : w'.ownsMap Tryz.prog k R b n D := by
  obtain ⟨es, clock, h1, h2⟩ := h
  exact ⟨es, clock, hb.trans h1, h2⟩
theorem PtAt.below {w wr w' : World} {ts : List ByteArray} {n i : Nat} {D : DataW Unit} {seen : List ByteArray} (h : PtAt w wr ts n i D seen) (hb : Below wr.heap.size wr w') : PtAt w w' ts n i D seen :=
  ⟨h.arr.below hb, ownsMap_up h.own (hb.block _ h.own.lt), h.map⟩
theorem arr_mapTurn5 {w wr w3 : World} {gi : Nat} {vs : List Value} {bm : Nat} (h : Arr 3 w wr gi vs) (hg : wr.grownBy w3 (some bm)) (hb : w.heap.size ≤ bm) (hne : bm ≠ gi) : Arr 3 w w3 gi vs :=
  h.kept (Kept.of_grown hg) fun b e => by injection e with e; subst e; exact ⟨hb, hne⟩
theorem pt_step {w w3 w4 : World} {ts : List ByteArray} {n i k : Nat} {D2 : DataW Unit} {seen s2 : List ByteArray} {z : ByteArray} (hz : ts[i]? = some z) (hi : i < n) (hn : n = ts.length) (hs : seen = Ro.dd (ts.take i)) (hA : Arr 3 w w3 (w.heap.size + 1) (natC (Ro.num (ts.take i)) ++ List.replicate (n - i) (.int .i64 0)))
    (hk : k = Ro.place z seen) (h4 : w4 = w3.setCell ⟨w.heap.size + 1, i, none⟩ (.int .i64 (k : Int))) (ho : w3.ownsMap (H := Unit) Tryz.prog 9 (plainElem Tryz.prog 3) w.heap.size s2.length D2) (hm : MapT D2 s2) :
    PtAt w w4 ts n (i + 1) D2 s2 := by
  subst h4
  have hC : (Ro.num (ts.take i)).length = i := by rw [Ro.num_len, List.length_take]; omega
  have hAs := hA.set i (.int .i64 (k : Int))
  rw [natC_step _ n i k hC hi] at hAs
  refine ⟨?_, ho.setCell (by simp) _, hm⟩
  rw [take_succ_of hz, Ro.num_snoc, ← hs, ← hk]
  exact hAs
theorem Tryz.lawS5 : Keyed Tryz.prog 9 := string_keyed Tryz.underlying9
theorem Tryz.zeroI5 (w : World) : (zeroValue 3).run Tryz.prog w = .ok (.int .i64 0) w := by kernel_rfl
set_option maxRecDepth 100000 in
set_option maxHeartbeats 8000000 in
theorem parted_any (gs n : Nat) (out : Nat → List Ro.St) (c : List Nat) (vc : Value) (w : World) (hn : n ≤ 1000) (hc : c.length = n) (hcl : ∀ u ∈ c, u < n) (hF : Fit n out) (hS : Stp w gs n out) (hv : HasI w vc (natI c)) (hP : Pow w) :
    Calls Tryz.prog 50 #[.slice (some ⟨gs, 0, none⟩) n n, vc] w fun r w' => ∃ g, r = .returned (.slice (some ⟨g, 0, none⟩) n n) ∧ Arr 3 w w' g (natC (Ro.nx n out c)) := by
  have hv0 := hv
  obtain ⟨ac, cc, rfl, hcs⟩ := hv
  have hcn : (natI c).length = n := by simp [natI, hc]
  rw [hcn] at hv0 ⊢
  obtain ⟨ts, hts⟩ : ∃ ts, ts = stxs n out c := ⟨_, rfl⟩
  have htl : n = ts.length := by rw [hts]; simp [stxs]
  have hnum : Ro.num ts = Ro.nx n out c := by rw [hts]; exact stxs_num hc hn hcl hF
  have HH : Hid _ := And.intro hcs (And.intro hv0 (And.intro hc (And.intro hcl (And.intro hF (And.intro hS (And.intro hP (And.intro hts (And.intro htl hnum))))))))
  clear hcs hc hcl hF hS hv0 hP hcn hts htl hnum
  have hmm := @run_makeMap Tryz.prog
  have hmk := makeI n (by omega) (w.alloc (.map #[] 0))
  go_enter Tryz.func50, Tryz.ntmps50
  go_wp2_with fail
  clear hmk hmm
  go_loopg [18] n (fun q iv wr => ∃ (i : Nat) (D : DataW Unit) (seen : List ByteArray), q = n - i ∧ i ≤ n ∧ iv = .int .i64 i ∧ seen = Ro.dd (ts.take i) ∧ PtAt w wr ts n i D seen)
  case atStart =>
    refine ⟨0, .map [], [], rfl, Nat.zero_le _, rfl, by simp [Ro.dd], ?_, ?_, MapT.nil⟩
    · have h1 := arr_new 3 (.int .i64 0) rfl n (w.alloc (.map #[] 0))
      have h2 := h1.back ((Below.refl _ w).alloc (Nat.le_refl _) _)
      simpa [Ro.num, natC] using h2
    · have := World.ownsMap_made (H := Unit) w Tryz.prog 9 (plainElem Tryz.prog 3)
      exact this.alloc _
  case round =>
    obtain ⟨i, D, seen, rfl, hi, rfl, hseen, hM⟩ := hrel
    obtain ⟨w1, rfl⟩ : ∃ w1, w1 = wr := ⟨_, rfl⟩
    by_cases hlt : i < n
    · obtain ⟨x, hx⟩ : ∃ x, c[i]? = some x := ⟨c[i]'(by have := HH.out.2.2.1; omega), List.getElem?_eq_getElem _⟩
      have hxn := HH.out.2.2.2.1 x (List.mem_of_getElem? hx)
      obtain ⟨a, rfl, c0⟩ := HH.out.1 i (x : Int) (by simp [natI, hx])
      have cz : w1.cell? (a.add i) = some (.int .i64 x) := (hM.arr.bl.cell (World.block_lt_of_cell? w _ c0)).trans c0
      obtain ⟨ar, cr, cs, hrow⟩ := (HH.out.2.2.2.2.2.1.below hM.arr.bl).row i hlt
      have hfit := HH.out.2.2.2.2.1 i hlt
      have hSg := signature_any x n c (out i) _ _ w1 (by omega) hn HH.out.2.2.1 HH.out.2.2.2.1 hfit.2 hfit.1 hrow (HH.out.2.1.below hM.arr.bl) (HH.out.2.2.2.2.2.2.1.below hM.arr.bl)
      obtain ⟨s, hs⟩ : ∃ s, s = stx n out c i := ⟨_, rfl⟩
      have hse : sigB (x : Int) (Ro.sd (Ro.ends n c (out i))) = s := by rw [hs]; unfold stx; rw [hx]; rfl
      rw [hse] at hSg
      have hsz : s.size ≤ 100000 := by
        rw [← hse]
        have h1 := Ro.sigL_len x (Ro.sd (Ro.ends n c (out i))) (by omega) (by omega) (fun e he => by
          obtain ⟨z, hz1, rfl⟩ := List.mem_map.1 (Ro.mem_sd.1 he)
          have h1 := hfit.2 z hz1
          have h2 := cl_lt HH.out.2.2.2.1 z.2 (by omega)
          have hm0 : 0 ≤ z.1 * (n : Int) := Int.mul_nonneg h1.1.1 (by omega)
          have hm1 : z.1 * (n : Int) ≤ 300 * 1000 := Int.mul_le_mul h1.1.2 (by omega) (by omega) (by omega)
          omega)
        have h2 := Ro.sd_len (Ro.ends n c (out i))
        have h3 : (Ro.ends n c (out i)).length = (out i).length := by simp [Ro.ends]
        have h4 : (sigB (x : Int) (Ro.sd (Ro.ends n c (out i)))).size = (Ro.sigL x (Ro.sd (Ro.ends n c (out i)))).length := by simp [sigB, ByteArray.size]
        omega
      have hti : ts[i]? = some s := by rw [HH.out.2.2.2.2.2.2.2.1, hs]; exact stxs_at out c hlt
      have hkey : keyOf Tryz.prog 9 (.string s) = some (tkey s) := Go.WideMaps.keyOf_string_mk Tryz.underlying9 (by unfold maxLen; omega)
      obtain ⟨Lr, hLr⟩ : ∃ Lr, Lr = (out i).length := ⟨_, rfl⟩
      rw [← hLr] at hSg cs
      have q0 : (0 : Int) ≤ (i : Int) := by omega
      have q1 : (i : Int) < (n : Int) := by omega
      have hsl : seen.length ≤ i := by
        have := Ro.dd_le (ts.take i)
        rw [← hseen, List.length_take] at this
        omega
      have hix : (natC (Ro.num (ts.take i)) ++ List.replicate (n - i) (Value.int .i64 0))[i]? = some (.int .i64 0) := by
        have hnl := HH.out.2.2.2.2.2.2.2.2.1
        rw [List.getElem?_append_right (by rw [natC_len, Ro.num_len, List.length_take]; omega), natC_len, Ro.num_len, List.length_take, List.getElem?_replicate, if_pos (by omega)]
      have HS : Hid _ := And.intro hSg (And.intro hM (And.intro hseen (And.intro hti hix)))
      clear hSg hM hseen hti hx hrow hfit hse hs hLr c0 hsz hix
      go_upto_region 7 with (go_at_call 71; refine Calls.mono HS.out.1 ?_; rintro r w2 ⟨rfl, hb2⟩; have HB2 : Hid _ := hb2; clear hb2)
      have hM2 := HS.out.2.1.below HB2.out
      by_cases hin : s ∈ seen
      · obtain ⟨hy1, hy2⟩ := hM2.map.yes _ s (Ro.place_at hin)
        have cx := hM2.arr.cell HS.out.2.2.2.2
        have cf := hM2.arr.free i
        have HO : Hid (w2.ownsMap (H := Unit) Tryz.prog 9 (plainElem Tryz.prog 3) w.heap.size seen.length D) := hM2.own
        have HY : Hid (D.atKey (tkey s) (.lit (.int .i64 0)) = .lit (.int .i64 (Ro.place s seen : Nat))) := hy2
        have HM : Hid _ := And.intro hM2 (And.intro trivial hin)
        clear hM2 hy2 hin
        obtain ⟨k, hk⟩ : ∃ k, k = Ro.place s seen := ⟨_, rfl⟩
        rw [← hk] at HY
        have HK : Hid (k = Ro.place s seen) := hk
        clear hk
        go_wp2_with (at_lookup; refine wpList_lookup_own_ok_int _ rfl _ _ 143 rfl 9 3 .i64 Tryz.lawS5 Tryz.underlying143 Tryz.underlying3 (Tryz.zeroI5 _) w.heap.size seen.length D rfl HO.out _ _ rfl hkey ?_; rw [hy1]; intro c hat hwc; obtain rfl : c = (k : Int) := (by rw [HY.out] at hat; injection hat with hat; injection hat with _ hat; exact hat.symm); clear hat hwc)
        go_roundg (n - (i + 1))
        case measure => omega
        case rel =>
          exact ⟨i + 1, D, seen, rfl, by omega, by go_num, by rw [take_succ_of HS.out.2.2.2.1, Ro.dd_snoc, ← HS.out.2.2.1]; unfold Ro.more; rw [if_pos HM.out.2.2], pt_step HS.out.2.2.2.1 hlt HH.out.2.2.2.2.2.2.2.2.1 HS.out.2.2.1 HM.out.1.arr HK.out rfl HO.out HM.out.1.map⟩
      · have hy1 := hM2.map.no s hin
        have HO : Hid (w2.ownsMap (H := Unit) Tryz.prog 9 (plainElem Tryz.prog 3) w.heap.size seen.length D) := hM2.own
        have hml : seen.length < maxLen := by unfold maxLen; omega
        have hsz : Maps.size D = seen.length := hM2.map.size
        obtain ⟨m, hm⟩ : ∃ m, m = seen.length := ⟨_, rfl⟩
        have HM : Hid _ := And.intro hM2 (And.intro hin hm)
        rw [← hm] at HO hml hsz hsl
        have hwf : (Lit.int .i64 (m : Int)).wf = true := WalkArith.wf_i64 (by omega)
        have HZ : Hid _ := hsz
        clear hM2 hin hm hsz
        go_wp2_with (first
          | (at_lookup; refine wpList_lookup_own_ok_int _ rfl _ _ 143 rfl 9 3 .i64 Tryz.lawS5 Tryz.underlying143 Tryz.underlying3 (Tryz.zeroI5 _) w.heap.size m D rfl HO.out _ _ rfl hkey ?_; rw [hy1]; intro c hat hwc; clear hat hwc)
          | (at_len; refine wpList_len_own _ rfl _ 143 rfl 9 3 Tryz.underlying143 _ w.heap.size m D rfl HO.out ?_; rw [HZ.out])
          | (at_mapUpdate; refine wpList_mapUpdate_own _ rfl _ _ _ 143 rfl 9 3 Tryz.lawS5 Tryz.underlying143 _ w.heap.size m D rfl HO.out hml _ _ _ rfl rfl hkey _ [] (plainElem_int Tryz.underlying3 hwf) ?_; intro w3 hown3 hgrow3; have hA3 := arr_mapTurn5 HM.out.1.arr hgrow3 (Nat.le_refl _) (by omega); have cx := hA3.cell HS.out.2.2.2.2; have cf := hA3.free i; have H3 : Hid _ := And.intro hA3 hown3; clear hA3 hown3 hgrow3))
        go_roundg (n - (i + 1))
        case measure => omega
        case rel =>
          have hm := HM.out.2.2
          have h3 := H3.out.2
          have hmp := HM.out.1.map.snoc HM.out.1.own.isMap (HM.out.1.own.tidy Tryz.lawS5) s HM.out.2.1
          rw [← hm] at hmp
          have el : m + 1 = (seen ++ [s]).length := by simp [hm]
          rw [el] at h3
          exact ⟨i + 1, _, seen ++ [s], rfl, by omega, by go_num, by rw [take_succ_of HS.out.2.2.2.1, Ro.dd_snoc, ← HS.out.2.2.1]; unfold Ro.more; rw [if_neg HM.out.2.1], pt_step HS.out.2.2.2.1 hlt HH.out.2.2.2.2.2.2.2.2.1 HS.out.2.2.1 H3.out.1 (by rw [Ro.place_no HM.out.2.1, hm]) rfl h3 hmp⟩
    · obtain rfl : i = n := by omega
      have q1 : ¬ (i : Int) < (i : Int) := by omega
      have HM : Hid _ := hM.arr
      clear hM hseen
      go_wp2_with fail
      go_ret
      have hA := HM.out
      have hl : i = ts.length := HH.out.2.2.2.2.2.2.2.2.1
      rw [hl, Nat.sub_self, List.replicate_zero, List.append_nil, List.take_length, HH.out.2.2.2.2.2.2.2.2.2] at hA
      exact ⟨_, rfl, hA⟩
end Go.Proofs.YtkiapldehlnndabGreatDoor
/- Plain facts on rows of edges in order: how many come ahead of a row, and where a row stands. -/
namespace Go.Proofs.YtkiapldehlnndabGreatDoor.Sy
def cnt (l : List Ed) (r : Int) : Nat := (l.filter fun e => decide (e.1 < r)).length
def Rows (l : List Ed) : Prop := l.Pairwise fun a b => a.1 ≤ b.1
theorem cnt_le (l : List Ed) (r : Int) : cnt l r ≤ l.length := List.length_filter_le _ _
theorem cnt_all {l : List Ed} {r : Int} (h : ∀ e ∈ l, e.1 < r) : cnt l r = l.length := by
  unfold cnt
  rw [List.filter_eq_self.2 fun e he => by simpa using h e he]
theorem cnt_none {l : List Ed} {r : Int} (h : ∀ e ∈ l, ¬ e.1 < r) : cnt l r = 0 := by
  unfold cnt
  rw [List.filter_eq_nil_iff.2 fun e he => by simpa using h e he]
  rfl
theorem cnt_cons (e : Ed) (l : List Ed) (r : Int) : cnt (e :: l) r = (if e.1 < r then 1 else 0) + cnt l r := by
  unfold cnt
  rw [List.filter_cons]
  by_cases h : e.1 < r
  · simp [h]; omega
  · simp [h]
theorem cnt_snoc (l : List Ed) (e : Ed) (r : Int) : cnt (l ++ [e]) r = cnt l r + if e.1 < r then 1 else 0 := by
  unfold cnt
  rw [List.filter_append, List.length_append]
  by_cases h : e.1 < r <;> simp [h]
theorem cnt_mono (l : List Ed) (r : Int) : cnt l r ≤ cnt l (r + 1) := by
  induction l with
  | nil => simp [cnt]
  | cons e t ih =>
    rw [cnt_cons, cnt_cons]
    by_cases h : e.1 < r
    · have h2 : e.1 < r + 1 := by omega
      simp [h, h2]; exact ih
    · by_cases h2 : e.1 < r + 1 <;> simp [h, h2] <;> omega
theorem row_piece {l : List Ed} (h : Rows l) (i : Int) : l.filter (fun e => e.1 == i) = (l.drop (cnt l i)).take (cnt l (i + 1) - cnt l i) := by
  induction l with
  | nil => simp
  | cons e r ih =>
    obtain ⟨h1, h2⟩ := List.pairwise_cons.1 h
    have ih := ih h2
    rw [cnt_cons, cnt_cons]
    by_cases c1 : e.1 < i
    · have c2 : e.1 < i + 1 := by omega
      have c3 : (e.1 == i) = false := by simp; omega
      rw [List.filter_cons, c3, if_pos c1, if_pos c2, Nat.add_comm 1 (cnt r i), List.drop_succ_cons]
      have e1 : 1 + cnt r (i + 1) - (cnt r i + 1) = cnt r (i + 1) - cnt r i := by omega
      rw [e1]
      simpa using ih
    · have hz : cnt r i = 0 := cnt_none fun x hx => by have := h1 x hx; omega
      by_cases c2 : e.1 = i
      · have c3 : (e.1 == i) = true := by simp [c2]
        have c4 : e.1 < i + 1 := by omega
        rw [List.filter_cons, c3, if_neg c1, if_pos c4, hz]
        rw [hz] at ih
        simp only [List.drop_zero, Nat.sub_zero, if_true] at ih ⊢
        rw [ih, Nat.add_comm 1]
        simp
      · have c3 : (e.1 == i) = false := by simpa using c2
        have c4 : ¬ e.1 < i + 1 := by omega
        have hz2 : cnt r (i + 1) = 0 := cnt_none fun x hx => by have := h1 x hx; omega
        rw [List.filter_cons, c3, if_neg c1, if_neg c4, hz, hz2]
        rw [hz, hz2] at ih
        simpa using ih
def lastOf (l : List Ed) (r : Int) : Nat := (l.foldl (fun (p : Nat × Nat) e => (p.1 + 1, if e.1 = r then p.1 + 1 else p.2)) (0, 0)).2
theorem last_fst (r : Int) (l : List Ed) : ∀ p : Nat × Nat, (l.foldl (fun (p : Nat × Nat) (e : Ed) => (p.1 + 1, if e.1 = r then p.1 + 1 else p.2)) p).1 = p.1 + l.length := by
  induction l with
  | nil => intro p; rfl
  | cons e t ih => intro p; rw [List.foldl_cons, ih]; simp; omega
theorem last_snoc (l : List Ed) (e : Ed) (r : Int) : lastOf (l ++ [e]) r = if e.1 = r then l.length + 1 else lastOf l r := by
  unfold lastOf
  rw [List.foldl_append]
  simp only [List.foldl_cons, List.foldl_nil, last_fst, Nat.zero_add]
theorem last_none {l : List Ed} {r : Int} (h : ∀ e ∈ l, e.1 ≠ r) : ∀ i, i ≤ l.length → lastOf (l.take i) r = 0 := by
  intro i
  induction i with
  | zero => intro _; rfl
  | succ i ih =>
    intro hi
    obtain ⟨x, hx⟩ : ∃ x, l[i]? = some x := ⟨l[i], List.getElem?_eq_getElem _⟩
    rw [take_succ_of hx, last_snoc, if_neg (h x (List.mem_of_getElem? hx))]
    exact ih (by omega)
theorem rows_take {l : List Ed} (h : Rows l) {i : Nat} {x : Ed} (hx : l[i]? = some x) : ∀ e ∈ l.take i, e.1 ≤ x.1 := fun e he => by
  obtain ⟨j, hj, rfl⟩ := List.mem_take_iff_getElem.1 he
  obtain ⟨hi, rfl⟩ := List.getElem?_eq_some_iff.1 hx
  exact List.pairwise_iff_getElem.1 h j i (by omega) hi (by omega)
theorem cnt_last {l : List Ed} (h : Rows l) (r : Int) : ∀ i, i ≤ l.length → cnt (l.take i) (r + 1) = max (lastOf (l.take i) r) (cnt (l.take i) r) := by
  intro i
  induction i with
  | zero => intro _; simp [cnt, lastOf]
  | succ i ih =>
    intro hi
    obtain ⟨x, hx⟩ : ∃ x, l[i]? = some x := ⟨l[i], List.getElem?_eq_getElem _⟩
    have hle := rows_take h hx
    have hlen : (l.take i).length = i := by rw [List.length_take]; omega
    rw [take_succ_of hx, cnt_snoc, cnt_snoc, last_snoc, hlen]
    by_cases c1 : x.1 = r
    · have e1 : cnt (l.take i) (r + 1) = i := by rw [cnt_all fun e he => by have := hle e he; omega]; exact hlen
      have e2 := cnt_le (l.take i) r
      rw [hlen] at e2
      rw [e1, if_pos (by omega), if_pos c1, if_neg (by omega)]
      omega
    · by_cases c2 : x.1 < r
      · have e1 : cnt (l.take i) (r + 1) = i := by rw [cnt_all fun e he => by have := hle e he; omega]; exact hlen
        have e2 : cnt (l.take i) r = i := by rw [cnt_all fun e he => by have := hle e he; omega]; exact hlen
        have e3 := last_none (l := l.take i) (r := r) (fun e he => by have := hle e he; omega) i (by rw [hlen]; exact Nat.le_refl _)
        rw [List.take_take, Nat.min_self] at e3
        rw [e1, e2, e3, if_pos (by omega), if_neg c1, if_pos c2]
        omega
      · rw [if_neg (by omega), if_neg c1, if_neg c2]
        exact ih (by omega)
def mixL (n : Nat) (l : List Ed) (st : Nat) : List Int := (List.range (n + 1)).map fun (r : Nat) => if r ≤ st then ((cnt l (r : Int) : Nat) : Int) else ((lastOf l ((r : Int) - 1) : Nat) : Int)
def bndL (n : Nat) (l : List Ed) : List Int := (List.range (n + 1)).map fun (r : Nat) => if r = 0 then 0 else ((lastOf l ((r : Int) - 1) : Nat) : Int)
def bounds (n : Nat) (l : List Ed) : List Int := (List.range (n + 1)).map fun (r : Nat) => ((cnt l (r : Int) : Nat) : Int)
theorem bnd_zero (n : Nat) : bndL n [] = List.replicate (n + 1) 0 := by
  unfold bndL
  rw [List.eq_replicate_iff]
  refine ⟨by simp, fun b hb => ?_⟩
  obtain ⟨r, _, rfl⟩ := List.mem_map.1 hb
  split <;> simp [lastOf]
theorem bnd_step {l : List Ed} {n i : Nat} {x : Ed} (hx : l[i]? = some x) {q : Nat} (hq : x.1 = (q : Int)) : (bndL n (l.take i)).set (q + 1) ((i : Int) + 1) = bndL n (l.take (i + 1)) := by
  have hlen : (l.take i).length = i := by rw [List.length_take]; have := (List.getElem?_eq_some_iff.1 hx).1; omega
  apply List.ext_getElem?
  intro r
  rw [List.getElem?_set]
  unfold bndL
  simp only [List.length_map, List.length_range, List.getElem?_map]
  by_cases hr : r < n + 1
  · rw [List.getElem?_range hr, take_succ_of hx]
    simp only [Option.map_some, last_snoc, hlen, hq]
    by_cases e : q + 1 = r
    · subst e
      rw [if_pos rfl, if_pos hr, if_neg (by omega), if_pos (by omega)]
      rfl
    · rw [if_neg e]
      by_cases e0 : r = 0
      · rw [if_pos e0, if_pos e0]
      · rw [if_neg e0, if_neg e0, if_neg (by omega)]
  · rw [List.getElem?_eq_none (by simp; omega)]
    by_cases e : q + 1 = r
    · rw [if_pos e, if_neg (by omega)]; rfl
    · rw [if_neg e]; rfl
theorem mix_zero {n : Nat} {l : List Ed} (h : ∀ e ∈ l, 0 ≤ e.1) : mixL n l 0 = bndL n l := by
  unfold mixL bndL
  apply List.map_congr_left
  intro r _
  by_cases e : r = 0
  · subst e
    simp only [Nat.le_refl, if_true]
    rw [cnt_none fun x hx => by have := h x hx; omega]
    rfl
  · rw [if_neg (by omega), if_neg e]
theorem mix_full (n : Nat) (l : List Ed) : mixL n l n = bounds n l := by
  unfold mixL bounds
  apply List.map_congr_left
  intro r hr
  have := List.mem_range.1 hr
  rw [if_pos (by omega)]
theorem mix_at {n st r : Nat} {l : List Ed} (hr : r ≤ n) : (mixL n l st)[r]? = some (if r ≤ st then ((cnt l (r : Int) : Nat) : Int) else ((lastOf l ((r : Int) - 1) : Nat) : Int)) := by
  unfold mixL
  rw [List.getElem?_map, List.getElem?_range (by omega)]
  rfl
theorem bounds_at {n r : Nat} {l : List Ed} (hr : r ≤ n) : (bounds n l)[r]? = some ((cnt l (r : Int) : Nat) : Int) := by
  unfold bounds
  rw [List.getElem?_map, List.getElem?_range (by omega)]
  rfl
theorem mix_step {n st : Nat} {l : List Ed} (h : Rows l) : (mixL n l st).set (st + 1) (((max (lastOf l (st : Int)) (cnt l (st : Int)) : Nat)) : Int) = mixL n l (st + 1) := by
  have hc := cnt_last h (st : Int) l.length (Nat.le_refl _)
  rw [List.take_length] at hc
  apply List.ext_getElem?
  intro r
  rw [List.getElem?_set]
  unfold mixL
  simp only [List.length_map, List.length_range, List.getElem?_map]
  by_cases hr : r < n + 1
  · rw [List.getElem?_range hr]
    simp only [Option.map_some]
    by_cases e : st + 1 = r
    · subst e
      rw [if_pos rfl, if_pos hr, if_pos (Nat.le_refl _), ← hc]
      rfl
    · rw [if_neg e]
      by_cases e2 : r ≤ st
      · rw [if_pos e2, if_pos (by omega)]
      · rw [if_neg e2, if_neg (by omega)]
  · rw [List.getElem?_eq_none (by simp; omega)]
    by_cases e : st + 1 = r
    · rw [if_pos e, if_neg (by omega)]; rfl
    · rw [if_neg e]; rfl
end Go.Proofs.YtkiapldehlnndabGreatDoor.Sy
/- The book's lists of Edges: what it holds in memory, and contracts of the book's parts over them. (Written by mkbx.py out of BX.tmpl.) -/
namespace Go.Proofs.YtkiapldehlnndabGreatDoor.BEdges
open Go.RowKit Go.Maps
attribute [local go_sem ↓] Go.wp_at_zero Go.wp_at_succ
abbrev El : Type := Int × Int × Int
def enc (z : El) : List Value := [.int .i64 z.1, .int .i64 z.2.1, .int .i64 z.2.2]
def C (zs : List El) : List Value := zs.flatMap enc
theorem enc_len (z : El) : (enc z).length = 3 := rfl
theorem C_len (zs : List El) : (C zs).length = zs.length * 3 := by
  unfold C
  induction zs with
  | nil => rfl
  | cons z r ih => rw [List.flatMap_cons, List.length_append, ih, enc_len, List.length_cons]; omega
theorem C_app (a b : List El) : C (a ++ b) = C a ++ C b := List.flatMap_append
theorem C_one (zs : List El) : ∀ u ∈ C zs, u.oneCell' = true := fun u hu => by
  obtain ⟨z, _, hz⟩ := List.mem_flatMap.1 hu
  simp only [enc, List.mem_cons, List.not_mem_nil, or_false] at hz
  rcases hz with rfl | rfl | rfl <;> rfl
theorem C_at : ∀ (zs : List El) (k : Nat) (z : El), zs[k]? = some z → ∀ q, q < 3 → (C zs)[k * 3 + q]? = (enc z)[q]?
  | [], _, _, h, _, _ => by simp at h
  | y :: r, 0, z, h, q, hq => by
    simp at h
    subst h
    show (enc y ++ C r)[0 * 3 + q]? = _
    rw [List.getElem?_append_left (by rw [enc_len]; omega)]
    congr 1
    omega
  | y :: r, k + 1, z, h, q, hq => by
    have ih := C_at r k z (by simpa using h) q hq
    show (enc y ++ C r)[(k + 1) * 3 + q]? = _
    rw [List.getElem?_append_right (by rw [enc_len]; omega), enc_len, ← ih]
    congr 1
    omega
theorem C_set (zs : List El) {k : Nat} (hk : k < zs.length) (x : El) : C (zs.set k x) = ((((C zs).set (k * 3) (.int .i64 x.1)).set (k * 3 + 1) (.int .i64 x.2.1)).set (k * 3 + 2) (.int .i64 x.2.2)) := by
  apply List.ext_getElem?
  intro j
  by_cases hj : j / 3 = k
  · obtain ⟨q, hq, rfl⟩ : ∃ q, q < 3 ∧ j = k * 3 + q := ⟨j % 3, Nat.mod_lt _ (by decide), by omega⟩
    rw [C_at (zs.set k x) k x (List.getElem?_set_self hk) q hq]
    have hl : (C zs).length = zs.length * 3 := C_len zs
    have hq' : q = 0 ∨ q = 1 ∨ q = 2 := by omega
    rcases hq' with rfl | rfl | rfl <;> simp [List.getElem?_set, hl, enc] <;> omega
  · have e : (C (zs.set k x))[j]? = (C zs)[j]? := by
      rcases Nat.lt_or_ge (j / 3) zs.length with h | h
      · obtain ⟨z, hz⟩ : ∃ z, zs[j / 3]? = some z := ⟨_, List.getElem?_eq_getElem h⟩
        have hz' : (zs.set k x)[j / 3]? = some z := by rw [List.getElem?_set_ne (fun e => hj e.symm)]; exact hz
        have e0 : j = j / 3 * 3 + j % 3 := by omega
        rw [e0, C_at _ _ z hz' _ (Nat.mod_lt _ (by decide)), C_at _ _ z hz _ (Nat.mod_lt _ (by decide))]
      · rw [List.getElem?_eq_none (by rw [C_len, List.length_set]; omega), List.getElem?_eq_none (by rw [C_len]; omega)]
    rw [e]
    rw [List.getElem?_set_ne (by omega), List.getElem?_set_ne (by omega), List.getElem?_set_ne (by omega)]
def Own (w : World) (B : Nat) (v : Value) (zs : List El) : Prop := w.ownsRow B 33 3 v zs.length (C zs)
def Has (w : World) (v : Value) (zs : List El) : Prop := ∃ ao cap, v = .slice ao zs.length cap ∧ ∀ (j : Nat) (u : Value), (C zs)[j]? = some u → ∃ a, ao = some a ∧ w.cell? (a.add j) = some u
theorem Has.below {w w' : World} {v : Value} {zs : List El} (h : Has w v zs) (hb : Below w.heap.size w w') : Has w' v zs := by
  obtain ⟨ao, cap, h1, h2⟩ := h
  refine ⟨ao, cap, h1, fun i p hi => ?_⟩
  obtain ⟨a, ha, c0⟩ := h2 i p hi
  exact ⟨a, ha, (hb.cell (World.block_lt_of_cell? w _ c0)).trans c0⟩
theorem C_nil {zs : List El} (h : zs ≠ []) : ∃ u, (C zs)[0]? = some u := by
  cases zs with
  | nil => exact absurd rfl h
  | cons z r =>
    have h1 := C_at (z :: r) 0 z rfl 0 (by decide)
    have h2 : (enc z)[0]? = some ((enc z)[0]'(by rw [enc_len]; decide)) := List.getElem?_eq_getElem _
    exact ⟨_, h1.trans h2⟩
theorem Own.at {w : World} {B g cap n : Nat} {zs : List El} (h : Own w B (.slice (some ⟨g, 0, none⟩) n cap) zs) {j : Nat} {u : Value} (hj : (C zs)[j]? = some u) : w.cell? ⟨g, j, none⟩ = some u := by
  obtain ⟨ao', cap', hv⟩ := row_shape h
  injection hv with _ e _
  subst e
  have h' : w.ownsRow B 33 3 (.slice (some ⟨g, 0, none⟩) zs.length cap) zs.length (C zs) := h
  rw [h'.cellAt j (by rw [← h'.1]; exact (List.getElem?_eq_some_iff.1 hj).1), hj]
theorem Own.has {w : World} {B : Nat} {v : Value} {zs : List El} (h : Own w B v zs) : Has w v zs := by
  obtain ⟨ao, cap, hv⟩ := row_shape h
  refine ⟨ao, cap, hv, fun j u hj => ?_⟩
  have hlt := (List.getElem?_eq_some_iff.1 hj).1
  rw [C_len] at hlt
  obtain ⟨g, c, hf, _, _⟩ := World.ownsRow.form h (by omega)
  rw [hv] at hf
  injection hf with e1 e2 e3
  subst e1; subst e3
  refine ⟨_, rfl, ?_⟩
  rw [addz]
  rw [hv] at h
  exact Own.at h hj
theorem add_q (a : Addr) (m q : Nat) : (a.add m).add q = a.add (m + q) := by
  unfold Addr.add
  by_cases h1 : m = 0 <;> by_cases h2 : q = 0 <;> simp [h1, h2] <;> omega
theorem copy_of {w : World} {ao : Option Addr} {n cap : Nat} {zs : List El} (h : Has w (.slice ao n cap) zs) : (ao = none → n = 0) ∧ ∀ ad, ao = some ad → ∀ j u, (C zs)[j]? = some u → w.cell? (ad.add j) = some u := by
  obtain ⟨ao', cap', hv, h2⟩ := h
  injection hv with e1 e2 e3
  subst e1
  refine ⟨fun e => ?_, fun ad e j u hj => ?_⟩
  · rw [e2]
    by_cases hz : zs = []
    · rw [hz]; rfl
    · obtain ⟨u, hu⟩ := C_nil hz
      obtain ⟨a, ha, _⟩ := h2 0 u hu
      rw [e] at ha; cases ha
  · obtain ⟨a, ha, hc⟩ := h2 j u hj
    rw [e] at ha
    cases ha
    exact hc
def mk1 (i k : Nat) : El := (-1 - (i : Int), (k : Int), 7)
def marks (i f n : Nat) : List El := (List.range n).map fun k => mk1 i (f + k)
theorem Tryz.infoE : (Tryz.prog.info? 33).map (fun i => (i.zero, i.size, i.bytes)) = some (some (.agg #[.int .i64 0, .int .i64 0, .int .i64 0]), 3, 24) := by kernel_rfl
theorem C_snoc (zs : List El) (z : El) : C (zs ++ [z]) = C zs ++ enc z := by
  rw [C_app]
  show _ ++ (enc z ++ []) = _
  rw [List.append_nil]
end Go.Proofs.YtkiapldehlnndabGreatDoor.BEdges
/- Contracts of the document's Right and Check of systems. -/
namespace Go.Proofs.YtkiapldehlnndabGreatDoor
open Go.RowKit Go.Maps
attribute [local go_sem ↓] Go.wp_at_zero Go.wp_at_succ
def sysV (n k s : Int) (v : Value) : Value := .agg #[.int .i64 n, .int .i64 k, .int .i64 s, v]
theorem four_cells {w : World} {b : Nat} {x0 x1 x2 x3 : Value} {t : TypeId} (h : w.heap[b]? = some (.cells #[x0, x1, x2, x3] t (0, 0))) : w.cell? ⟨b, 0, none⟩ = some x0 ∧ w.cell? ⟨b, 1, none⟩ = some x1 ∧ w.cell? ⟨b, 2, none⟩ = some x2 ∧ w.cell? ⟨b, 3, none⟩ = some x3 := by
  simp [World.cell?, h]
theorem edge_at {w : World} {ao : Option Addr} {n cap : Nat} {es : List BEdges.El} (h : BEdges.Has w (.slice ao n cap) es) {j : Nat} {z : BEdges.El} (hz : es[j]? = some z) :
    ∃ a, ao = some a ∧ w.cell? (a.add (j * 3)) = some (.int .i64 z.1) ∧ w.cell? ⟨(a.add (j * 3)).block, (a.add (j * 3)).off + 1, none⟩ = some (.int .i64 z.2.1) ∧ w.cell? ⟨(a.add (j * 3)).block, (a.add (j * 3)).off + 2, none⟩ = some (.int .i64 z.2.2) := by
  obtain ⟨ao', cap', hv, hc⟩ := h
  injection hv with e1 e2 e3
  subst e1
  obtain ⟨a, rfl, c0⟩ := hc (j * 3 + 0) _ ((BEdges.C_at es j z hz 0 (by decide)).trans rfl)
  obtain ⟨a1, e1, c1⟩ := hc (j * 3 + 1) _ ((BEdges.C_at es j z hz 1 (by decide)).trans rfl)
  cases e1
  obtain ⟨a2, e2, c2⟩ := hc (j * 3 + 2) _ ((BEdges.C_at es j z hz 2 (by decide)).trans rfl)
  cases e2
  refine ⟨a, rfl, by simpa using c0, ?_, ?_⟩
  · rw [← BEdges.add_q] at c1; exact c1
  · rw [← BEdges.add_q] at c2; exact c2
def edgeOk (n k : Int) (e : Sy.Ed) : Bool := decide (0 ≤ e.1 ∧ e.1 < n ∧ 0 ≤ e.2.2 ∧ e.2.2 < n ∧ 0 ≤ e.2.1 ∧ e.2.1 < k)
end Go.Proofs.YtkiapldehlnndabGreatDoor
/- Contracts of the document's less and Sorted of edges. -/
namespace Go.Proofs.YtkiapldehlnndabGreatDoor
open Go.RowKit Go.Maps
attribute [local go_sem ↓] Go.wp_at_zero Go.wp_at_succ
def edV (a : Sy.Ed) : Value := .agg #[.int .i64 a.1, .int .i64 a.2.1, .int .i64 a.2.2]
def HasE (w : World) (v : Value) (es : List Sy.Ed) : Prop := ∃ ao cap, v = .slice ao es.length cap ∧ es.length ≤ cap ∧ BEdges.Has w v es
end Go.Proofs.YtkiapldehlnndabGreatDoor
/- Contract of the document's Sorted of edges. -/
namespace Go.Proofs.YtkiapldehlnndabGreatDoor
open Go.RowKit Go.Maps
attribute [local go_sem ↓] Go.wp_at_zero Go.wp_at_succ
end Go.Proofs.YtkiapldehlnndabGreatDoor
/- errors.Is at a fault of package api that wraps one of api's errors, and a target that is one of api's errors: true just if it is that one. -/
namespace Go.Proofs.YtkiapldehlnndabGreatDoor
open Go.RowKit Go.Extern.Stop Go.Stop Go.Extern
theorem Tryz.isTypeOf (v : Value) (w : World) : (Extern.ReflectliteType.typeOf #[.iface 220 v]).run Tryz.prog w = .ok (.iface 105 (.agg #[.pointer (some ⟨23, 220, none⟩)])) w := by kernel_rfl
def cmpEntry : Array Value → Sem Value := Extern.ReflectliteType.method fun t => do
  Rtype.noPackHeld "Comparable" t
  pure (.bool (← typeInfo t).comparable)
theorem Tryz.isComparable (w : World) : (cmpEntry #[.agg #[.pointer (some ⟨23, 220, none⟩)]]).run Tryz.prog w = .ok (.bool true) w := by kernel_rfl
theorem Tryz.isMethodComparable (v : Value) (w : World) : (Go.method 352 105 v "Comparable").run Tryz.prog w = .ok (168, v) w := by kernel_rfl
theorem Tryz.isComp : (Tryz.prog.info? 220).map (·.comparable) = some true := by kernel_rfl
theorem Tryz.isSize : (Tryz.prog.info? 240).map (·.size) = some 1 := by kernel_rfl
theorem Tryz.noIsE (v : Value) (xT : TypeId) (w : World) : (Instr.typeAssert (.iface 220 v) xT 107 true).run Tryz.prog w = .ok (.tuple #[.nilIface, .bool false]) w := run_typeAssert_lacksB Tryz.underlying107 (by kernel_rfl) (by kernel_rfl) v xT w
theorem Tryz.noUnwrapE (v : Value) (xT : TypeId) (w : World) : (Instr.typeAssert (.iface 220 v) xT 110 true).run Tryz.prog w = .ok (.tuple #[.nilIface, .bool false]) w := run_typeAssert_lacksB Tryz.underlying110 (by kernel_rfl) (by kernel_rfl) v xT w
theorem Tryz.noUnwrapsE (v : Value) (xT : TypeId) (w : World) : (Instr.typeAssert (.iface 220 v) xT 112 true).run Tryz.prog w = .ok (.tuple #[.nilIface, .bool false]) w := run_typeAssert_lacksB Tryz.underlying112 (by kernel_rfl) (by kernel_rfl) v xT w
theorem Tryz.noIsW (v : Value) (xT : TypeId) (w : World) : (Instr.typeAssert (.iface 88 v) xT 107 true).run Tryz.prog w = .ok (.tuple #[.nilIface, .bool false]) w := run_typeAssert_lacksB Tryz.underlying107 (by kernel_rfl) (by kernel_rfl) v xT w
theorem Tryz.hasUnwrapW (v : Value) (xT : TypeId) (w : World) : (Instr.typeAssert (.iface 88 v) xT 110 true).run Tryz.prog w = .ok (.tuple #[.iface 88 v, .bool true]) w := run_typeAssert_hasB Tryz.underlying110 (by kernel_rfl) v xT w
theorem Tryz.methodUnwrap (v : Value) (w : World) : (Go.method 352 88 v "Unwrap").run Tryz.prog w = .ok (165, v) w := by kernel_rfl

end Go.Proofs.YtkiapldehlnndabGreatDoor
/- What a statement knows of one of api's errors in memory. -/
namespace Go.Proofs.YtkiapldehlnndabGreatDoor
open Go.RowKit
def Sent (w : World) (g : Nat) (a : Addr) : Prop := w.cell? ⟨g, 0, none⟩ = some (.iface 220 (.pointer (some a))) ∧ ∃ c t, w.heap[a.block]? = some (.cells c t (0, 0))
theorem Sent.below {w w1 : World} {g : Nat} {a : Addr} (h : Sent w g a) (hb : Below w.heap.size w w1) : Sent w1 g a := by
  obtain ⟨h1, c, t, h2⟩ := h
  exact ⟨(hb.cell (World.block_lt_of_cell? w _ h1)).trans h1, c, t, by rw [hb.block _ (lt_of_block h2)]; exact h2⟩
end Go.Proofs.YtkiapldehlnndabGreatDoor
/- errors.Is at a chain of faults of package api, however long, that ends in one of api's errors: true just if it is that one. -/
namespace Go.Proofs.YtkiapldehlnndabGreatDoor
open Go.RowKit Go.Extern.Stop Go.Stop Go.Extern
def Chain (w : World) (l c : Int) (a : Addr) : List ByteArray → Value → Prop
  | [], v => v = .iface 220 (.pointer (some a))
  | s :: r, v => ∃ b u, v = .iface 88 (.pointer (some ⟨b, 0, none⟩)) ∧ w.heap[b]? = some (.cells #[.string s, .int .i64 l, .int .i64 c, u] 90 (0, 0)) ∧ Chain w l c a r u
theorem Chain.below {w w' : World} {l c : Int} {a : Addr} : ∀ {ls : List ByteArray} {v : Value}, Chain w l c a ls v → Below w.heap.size w w' → Chain w' l c a ls v
  | [], _, h, _ => h
  | s :: r, v, h, hb => by
    obtain ⟨b, u, h1, h2, h3⟩ := h
    exact ⟨b, u, h1, (hb.block b (Array.getElem?_eq_some_iff.1 h2).1).trans h2, Chain.below h3 hb⟩
theorem Chain.iface {w : World} {l c : Int} {a : Addr} {ls : List ByteArray} {v : Value} (h : Chain w l c a ls v) : ∃ T u, v = .iface T u := by
  cases ls with
  | nil => exact ⟨_, _, h⟩
  | cons s r => obtain ⟨b, u, h1, _⟩ := h; exact ⟨_, _, h1⟩
theorem fault_cells {w : World} {b : Nat} {x0 x1 x2 x3 : Value} {t : TypeId} (h : w.heap[b]? = some (.cells #[x0, x1, x2, x3] t (0, 0))) : w.cell? ⟨b, 0, none⟩ = some x0 ∧ w.cell? ⟨b, 1, none⟩ = some x1 ∧ w.cell? ⟨b, 2, none⟩ = some x2 ∧ w.cell? ⟨b, 3, none⟩ = some x3 := by
  simp [World.cell?, h]
set_option maxRecDepth 100000 in
set_option maxHeartbeats 4000000 in
theorem isLow_chain (v : Value) (ls : List ByteArray) (l c : Int) (a b : Addr) (ca cb : Array Value) (ta tb : TypeId) (w : World) (hC : Chain w l c a ls v) (ha : w.heap[a.block]? = some (.cells ca ta (0, 0))) (hb : w.heap[b.block]? = some (.cells cb tb (0, 0))) :
    Calls Tryz.prog 27 #[v, .iface 220 (.pointer (some b)), .bool true] w fun e w' => e = .returned (.bool (decide (a = b))) ∧ w' = w := by
  obtain ⟨i, hi, hcmp⟩ := Option.map_eq_some_iff.1 Tryz.isComp
  obtain ⟨j, hj, hjs⟩ := Option.map_eq_some_iff.1 Tryz.isSize
  have nE := Tryz.noIsE
  have uE := Tryz.noUnwrapE
  have vE := Tryz.noUnwrapsE
  have nW := Tryz.noIsW
  have uW := Tryz.hasUnwrapW
  have mU := Tryz.methodUnwrap
  have heq : (binOp .eql 29 (.iface 220 (.pointer (some a))) (.iface 220 (.pointer (some b)))).run Tryz.prog w = .ok (.bool (decide (a = b))) w := by
    by_cases e : a = b
    · subst e
      rw [run_eql_iface_ptr_same (P := Tryz.prog) w a Tryz.underlying29 Tryz.underlying220 hi hcmp hj]
      simp
    · rw [run_eql_iface_ptr_other (P := Tryz.prog) w Tryz.underlying29 Tryz.underlying220 hi hcmp hj (by rw [hjs]; decide) e ha hb]
      simp [e]
  obtain ⟨d, hd⟩ : ∃ d, d = decide (a = b) := ⟨_, rfl⟩
  rw [← hd] at heq ⊢
  have HC : Hid (Chain w l c a ls v) := hC
  clear hC ha hb hd hi hcmp hj hjs
  go_enter Tryz.func27, Tryz.ntmps27
  go_wp2_with fail
  go_loopg [0] (ls.length + 1) (fun q ev wr => ∃ (r : List ByteArray), q = r.length + 1 ∧ wr = w ∧ Chain w l c a r ev)
  case atStart => exact ⟨ls, rfl, rfl, HC.out⟩
  case round =>
    obtain ⟨r, rfl, rfl, hCr⟩ := hrel
    clear HC
    cases r with
    | nil =>
      have e : u0 = .iface 220 (.pointer (some a)) := hCr
      subst e
      clear hCr
      cases d
      · go_wp2
        go_ret
        exact ⟨rfl, rfl⟩
      · go_wp2
        go_ret
        exact ⟨rfl, rfl⟩
    | cons s r =>
      obtain ⟨pb, u, rfl, hB, hCu⟩ := hCr
      have h1 := (fault_cells hB).2.2.2
      have hty := run_eql_iface_types (P := Tryz.prog) 88 220 (.pointer (some ⟨pb, 0, none⟩)) (.pointer (some b)) Tryz.underlying29 (by decide) wr
      obtain ⟨T, x, rfl⟩ := hCu.iface
      have HU : Hid (Chain wr l c a r (.iface T x)) := hCu
      clear hCu hB heq
      go_wp2
      go_roundg (r.length + 1)
      case measure => simp
      case rel => exact ⟨r, rfl, rfl, HU.out⟩
set_option maxHeartbeats 1000000 in
theorem is_chain (v : Value) (ls : List ByteArray) (l c : Int) (a b : Addr) (ca cb : Array Value) (ta tb : TypeId) (w : World) (hC : Chain w l c a ls v) (ha : w.heap[a.block]? = some (.cells ca ta (0, 0))) (hb : w.heap[b.block]? = some (.cells cb tb (0, 0))) :
    Calls Tryz.prog 12 #[v, .iface 220 (.pointer (some b))] w fun e w' => e = .returned (.bool (decide (a = b))) ∧ w' = w := by
  have h8 := @run_callFunc_extern Tryz.prog 26 _ Extern.ReflectliteType.typeOf Tryz.func26 (by kernel_rfl) (by kernel_rfl) (by kernel_rfl) (by kernel_rfl)
  have h32 := @run_callFunc_extern Tryz.prog 168 _ cmpEntry Tryz.func168 (by kernel_rfl) (by kernel_rfl) (by kernel_rfl) (by kernel_rfl)
  have tT := Tryz.isTypeOf
  have cT := Tryz.isComparable
  have mR := Tryz.isMethodComparable
  have HL : Hid _ := isLow_chain v ls l c a b ca cb ta tb w hC ha hb
  obtain ⟨T, x, rfl⟩ := hC.iface
  clear hC ha hb
  go_enter Tryz.func12, Tryz.ntmps12
  go_wp2_with (go_at_call 27; refine Calls.mono HL.out ?_; rintro e w' ⟨rfl, hw⟩; obtain rfl := hw.symm; clear hw)
  go_ret
  exact ⟨rfl, rfl⟩
end Go.Proofs.YtkiapldehlnndabGreatDoor
/- Api's errors in memory, by their codes; api.Code at a chain of faults. (Written by mker.py.) -/
namespace Go.Proofs.YtkiapldehlnndabGreatDoor
open Go.RowKit
structure Er (m : Nat) (w : World) (e : Nat → Addr) : Prop where
  s1 : 1 ≤ m → Sent w 2 (e 1)
  s2 : 2 ≤ m → Sent w 3 (e 2)
  s3 : 3 ≤ m → Sent w 4 (e 3)
  s4 : 4 ≤ m → Sent w 5 (e 4)
  s5 : 5 ≤ m → Sent w 6 (e 5)
  s6 : 6 ≤ m → Sent w 7 (e 6)
  s7 : 7 ≤ m → Sent w 8 (e 7)
  s8 : 8 ≤ m → Sent w 9 (e 8)
  s9 : 9 ≤ m → Sent w 10 (e 9)
  s10 : 10 ≤ m → Sent w 11 (e 10)
  s11 : 11 ≤ m → Sent w 12 (e 11)
  s12 : 12 ≤ m → Sent w 13 (e 12)
  s13 : 13 ≤ m → Sent w 14 (e 13)
  s14 : 14 ≤ m → Sent w 0 (e 14)
  s15 : 15 ≤ m → Sent w 1 (e 15)
  s16 : 16 ≤ m → Sent w 15 (e 16)
  s17 : 17 ≤ m → Sent w 16 (e 17)
  s18 : 18 ≤ m → Sent w 17 (e 18)
  s19 : 19 ≤ m → Sent w 18 (e 19)
  ne : ∀ i j, 1 ≤ i → i < j → j ≤ m → e j ≠ e i
theorem Er.below {m : Nat} {w w' : World} {e : Nat → Addr} (h : Er m w e) (hb : Below w.heap.size w w') : Er m w' e :=
  ⟨fun hm => (h.s1 hm).below hb, fun hm => (h.s2 hm).below hb, fun hm => (h.s3 hm).below hb, fun hm => (h.s4 hm).below hb, fun hm => (h.s5 hm).below hb, fun hm => (h.s6 hm).below hb, fun hm => (h.s7 hm).below hb, fun hm => (h.s8 hm).below hb, fun hm => (h.s9 hm).below hb, fun hm => (h.s10 hm).below hb, fun hm => (h.s11 hm).below hb, fun hm => (h.s12 hm).below hb, fun hm => (h.s13 hm).below hb, fun hm => (h.s14 hm).below hb, fun hm => (h.s15 hm).below hb, fun hm => (h.s16 hm).below hb, fun hm => (h.s17 hm).below hb, fun hm => (h.s18 hm).below hb, fun hm => (h.s19 hm).below hb, h.ne⟩
set_option maxHeartbeats 1000000 in
theorem rest_14 {m : Nat} (hm : 14 ≤ m) (v : Value) (ls : List ByteArray) (l c : Int) (e : Nat → Addr) (w : World) (hE : Er m w e) (hC : Chain w l c (e 14) ls v) :
    Calls Tryz.prog 28 #[v] w fun r w' => r = .returned (.int .i64 14) ∧ w' = w := by
  obtain ⟨g14, c14, t14, b14⟩ := hE.s14 (by omega)
  obtain ⟨g11, c11, t11, b11⟩ := hE.s11 (by omega)
  obtain ⟨g12, c12, t12, b12⟩ := hE.s12 (by omega)
  obtain ⟨g13, c13, t13, b13⟩ := hE.s13 (by omega)
  have I11 : Hid _ := is_chain v ls l c (e 14) (e 11) c14 c11 t14 t11 w hC b14 b11
  have d11 : decide (e 14 = e 11) = false := by simpa using hE.ne 11 14 (by decide) (by decide) (by omega)
  have I12 : Hid _ := is_chain v ls l c (e 14) (e 12) c14 c12 t14 t12 w hC b14 b12
  have d12 : decide (e 14 = e 12) = false := by simpa using hE.ne 12 14 (by decide) (by decide) (by omega)
  have I13 : Hid _ := is_chain v ls l c (e 14) (e 13) c14 c13 t14 t13 w hC b14 b13
  have d13 : decide (e 14 = e 13) = false := by simpa using hE.ne 13 14 (by decide) (by decide) (by omega)
  have I14 : Hid _ := is_chain v ls l c (e 14) (e 14) c14 c14 t14 t14 w hC b14 b14
  have d14 : decide (e 14 = e 14) = true := by simp
  obtain ⟨T, x, rfl⟩ := hC.iface
  clear hE hC b11 b12 b13 b14
  go_enter Tryz.func28, Tryz.ntmps28
  go_wp2_with fail
  refine Calls.mono I11.out ?_
  rintro r w' ⟨rfl, hw⟩; obtain rfl := hw.symm; clear hw
  rw [d11]
  go_wp2_with fail
  refine Calls.mono I12.out ?_
  rintro r w' ⟨rfl, hw⟩; obtain rfl := hw.symm; clear hw
  rw [d12]
  go_wp2_with fail
  refine Calls.mono I13.out ?_
  rintro r w' ⟨rfl, hw⟩; obtain rfl := hw.symm; clear hw
  rw [d13]
  go_wp2_with fail
  refine Calls.mono I14.out ?_
  rintro r w' ⟨rfl, hw⟩; obtain rfl := hw.symm; clear hw
  rw [d14]
  go_wp2_with fail
  go_ret
  exact ⟨rfl, rfl⟩
set_option maxHeartbeats 1000000 in
theorem code_14 {m : Nat} (hm : 14 ≤ m) (v : Value) (ls : List ByteArray) (l c : Int) (e : Nat → Addr) (w : World) (hE : Er m w e) (hC : Chain w l c (e 14) ls v) :
    Calls Tryz.prog 13 #[v] w fun r w' => r = .returned (.int .i64 14) ∧ w' = w := by
  obtain ⟨g14, c14, t14, b14⟩ := hE.s14 (by omega)
  obtain ⟨g1, c1, t1, b1⟩ := hE.s1 (by omega)
  obtain ⟨g2, c2, t2, b2⟩ := hE.s2 (by omega)
  obtain ⟨g3, c3, t3, b3⟩ := hE.s3 (by omega)
  obtain ⟨g4, c4, t4, b4⟩ := hE.s4 (by omega)
  obtain ⟨g5, c5, t5, b5⟩ := hE.s5 (by omega)
  obtain ⟨g6, c6, t6, b6⟩ := hE.s6 (by omega)
  obtain ⟨g7, c7, t7, b7⟩ := hE.s7 (by omega)
  obtain ⟨g8, c8, t8, b8⟩ := hE.s8 (by omega)
  obtain ⟨g9, c9, t9, b9⟩ := hE.s9 (by omega)
  obtain ⟨g10, c10, t10, b10⟩ := hE.s10 (by omega)
  have I1 : Hid _ := is_chain v ls l c (e 14) (e 1) c14 c1 t14 t1 w hC b14 b1
  have d1 : decide (e 14 = e 1) = false := by simpa using hE.ne 1 14 (by decide) (by decide) (by omega)
  have I2 : Hid _ := is_chain v ls l c (e 14) (e 2) c14 c2 t14 t2 w hC b14 b2
  have d2 : decide (e 14 = e 2) = false := by simpa using hE.ne 2 14 (by decide) (by decide) (by omega)
  have I3 : Hid _ := is_chain v ls l c (e 14) (e 3) c14 c3 t14 t3 w hC b14 b3
  have d3 : decide (e 14 = e 3) = false := by simpa using hE.ne 3 14 (by decide) (by decide) (by omega)
  have I4 : Hid _ := is_chain v ls l c (e 14) (e 4) c14 c4 t14 t4 w hC b14 b4
  have d4 : decide (e 14 = e 4) = false := by simpa using hE.ne 4 14 (by decide) (by decide) (by omega)
  have I5 : Hid _ := is_chain v ls l c (e 14) (e 5) c14 c5 t14 t5 w hC b14 b5
  have d5 : decide (e 14 = e 5) = false := by simpa using hE.ne 5 14 (by decide) (by decide) (by omega)
  have I6 : Hid _ := is_chain v ls l c (e 14) (e 6) c14 c6 t14 t6 w hC b14 b6
  have d6 : decide (e 14 = e 6) = false := by simpa using hE.ne 6 14 (by decide) (by decide) (by omega)
  have I7 : Hid _ := is_chain v ls l c (e 14) (e 7) c14 c7 t14 t7 w hC b14 b7
  have d7 : decide (e 14 = e 7) = false := by simpa using hE.ne 7 14 (by decide) (by decide) (by omega)
  have I8 : Hid _ := is_chain v ls l c (e 14) (e 8) c14 c8 t14 t8 w hC b14 b8
  have d8 : decide (e 14 = e 8) = false := by simpa using hE.ne 8 14 (by decide) (by decide) (by omega)
  have I9 : Hid _ := is_chain v ls l c (e 14) (e 9) c14 c9 t14 t9 w hC b14 b9
  have d9 : decide (e 14 = e 9) = false := by simpa using hE.ne 9 14 (by decide) (by decide) (by omega)
  have I10 : Hid _ := is_chain v ls l c (e 14) (e 10) c14 c10 t14 t10 w hC b14 b10
  have d10 : decide (e 14 = e 10) = false := by simpa using hE.ne 10 14 (by decide) (by decide) (by omega)
  have d14 : decide (e 14 = e 14) = true := by simp
  have IR : Hid _ := rest_14 (m := m) hm v ls l c e w hE hC
  obtain ⟨T, x, rfl⟩ := hC.iface
  clear hE hC b1 b2 b3 b4 b5 b6 b7 b8 b9 b10 b14
  go_enter Tryz.func13, Tryz.ntmps13
  go_wp2_with fail
  refine Calls.mono I1.out ?_
  rintro r w' ⟨rfl, hw⟩; obtain rfl := hw.symm; clear hw
  rw [d1]
  go_wp2_with fail
  refine Calls.mono I2.out ?_
  rintro r w' ⟨rfl, hw⟩; obtain rfl := hw.symm; clear hw
  rw [d2]
  go_wp2_with fail
  refine Calls.mono I3.out ?_
  rintro r w' ⟨rfl, hw⟩; obtain rfl := hw.symm; clear hw
  rw [d3]
  go_wp2_with fail
  refine Calls.mono I4.out ?_
  rintro r w' ⟨rfl, hw⟩; obtain rfl := hw.symm; clear hw
  rw [d4]
  go_wp2_with fail
  refine Calls.mono I5.out ?_
  rintro r w' ⟨rfl, hw⟩; obtain rfl := hw.symm; clear hw
  rw [d5]
  go_wp2_with fail
  refine Calls.mono I6.out ?_
  rintro r w' ⟨rfl, hw⟩; obtain rfl := hw.symm; clear hw
  rw [d6]
  go_wp2_with fail
  refine Calls.mono I7.out ?_
  rintro r w' ⟨rfl, hw⟩; obtain rfl := hw.symm; clear hw
  rw [d7]
  go_wp2_with fail
  refine Calls.mono I8.out ?_
  rintro r w' ⟨rfl, hw⟩; obtain rfl := hw.symm; clear hw
  rw [d8]
  go_wp2_with fail
  refine Calls.mono I9.out ?_
  rintro r w' ⟨rfl, hw⟩; obtain rfl := hw.symm; clear hw
  rw [d9]
  go_wp2_with fail
  refine Calls.mono I10.out ?_
  rintro r w' ⟨rfl, hw⟩; obtain rfl := hw.symm; clear hw
  rw [d10]
  go_wp2_with fail
  refine Calls.mono IR.out ?_
  rintro r w' ⟨rfl, hw⟩; obtain rfl := hw.symm; clear hw
  go_wp2_with fail
  go_ret
  exact ⟨rfl, rfl⟩
end Go.Proofs.YtkiapldehlnndabGreatDoor
/- The book's Told at a chain of faults, however many layers it has. -/
namespace Go.Proofs.YtkiapldehlnndabGreatDoor
open Go.RowKit
def joinS (x : ByteArray) : List ByteArray → ByteArray
  | [] => x
  | s :: r => joinS (x ++ s ++ ⟨#[32]⟩) r
end Go.Proofs.YtkiapldehlnndabGreatDoor
/- Contracts of the document's Check and Normal of systems. -/
namespace Go.Proofs.YtkiapldehlnndabGreatDoor
open Go.RowKit Go.Maps
attribute [local go_sem ↓] Go.wp_at_zero Go.wp_at_succ
def sysB : ByteArray := ⟨#[115, 121, 115, 116, 101, 109]⟩
def sysB1 : ByteArray := ⟨#[115, 121, 115, 116, 101, 109, 32]⟩
theorem four_set {w : World} {b : Nat} {x0 x1 x2 x3 a0 a1 a2 a3 : Value} {t : TypeId} (h : w.heap[b]? = some (.cells #[x0, x1, x2, x3] t (0, 0))) : ((((w.setCell ⟨b, 0, none⟩ a0).setCell ⟨b, 1, none⟩ a1).setCell ⟨b, 2, none⟩ a2).setCell ⟨b, 3, none⟩ a3).heap[b]? = some (.cells #[a0, a1, a2, a3] t (0, 0)) :=
  heap_setCell_same _ b 3 _ _ _ (heap_setCell_same _ b 2 _ _ _ (heap_setCell_same _ b 1 _ _ _ (heap_setCell_same w b 0 _ _ _ h)))
theorem four_below {B : Nat} {w w2 : World} {b : Nat} (h : Below B w w2) (hb : B ≤ b) (a0 a1 a2 a3 : Value) : Below B w ((((w2.setCell ⟨b, 0, none⟩ a0).setCell ⟨b, 1, none⟩ a1).setCell ⟨b, 2, none⟩ a2).setCell ⟨b, 3, none⟩ a3) := (((h.setCell hb _).setCell hb _).setCell hb _).setCell hb _
def chkV (ok : Bool) : Value := if ok then .agg #[.int .i64 0, .int .i64 0, .int .i64 0, .string ⟨#[]⟩] else .agg #[.int .i64 14, .int .i64 0, .int .i64 0, .string sysB1]
end Go.Proofs.YtkiapldehlnndabGreatDoor
/- Contracts of the document's Together and Classes. -/
namespace Go.Proofs.YtkiapldehlnndabGreatDoor
open Go.RowKit Go.Maps
attribute [local go_sem ↓] Go.wp_at_zero Go.wp_at_succ
def Sy.classes (n : Int) (zs : List Int) : Bool := decide ((zs.length : Int) = n) && Sy.formG 0 zs
end Go.Proofs.YtkiapldehlnndabGreatDoor
/- What the program's functions of chapter 7 answer: the contracts that the laws lean on. -/
namespace Go.Proofs.YtkiapldehlnndabGreatDoor
open Go.RowKit Go.Maps
def I64s (zs : List Int) : Prop := ∀ z ∈ zs, (Lit.int .i64 z).wf = true
def PCanon : Prop := ∀ (v : Value) (zs : List Int) (W : World), HasI W v zs → zs.length ≤ 100000 → I64s zs → Calls Tryz.prog 33 #[v] W fun r w' => ∃ u, r = .returned u ∧ OwnI w' W.heap.size u (natI (Sy.canon zs)) ∧ Below W.heap.size W w'
def PClasses : Prop := ∀ (n k s : Int) (ve v : Value) (zs : List Int) (W : World), HasI W v zs → zs.length ≤ 100000 → I64s zs → Calls Tryz.prog 16 #[sysV n k s ve, v] W fun r w' => r = .returned (.bool (Sy.classes n zs)) ∧ Below W.heap.size W w'
def PTogether : Prop := ∀ (v : Value) (zs : List Int) (W : World), HasI W v zs → zs.length ≤ 100000 → I64s zs → Calls Tryz.prog 17 #[v] W fun r w' => r = .returned (.int .i64 (Sy.together zs : Nat)) ∧ Below W.heap.size W w'
theorem rg_b {w2 W : World} {P : Prop} (h : P ∧ Hid (Below w2.heap.size w2 W)) : Below w2.heap.size w2 W := h.2.out
theorem rg_up4 {w2 wa wb : World} {a0 a1 a2 a3 : Addr} {x0 x1 x2 x3 : Value} (hb : Below wa.heap.size wa wb) (h : (wa.cell? a0 = some x0 ∧ wa.cell? a1 = some x1 ∧ wa.cell? a2 = some x2 ∧ wa.cell? a3 = some x3) ∧ Hid (Below w2.heap.size w2 wa)) : (wb.cell? a0 = some x0 ∧ wb.cell? a1 = some x1 ∧ wb.cell? a2 = some x2 ∧ wb.cell? a3 = some x3) ∧ Hid (Below w2.heap.size w2 wb) :=
  have up : ∀ {a : Addr} {x : Value}, wa.cell? a = some x → wb.cell? a = some x := fun c => (hb.cell (World.block_lt_of_cell? wa _ c)).trans c
  ⟨⟨up h.1.1, up h.1.2.1, up h.1.2.2.1, up h.1.2.2.2⟩, (h.2.out.trans (hb.mono h.2.out.size) : Below w2.heap.size w2 wb)⟩
end Go.Proofs.YtkiapldehlnndabGreatDoor
/- Contracts of the program's Check and what it calls. -/
namespace Go.Proofs.YtkiapldehlnndabGreatDoor
open Go.RowKit Go.Maps
attribute [local go_sem ↓] Go.wp_at_zero Go.wp_at_succ
theorem sysFault_any (a : Addr) (w : World) : Calls Tryz.prog 93 #[.iface 220 (.pointer (some a))] w fun r w' => ∃ x, r = .returned x ∧ Chain w' 0 0 a [sysB] x ∧ Below w.heap.size w w' := by
  go_enter Tryz.func93, Tryz.ntmps93
  go_wp2
  go_ret
  exact ⟨_, rfl, ⟨_, _, rfl, (MapKept.heap_alloc w _).1, rfl⟩, (Below.refl _ _).alloc (Nat.le_refl _) _⟩
theorem below_any (a b : Int) (w : World) : Calls Tryz.prog 82 #[.int .i64 a, .int .i64 b] w fun r w' => r = .returned (.bool (decide (0 ≤ a ∧ a < b))) ∧ w' = w := by
  by_cases h0 : 0 ≤ a
  · by_cases h1 : a < b
    · go_enter Tryz.func82, Tryz.ntmps82
      go_wp2
      go_ret
      exact ⟨by simp [h0, h1], rfl⟩
    · go_enter Tryz.func82, Tryz.ntmps82
      go_wp2
      go_ret
      exact ⟨by simp [h1], rfl⟩
  · go_enter Tryz.func82, Tryz.ntmps82
    go_wp2
    go_ret
    exact ⟨by simp; omega, rfl⟩
set_option maxRecDepth 100000 in
set_option maxHeartbeats 4000000 in
theorem stranger_any (n k s : Int) (v : Value) (b : Nat) (x : Sy.Ed) (w : World) (hB : w.heap[b]? = some (.cells #[.int .i64 n, .int .i64 k, .int .i64 s, v] 24 (0, 0))) :
    Calls Tryz.prog 113 #[edV x, .pointer (some ⟨b, 0, none⟩)] w fun r w' => r = .returned (.bool (!edgeOk n k x)) ∧ Below w.heap.size w w' := by
  obtain ⟨b0, b1, b2, b3⟩ := four_cells hB
  have hlt := t_lt hB
  have hne : ¬ b = w.heap.size := by omega
  have hA := fun W => below_any x.1 n W
  have hT := fun W => below_any x.2.2 n W
  have hL := fun W => below_any x.2.1 k W
  have hok : edgeOk n k x = (decide (0 ≤ x.1 ∧ x.1 < n) && decide (0 ≤ x.2.2 ∧ x.2.2 < n) && decide (0 ≤ x.2.1 ∧ x.2.1 < k)) := by
    unfold edgeOk
    rw [Bool.eq_iff_iff]
    simp only [Bool.and_eq_true, decide_eq_true_eq]
    omega
  unfold edV
  rw [hok]
  generalize decide (0 ≤ x.1 ∧ x.1 < n) = pa at hA ⊢
  generalize decide (0 ≤ x.2.2 ∧ x.2.2 < n) = pt at hT ⊢
  generalize decide (0 ≤ x.2.1 ∧ x.2.1 < k) = pl at hL ⊢
  clear hok hB b2 b3
  obtain ⟨x0, x1, x2⟩ := x
  cases pa with
  | false =>
    go_enter Tryz.func113, Tryz.ntmps113
    go_wp2_with (go_at_call 82; refine (hA _).mono ?_; rintro r w' ⟨rfl, hw⟩; obtain rfl := hw.symm)
    go_ret
    exact ⟨rfl, (Below.refl _ _).alloc (Nat.le_refl _) _⟩
  | true =>
    cases pt with
    | false =>
      go_enter Tryz.func113, Tryz.ntmps113
      go_wp2_with fail
      refine (hA _).mono ?_
      rintro r w1 ⟨rfl, hw⟩; obtain rfl := hw.symm
      go_wp2_with fail
      refine (hT _).mono ?_
      rintro r w1 ⟨rfl, hw⟩; obtain rfl := hw.symm
      go_wp2
      go_ret
      exact ⟨rfl, (Below.refl _ _).alloc (Nat.le_refl _) _⟩
    | true =>
      go_enter Tryz.func113, Tryz.ntmps113
      go_wp2_with fail
      refine (hA _).mono ?_
      rintro r w1 ⟨rfl, hw⟩; obtain rfl := hw.symm
      go_wp2_with fail
      refine (hT _).mono ?_
      rintro r w1 ⟨rfl, hw⟩; obtain rfl := hw.symm
      go_wp2_with fail
      refine (hL _).mono ?_
      rintro r w1 ⟨rfl, hw⟩; obtain rfl := hw.symm
      go_wp2
      go_ret
      exact ⟨rfl, (Below.refl _ _).alloc (Nat.le_refl _) _⟩
theorem enter_str : ∀ args w, (callFunc 113 args).run Tryz.prog w = .ok (.enter 113 args) w := enters_of Tryz.func113 (by kernel_rfl) rfl
def firstBad (n k : Int) (es : List Sy.Ed) : Int := if es.all (edgeOk n k) then -1 else ((es.findIdx fun e => !edgeOk n k e : Nat) : Int)
theorem findIdx_at {es : List Sy.Ed} {p : Sy.Ed → Bool} {i : Nat} {z : Sy.Ed} (hz : es[i]? = some z) (hp : p z = true) (hall : ∀ x ∈ es.take i, p x = false) : es.findIdx p = i := by
  obtain ⟨hl, rfl⟩ := List.getElem?_eq_some_iff.1 hz
  rw [List.findIdx_eq hl]
  refine ⟨hp, fun j hj => hall _ ?_⟩
  exact List.mem_take_iff_getElem.2 ⟨j, by omega, rfl⟩
set_option maxRecDepth 100000 in
set_option maxHeartbeats 4000000 in
theorem idxBad_any (n k s : Int) (ve v : Value) (b : Nat) (es : List Sy.Ed) (w : World) (hn : es.length ≤ 100000) (hv : BEdges.Has w v es) (hB : w.heap[b]? = some (.cells #[.int .i64 n, .int .i64 k, .int .i64 s, ve] 24 (0, 0))) :
    Calls Tryz.prog 112 #[v, .func (.func 113) #[] #[.pointer (some ⟨b, 0, none⟩)]] w fun r w' => r = .returned (.int .i64 (firstBad n k es)) ∧ Below w.heap.size w w' := by
  obtain ⟨ao, cap, rfl, _⟩ := _root_.id hv
  obtain ⟨m, hm⟩ : ∃ m, m = es.length := ⟨_, rfl⟩
  have HV : Hid _ := And.intro hv (And.intro hm hB)
  rw [← hm] at hn ⊢
  clear hv hm hB
  have he := enter_str
  go_enter Tryz.func112, Tryz.ntmps112
  go_wp2_with fail
  go_loopg [8] m (fun q iv wr => ∃ i : Nat, q = m - i ∧ i ≤ m ∧ iv = .int .i64 i ∧ Below w.heap.size w wr ∧ ∀ x ∈ es.take i, (!edgeOk n k x) = false)
  case atStart => exact ⟨0, rfl, Nat.zero_le _, rfl, Below.refl _ _, fun x hx => by simp at hx⟩
  case round =>
    obtain ⟨i, rfl, hi, rfl, hb, hall⟩ := hrel
    by_cases hlt : i < m
    · obtain ⟨z, hz⟩ : ∃ z, es[i]? = some z := ⟨es[i]'(by have := HV.out.2.1; omega), List.getElem?_eq_getElem _⟩
      obtain ⟨a, rfl, z0, z1, z2⟩ := edge_at (HV.out.1.below hb) hz
      have q0 : (0 : Int) ≤ (i : Int) := by omega
      have q1 : (i : Int) < (m : Int) := by omega
      have hC := stranger_any n k s ve b z wr ((hb.block b (t_lt HV.out.2.2)).trans HV.out.2.2)
      unfold edV at hC
      have HB : Hid _ := And.intro hb (And.intro hall hz)
      clear hb hall hz
      cases hq : (!edgeOk n k z) with
      | true =>
        rw [hq] at hC
        have HQ : Hid _ := hq
        clear hq
        go_wp2_with (go_at_fn 113; refine hC.mono ?_; rintro r w1 ⟨rfl, hb1⟩)
        go_ret
        refine ⟨?_, HB.out.1.trans (hb1.mono HB.out.1.size)⟩
        have hf := findIdx_at HB.out.2.2 HQ.out HB.out.2.1
        have hna : es.all (edgeOk n k) = false := by
          rw [List.all_eq_false]
          exact ⟨z, List.mem_of_getElem? HB.out.2.2, by have := HQ.out; simpa using this⟩
        unfold firstBad
        rw [hna, hf]
        rfl
      | false =>
        rw [hq] at hC
        have HQ : Hid _ := hq
        clear hq
        go_wp2_with (go_at_fn 113; refine hC.mono ?_; rintro r w1 ⟨rfl, hb1⟩)
        go_roundg (m - (i + 1))
        case measure => omega
        case rel =>
          refine ⟨i + 1, rfl, by omega, by go_num, HB.out.1.trans (hb1.mono HB.out.1.size), fun x hx => ?_⟩
          rw [take_succ_of HB.out.2.2] at hx
          rcases List.mem_append.1 hx with hx | hx
          · exact HB.out.2.1 x hx
          · rw [List.mem_singleton.1 hx]; exact HQ.out
    · have HB : Hid _ := And.intro hb hall
      clear hb hall
      have q1 : ¬ (i : Int) < (m : Int) := by omega
      go_wp2
      go_ret
      refine ⟨?_, HB.out.1⟩
      have hal : es.all (edgeOk n k) = true := by
        rw [List.all_eq_true]
        intro x hx
        have h1 := HB.out.2 x (by rw [List.take_of_length_le (by have := HV.out.2.1; omega)]; exact hx)
        simpa using h1
      unfold firstBad
      rw [hal]
      rfl
set_option maxRecDepth 100000 in
set_option maxHeartbeats 1000000 in
theorem hasBad_any (n k s : Int) (ve v : Value) (b : Nat) (es : List Sy.Ed) (w : World) (hn : es.length ≤ 100000) (hv : BEdges.Has w v es) (hB : w.heap[b]? = some (.cells #[.int .i64 n, .int .i64 k, .int .i64 s, ve] 24 (0, 0))) :
    Calls Tryz.prog 91 #[v, .func (.func 113) #[] #[.pointer (some ⟨b, 0, none⟩)]] w fun r w' => r = .returned (.bool (!es.all (edgeOk n k))) ∧ Below w.heap.size w w' := by
  have hC := idxBad_any n k s ve v b es w hn hv hB
  have hd : (!es.all (edgeOk n k)) = decide (0 ≤ firstBad n k es) := by
    unfold firstBad
    cases es.all (edgeOk n k) <;> simp
  rw [hd]
  generalize firstBad n k es = c at hC ⊢
  clear hd hB hv
  by_cases h : 0 ≤ c
  all_goals
    go_enter Tryz.func91, Tryz.ntmps91
    go_wp2_with (go_at_call 112; refine hC.mono ?_; rintro r w1 ⟨rfl, hb1⟩)
    go_ret
    exact ⟨by simp [h], hb1⟩
theorem mkStr_any (n k s : Int) (v : Value) (w : World) : Calls Tryz.prog 92 #[sysV n k s v] w fun r w' => r = .returned (.func (.func 113) #[] #[.pointer (some ⟨w.heap.size, 0, none⟩)]) ∧ w' = w.alloc (.cells #[.int .i64 n, .int .i64 k, .int .i64 s, v] 24) := by
  unfold sysV
  go_enter Tryz.func92, Tryz.ntmps92
  go_wp2
  go_ret
  exact ⟨rfl, rfl⟩
def SErr (a : Addr) (w : World) (ok : Bool) (x : Value) : Prop := if ok = true then x = .nilIface else Chain w 0 0 a [sysB] x
def chkA (n k s : Int) (m : Nat) : Bool := decide (0 ≤ n ∧ n ≤ 1000) && decide (1 ≤ k ∧ k ≤ 201) && decide (0 ≤ s ∧ s < max n 1) && decide (m ≤ 10000)
theorem right_eq (n k s : Int) (es : List Sy.Ed) : Sy.right n k s es = (chkA n k s es.length && es.all (edgeOk n k)) := by
  unfold Sy.right chkA edgeOk
  rw [Bool.eq_iff_iff]
  simp only [Bool.and_eq_true, decide_eq_true_eq]
  constructor
  · rintro ⟨⟨h1, h2⟩, h3⟩
    refine ⟨⟨⟨⟨⟨h1.1, h1.2.1⟩, h1.2.2.1, h1.2.2.2.1⟩, ?_⟩, h1.2.2.2.2⟩, h3⟩
    rcases Int.lt_or_eq_of_le h1.1 with h | h
    · have := h2.2 h; omega
    · have := h2.1 h.symm; omega
  · rintro ⟨⟨⟨⟨h1, h2⟩, h3⟩, h4⟩, h5⟩
    exact ⟨⟨⟨h1.1, h1.2, h2.1, h2.2, h4⟩, ⟨fun e => by omega, fun e => by omega⟩⟩, h5⟩
set_option maxRecDepth 100000 in
set_option maxHeartbeats 4000000 in
theorem check_early (n k s : Int) (ao : Option Addr) (m cap : Nat) (a : Addr) (w : World) (hS : Sent w 0 a) (h : chkA n k s m = false) :
    Calls Tryz.prog 76 #[sysV n k s (.slice ao m cap)] w fun r w' => ∃ x, r = .returned x ∧ Chain w' 0 0 a [sysB] x ∧ Below w.heap.size w w' := by
  unfold sysV
  have hg : (w.alloc (.cells #[.int .i64 n, .int .i64 k, .int .i64 s, .slice ao m cap] 24)).cell? ⟨0, 0, none⟩ = some (.iface 220 (.pointer (some a))) := (((Below.refl _ w).alloc (Nat.le_refl _) _).cell (World.block_lt_of_cell? w _ hS.1)).trans hS.1
  have hF := sysFault_any a (w.alloc (.cells #[.int .i64 n, .int .i64 k, .int .i64 s, .slice ao m cap] 24))
  have hb0 : Hid (Below w.heap.size w (w.alloc (.cells #[.int .i64 n, .int .i64 k, .int .i64 s, .slice ao m cap] 24))) := (Below.refl _ w).alloc (Nat.le_refl _) _
  have hc : ¬ 0 ≤ n ∨ 0 ≤ n ∧ ¬ n ≤ 1000 ∨ (0 ≤ n ∧ n ≤ 1000) ∧ (¬ 1 ≤ k ∨ 1 ≤ k ∧ ¬ k ≤ 201 ∨ (1 ≤ k ∧ k ≤ 201) ∧ (s < 0 ∨ 0 ≤ s ∧ (n < 1 ∧ 1 ≤ s) ∨ 0 ≤ s ∧ (¬ n < 1 ∧ n ≤ s) ∨ 0 ≤ s ∧ (n < 1 ∧ ¬ 1 ≤ s) ∧ (10000 : Int) < (m : Int) ∨ 0 ≤ s ∧ (¬ n < 1 ∧ ¬ n ≤ s) ∧ (10000 : Int) < (m : Int))) := by
    unfold chkA at h
    simp only [Bool.and_eq_false_iff, decide_eq_false_iff_not] at h
    omega
  clear h hS
  rcases hc with h | ⟨h1, h2⟩ | ⟨⟨h1, h2⟩, h | ⟨h3, h4⟩ | ⟨⟨h3, h4⟩, h | ⟨h5, h6, h7⟩ | ⟨h5, h6, h7⟩ | ⟨h5, ⟨h6, h7⟩, h8⟩ | ⟨h5, ⟨h6, h7⟩, h8⟩⟩⟩
  all_goals
    go_enter Tryz.func76, Tryz.ntmps76
    go_wp2_with (go_at_call 93; refine hF.mono ?_; rintro r w1 ⟨x, rfl, hC, hb1⟩; have HC : Hid _ := And.intro hC hb1; clear hC hb1)
    go_ret
    exact ⟨x, rfl, HC.out.1, hb0.out.trans (HC.out.2.mono hb0.out.size)⟩
set_option maxRecDepth 100000 in
set_option maxHeartbeats 4000000 in
theorem check_late (n k s : Int) (v : Value) (es : List Sy.Ed) (a : Addr) (w : World) (hS : Sent w 0 a) (hv : BEdges.Has w v es) (h : chkA n k s es.length = true) :
    Calls Tryz.prog 76 #[sysV n k s v] w fun r w' => ∃ x, r = .returned x ∧ SErr a w' (es.all (edgeOk n k)) x ∧ Below w.heap.size w w' := by
  obtain ⟨w0, hw0⟩ : ∃ w0, w0 = w.alloc (.cells #[.int .i64 n, .int .i64 k, .int .i64 s, v] 24) := ⟨_, rfl⟩
  have hb0 : Below w.heap.size w w0 := by rw [hw0]; exact (Below.refl _ _).alloc (Nat.le_refl _) _
  have hg0 : w0.heap[w.heap.size]? = some (.cells #[.int .i64 n, .int .i64 k, .int .i64 s, v] 24 (0, 0)) := by rw [hw0]; exact heap_alloc_new w _
  obtain ⟨ao, cap, rfl, _⟩ := _root_.id hv
  obtain ⟨m, hm⟩ : ∃ m, m = es.length := ⟨_, rfl⟩
  rw [← hm] at h hg0 hw0 hv ⊢
  have hc : (0 ≤ n ∧ n ≤ 1000) ∧ (1 ≤ k ∧ k ≤ 201) ∧ (0 ≤ s ∧ (n < 1 ∧ ¬ 1 ≤ s ∨ ¬ n < 1 ∧ ¬ n ≤ s)) ∧ m ≤ 10000 := by
    unfold chkA at h
    simp only [Bool.and_eq_true, decide_eq_true_eq] at h
    omega
  obtain ⟨⟨h1, h2⟩, ⟨h3, h4⟩, ⟨h5, h6⟩, h7⟩ := hc
  have h8 : ¬ (10000 : Int) < (m : Int) := by omega
  obtain ⟨x0, x1, x2, x3⟩ := four_cells hg0
  have hM : ∀ W, Below w0.heap.size w0 W → Calls Tryz.prog 92 #[sysV n k s (.slice ao m cap)] W fun r w' => ∃ b, r = .returned (.func (.func 113) #[] #[.pointer (some ⟨b, 0, none⟩)]) ∧ w'.heap[b]? = some (.cells #[.int .i64 n, .int .i64 k, .int .i64 s, .slice ao m cap] 24 (0, 0)) ∧ Below W.heap.size W w' := fun W _ => (mkStr_any n k s _ W).mono fun r w' ⟨hr, hw⟩ => ⟨_, hr, by rw [hw]; exact heap_alloc_new W _, by rw [hw]; exact (Below.refl _ _).alloc (Nat.le_refl _) _⟩
  have hC : ∀ W b, Below w0.heap.size w0 W → W.heap[b]? = some (.cells #[.int .i64 n, .int .i64 k, .int .i64 s, .slice ao m cap] 24 (0, 0)) → Calls Tryz.prog 91 #[.slice ao m cap, .func (.func 113) #[] #[.pointer (some ⟨b, 0, none⟩)]] W fun r w' => r = .returned (.bool (!es.all (edgeOk n k))) ∧ Below W.heap.size W w' := fun W b hb hB => hasBad_any n k s _ _ b es W (by omega) ((hv.below hb0).below hb) hB
  have HC : Hid _ := And.intro hM hC
  have HB : Hid _ := And.intro hb0 hS
  have HW : Hid (w0 = w.alloc (.cells #[.int .i64 n, .int .i64 k, .int .i64 s, .slice ao m cap] 24)) := hw0
  clear hw0
  unfold sysV at HC ⊢
  generalize hq : es.all (edgeOk n k) = q at HC ⊢
  clear hM hC hv hb0 hg0 hm h hS hq
  rcases h6 with ⟨h6, h9⟩ | ⟨h6, h9⟩
  all_goals
    cases q with
    | true =>
      go_enter Tryz.func76, Tryz.ntmps76
      go_upto_region 5 with fail
      rw [← HW.out]
      go_region_held3 (fun w' => (w'.cell? ⟨w.heap.size, 0, none⟩ = some (.int .i64 n) ∧ w'.cell? ⟨w.heap.size, 1, none⟩ = some (.int .i64 k) ∧ w'.cell? ⟨w.heap.size, 2, none⟩ = some (.int .i64 s) ∧ w'.cell? ⟨w.heap.size, 3, none⟩ = some (.slice ao m cap)) ∧ Hid (Below w0.heap.size w0 w')) (first | exact rg_up4 hb3 (by assumption) | exact ⟨⟨x0, x1, x2, x3⟩, ((Below.refl _ _).drew : Below w0.heap.size w0 w0.drew)⟩ | go_keep)
        ((first
          | (go_at_call 92; refine (HC.out.1 _ (rg_b (by assumption))).mono ?_; rintro r w3 ⟨b3, rfl, hB3, hb3⟩)
          | (go_at_call 91; refine (HC.out.2 _ _ (rg_b (by assumption)) hB3).mono ?_; rintro r w3 ⟨rfl, hb3⟩)
          | fail))
      all_goals
        have HF : Hid (Below w0.heap.size w0 w3) := (rg_b (by assumption) : Below w0.heap.size w0 w3)
        clear hb3
        go_wp2_with fail
        go_ret
        exact ⟨_, rfl, by simp [SErr], HB.out.1.trans (HF.out.mono HB.out.1.size)⟩
    | false =>
      go_enter Tryz.func76, Tryz.ntmps76
      go_upto_region 5 with fail
      rw [← HW.out]
      go_region_held3 (fun w' => (w'.cell? ⟨w.heap.size, 0, none⟩ = some (.int .i64 n) ∧ w'.cell? ⟨w.heap.size, 1, none⟩ = some (.int .i64 k) ∧ w'.cell? ⟨w.heap.size, 2, none⟩ = some (.int .i64 s) ∧ w'.cell? ⟨w.heap.size, 3, none⟩ = some (.slice ao m cap)) ∧ Hid (Below w0.heap.size w0 w')) (first | exact rg_up4 hb3 (by assumption) | exact ⟨⟨x0, x1, x2, x3⟩, ((Below.refl _ _).drew : Below w0.heap.size w0 w0.drew)⟩ | go_keep)
        ((first
          | (go_at_call 92; refine (HC.out.1 _ (rg_b (by assumption))).mono ?_; rintro r w3 ⟨b3, rfl, hB3, hb3⟩)
          | (go_at_call 91; refine (HC.out.2 _ _ (rg_b (by assumption)) hB3).mono ?_; rintro r w3 ⟨rfl, hb3⟩)
          | fail))
      all_goals
        have hbw : Below w0.heap.size w0 w3 := rg_b (by assumption)
        have hS3 := (HB.out.2.below HB.out.1).below hbw
        have hg := hS3.1
        have HF : Hid (Below w0.heap.size w0 w3) := hbw
        have hFl := sysFault_any a w3
        clear hb3 hbw hS3
        go_wp2_with (go_at_call 93; refine hFl.mono ?_; rintro r w4 ⟨x, rfl, hC4, hb4⟩; have HC4 : Hid _ := And.intro hC4 hb4; clear hC4 hb4)
        go_ret
        exact ⟨x, rfl, by simpa [SErr] using HC4.out.1, (HB.out.1.trans (HF.out.mono HB.out.1.size)).trans (HC4.out.2.mono (by have := HB.out.1.size; have := HF.out.size; omega))⟩
theorem check_any (n k s : Int) (v : Value) (es : List Sy.Ed) (a : Addr) (w : World) (hS : Sent w 0 a) (hv : BEdges.Has w v es) :
    Calls Tryz.prog 76 #[sysV n k s v] w fun r w' => ∃ x, r = .returned x ∧ SErr a w' (Sy.right n k s es) x ∧ Below w.heap.size w w' := by
  rw [right_eq]
  cases h : chkA n k s es.length with
  | true =>
    rw [Bool.true_and]
    exact check_late n k s v es a w hS hv h
  | false =>
    obtain ⟨ao, cap, rfl, _⟩ := _root_.id hv
    refine (check_early n k s ao es.length cap a w hS h).mono fun r w' ⟨x, hr, hC, hb⟩ => ⟨x, hr, by simpa [SErr] using hC, hb⟩
end Go.Proofs.YtkiapldehlnndabGreatDoor
