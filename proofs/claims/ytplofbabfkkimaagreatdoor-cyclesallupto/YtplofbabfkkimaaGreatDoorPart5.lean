/- Texts of this claim, joined: SySorted, Is, Sent, ErIs, ErCode, ErTold, SyNormal. -/
import Derived.Test.YtplofbabfkkimaaGreatDoorPart4
import Derived.Test.YtplofbabfkkimaaGreatDoorProg
import Derived.WalkKit
import Derived.LaidEql
import Derived.Stop.Asserts
import Derived.RowKitTokens
import Derived.Below
import Derived.OneCell
import Derived.Deep.LoopGhost
import Derived.WalkSmall
import Derived.Deep.QuietTactic
import Derived.BigQuiet
import Derived.ProofKit
/- Contract of the document's Sorted of edges. -/
namespace Go.Proofs.YtplofbabfkkimaaGreatDoor
open Go.RowKit Go.Maps
attribute [local go_sem ↓] Go.wp_at_zero Go.wp_at_succ
theorem own_edge {w : World} {B : Nat} {ao : Option Addr} {n cap : Nat} {es : List Sy.Ed} (h : BEdges.Own w B (.slice ao n cap) es) {j : Nat} {z : Sy.Ed} (hz : es[j]? = some z) :
 ∃ g, ao = some ⟨g, 0, none⟩ ∧ w.cell? ⟨g, j * 3, none⟩ = some (.int .i64 z.1) ∧ w.cell? ⟨g, j * 3 + 1, none⟩ = some (.int .i64 z.2.1) ∧ w.cell? ⟨g, j * 3 + 2, none⟩ = some (.int .i64 z.2.2) := by
 have hlt := (List.getElem?_eq_some_iff.1 hz).1
 obtain ⟨g, c, hf, _, _⟩ := World.ownsRow.form h (by omega)
 injection hf with e1 e2 e3
 subst e1
 refine ⟨g, rfl, ?_, ?_, ?_⟩
 ·have := BEdges.Own.at h ((BEdges.C_at es j z hz 0 (by decide)).trans rfl); simpa using this
 ·exact BEdges.Own.at h ((BEdges.C_at es j z hz 1 (by decide)).trans rfl)
 ·exact BEdges.Own.at h ((BEdges.C_at es j z hz 2 (by decide)).trans rfl)
def SortedAt (w : World) (v : Value) (es : List Sy.Ed) : Prop := Calls Tryz.prog 36 #[v] w fun e w' => ∃ u, e = .returned u ∧ BEdges.Own w' w.heap.size u (Sy.nf es) ∧ Below w.heap.size w w'
set_option maxRecDepth 100000 in
set_option maxHeartbeats 4000000 in
theorem sorted_short (v : Value) (es : List Sy.Ed) (w : World) (hv : HasE w v es) (hn : es.length < 2) : SortedAt w v es := by
 unfold SortedAt
 obtain ⟨i0, hi0, hz0, hz1, hz2⟩ := info_parts BEdges.Tryz.infoE
 obtain ⟨ao, cap, rfl, hc, hH⟩ := hv
 have hC := BEdges.copy_of hH
 obtain ⟨m, hm⟩ : ∃ m, m = es.length := ⟨_, rfl⟩
 rw [← hm] at hC ⊢
 have HC : Hid _ := And.intro hC hm
 have h1 : (m : Int) < 2 := by omega
 have hL1 : m ≤ maxLen := by unfold maxLen; omega
 have hL8 : m * 24 ≤ 140737488355328 := by omega
 have hcl : (BEdges.C es).length = m * 3 := by rw [BEdges.C_len, hm]
 clear hC hH hc hm
 go_enter Tryz.func36, Tryz.ntmps36
 go_wp2_with (at_builtin; refine wpList_copy_at _ rfl _ _ 22 rfl w.heap.size 61 i0 (.agg #[.int .i64 0, .int .i64 0, .int .i64 0]) 3 24 Tryz.underlying22 hi0 hz0 hz1 hz2 rfl (by decide) rfl ao m cap (BEdges.C es) rfl HC.out.1.1 hcl HC.out.1.2 (BEdges.C_one _) hL1 hL8 (Nat.le_refl _) ?_; intro v2 w2 hown2 hgrow2 hat2; have H2 : Hid _ := And.intro hown2 hgrow2; clear hown2 hgrow2 hat2)
 go_ret
 refine ⟨_, rfl, ?_, tgrown0 H2.out.2⟩
 have e : Sy.nf es = es := by
  have h9 := HC.out.2
  match es, h9 with
  | [], _ => rfl
  | [a], _ => rfl
  | a :: b :: r, h9 => exact absurd h1 (by rw [h9]; simp; omega)
 have h2 : w2.ownsRow w.heap.size 61 3 v2 m (BEdges.C es) := H2.out.1
 unfold BEdges.Own
 rw [e, ← HC.out.2]
 exact h2
set_option maxRecDepth 100000 in
set_option maxHeartbeats 16000000 in
theorem sorted_long (v : Value) (es : List Sy.Ed) (w : World) (hv : HasE w v es) (hn : ¬ es.length < 2) (hm : es.length ≤ 100000) (ih : ∀ (W : World) (x : Value) (xs : List Sy.Ed), xs.length < es.length → HasE W x xs → SortedAt W x xs) : SortedAt w v es := by
 unfold SortedAt
 obtain ⟨i0, hi0, hz0, hz1, hz2⟩ := info_parts BEdges.Tryz.infoE
 obtain ⟨n, hN⟩ : ∃ n, n = es.length := ⟨_, rfl⟩
 obtain ⟨ao, cap, rfl, hc, hH⟩ := _root_.id hv
 obtain ⟨a, rfl⟩ : ∃ a, ao = some a := by
  cases ao with
  | some a => exact ⟨a, rfl⟩
  | none => have := (BEdges.copy_of hH).1 rfl; omega
 obtain ⟨h, hh⟩ : ∃ h, h = n / 2 := ⟨_, rfl⟩
 have hA : ∀ W, Below w.heap.size w W → Calls Tryz.prog 36 #[.slice (some a) h cap] W fun e w' => ∃ u, e = .returned u ∧ BEdges.Own w' w.heap.size u (Sy.nf (es.take h)) ∧ Below w.heap.size w w' ∧ Below W.heap.size W w' := fun W hb => by
  have h1 := ih W _ _ (by rw [List.length_take]; omega) ((hasE_take hv h (by omega)).below hb)
  refine Calls.mono h1 ?_
  rintro e w' ⟨u, rfl, h2, h3⟩
  exact ⟨u, rfl, row_base h2 hb.size, hb.trans (h3.mono hb.size), h3⟩
 have hB : ∀ W, Below w.heap.size w W → Calls Tryz.prog 36 #[.slice (some (a.add (h * 3))) (n - h) (cap - h)] W fun e w' => ∃ u, e = .returned u ∧ BEdges.Own w' w.heap.size u (Sy.nf (es.drop h)) ∧ Below w.heap.size w w' ∧ Below W.heap.size W w' := fun W hb => by
  have h1 := ih W _ _ (by rw [List.length_drop]; omega) ((hasE_drop hv h (by omega)).below hb)
  rw [← hN] at h1
  refine Calls.mono h1 ?_
  rintro e w' ⟨u, rfl, h2, h3⟩
  exact ⟨u, rfl, row_base h2 hb.size, hb.trans (h3.mono hb.size), h3⟩
 have HI : Hid _ := And.intro hA hB
 have HN : Hid (n = es.length ∧ h = n / 2) := ⟨hN, hh⟩
 rw [← hN] at hn hm hc ⊢
 have g1 : ¬ (n : Int) < 2 := by omega
 have g2 : IntKind.i64.wrap ((n : Int) / 2) = (h : Int) := by rw [IntKind.wrap_i64]; omega
 have g3 : (0 : Int) ≤ (h : Int) := by omega
 have g4 : (h : Int) ≤ (cap : Int) := by omega
 have g5 : (h : Int) ≤ (n : Int) := by omega
 have g6 : (n : Int) ≤ (cap : Int) := by omega
 have g7 : ¬ cap = h := by omega
 clear hv hH hA hB hh ih hN
 go_enter Tryz.func36, Tryz.ntmps36
 go_upto_region 3 with fail
 go_cut [3, 4] (fun s3 s4 wx => BEdges.Own wx w.heap.size s3 (Sy.nf (es.take h)) ∧ BEdges.Own wx w.heap.size s4 (Sy.nf (es.drop h)) ∧ Below w.heap.size w wx)
 case first =>
  go_region_held3 (fun _ => True) (exact trivial)
   ((first
     | (go_at_call_of 36 (Value.slice (some a) h cap); refine (HI.out.1 _ (by repeat (first | exact Below.refl _ _ | assumption | refine Below.drew ?_ | refine Below.setCell ?_ (by simp) _ | refine Below.alloc ?_ (by simp) _))).mono ?_; rintro r1 wa ⟨u1, rfl, hO1, hw1, hb1⟩; obtain ⟨b1, c1, rfl⟩ := row_shape hO1)
     | (go_at_call_of 36 (Value.slice (some (a.add (h * 3))) (n - h) (cap - h)); refine (HI.out.2 _ (by repeat (first | exact Below.refl _ _ | assumption | refine Below.drew ?_ | refine Below.setCell ?_ (by simp) _ | refine Below.alloc ?_ (by simp) _))).mono ?_; rintro r2 wb ⟨u2, rfl, hO2, hw2, hb2⟩; obtain ⟨b2, c2, rfl⟩ := row_shape hO2)
     | fail))
  all_goals (refine Met.intro ?_; apply_assumption; refine Met.intro ?_; apply_assumption; (repeat apply Exists.intro); refine ⟨?rel, rfl⟩; case rel => exact ⟨trow_at hO1 fun i hi => hb2.block i (hO1.lt i hi).2, hO2, hw2⟩)
 case rest =>
  obtain ⟨hOa, hOb, hbw⟩ := hcut
  obtain ⟨oa, ca, rfl⟩ := row_shape hOa
  obtain ⟨ob, cb, rfl⟩ := row_shape hOb
  obtain ⟨as0, has⟩ : ∃ l, l = Sy.nf (es.take h) := ⟨_, rfl⟩
  obtain ⟨bs0, hbs⟩ : ∃ l, l = Sy.nf (es.drop h) := ⟨_, rfl⟩
  rw [← has] at hOa ⊢
  rw [← hbs] at hOb ⊢
  have hla : as0.length ≤ 100000 := by have := Sy.nf_len (es.take h); rw [← has, List.length_take] at this; have := HN.out.1; omega
  have hlb : bs0.length ≤ 100000 := by have := Sy.nf_len (es.drop h); rw [← hbs, List.length_drop] at this; have := HN.out.1; omega
  obtain ⟨A, hAl⟩ : ∃ A, A = as0.length := ⟨_, rfl⟩
  obtain ⟨B, hBl⟩ : ∃ B, B = bs0.length := ⟨_, rfl⟩
  have hsa : Sy.Str as0 := by rw [has]; exact Sy.nf_str _
  have hsb : Sy.Str bs0 := by rw [hbs]; exact Sy.nf_str _
  have HF : Hid (∀ x, (x ∈ as0 ∨ x ∈ bs0) ↔ x ∈ es) := (fun x => by rw [has, hbs, Sy.nf_mem, Sy.nf_mem, ← List.mem_append, List.take_append_drop] : ∀ x, (x ∈ as0 ∨ x ∈ bs0) ↔ x ∈ es)
  have HS : Hid _ := And.intro hsa hsb
  have HO : Hid _ := And.intro hOa (And.intro hOb hbw)
  have HL : Hid (A = as0.length ∧ B = bs0.length) := ⟨hAl, hBl⟩
  rw [← hAl] at hla ⊢
  rw [← hBl] at hlb ⊢
  clear hsa hsb hOa hOb hbw has hbs hAl hBl HI HN g1 g2 g3 g4 g5 g6 g7 hc hm hn
  obtain ⟨w1, rfl⟩ : ∃ w1, w1 = wc := ⟨_, rfl⟩
  go_wp2_with fail
  go_loopg [5, 6, 7] (A + B) (fun q ov iv kv wr => ∃ (i k : Nat) (out : List Sy.Ed), q = (A - i) + (B - k) ∧ i ≤ A ∧ k ≤ B ∧ iv = .int .i64 i ∧ kv = .int .i64 k ∧ Sy.Mg as0 bs0 i k out ∧ BEdges.Own wr w1.heap.size ov out ∧ Below w1.heap.size w1 wr ∧ out.length ≤ i + k)
  case atStart => exact ⟨0, 0, [], rfl, Nat.zero_le _, Nat.zero_le _, rfl, rfl, Sy.Mg.start _ _, World.ownsRow_nil _ _ _ _, Below.refl _ _, Nat.le_refl _⟩
  case round =>
   obtain ⟨i, k, out, rfl, hi, hk, rfl, rfl, hM, hOo, hb, hol⟩ := hrel
   by_cases hmore : i < A ∨ k < B
   ·obtain ⟨ao2, co, rfl⟩ := row_shape hOo
    obtain ⟨N, hNo⟩ : ∃ N, N = out.length := ⟨_, rfl⟩
    have HW : Hid _ := And.intro hM (And.intro hOo (And.intro hb (And.intro hNo hol)))
    have hNl : N ≤ 200000 := by omega
    rw [← hNo]
    clear hM hOo hb hNo hol
    obtain ⟨c, hc⟩ : ∃ c : Bool, c = true ∧ i < A ∧ (∀ f, bs0[k]? = some f → ∀ e, as0[i]? = some e → Sy.lt f e = false) ∨ c = false ∧ k < B ∧ (∀ f, bs0[k]? = some f → ∀ e, as0[i]? = some e → Sy.lt f e = true) := by
     by_cases h1 : i < A
     ·by_cases h2 : k < B
      ·cases h3 : Sy.lt (bs0[k]'(by have := HL.out.2; omega)) (as0[i]'(by have := HL.out.1; omega)) with
       | false => exact ⟨true, .inl ⟨rfl, h1, fun f hf e he => by obtain ⟨_, rfl⟩ := List.getElem?_eq_some_iff.1 hf; obtain ⟨_, rfl⟩ := List.getElem?_eq_some_iff.1 he; exact h3⟩⟩
       | true => exact ⟨false, .inr ⟨rfl, h2, fun f hf e he => by obtain ⟨_, rfl⟩ := List.getElem?_eq_some_iff.1 hf; obtain ⟨_, rfl⟩ := List.getElem?_eq_some_iff.1 he; exact h3⟩⟩
      ·exact ⟨true, .inl ⟨rfl, h1, fun f hf => by have := (List.getElem?_eq_some_iff.1 hf).1; have := HL.out.2; omega⟩⟩
     ·exact ⟨false, .inr ⟨rfl, by omega, fun f hf e he => by have := (List.getElem?_eq_some_iff.1 he).1; have := HL.out.1; omega⟩⟩
    have HC : Hid _ := hc
    obtain ⟨wq, rfl⟩ : ∃ wq, wq = wr := ⟨_, rfl⟩
    have hgl : w1.heap.size ≤ wq.heap.size := HW.out.2.2.1.size
    obtain ⟨wz, hwz⟩ : ∃ wz, wz = wq.alloc (.cells #[.int .i64 0, .int .i64 0, .int .i64 0] 61) := ⟨_, rfl⟩
    have hbz : Below wq.heap.size wq wz := by rw [hwz]; exact (Below.refl _ _).alloc (Nat.le_refl _) _
    have hgz : wz.heap[wq.heap.size]? = some (.cells #[.int .i64 0, .int .i64 0, .int .i64 0] 61 (0, 0)) := by rw [hwz]; exact (MapKept.heap_alloc wq _).1
    have H0 : Hid _ := And.intro hbz (And.intro hgz hwz)
    clear hc hbz hgz hwz
    by_cases hA : i < A
    ·have p1 : (i : Int) < (A : Int) := by omega
     have p2 : decide ((i : Int) < (A : Int)) = true := decide_eq_true p1
     by_cases hB : k < B
     ·have p3 : ¬ (B : Int) ≤ (k : Int) := by omega
      have p4 : decide ((B : Int) ≤ (k : Int)) = false := decide_eq_false p3
      have p5 : (0 : Int) ≤ (k : Int) := by omega
      have p6 : (k : Int) < (B : Int) := by omega
      have p7 : (0 : Int) ≤ (i : Int) := by omega
      obtain ⟨f, hf⟩ : ∃ f, bs0[k]? = some f := ⟨bs0[k]'(by have := HL.out.2; omega), List.getElem?_eq_getElem _⟩
      obtain ⟨e, he⟩ : ∃ e, as0[i]? = some e := ⟨as0[i]'(by have := HL.out.1; omega), List.getElem?_eq_getElem _⟩
      have hbz1 : Below w1.heap.size w1 wz := HW.out.2.2.1.trans (H0.out.1.mono hgl)
      obtain ⟨ga, rfl, e0, e1, e2⟩ := own_edge (trow_at (w' := wz) HO.out.1 fun b hb => hbz1.block b (HO.out.1.lt b hb).2) he
      obtain ⟨gb, rfl, f0, f1, f2⟩ := own_edge (trow_at (w' := wz) HO.out.2.1 fun b hb => hbz1.block b (HO.out.2.1.lt b hb).2) hf
      have HLess : Hid (∀ W, Calls Tryz.prog 104 #[.agg #[.int .i64 f.1, .int .i64 f.2.1, .int .i64 f.2.2], .agg #[.int .i64 e.1, .int .i64 e.2.1, .int .i64 e.2.2]] W fun r w' => r = .returned (.bool (Sy.lt f e)) ∧ Below W.heap.size W w') := (fun W => refLess_any f e W : ∀ W, Calls Tryz.prog 104 #[.agg #[.int .i64 f.1, .int .i64 f.2.1, .int .i64 f.2.2], .agg #[.int .i64 e.1, .int .i64 e.2.1, .int .i64 e.2.2]] W fun r w' => r = .returned (.bool (Sy.lt f e)) ∧ Below W.heap.size W w')
      have HCV : Hid (Value.bool (!Sy.lt f e) = Value.bool c) := (by
       rcases HC.out with ⟨rfl, _, h9⟩ | ⟨rfl, _, h9⟩
       ·rw [h9 f hf e he]; rfl
       ·rw [h9 f hf e he]; rfl : Value.bool (!Sy.lt f e) = Value.bool c)
      clear hf he hbz1 hmore hA hB
      go_upto_region 8 with fail
      rw [← H0.out.2.2]
      go_cut [57] (fun s57 wx => s57 = .bool c ∧ Below wz.heap.size wz wx)
      case first =>
       go_region_held3 (fun w' => w'.cell? ⟨gb, k * 3, none⟩ = some (.int .i64 f.1) ∧ w'.cell? ⟨gb, k * 3 + 1, none⟩ = some (.int .i64 f.2.1) ∧ w'.cell? ⟨gb, k * 3 + 2, none⟩ = some (.int .i64 f.2.2) ∧ w'.cell? ⟨ga, i * 3, none⟩ = some (.int .i64 e.1) ∧ w'.cell? ⟨ga, i * 3 + 1, none⟩ = some (.int .i64 e.2.1) ∧ w'.cell? ⟨ga, i * 3 + 2, none⟩ = some (.int .i64 e.2.2)) (go_keep)
        ((first
          | (go_at_call 104; refine (HLess.out _).mono ?_; rintro r8 w8 ⟨rfl, hb8'⟩; have hb8 := below_of_drew3 hb8'; have f0 := cell_up f0 hb8; have f1 := cell_up f1 hb8; have f2 := cell_up f2 hb8; have e0 := cell_up e0 hb8; have e1 := cell_up e1 hb8; have e2 := cell_up e2 hb8; have H8 : Hid _ := hb8; clear hb8 hb8')
          | fail))
       all_goals (refine Met.intro ?_; apply_assumption; refine Met.intro ?_; apply_assumption; (repeat apply Exists.intro); refine ⟨?rel, rfl⟩; case rel => exact ⟨by first | exact HCV.out | (rw [← HCV.out]; simp), by first | exact H8.out | exact below_drewN H8.out _⟩)
      case rest =>
       obtain ⟨rfl, hbc⟩ := hcut
       have hgc := (hbc.block _ (t_lt H0.out.2.1)).trans H0.out.2.1
       have hbq : Below wq.heap.size wq wc := H0.out.1.trans (hbc.mono H0.out.1.size)
       have hOc := trow_at (w' := wc) HW.out.2.1 fun b hb => hbq.block b (HW.out.2.1.lt b hb).2
       have hbw1 : Below w1.heap.size w1 wc := HW.out.2.2.1.trans (hbq.mono hgl)
       have y0 : wc.cell? ⟨wq.heap.size, 0, none⟩ = some (.int .i64 0) := cell0_of hgc rfl
       have y1 : wc.cell? ⟨wq.heap.size, 1, none⟩ = some (.int .i64 0) := cell0_of hgc rfl
       have y2 : wc.cell? ⟨wq.heap.size, 2, none⟩ = some (.int .i64 0) := cell0_of hgc rfl
       have z0 := blk_free hgc 0
       have z1 := blk_free hgc 1
       have z2 := blk_free hgc 2
       have HR : Hid _ := And.intro hOc (And.intro hbw1 (And.intro hgc hbq))
       clear hbc hgc hbq hOc hbw1
       clear e0 e1 e2 f0 f1 f2 p2 p3 p4 p5 p6 p7 HLess HCV
       cases c with
       | true =>
         obtain ⟨h9, hiA, hlt9⟩ | ⟨h9, _⟩ := HC.out
         ·obtain ⟨x, hx⟩ : ∃ x, as0[i]? = some x := ⟨as0[i]'(by have := HL.out.1; omega), List.getElem?_eq_getElem _⟩
          obtain ⟨gx, hgx, x0, x1, x2⟩ := own_edge (trow_at (w' := wc) HO.out.1 fun b hb => HR.out.2.1.block b (HO.out.1.lt b hb).2) hx
          cases hgx
          have hMn := HW.out.1.left HS.out.1 HS.out.2 hx (fun f hf => hlt9 f hf x hx)
          have r0 : (0 : Int) ≤ (i : Int) := by omega
          have r1 : (i : Int) < (A : Int) := by omega
          have r2 : IntKind.i64.wrap ((i : Int) + 1) = (i : Int) + 1 := by rw [IntKind.wrap_i64]; omega
          have HX : Hid (Sy.Mg as0 bs0 (i + 1) k (Sy.put out x)) := hMn
          clear h9 hlt9 hx hMn
          go_wp2_with fail
          have hgs : ((((wc.setCell ⟨wq.heap.size, 0, none⟩ (.int .i64 x.1)).setCell ⟨wq.heap.size, 1, none⟩ (.int .i64 x.2.1)).setCell ⟨wq.heap.size, 2, none⟩ (.int .i64 x.2.2))).heap[wq.heap.size]? = some (.cells #[.int .i64 x.1, .int .i64 x.2.1, .int .i64 x.2.2] 61 (0, 0)) := heap_setCell_same _ _ 2 _ _ _ (heap_setCell_same _ _ 1 _ _ _ (heap_setCell_same _ _ 0 _ _ _ HR.out.2.2.1))
          have hks : Kept (fun b => b = wq.heap.size) wc (((wc.setCell ⟨wq.heap.size, 0, none⟩ (.int .i64 x.1)).setCell ⟨wq.heap.size, 1, none⟩ (.int .i64 x.2.1)).setCell ⟨wq.heap.size, 2, none⟩ (.int .i64 x.2.2)) := ((Kept.setCell wc _ 0 _).trans (Kept.setCell _ _ 1 _)).trans (Kept.setCell _ _ 2 _)
          obtain ⟨ws, hws⟩ : ∃ ws, ws = ((wc.setCell ⟨wq.heap.size, 0, none⟩ (.int .i64 x.1)).setCell ⟨wq.heap.size, 1, none⟩ (.int .i64 x.2.1)).setCell ⟨wq.heap.size, 2, none⟩ (.int .i64 x.2.2) := ⟨_, rfl⟩
          rw [← hws] at hgs hks ⊢
          have hOs : BEdges.Own ws w1.heap.size (.slice ao2 out.length co) out := own_up HR.out.1 hks fun b hb e => by have := (HW.out.2.1.lt b hb).2; omega
          have hbs : Below w1.heap.size w1 ws := HR.out.2.1.trans (hks.below HR.out.2.1.size fun b hb => by omega)
          have u0 : ws.cell? ⟨wq.heap.size, 0, none⟩ = some (.int .i64 x.1) := cell0_of hgs rfl
          have u1 : ws.cell? ⟨wq.heap.size, 1, none⟩ = some (.int .i64 x.2.1) := cell0_of hgs rfl
          have u2 : ws.cell? ⟨wq.heap.size, 2, none⟩ = some (.int .i64 x.2.2) := cell0_of hgs rfl
          have HT : Hid _ := And.intro hOs (And.intro hbs hgs)
          clear hws hgs hks hOs hbs y0 y1 y2 z0 z1 z2 x0 x1 x2
          by_cases hN0 : N = 0
          ·have s1 : ((N : Int) == 0) = true := by simp; omega
           have HP : Hid (¬ out.getLast? = some x) := (by
            have h8 : out = [] := List.eq_nil_of_length_eq_zero (by have := HW.out.2.2.2.1; omega)
            rw [h8]; simp : ¬ out.getLast? = some x)
           clear hN0
           go_wp2_with fail
           go_quiet (fail)
           have hml : N + 1 ≤ maxLen := by unfold maxLen; omega
           have hby : (N + 1) * 24 ≤ 140737488355328 := by omega
           have hOs2 : ws.ownsRow w1.heap.size 61 3 (.slice ao2 N co) N (BEdges.C out) := by have h8 := HT.out.1; unfold BEdges.Own at h8; rw [← HW.out.2.2.2.1] at h8; exact h8
           obtain ⟨wt, hwt⟩ : ∃ wt, wt = ws.drewN nq := ⟨_, rfl⟩
           have v0 : wt.cell? ⟨wq.heap.size, 0, none⟩ = some (.int .i64 x.1) := by rw [hwt]; exact u0
           have v1 : wt.cell? ⟨wq.heap.size, 1, none⟩ = some (.int .i64 x.2.1) := by rw [hwt]; exact u1
           have v2 : wt.cell? ⟨wq.heap.size, 2, none⟩ = some (.int .i64 x.2.2) := by rw [hwt]; exact u2
           have hOt : wt.ownsRow w1.heap.size 61 3 (.slice ao2 N co) N (BEdges.C out) := by rw [hwt]; exact trow_at hOs2 fun _ _ => rfl
           have hbt : Below w1.heap.size w1 wt := by rw [hwt]; exact below_drewN HT.out.2.1 _
           rw [← hwt]
           have hle : w1.heap.size ≤ (wt.alloc (.cells #[.int .i64 x.1, .int .i64 x.2.1, .int .i64 x.2.2] 61)).heap.size := by have := hbt.size; simp; omega
           have HU : Hid _ := And.intro hOt hbt
           clear hwt hOs2 hOt hbt u0 u1 u2
           go_wp2_with (at_builtin; refine wpList_append_own_at _ rfl _ _ 22 rfl w1.heap.size 61 i0 (.agg #[.int .i64 0, .int .i64 0, .int .i64 0]) 3 24 Tryz.underlying22 hi0 hz0 hz1 hz2 rfl (by decide) (.slice ao2 N co) N (BEdges.C out) rfl (HU.out.1.alloc _) ⟨wt.heap.size, 0, none⟩ 1 1 [.int .i64 x.1, .int .i64 x.2.1, .int .i64 x.2.2] rfl rfl (World.news_of_block (cs := #[.int .i64 x.1, .int .i64 x.2.1, .int .i64 x.2.2]) (t := 61) (fr := (0, 0)) (heap_alloc_new wt _)) (by simp [Value.oneCell']) hml hby hle ?_; intro w2v w2 hown2 hgrow2 hnil2 hat2; have H2 : Hid _ := And.intro hown2 hgrow2; clear hown2 hgrow2 hnil2 hat2)
           go_roundg ((A - (i + 1)) + (B - (k)))
           case measure => omega
           case rel => exact ⟨i + 1, k, out ++ [x], rfl, by omega, by omega, by first | rfl | go_num, by first | rfl | go_num, by have h8 := HX.out; unfold Sy.put at h8; rw [if_neg HP.out] at h8; exact h8, by unfold BEdges.Own; rw [BEdges.C_snoc, List.length_append, ← HW.out.2.2.2.1]; exact H2.out.1, HU.out.2.trans ((grown_alloc H2.out.2).below HU.out.2.size fun b hb => (HU.out.1.lt b hb).1), by rw [List.length_append]; have := HW.out.2.2.2.2; simp; omega⟩
          ·have s1 : ((N : Int) == 0) = false := by simp; omega
           obtain ⟨l, hl⟩ : ∃ l, out[N - 1]? = some l := ⟨out[N - 1]'(by have := HW.out.2.2.2.1; omega), List.getElem?_eq_getElem _⟩
           obtain ⟨gl, hgl2, l0, l1, l2⟩ := own_edge HT.out.1 hl
           cases hgl2
           have s2 : IntKind.i64.wrap ((N : Int) - 1) = ((N - 1 : Nat) : Int) := by rw [IntKind.wrap_i64]; omega
           have s3 : (0 : Int) ≤ ((N - 1 : Nat) : Int) := by omega
           have s4 : ((N - 1 : Nat) : Int) < (N : Int) := by omega
           have hlast : out.getLast? = some l := by rw [List.getLast?_eq_getElem?, ← HW.out.2.2.2.1]; exact hl
           obtain ⟨M, hM⟩ : ∃ M, M = N - 1 := ⟨_, rfl⟩
           rw [← hM] at l0 l1 l2 s2 s3 s4
           have HM : Hid _ := hM
           have HLa : Hid (out.getLast? = some l) := hlast
           clear hM hl hlast hN0
           by_cases hlx : l = x
           ·subst hlx
            go_wp2_with fail
            go_quiet (fail)
            go_wp2_with fail
            go_roundg ((A - (i + 1)) + (B - (k)))
            case measure => omega
            case rel => exact ⟨i + 1, k, out, rfl, by omega, by omega, by first | rfl | go_num, by first | rfl | go_num, by have h8 := HX.out; unfold Sy.put at h8; rw [if_pos HLa.out] at h8; exact h8, by have h8 := HT.out.1; rw [← HW.out.2.2.2.1] at h8; exact trow_at h8 fun _ _ => rfl, below_drewN HT.out.2.1 _, by have := HW.out.2.2.2.2; omega⟩
           ·have HP : Hid (¬ out.getLast? = some x) := (by rw [HLa.out]; intro e; exact hlx (Option.some.inj e) : ¬ out.getLast? = some x)
            have hd : (l.1 == x.1) = false ∨ (l.1 == x.1) = true ∧ ((l.2.1 == x.2.1) = false ∨ (l.2.1 == x.2.1) = true ∧ (l.2.2 == x.2.2) = false) := by
             by_cases d1 : l.1 = x.1
             ·by_cases d2 : l.2.1 = x.2.1
              ·right
               refine ⟨by simpa using d1, .inr ⟨by simpa using d2, ?_⟩⟩
               have : ¬ l.2.2 = x.2.2 := fun d3 => hlx (by rw [Prod.ext_iff, Prod.ext_iff]; exact ⟨d1, d2, d3⟩)
               simpa using this
              ·exact .inr ⟨by simpa using d1, .inl (by simpa using d2)⟩
             ·exact .inl (by simpa using d1)
            clear hlx
            rcases hd with d1 | ⟨d1, d2 | ⟨d2, d3⟩⟩
            all_goals
             go_wp2_with fail
             go_quiet (fail)
             have hml : N + 1 ≤ maxLen := by unfold maxLen; omega
             have hby : (N + 1) * 24 ≤ 140737488355328 := by omega
             have hOs2 : ws.ownsRow w1.heap.size 61 3 (.slice (some ⟨gl, 0, none⟩) N co) N (BEdges.C out) := by have h8 := HT.out.1; unfold BEdges.Own at h8; rw [← HW.out.2.2.2.1] at h8; exact h8
             obtain ⟨wt, hwt⟩ : ∃ wt, wt = ws.drewN nq := ⟨_, rfl⟩
             have v0 : wt.cell? ⟨wq.heap.size, 0, none⟩ = some (.int .i64 x.1) := by rw [hwt]; exact u0
             have v1 : wt.cell? ⟨wq.heap.size, 1, none⟩ = some (.int .i64 x.2.1) := by rw [hwt]; exact u1
             have v2 : wt.cell? ⟨wq.heap.size, 2, none⟩ = some (.int .i64 x.2.2) := by rw [hwt]; exact u2
             have hOt : wt.ownsRow w1.heap.size 61 3 (.slice (some ⟨gl, 0, none⟩) N co) N (BEdges.C out) := by rw [hwt]; exact trow_at hOs2 fun _ _ => rfl
             have hbt : Below w1.heap.size w1 wt := by rw [hwt]; exact below_drewN HT.out.2.1 _
             rw [← hwt]
             have hle : w1.heap.size ≤ (wt.alloc (.cells #[.int .i64 x.1, .int .i64 x.2.1, .int .i64 x.2.2] 61)).heap.size := by have := hbt.size; simp; omega
             have HU : Hid _ := And.intro hOt hbt
             clear hwt hOs2 hOt hbt u0 u1 u2
             go_wp2_with (at_builtin; refine wpList_append_own_at _ rfl _ _ 22 rfl w1.heap.size 61 i0 (.agg #[.int .i64 0, .int .i64 0, .int .i64 0]) 3 24 Tryz.underlying22 hi0 hz0 hz1 hz2 rfl (by decide) (.slice (some ⟨gl, 0, none⟩) N co) N (BEdges.C out) rfl (HU.out.1.alloc _) ⟨wt.heap.size, 0, none⟩ 1 1 [.int .i64 x.1, .int .i64 x.2.1, .int .i64 x.2.2] rfl rfl (World.news_of_block (cs := #[.int .i64 x.1, .int .i64 x.2.1, .int .i64 x.2.2]) (t := 61) (fr := (0, 0)) (heap_alloc_new wt _)) (by simp [Value.oneCell']) hml hby hle ?_; intro w2v w2 hown2 hgrow2 hnil2 hat2; have H2 : Hid _ := And.intro hown2 hgrow2; clear hown2 hgrow2 hnil2 hat2)
             go_roundg ((A - (i + 1)) + (B - (k)))
             case measure => omega
             case rel => exact ⟨i + 1, k, out ++ [x], rfl, by omega, by omega, by first | rfl | go_num, by first | rfl | go_num, by have h8 := HX.out; unfold Sy.put at h8; rw [if_neg HP.out] at h8; exact h8, by unfold BEdges.Own; rw [BEdges.C_snoc, List.length_append, ← HW.out.2.2.2.1]; exact H2.out.1, HU.out.2.trans ((grown_alloc H2.out.2).below HU.out.2.size fun b hb => (HU.out.1.lt b hb).1), by rw [List.length_append]; have := HW.out.2.2.2.2; simp; omega⟩
         ·cases h9
       | false =>
         obtain ⟨h9, _⟩ | ⟨h9, hkB, hlt9⟩ := HC.out
         ·cases h9
         ·obtain ⟨x, hx⟩ : ∃ x, bs0[k]? = some x := ⟨bs0[k]'(by have := HL.out.2; omega), List.getElem?_eq_getElem _⟩
          obtain ⟨gx, hgx, x0, x1, x2⟩ := own_edge (trow_at (w' := wc) HO.out.2.1 fun b hb => HR.out.2.1.block b (HO.out.2.1.lt b hb).2) hx
          cases hgx
          have hMn := (HW.out.1.swap.left HS.out.2 HS.out.1 hx (fun f hf => Sy.lt_asymm (hlt9 x hx f hf))).swap
          have r0 : (0 : Int) ≤ (k : Int) := by omega
          have r1 : (k : Int) < (B : Int) := by omega
          have r2 : IntKind.i64.wrap ((k : Int) + 1) = (k : Int) + 1 := by rw [IntKind.wrap_i64]; omega
          have HX : Hid (Sy.Mg as0 bs0 i (k + 1) (Sy.put out x)) := hMn
          clear h9 hlt9 hx hMn
          go_wp2_with fail
          have hgs : ((((wc.setCell ⟨wq.heap.size, 0, none⟩ (.int .i64 x.1)).setCell ⟨wq.heap.size, 1, none⟩ (.int .i64 x.2.1)).setCell ⟨wq.heap.size, 2, none⟩ (.int .i64 x.2.2))).heap[wq.heap.size]? = some (.cells #[.int .i64 x.1, .int .i64 x.2.1, .int .i64 x.2.2] 61 (0, 0)) := heap_setCell_same _ _ 2 _ _ _ (heap_setCell_same _ _ 1 _ _ _ (heap_setCell_same _ _ 0 _ _ _ HR.out.2.2.1))
          have hks : Kept (fun b => b = wq.heap.size) wc (((wc.setCell ⟨wq.heap.size, 0, none⟩ (.int .i64 x.1)).setCell ⟨wq.heap.size, 1, none⟩ (.int .i64 x.2.1)).setCell ⟨wq.heap.size, 2, none⟩ (.int .i64 x.2.2)) := ((Kept.setCell wc _ 0 _).trans (Kept.setCell _ _ 1 _)).trans (Kept.setCell _ _ 2 _)
          obtain ⟨ws, hws⟩ : ∃ ws, ws = ((wc.setCell ⟨wq.heap.size, 0, none⟩ (.int .i64 x.1)).setCell ⟨wq.heap.size, 1, none⟩ (.int .i64 x.2.1)).setCell ⟨wq.heap.size, 2, none⟩ (.int .i64 x.2.2) := ⟨_, rfl⟩
          rw [← hws] at hgs hks ⊢
          have hOs : BEdges.Own ws w1.heap.size (.slice ao2 out.length co) out := own_up HR.out.1 hks fun b hb e => by have := (HW.out.2.1.lt b hb).2; omega
          have hbs : Below w1.heap.size w1 ws := HR.out.2.1.trans (hks.below HR.out.2.1.size fun b hb => by omega)
          have u0 : ws.cell? ⟨wq.heap.size, 0, none⟩ = some (.int .i64 x.1) := cell0_of hgs rfl
          have u1 : ws.cell? ⟨wq.heap.size, 1, none⟩ = some (.int .i64 x.2.1) := cell0_of hgs rfl
          have u2 : ws.cell? ⟨wq.heap.size, 2, none⟩ = some (.int .i64 x.2.2) := cell0_of hgs rfl
          have HT : Hid _ := And.intro hOs (And.intro hbs hgs)
          clear hws hgs hks hOs hbs y0 y1 y2 z0 z1 z2 x0 x1 x2
          by_cases hN0 : N = 0
          ·have s1 : ((N : Int) == 0) = true := by simp; omega
           have HP : Hid (¬ out.getLast? = some x) := (by
            have h8 : out = [] := List.eq_nil_of_length_eq_zero (by have := HW.out.2.2.2.1; omega)
            rw [h8]; simp : ¬ out.getLast? = some x)
           clear hN0
           go_wp2_with fail
           go_quiet (fail)
           have hml : N + 1 ≤ maxLen := by unfold maxLen; omega
           have hby : (N + 1) * 24 ≤ 140737488355328 := by omega
           have hOs2 : ws.ownsRow w1.heap.size 61 3 (.slice ao2 N co) N (BEdges.C out) := by have h8 := HT.out.1; unfold BEdges.Own at h8; rw [← HW.out.2.2.2.1] at h8; exact h8
           obtain ⟨wt, hwt⟩ : ∃ wt, wt = ws.drewN nq := ⟨_, rfl⟩
           have v0 : wt.cell? ⟨wq.heap.size, 0, none⟩ = some (.int .i64 x.1) := by rw [hwt]; exact u0
           have v1 : wt.cell? ⟨wq.heap.size, 1, none⟩ = some (.int .i64 x.2.1) := by rw [hwt]; exact u1
           have v2 : wt.cell? ⟨wq.heap.size, 2, none⟩ = some (.int .i64 x.2.2) := by rw [hwt]; exact u2
           have hOt : wt.ownsRow w1.heap.size 61 3 (.slice ao2 N co) N (BEdges.C out) := by rw [hwt]; exact trow_at hOs2 fun _ _ => rfl
           have hbt : Below w1.heap.size w1 wt := by rw [hwt]; exact below_drewN HT.out.2.1 _
           rw [← hwt]
           have hle : w1.heap.size ≤ (wt.alloc (.cells #[.int .i64 x.1, .int .i64 x.2.1, .int .i64 x.2.2] 61)).heap.size := by have := hbt.size; simp; omega
           have HU : Hid _ := And.intro hOt hbt
           clear hwt hOs2 hOt hbt u0 u1 u2
           go_wp2_with (at_builtin; refine wpList_append_own_at _ rfl _ _ 22 rfl w1.heap.size 61 i0 (.agg #[.int .i64 0, .int .i64 0, .int .i64 0]) 3 24 Tryz.underlying22 hi0 hz0 hz1 hz2 rfl (by decide) (.slice ao2 N co) N (BEdges.C out) rfl (HU.out.1.alloc _) ⟨wt.heap.size, 0, none⟩ 1 1 [.int .i64 x.1, .int .i64 x.2.1, .int .i64 x.2.2] rfl rfl (World.news_of_block (cs := #[.int .i64 x.1, .int .i64 x.2.1, .int .i64 x.2.2]) (t := 61) (fr := (0, 0)) (heap_alloc_new wt _)) (by simp [Value.oneCell']) hml hby hle ?_; intro w2v w2 hown2 hgrow2 hnil2 hat2; have H2 : Hid _ := And.intro hown2 hgrow2; clear hown2 hgrow2 hnil2 hat2)
           go_roundg ((A - (i)) + (B - (k + 1)))
           case measure => omega
           case rel => exact ⟨i, k + 1, out ++ [x], rfl, by omega, by omega, by first | rfl | go_num, by first | rfl | go_num, by have h8 := HX.out; unfold Sy.put at h8; rw [if_neg HP.out] at h8; exact h8, by unfold BEdges.Own; rw [BEdges.C_snoc, List.length_append, ← HW.out.2.2.2.1]; exact H2.out.1, HU.out.2.trans ((grown_alloc H2.out.2).below HU.out.2.size fun b hb => (HU.out.1.lt b hb).1), by rw [List.length_append]; have := HW.out.2.2.2.2; simp; omega⟩
          ·have s1 : ((N : Int) == 0) = false := by simp; omega
           obtain ⟨l, hl⟩ : ∃ l, out[N - 1]? = some l := ⟨out[N - 1]'(by have := HW.out.2.2.2.1; omega), List.getElem?_eq_getElem _⟩
           obtain ⟨gl, hgl2, l0, l1, l2⟩ := own_edge HT.out.1 hl
           cases hgl2
           have s2 : IntKind.i64.wrap ((N : Int) - 1) = ((N - 1 : Nat) : Int) := by rw [IntKind.wrap_i64]; omega
           have s3 : (0 : Int) ≤ ((N - 1 : Nat) : Int) := by omega
           have s4 : ((N - 1 : Nat) : Int) < (N : Int) := by omega
           have hlast : out.getLast? = some l := by rw [List.getLast?_eq_getElem?, ← HW.out.2.2.2.1]; exact hl
           obtain ⟨M, hM⟩ : ∃ M, M = N - 1 := ⟨_, rfl⟩
           rw [← hM] at l0 l1 l2 s2 s3 s4
           have HM : Hid _ := hM
           have HLa : Hid (out.getLast? = some l) := hlast
           clear hM hl hlast hN0
           by_cases hlx : l = x
           ·subst hlx
            go_wp2_with fail
            go_quiet (fail)
            go_wp2_with fail
            go_roundg ((A - (i)) + (B - (k + 1)))
            case measure => omega
            case rel => exact ⟨i, k + 1, out, rfl, by omega, by omega, by first | rfl | go_num, by first | rfl | go_num, by have h8 := HX.out; unfold Sy.put at h8; rw [if_pos HLa.out] at h8; exact h8, by have h8 := HT.out.1; rw [← HW.out.2.2.2.1] at h8; exact trow_at h8 fun _ _ => rfl, below_drewN HT.out.2.1 _, by have := HW.out.2.2.2.2; omega⟩
           ·have HP : Hid (¬ out.getLast? = some x) := (by rw [HLa.out]; intro e; exact hlx (Option.some.inj e) : ¬ out.getLast? = some x)
            have hd : (l.1 == x.1) = false ∨ (l.1 == x.1) = true ∧ ((l.2.1 == x.2.1) = false ∨ (l.2.1 == x.2.1) = true ∧ (l.2.2 == x.2.2) = false) := by
             by_cases d1 : l.1 = x.1
             ·by_cases d2 : l.2.1 = x.2.1
              ·right
               refine ⟨by simpa using d1, .inr ⟨by simpa using d2, ?_⟩⟩
               have : ¬ l.2.2 = x.2.2 := fun d3 => hlx (by rw [Prod.ext_iff, Prod.ext_iff]; exact ⟨d1, d2, d3⟩)
               simpa using this
              ·exact .inr ⟨by simpa using d1, .inl (by simpa using d2)⟩
             ·exact .inl (by simpa using d1)
            clear hlx
            rcases hd with d1 | ⟨d1, d2 | ⟨d2, d3⟩⟩
            all_goals
             go_wp2_with fail
             go_quiet (fail)
             have hml : N + 1 ≤ maxLen := by unfold maxLen; omega
             have hby : (N + 1) * 24 ≤ 140737488355328 := by omega
             have hOs2 : ws.ownsRow w1.heap.size 61 3 (.slice (some ⟨gl, 0, none⟩) N co) N (BEdges.C out) := by have h8 := HT.out.1; unfold BEdges.Own at h8; rw [← HW.out.2.2.2.1] at h8; exact h8
             obtain ⟨wt, hwt⟩ : ∃ wt, wt = ws.drewN nq := ⟨_, rfl⟩
             have v0 : wt.cell? ⟨wq.heap.size, 0, none⟩ = some (.int .i64 x.1) := by rw [hwt]; exact u0
             have v1 : wt.cell? ⟨wq.heap.size, 1, none⟩ = some (.int .i64 x.2.1) := by rw [hwt]; exact u1
             have v2 : wt.cell? ⟨wq.heap.size, 2, none⟩ = some (.int .i64 x.2.2) := by rw [hwt]; exact u2
             have hOt : wt.ownsRow w1.heap.size 61 3 (.slice (some ⟨gl, 0, none⟩) N co) N (BEdges.C out) := by rw [hwt]; exact trow_at hOs2 fun _ _ => rfl
             have hbt : Below w1.heap.size w1 wt := by rw [hwt]; exact below_drewN HT.out.2.1 _
             rw [← hwt]
             have hle : w1.heap.size ≤ (wt.alloc (.cells #[.int .i64 x.1, .int .i64 x.2.1, .int .i64 x.2.2] 61)).heap.size := by have := hbt.size; simp; omega
             have HU : Hid _ := And.intro hOt hbt
             clear hwt hOs2 hOt hbt u0 u1 u2
             go_wp2_with (at_builtin; refine wpList_append_own_at _ rfl _ _ 22 rfl w1.heap.size 61 i0 (.agg #[.int .i64 0, .int .i64 0, .int .i64 0]) 3 24 Tryz.underlying22 hi0 hz0 hz1 hz2 rfl (by decide) (.slice (some ⟨gl, 0, none⟩) N co) N (BEdges.C out) rfl (HU.out.1.alloc _) ⟨wt.heap.size, 0, none⟩ 1 1 [.int .i64 x.1, .int .i64 x.2.1, .int .i64 x.2.2] rfl rfl (World.news_of_block (cs := #[.int .i64 x.1, .int .i64 x.2.1, .int .i64 x.2.2]) (t := 61) (fr := (0, 0)) (heap_alloc_new wt _)) (by simp [Value.oneCell']) hml hby hle ?_; intro w2v w2 hown2 hgrow2 hnil2 hat2; have H2 : Hid _ := And.intro hown2 hgrow2; clear hown2 hgrow2 hnil2 hat2)
             go_roundg ((A - (i)) + (B - (k + 1)))
             case measure => omega
             case rel => exact ⟨i, k + 1, out ++ [x], rfl, by omega, by omega, by first | rfl | go_num, by first | rfl | go_num, by have h8 := HX.out; unfold Sy.put at h8; rw [if_neg HP.out] at h8; exact h8, by unfold BEdges.Own; rw [BEdges.C_snoc, List.length_append, ← HW.out.2.2.2.1]; exact H2.out.1, HU.out.2.trans ((grown_alloc H2.out.2).below HU.out.2.size fun b hb => (HU.out.1.lt b hb).1), by rw [List.length_append]; have := HW.out.2.2.2.2; simp; omega⟩
     ·have p3 : (B : Int) ≤ (k : Int) := by omega
      have p4 : decide ((B : Int) ≤ (k : Int)) = true := decide_eq_true p3
      obtain rfl : c = true := by
       rcases HC.out with h8 | h8
       ·exact h8.1
       ·exact absurd h8.2.1 (by omega)
      clear hmore hA hB
      go_upto_region 8 with fail
      rw [← H0.out.2.2]
      go_cut [57] (fun s57 wx => s57 = .bool true ∧ Below wz.heap.size wz wx)
      case first =>
       go_quiet (fail)
       refine Met.intro ?_; apply_assumption; refine Met.intro ?_; apply_assumption; (repeat apply Exists.intro); refine ⟨?rel, rfl⟩
       case rel => exact ⟨rfl, below_drewN (Below.refl _ _) _⟩
      case rest =>
       obtain ⟨rfl, hbc⟩ := hcut
       have hgc := (hbc.block _ (t_lt H0.out.2.1)).trans H0.out.2.1
       have hbq : Below wq.heap.size wq wc := H0.out.1.trans (hbc.mono H0.out.1.size)
       have hOc := trow_at (w' := wc) HW.out.2.1 fun b hb => hbq.block b (HW.out.2.1.lt b hb).2
       have hbw1 : Below w1.heap.size w1 wc := HW.out.2.2.1.trans (hbq.mono hgl)
       have y0 : wc.cell? ⟨wq.heap.size, 0, none⟩ = some (.int .i64 0) := cell0_of hgc rfl
       have y1 : wc.cell? ⟨wq.heap.size, 1, none⟩ = some (.int .i64 0) := cell0_of hgc rfl
       have y2 : wc.cell? ⟨wq.heap.size, 2, none⟩ = some (.int .i64 0) := cell0_of hgc rfl
       have z0 := blk_free hgc 0
       have z1 := blk_free hgc 1
       have z2 := blk_free hgc 2
       have HR : Hid _ := And.intro hOc (And.intro hbw1 (And.intro hgc hbq))
       clear hbc hgc hbq hOc hbw1
       clear p2 p4
       obtain ⟨h9, hiA, hlt9⟩ | ⟨h9, _⟩ := HC.out
       ·obtain ⟨x, hx⟩ : ∃ x, as0[i]? = some x := ⟨as0[i]'(by have := HL.out.1; omega), List.getElem?_eq_getElem _⟩
        obtain ⟨gx, hgx, x0, x1, x2⟩ := own_edge (trow_at (w' := wc) HO.out.1 fun b hb => HR.out.2.1.block b (HO.out.1.lt b hb).2) hx
        cases hgx
        have hMn := HW.out.1.left HS.out.1 HS.out.2 hx (fun f hf => hlt9 f hf x hx)
        have r0 : (0 : Int) ≤ (i : Int) := by omega
        have r1 : (i : Int) < (A : Int) := by omega
        have r2 : IntKind.i64.wrap ((i : Int) + 1) = (i : Int) + 1 := by rw [IntKind.wrap_i64]; omega
        have HX : Hid (Sy.Mg as0 bs0 (i + 1) k (Sy.put out x)) := hMn
        clear h9 hlt9 hx hMn
        go_wp2_with fail
        have hgs : ((((wc.setCell ⟨wq.heap.size, 0, none⟩ (.int .i64 x.1)).setCell ⟨wq.heap.size, 1, none⟩ (.int .i64 x.2.1)).setCell ⟨wq.heap.size, 2, none⟩ (.int .i64 x.2.2))).heap[wq.heap.size]? = some (.cells #[.int .i64 x.1, .int .i64 x.2.1, .int .i64 x.2.2] 61 (0, 0)) := heap_setCell_same _ _ 2 _ _ _ (heap_setCell_same _ _ 1 _ _ _ (heap_setCell_same _ _ 0 _ _ _ HR.out.2.2.1))
        have hks : Kept (fun b => b = wq.heap.size) wc (((wc.setCell ⟨wq.heap.size, 0, none⟩ (.int .i64 x.1)).setCell ⟨wq.heap.size, 1, none⟩ (.int .i64 x.2.1)).setCell ⟨wq.heap.size, 2, none⟩ (.int .i64 x.2.2)) := ((Kept.setCell wc _ 0 _).trans (Kept.setCell _ _ 1 _)).trans (Kept.setCell _ _ 2 _)
        obtain ⟨ws, hws⟩ : ∃ ws, ws = ((wc.setCell ⟨wq.heap.size, 0, none⟩ (.int .i64 x.1)).setCell ⟨wq.heap.size, 1, none⟩ (.int .i64 x.2.1)).setCell ⟨wq.heap.size, 2, none⟩ (.int .i64 x.2.2) := ⟨_, rfl⟩
        rw [← hws] at hgs hks ⊢
        have hOs : BEdges.Own ws w1.heap.size (.slice ao2 out.length co) out := own_up HR.out.1 hks fun b hb e => by have := (HW.out.2.1.lt b hb).2; omega
        have hbs : Below w1.heap.size w1 ws := HR.out.2.1.trans (hks.below HR.out.2.1.size fun b hb => by omega)
        have u0 : ws.cell? ⟨wq.heap.size, 0, none⟩ = some (.int .i64 x.1) := cell0_of hgs rfl
        have u1 : ws.cell? ⟨wq.heap.size, 1, none⟩ = some (.int .i64 x.2.1) := cell0_of hgs rfl
        have u2 : ws.cell? ⟨wq.heap.size, 2, none⟩ = some (.int .i64 x.2.2) := cell0_of hgs rfl
        have HT : Hid _ := And.intro hOs (And.intro hbs hgs)
        clear hws hgs hks hOs hbs y0 y1 y2 z0 z1 z2 x0 x1 x2
        by_cases hN0 : N = 0
        ·have s1 : ((N : Int) == 0) = true := by simp; omega
         have HP : Hid (¬ out.getLast? = some x) := (by
          have h8 : out = [] := List.eq_nil_of_length_eq_zero (by have := HW.out.2.2.2.1; omega)
          rw [h8]; simp : ¬ out.getLast? = some x)
         clear hN0
         go_wp2_with fail
         go_quiet (fail)
         have hml : N + 1 ≤ maxLen := by unfold maxLen; omega
         have hby : (N + 1) * 24 ≤ 140737488355328 := by omega
         have hOs2 : ws.ownsRow w1.heap.size 61 3 (.slice ao2 N co) N (BEdges.C out) := by have h8 := HT.out.1; unfold BEdges.Own at h8; rw [← HW.out.2.2.2.1] at h8; exact h8
         obtain ⟨wt, hwt⟩ : ∃ wt, wt = ws.drewN nq := ⟨_, rfl⟩
         have v0 : wt.cell? ⟨wq.heap.size, 0, none⟩ = some (.int .i64 x.1) := by rw [hwt]; exact u0
         have v1 : wt.cell? ⟨wq.heap.size, 1, none⟩ = some (.int .i64 x.2.1) := by rw [hwt]; exact u1
         have v2 : wt.cell? ⟨wq.heap.size, 2, none⟩ = some (.int .i64 x.2.2) := by rw [hwt]; exact u2
         have hOt : wt.ownsRow w1.heap.size 61 3 (.slice ao2 N co) N (BEdges.C out) := by rw [hwt]; exact trow_at hOs2 fun _ _ => rfl
         have hbt : Below w1.heap.size w1 wt := by rw [hwt]; exact below_drewN HT.out.2.1 _
         rw [← hwt]
         have hle : w1.heap.size ≤ (wt.alloc (.cells #[.int .i64 x.1, .int .i64 x.2.1, .int .i64 x.2.2] 61)).heap.size := by have := hbt.size; simp; omega
         have HU : Hid _ := And.intro hOt hbt
         clear hwt hOs2 hOt hbt u0 u1 u2
         go_wp2_with (at_builtin; refine wpList_append_own_at _ rfl _ _ 22 rfl w1.heap.size 61 i0 (.agg #[.int .i64 0, .int .i64 0, .int .i64 0]) 3 24 Tryz.underlying22 hi0 hz0 hz1 hz2 rfl (by decide) (.slice ao2 N co) N (BEdges.C out) rfl (HU.out.1.alloc _) ⟨wt.heap.size, 0, none⟩ 1 1 [.int .i64 x.1, .int .i64 x.2.1, .int .i64 x.2.2] rfl rfl (World.news_of_block (cs := #[.int .i64 x.1, .int .i64 x.2.1, .int .i64 x.2.2]) (t := 61) (fr := (0, 0)) (heap_alloc_new wt _)) (by simp [Value.oneCell']) hml hby hle ?_; intro w2v w2 hown2 hgrow2 hnil2 hat2; have H2 : Hid _ := And.intro hown2 hgrow2; clear hown2 hgrow2 hnil2 hat2)
         go_roundg ((A - (i + 1)) + (B - (k)))
         case measure => omega
         case rel => exact ⟨i + 1, k, out ++ [x], rfl, by omega, by omega, by first | rfl | go_num, by first | rfl | go_num, by have h8 := HX.out; unfold Sy.put at h8; rw [if_neg HP.out] at h8; exact h8, by unfold BEdges.Own; rw [BEdges.C_snoc, List.length_append, ← HW.out.2.2.2.1]; exact H2.out.1, HU.out.2.trans ((grown_alloc H2.out.2).below HU.out.2.size fun b hb => (HU.out.1.lt b hb).1), by rw [List.length_append]; have := HW.out.2.2.2.2; simp; omega⟩
        ·have s1 : ((N : Int) == 0) = false := by simp; omega
         obtain ⟨l, hl⟩ : ∃ l, out[N - 1]? = some l := ⟨out[N - 1]'(by have := HW.out.2.2.2.1; omega), List.getElem?_eq_getElem _⟩
         obtain ⟨gl, hgl2, l0, l1, l2⟩ := own_edge HT.out.1 hl
         cases hgl2
         have s2 : IntKind.i64.wrap ((N : Int) - 1) = ((N - 1 : Nat) : Int) := by rw [IntKind.wrap_i64]; omega
         have s3 : (0 : Int) ≤ ((N - 1 : Nat) : Int) := by omega
         have s4 : ((N - 1 : Nat) : Int) < (N : Int) := by omega
         have hlast : out.getLast? = some l := by rw [List.getLast?_eq_getElem?, ← HW.out.2.2.2.1]; exact hl
         obtain ⟨M, hM⟩ : ∃ M, M = N - 1 := ⟨_, rfl⟩
         rw [← hM] at l0 l1 l2 s2 s3 s4
         have HM : Hid _ := hM
         have HLa : Hid (out.getLast? = some l) := hlast
         clear hM hl hlast hN0
         by_cases hlx : l = x
         ·subst hlx
          go_wp2_with fail
          go_quiet (fail)
          go_wp2_with fail
          go_roundg ((A - (i + 1)) + (B - (k)))
          case measure => omega
          case rel => exact ⟨i + 1, k, out, rfl, by omega, by omega, by first | rfl | go_num, by first | rfl | go_num, by have h8 := HX.out; unfold Sy.put at h8; rw [if_pos HLa.out] at h8; exact h8, by have h8 := HT.out.1; rw [← HW.out.2.2.2.1] at h8; exact trow_at h8 fun _ _ => rfl, below_drewN HT.out.2.1 _, by have := HW.out.2.2.2.2; omega⟩
         ·have HP : Hid (¬ out.getLast? = some x) := (by rw [HLa.out]; intro e; exact hlx (Option.some.inj e) : ¬ out.getLast? = some x)
          have hd : (l.1 == x.1) = false ∨ (l.1 == x.1) = true ∧ ((l.2.1 == x.2.1) = false ∨ (l.2.1 == x.2.1) = true ∧ (l.2.2 == x.2.2) = false) := by
           by_cases d1 : l.1 = x.1
           ·by_cases d2 : l.2.1 = x.2.1
            ·right
             refine ⟨by simpa using d1, .inr ⟨by simpa using d2, ?_⟩⟩
             have : ¬ l.2.2 = x.2.2 := fun d3 => hlx (by rw [Prod.ext_iff, Prod.ext_iff]; exact ⟨d1, d2, d3⟩)
             simpa using this
            ·exact .inr ⟨by simpa using d1, .inl (by simpa using d2)⟩
           ·exact .inl (by simpa using d1)
          clear hlx
          rcases hd with d1 | ⟨d1, d2 | ⟨d2, d3⟩⟩
          all_goals
           go_wp2_with fail
           go_quiet (fail)
           have hml : N + 1 ≤ maxLen := by unfold maxLen; omega
           have hby : (N + 1) * 24 ≤ 140737488355328 := by omega
           have hOs2 : ws.ownsRow w1.heap.size 61 3 (.slice (some ⟨gl, 0, none⟩) N co) N (BEdges.C out) := by have h8 := HT.out.1; unfold BEdges.Own at h8; rw [← HW.out.2.2.2.1] at h8; exact h8
           obtain ⟨wt, hwt⟩ : ∃ wt, wt = ws.drewN nq := ⟨_, rfl⟩
           have v0 : wt.cell? ⟨wq.heap.size, 0, none⟩ = some (.int .i64 x.1) := by rw [hwt]; exact u0
           have v1 : wt.cell? ⟨wq.heap.size, 1, none⟩ = some (.int .i64 x.2.1) := by rw [hwt]; exact u1
           have v2 : wt.cell? ⟨wq.heap.size, 2, none⟩ = some (.int .i64 x.2.2) := by rw [hwt]; exact u2
           have hOt : wt.ownsRow w1.heap.size 61 3 (.slice (some ⟨gl, 0, none⟩) N co) N (BEdges.C out) := by rw [hwt]; exact trow_at hOs2 fun _ _ => rfl
           have hbt : Below w1.heap.size w1 wt := by rw [hwt]; exact below_drewN HT.out.2.1 _
           rw [← hwt]
           have hle : w1.heap.size ≤ (wt.alloc (.cells #[.int .i64 x.1, .int .i64 x.2.1, .int .i64 x.2.2] 61)).heap.size := by have := hbt.size; simp; omega
           have HU : Hid _ := And.intro hOt hbt
           clear hwt hOs2 hOt hbt u0 u1 u2
           go_wp2_with (at_builtin; refine wpList_append_own_at _ rfl _ _ 22 rfl w1.heap.size 61 i0 (.agg #[.int .i64 0, .int .i64 0, .int .i64 0]) 3 24 Tryz.underlying22 hi0 hz0 hz1 hz2 rfl (by decide) (.slice (some ⟨gl, 0, none⟩) N co) N (BEdges.C out) rfl (HU.out.1.alloc _) ⟨wt.heap.size, 0, none⟩ 1 1 [.int .i64 x.1, .int .i64 x.2.1, .int .i64 x.2.2] rfl rfl (World.news_of_block (cs := #[.int .i64 x.1, .int .i64 x.2.1, .int .i64 x.2.2]) (t := 61) (fr := (0, 0)) (heap_alloc_new wt _)) (by simp [Value.oneCell']) hml hby hle ?_; intro w2v w2 hown2 hgrow2 hnil2 hat2; have H2 : Hid _ := And.intro hown2 hgrow2; clear hown2 hgrow2 hnil2 hat2)
           go_roundg ((A - (i + 1)) + (B - (k)))
           case measure => omega
           case rel => exact ⟨i + 1, k, out ++ [x], rfl, by omega, by omega, by first | rfl | go_num, by first | rfl | go_num, by have h8 := HX.out; unfold Sy.put at h8; rw [if_neg HP.out] at h8; exact h8, by unfold BEdges.Own; rw [BEdges.C_snoc, List.length_append, ← HW.out.2.2.2.1]; exact H2.out.1, HU.out.2.trans ((grown_alloc H2.out.2).below HU.out.2.size fun b hb => (HU.out.1.lt b hb).1), by rw [List.length_append]; have := HW.out.2.2.2.2; simp; omega⟩
       ·cases h9
    ·have p1 : ¬ (i : Int) < (A : Int) := by omega
     have p2 : decide ((i : Int) < (A : Int)) = false := decide_eq_false p1
     have p6 : (k : Int) < (B : Int) := by omega
     have p3 : ¬ (B : Int) ≤ (k : Int) := by omega
     have p4 : decide ((B : Int) ≤ (k : Int)) = false := decide_eq_false p3
     obtain rfl : c = false := by
      rcases HC.out with h8 | h8
      ·exact absurd h8.2.1 (by omega)
      ·exact h8.1
     clear hmore hA
     go_upto_region 8 with fail
     rw [← H0.out.2.2]
     go_cut [57] (fun s57 wx => s57 = .bool false ∧ Below wz.heap.size wz wx)
     case first =>
      go_quiet (fail)
      refine Met.intro ?_; apply_assumption; refine Met.intro ?_; apply_assumption; (repeat apply Exists.intro); refine ⟨?rel, rfl⟩
      case rel => exact ⟨rfl, below_drewN (Below.refl _ _) _⟩
     case rest =>
      obtain ⟨rfl, hbc⟩ := hcut
      have hgc := (hbc.block _ (t_lt H0.out.2.1)).trans H0.out.2.1
      have hbq : Below wq.heap.size wq wc := H0.out.1.trans (hbc.mono H0.out.1.size)
      have hOc := trow_at (w' := wc) HW.out.2.1 fun b hb => hbq.block b (HW.out.2.1.lt b hb).2
      have hbw1 : Below w1.heap.size w1 wc := HW.out.2.2.1.trans (hbq.mono hgl)
      have y0 : wc.cell? ⟨wq.heap.size, 0, none⟩ = some (.int .i64 0) := cell0_of hgc rfl
      have y1 : wc.cell? ⟨wq.heap.size, 1, none⟩ = some (.int .i64 0) := cell0_of hgc rfl
      have y2 : wc.cell? ⟨wq.heap.size, 2, none⟩ = some (.int .i64 0) := cell0_of hgc rfl
      have z0 := blk_free hgc 0
      have z1 := blk_free hgc 1
      have z2 := blk_free hgc 2
      have HR : Hid _ := And.intro hOc (And.intro hbw1 (And.intro hgc hbq))
      clear hbc hgc hbq hOc hbw1
      clear p2 p4
      obtain ⟨h9, _⟩ | ⟨h9, hkB, hlt9⟩ := HC.out
      ·cases h9
      ·obtain ⟨x, hx⟩ : ∃ x, bs0[k]? = some x := ⟨bs0[k]'(by have := HL.out.2; omega), List.getElem?_eq_getElem _⟩
       obtain ⟨gx, hgx, x0, x1, x2⟩ := own_edge (trow_at (w' := wc) HO.out.2.1 fun b hb => HR.out.2.1.block b (HO.out.2.1.lt b hb).2) hx
       cases hgx
       have hMn := (HW.out.1.swap.left HS.out.2 HS.out.1 hx (fun f hf => Sy.lt_asymm (hlt9 x hx f hf))).swap
       have r0 : (0 : Int) ≤ (k : Int) := by omega
       have r1 : (k : Int) < (B : Int) := by omega
       have r2 : IntKind.i64.wrap ((k : Int) + 1) = (k : Int) + 1 := by rw [IntKind.wrap_i64]; omega
       have HX : Hid (Sy.Mg as0 bs0 i (k + 1) (Sy.put out x)) := hMn
       clear h9 hlt9 hx hMn
       go_wp2_with fail
       have hgs : ((((wc.setCell ⟨wq.heap.size, 0, none⟩ (.int .i64 x.1)).setCell ⟨wq.heap.size, 1, none⟩ (.int .i64 x.2.1)).setCell ⟨wq.heap.size, 2, none⟩ (.int .i64 x.2.2))).heap[wq.heap.size]? = some (.cells #[.int .i64 x.1, .int .i64 x.2.1, .int .i64 x.2.2] 61 (0, 0)) := heap_setCell_same _ _ 2 _ _ _ (heap_setCell_same _ _ 1 _ _ _ (heap_setCell_same _ _ 0 _ _ _ HR.out.2.2.1))
       have hks : Kept (fun b => b = wq.heap.size) wc (((wc.setCell ⟨wq.heap.size, 0, none⟩ (.int .i64 x.1)).setCell ⟨wq.heap.size, 1, none⟩ (.int .i64 x.2.1)).setCell ⟨wq.heap.size, 2, none⟩ (.int .i64 x.2.2)) := ((Kept.setCell wc _ 0 _).trans (Kept.setCell _ _ 1 _)).trans (Kept.setCell _ _ 2 _)
       obtain ⟨ws, hws⟩ : ∃ ws, ws = ((wc.setCell ⟨wq.heap.size, 0, none⟩ (.int .i64 x.1)).setCell ⟨wq.heap.size, 1, none⟩ (.int .i64 x.2.1)).setCell ⟨wq.heap.size, 2, none⟩ (.int .i64 x.2.2) := ⟨_, rfl⟩
       rw [← hws] at hgs hks ⊢
       have hOs : BEdges.Own ws w1.heap.size (.slice ao2 out.length co) out := own_up HR.out.1 hks fun b hb e => by have := (HW.out.2.1.lt b hb).2; omega
       have hbs : Below w1.heap.size w1 ws := HR.out.2.1.trans (hks.below HR.out.2.1.size fun b hb => by omega)
       have u0 : ws.cell? ⟨wq.heap.size, 0, none⟩ = some (.int .i64 x.1) := cell0_of hgs rfl
       have u1 : ws.cell? ⟨wq.heap.size, 1, none⟩ = some (.int .i64 x.2.1) := cell0_of hgs rfl
       have u2 : ws.cell? ⟨wq.heap.size, 2, none⟩ = some (.int .i64 x.2.2) := cell0_of hgs rfl
       have HT : Hid _ := And.intro hOs (And.intro hbs hgs)
       clear hws hgs hks hOs hbs y0 y1 y2 z0 z1 z2 x0 x1 x2
       by_cases hN0 : N = 0
       ·have s1 : ((N : Int) == 0) = true := by simp; omega
        have HP : Hid (¬ out.getLast? = some x) := (by
         have h8 : out = [] := List.eq_nil_of_length_eq_zero (by have := HW.out.2.2.2.1; omega)
         rw [h8]; simp : ¬ out.getLast? = some x)
        clear hN0
        go_wp2_with fail
        go_quiet (fail)
        have hml : N + 1 ≤ maxLen := by unfold maxLen; omega
        have hby : (N + 1) * 24 ≤ 140737488355328 := by omega
        have hOs2 : ws.ownsRow w1.heap.size 61 3 (.slice ao2 N co) N (BEdges.C out) := by have h8 := HT.out.1; unfold BEdges.Own at h8; rw [← HW.out.2.2.2.1] at h8; exact h8
        obtain ⟨wt, hwt⟩ : ∃ wt, wt = ws.drewN nq := ⟨_, rfl⟩
        have v0 : wt.cell? ⟨wq.heap.size, 0, none⟩ = some (.int .i64 x.1) := by rw [hwt]; exact u0
        have v1 : wt.cell? ⟨wq.heap.size, 1, none⟩ = some (.int .i64 x.2.1) := by rw [hwt]; exact u1
        have v2 : wt.cell? ⟨wq.heap.size, 2, none⟩ = some (.int .i64 x.2.2) := by rw [hwt]; exact u2
        have hOt : wt.ownsRow w1.heap.size 61 3 (.slice ao2 N co) N (BEdges.C out) := by rw [hwt]; exact trow_at hOs2 fun _ _ => rfl
        have hbt : Below w1.heap.size w1 wt := by rw [hwt]; exact below_drewN HT.out.2.1 _
        rw [← hwt]
        have hle : w1.heap.size ≤ (wt.alloc (.cells #[.int .i64 x.1, .int .i64 x.2.1, .int .i64 x.2.2] 61)).heap.size := by have := hbt.size; simp; omega
        have HU : Hid _ := And.intro hOt hbt
        clear hwt hOs2 hOt hbt u0 u1 u2
        go_wp2_with (at_builtin; refine wpList_append_own_at _ rfl _ _ 22 rfl w1.heap.size 61 i0 (.agg #[.int .i64 0, .int .i64 0, .int .i64 0]) 3 24 Tryz.underlying22 hi0 hz0 hz1 hz2 rfl (by decide) (.slice ao2 N co) N (BEdges.C out) rfl (HU.out.1.alloc _) ⟨wt.heap.size, 0, none⟩ 1 1 [.int .i64 x.1, .int .i64 x.2.1, .int .i64 x.2.2] rfl rfl (World.news_of_block (cs := #[.int .i64 x.1, .int .i64 x.2.1, .int .i64 x.2.2]) (t := 61) (fr := (0, 0)) (heap_alloc_new wt _)) (by simp [Value.oneCell']) hml hby hle ?_; intro w2v w2 hown2 hgrow2 hnil2 hat2; have H2 : Hid _ := And.intro hown2 hgrow2; clear hown2 hgrow2 hnil2 hat2)
        go_roundg ((A - (i)) + (B - (k + 1)))
        case measure => omega
        case rel => exact ⟨i, k + 1, out ++ [x], rfl, by omega, by omega, by first | rfl | go_num, by first | rfl | go_num, by have h8 := HX.out; unfold Sy.put at h8; rw [if_neg HP.out] at h8; exact h8, by unfold BEdges.Own; rw [BEdges.C_snoc, List.length_append, ← HW.out.2.2.2.1]; exact H2.out.1, HU.out.2.trans ((grown_alloc H2.out.2).below HU.out.2.size fun b hb => (HU.out.1.lt b hb).1), by rw [List.length_append]; have := HW.out.2.2.2.2; simp; omega⟩
       ·have s1 : ((N : Int) == 0) = false := by simp; omega
        obtain ⟨l, hl⟩ : ∃ l, out[N - 1]? = some l := ⟨out[N - 1]'(by have := HW.out.2.2.2.1; omega), List.getElem?_eq_getElem _⟩
        obtain ⟨gl, hgl2, l0, l1, l2⟩ := own_edge HT.out.1 hl
        cases hgl2
        have s2 : IntKind.i64.wrap ((N : Int) - 1) = ((N - 1 : Nat) : Int) := by rw [IntKind.wrap_i64]; omega
        have s3 : (0 : Int) ≤ ((N - 1 : Nat) : Int) := by omega
        have s4 : ((N - 1 : Nat) : Int) < (N : Int) := by omega
        have hlast : out.getLast? = some l := by rw [List.getLast?_eq_getElem?, ← HW.out.2.2.2.1]; exact hl
        obtain ⟨M, hM⟩ : ∃ M, M = N - 1 := ⟨_, rfl⟩
        rw [← hM] at l0 l1 l2 s2 s3 s4
        have HM : Hid _ := hM
        have HLa : Hid (out.getLast? = some l) := hlast
        clear hM hl hlast hN0
        by_cases hlx : l = x
        ·subst hlx
         go_wp2_with fail
         go_quiet (fail)
         go_wp2_with fail
         go_roundg ((A - (i)) + (B - (k + 1)))
         case measure => omega
         case rel => exact ⟨i, k + 1, out, rfl, by omega, by omega, by first | rfl | go_num, by first | rfl | go_num, by have h8 := HX.out; unfold Sy.put at h8; rw [if_pos HLa.out] at h8; exact h8, by have h8 := HT.out.1; rw [← HW.out.2.2.2.1] at h8; exact trow_at h8 fun _ _ => rfl, below_drewN HT.out.2.1 _, by have := HW.out.2.2.2.2; omega⟩
        ·have HP : Hid (¬ out.getLast? = some x) := (by rw [HLa.out]; intro e; exact hlx (Option.some.inj e) : ¬ out.getLast? = some x)
         have hd : (l.1 == x.1) = false ∨ (l.1 == x.1) = true ∧ ((l.2.1 == x.2.1) = false ∨ (l.2.1 == x.2.1) = true ∧ (l.2.2 == x.2.2) = false) := by
          by_cases d1 : l.1 = x.1
          ·by_cases d2 : l.2.1 = x.2.1
           ·right
            refine ⟨by simpa using d1, .inr ⟨by simpa using d2, ?_⟩⟩
            have : ¬ l.2.2 = x.2.2 := fun d3 => hlx (by rw [Prod.ext_iff, Prod.ext_iff]; exact ⟨d1, d2, d3⟩)
            simpa using this
           ·exact .inr ⟨by simpa using d1, .inl (by simpa using d2)⟩
          ·exact .inl (by simpa using d1)
         clear hlx
         rcases hd with d1 | ⟨d1, d2 | ⟨d2, d3⟩⟩
         all_goals
          go_wp2_with fail
          go_quiet (fail)
          have hml : N + 1 ≤ maxLen := by unfold maxLen; omega
          have hby : (N + 1) * 24 ≤ 140737488355328 := by omega
          have hOs2 : ws.ownsRow w1.heap.size 61 3 (.slice (some ⟨gl, 0, none⟩) N co) N (BEdges.C out) := by have h8 := HT.out.1; unfold BEdges.Own at h8; rw [← HW.out.2.2.2.1] at h8; exact h8
          obtain ⟨wt, hwt⟩ : ∃ wt, wt = ws.drewN nq := ⟨_, rfl⟩
          have v0 : wt.cell? ⟨wq.heap.size, 0, none⟩ = some (.int .i64 x.1) := by rw [hwt]; exact u0
          have v1 : wt.cell? ⟨wq.heap.size, 1, none⟩ = some (.int .i64 x.2.1) := by rw [hwt]; exact u1
          have v2 : wt.cell? ⟨wq.heap.size, 2, none⟩ = some (.int .i64 x.2.2) := by rw [hwt]; exact u2
          have hOt : wt.ownsRow w1.heap.size 61 3 (.slice (some ⟨gl, 0, none⟩) N co) N (BEdges.C out) := by rw [hwt]; exact trow_at hOs2 fun _ _ => rfl
          have hbt : Below w1.heap.size w1 wt := by rw [hwt]; exact below_drewN HT.out.2.1 _
          rw [← hwt]
          have hle : w1.heap.size ≤ (wt.alloc (.cells #[.int .i64 x.1, .int .i64 x.2.1, .int .i64 x.2.2] 61)).heap.size := by have := hbt.size; simp; omega
          have HU : Hid _ := And.intro hOt hbt
          clear hwt hOs2 hOt hbt u0 u1 u2
          go_wp2_with (at_builtin; refine wpList_append_own_at _ rfl _ _ 22 rfl w1.heap.size 61 i0 (.agg #[.int .i64 0, .int .i64 0, .int .i64 0]) 3 24 Tryz.underlying22 hi0 hz0 hz1 hz2 rfl (by decide) (.slice (some ⟨gl, 0, none⟩) N co) N (BEdges.C out) rfl (HU.out.1.alloc _) ⟨wt.heap.size, 0, none⟩ 1 1 [.int .i64 x.1, .int .i64 x.2.1, .int .i64 x.2.2] rfl rfl (World.news_of_block (cs := #[.int .i64 x.1, .int .i64 x.2.1, .int .i64 x.2.2]) (t := 61) (fr := (0, 0)) (heap_alloc_new wt _)) (by simp [Value.oneCell']) hml hby hle ?_; intro w2v w2 hown2 hgrow2 hnil2 hat2; have H2 : Hid _ := And.intro hown2 hgrow2; clear hown2 hgrow2 hnil2 hat2)
          go_roundg ((A - (i)) + (B - (k + 1)))
          case measure => omega
          case rel => exact ⟨i, k + 1, out ++ [x], rfl, by omega, by omega, by first | rfl | go_num, by first | rfl | go_num, by have h8 := HX.out; unfold Sy.put at h8; rw [if_neg HP.out] at h8; exact h8, by unfold BEdges.Own; rw [BEdges.C_snoc, List.length_append, ← HW.out.2.2.2.1]; exact H2.out.1, HU.out.2.trans ((grown_alloc H2.out.2).below HU.out.2.size fun b hb => (HU.out.1.lt b hb).1), by rw [List.length_append]; have := HW.out.2.2.2.2; simp; omega⟩
   ·have h1 : ¬ (i : Int) < (A : Int) := by omega
    have h2 : ¬ (k : Int) < (B : Int) := by omega
    have HW : Hid _ := And.intro hM (And.intro hOo hb)
    have hiA : i = A := by omega
    have hkB : k = B := by omega
    have HE : Hid (i = A ∧ k = B) := ⟨hiA, hkB⟩
    clear hM hOo hb hiA hkB hmore
    go_wp2_with fail
    go_ret
    refine ⟨_, rfl, ?_, HO.out.2.2.trans (HW.out.2.2.mono HO.out.2.2.size)⟩
    have h9 : out = Sy.nf es := Sy.nf_of HW.out.1.s fun x => by
     rw [HW.out.1.m, HE.out.1, HE.out.2, HL.out.1, HL.out.2, List.take_length, List.take_length]
     exact HF.out x
    rw [← h9]
    exact row_base HW.out.2.1 HO.out.2.2.size
theorem refSorted_any (v : Value) (es : List Sy.Ed) (w : World) (hv : HasE w v es) (hm : es.length ≤ 100000) : SortedAt w v es := by
 obtain ⟨n, hn⟩ : ∃ n, n = es.length := ⟨_, rfl⟩
 induction n using Nat.strongRecOn generalizing v es w with
 | ind n ih =>
   by_cases h2 : es.length < 2
   ·exact sorted_short v es w hv h2
   ·exact sorted_long v es w hv h2 hm fun W x xs hl hx => ih xs.length (by omega) x xs W hx (by omega) rfl
end Go.Proofs.YtplofbabfkkimaaGreatDoor
/- errors.Is at a fault of package api that wraps one of api's errors, and a target that is one of api's errors: true just if it is that one. -/
namespace Go.Proofs.YtplofbabfkkimaaGreatDoor
open Go.RowKit Go.Extern.Stop Go.Stop Go.Extern
theorem Tryz.isTypeOf (v : Value) (w : World) : (Extern.ReflectliteType.typeOf #[.iface 234 v]).run Tryz.prog w = .ok (.iface 205 (.agg #[.pointer (some ⟨19, 234, none⟩)])) w := by kernel_rfl
def cmpEntry : Array Value → Sem Value := Extern.ReflectliteType.method fun t => do
 Rtype.noPackHeld "Comparable" t
 pure (.bool (← typeInfo t).comparable)
theorem Tryz.isComparable (w : World) : (cmpEntry #[.agg #[.pointer (some ⟨19, 234, none⟩)]]).run Tryz.prog w = .ok (.bool true) w := by kernel_rfl
theorem Tryz.isMethodComparable (v : Value) (w : World) : (Go.method 370 205 v "Comparable").run Tryz.prog w = .ok (197, v) w := by kernel_rfl
theorem Tryz.isComp : (Tryz.prog.info? 234).map (·.comparable) = some true := by kernel_rfl
theorem Tryz.isSize : (Tryz.prog.info? 258).map (·.size) = some 1 := by kernel_rfl
theorem Tryz.noIsE (v : Value) (xT : TypeId) (w : World) : (Instr.typeAssert (.iface 234 v) xT 207 true).run Tryz.prog w = .ok (.tuple #[.nilIface, .bool false]) w := run_typeAssert_lacksB Tryz.underlying207 (by kernel_rfl) (by kernel_rfl) v xT w
theorem Tryz.noUnwrapE (v : Value) (xT : TypeId) (w : World) : (Instr.typeAssert (.iface 234 v) xT 210 true).run Tryz.prog w = .ok (.tuple #[.nilIface, .bool false]) w := run_typeAssert_lacksB Tryz.underlying210 (by kernel_rfl) (by kernel_rfl) v xT w
theorem Tryz.noUnwrapsE (v : Value) (xT : TypeId) (w : World) : (Instr.typeAssert (.iface 234 v) xT 212 true).run Tryz.prog w = .ok (.tuple #[.nilIface, .bool false]) w := run_typeAssert_lacksB Tryz.underlying212 (by kernel_rfl) (by kernel_rfl) v xT w
theorem Tryz.noIsW (v : Value) (xT : TypeId) (w : World) : (Instr.typeAssert (.iface 74 v) xT 207 true).run Tryz.prog w = .ok (.tuple #[.nilIface, .bool false]) w := run_typeAssert_lacksB Tryz.underlying207 (by kernel_rfl) (by kernel_rfl) v xT w
theorem Tryz.hasUnwrapW (v : Value) (xT : TypeId) (w : World) : (Instr.typeAssert (.iface 74 v) xT 210 true).run Tryz.prog w = .ok (.tuple #[.iface 74 v, .bool true]) w := run_typeAssert_hasB Tryz.underlying210 (by kernel_rfl) v xT w
theorem Tryz.methodUnwrap (v : Value) (w : World) : (Go.method 370 74 v "Unwrap").run Tryz.prog w = .ok (193, v) w := by kernel_rfl

end Go.Proofs.YtplofbabfkkimaaGreatDoor
/- What a statement knows of one of api's errors in memory. -/
namespace Go.Proofs.YtplofbabfkkimaaGreatDoor
open Go.RowKit
def Sent (w : World) (g : Nat) (a : Addr) : Prop := w.cell? ⟨g, 0, none⟩ = some (.iface 234 (.pointer (some a))) ∧ ∃ c t, w.heap[a.block]? = some (.cells c t (0, 0))
theorem Sent.below {w w1 : World} {g : Nat} {a : Addr} (h : Sent w g a) (hb : Below w.heap.size w w1) : Sent w1 g a := by
 obtain ⟨h1, c, t, h2⟩ := h
 exact ⟨(hb.cell (World.block_lt_of_cell? w _ h1)).trans h1, c, t, by rw [hb.block _ (lt_of_block h2)]; exact h2⟩
end Go.Proofs.YtplofbabfkkimaaGreatDoor
/- errors.Is at a chain of faults of package api, however long, that ends in one of api's errors: true just if it is that one. -/
namespace Go.Proofs.YtplofbabfkkimaaGreatDoor
open Go.RowKit Go.Extern.Stop Go.Stop Go.Extern
def Chain (w : World) (l c : Int) (a : Addr) : List ByteArray → Value → Prop
 | [], v => v = .iface 234 (.pointer (some a))
 | s :: r, v => ∃ b u, v = .iface 74 (.pointer (some ⟨b, 0, none⟩)) ∧ w.heap[b]? = some (.cells #[.string s, .int .i64 l, .int .i64 c, u] 77 (0, 0)) ∧ Chain w l c a r u
theorem Chain.below {w w' : World} {l c : Int} {a : Addr} : ∀ {ls : List ByteArray} {v : Value}, Chain w l c a ls v → Below w.heap.size w w' → Chain w' l c a ls v
 | [], _, h, _ => h
 | s :: r, v, h, hb => by
   obtain ⟨b, u, h1, h2, h3⟩ := h
   exact ⟨b, u, h1, (hb.block b (Array.getElem?_eq_some_iff.1 h2).1).trans h2, Chain.below h3 hb⟩
theorem Chain.iface {w : World} {l c : Int} {a : Addr} {ls : List ByteArray} {v : Value} (h : Chain w l c a ls v) : ∃ T u, v = .iface T u := by
 cases ls with
 | nil => exact ⟨_, _, h⟩
 | cons s r => obtain ⟨b, u, h1, _⟩ := h; exact ⟨_, _, h1⟩
theorem fault_cells {w : World} {b : Nat} {x0 x1 x2 x3 : Value} {t : TypeId} (h : w.heap[b]? = some (.cells #[x0, x1, x2, x3] t (0, 0))) : w.cell? ⟨b, 0, none⟩ = some x0 ∧ w.cell? ⟨b, 1, none⟩ = some x1 ∧ w.cell? ⟨b, 2, none⟩ = some x2 ∧ w.cell? ⟨b, 3, none⟩ = some x3 := by
 simp [World.cell?, h]
set_option maxRecDepth 100000 in
set_option maxHeartbeats 4000000 in
theorem isLow_chain (v : Value) (ls : List ByteArray) (l c : Int) (a b : Addr) (ca cb : Array Value) (ta tb : TypeId) (w : World) (hC : Chain w l c a ls v) (ha : w.heap[a.block]? = some (.cells ca ta (0, 0))) (hb : w.heap[b.block]? = some (.cells cb tb (0, 0))) :
 Calls Tryz.prog 140 #[v, .iface 234 (.pointer (some b)), .bool true] w fun e w' => e = .returned (.bool (decide (a = b))) ∧ w' = w := by
 obtain ⟨i, hi, hcmp⟩ := Option.map_eq_some_iff.1 Tryz.isComp
 obtain ⟨j, hj, hjs⟩ := Option.map_eq_some_iff.1 Tryz.isSize
 have nE := Tryz.noIsE
 have uE := Tryz.noUnwrapE
 have vE := Tryz.noUnwrapsE
 have nW := Tryz.noIsW
 have uW := Tryz.hasUnwrapW
 have mU := Tryz.methodUnwrap
 have heq : (binOp .eql 47 (.iface 234 (.pointer (some a))) (.iface 234 (.pointer (some b)))).run Tryz.prog w = .ok (.bool (decide (a = b))) w := by
  by_cases e : a = b
  ·subst e
   rw [run_eql_iface_ptr_same (P := Tryz.prog) w a Tryz.underlying47 Tryz.underlying234 hi hcmp hj]
   simp
  ·rw [run_eql_iface_ptr_other (P := Tryz.prog) w Tryz.underlying47 Tryz.underlying234 hi hcmp hj (by rw [hjs]; decide) e ha hb]
   simp [e]
 obtain ⟨d, hd⟩ : ∃ d, d = decide (a = b) := ⟨_, rfl⟩
 rw [← hd] at heq ⊢
 have HC : Hid (Chain w l c a ls v) := hC
 clear hC ha hb hd hi hcmp hj hjs
 go_enter Tryz.func140, Tryz.ntmps140
 go_wp2_with fail
 go_loopg [0] (ls.length + 1) (fun q ev wr => ∃ (r : List ByteArray), q = r.length + 1 ∧ wr = w ∧ Chain w l c a r ev)
 case atStart => exact ⟨ls, rfl, rfl, HC.out⟩
 case round =>
  obtain ⟨r, rfl, rfl, hCr⟩ := hrel
  clear HC
  cases r with
  | nil =>
    have e : u0 = .iface 234 (.pointer (some a)) := hCr
    subst e
    clear hCr
    cases d
    ·go_wp2
     go_ret
     exact ⟨rfl, rfl⟩
    ·go_wp2
     go_ret
     exact ⟨rfl, rfl⟩
  | cons s r =>
    obtain ⟨pb, u, rfl, hB, hCu⟩ := hCr
    have h1 := (fault_cells hB).2.2.2
    have hty := run_eql_iface_types (P := Tryz.prog) 74 234 (.pointer (some ⟨pb, 0, none⟩)) (.pointer (some b)) Tryz.underlying47 (by decide) wr
    obtain ⟨T, x, rfl⟩ := hCu.iface
    have HU : Hid (Chain wr l c a r (.iface T x)) := hCu
    clear hCu hB heq
    go_wp2
    go_roundg (r.length + 1)
    case measure => simp
    case rel => exact ⟨r, rfl, rfl, HU.out⟩
set_option maxHeartbeats 1000000 in
theorem is_chain (v : Value) (ls : List ByteArray) (l c : Int) (a b : Addr) (ca cb : Array Value) (ta tb : TypeId) (w : World) (hC : Chain w l c a ls v) (ha : w.heap[a.block]? = some (.cells ca ta (0, 0))) (hb : w.heap[b.block]? = some (.cells cb tb (0, 0))) :
 Calls Tryz.prog 99 #[v, .iface 234 (.pointer (some b))] w fun e w' => e = .returned (.bool (decide (a = b))) ∧ w' = w := by
 have h8 := @run_callFunc_extern Tryz.prog 139 _ Extern.ReflectliteType.typeOf Tryz.func139 (by kernel_rfl) (by kernel_rfl) (by kernel_rfl) (by kernel_rfl)
 have h32 := @run_callFunc_extern Tryz.prog 197 _ cmpEntry Tryz.func197 (by kernel_rfl) (by kernel_rfl) (by kernel_rfl) (by kernel_rfl)
 have tT := Tryz.isTypeOf
 have cT := Tryz.isComparable
 have mR := Tryz.isMethodComparable
 have HL : Hid _ := isLow_chain v ls l c a b ca cb ta tb w hC ha hb
 obtain ⟨T, x, rfl⟩ := hC.iface
 clear hC ha hb
 go_enter Tryz.func99, Tryz.ntmps99
 go_wp2_with (go_at_call 140; refine Calls.mono HL.out ?_; rintro e w' ⟨rfl, hw⟩; obtain rfl := hw.symm; clear hw)
 go_ret
 exact ⟨rfl, rfl⟩
end Go.Proofs.YtplofbabfkkimaaGreatDoor
/- Api's errors in memory, by their codes; api.Code at a chain of faults. (Written by mker.py.) -/
namespace Go.Proofs.YtplofbabfkkimaaGreatDoor
open Go.RowKit
structure Er (m : Nat) (w : World) (e : Nat → Addr) : Prop where
 s1 : 1 ≤ m → Sent w 0 (e 1)
 s2 : 2 ≤ m → Sent w 1 (e 2)
 s3 : 3 ≤ m → Sent w 2 (e 3)
 s4 : 4 ≤ m → Sent w 3 (e 4)
 s5 : 5 ≤ m → Sent w 4 (e 5)
 s6 : 6 ≤ m → Sent w 5 (e 6)
 s7 : 7 ≤ m → Sent w 6 (e 7)
 s8 : 8 ≤ m → Sent w 7 (e 8)
 s9 : 9 ≤ m → Sent w 8 (e 9)
 s10 : 10 ≤ m → Sent w 9 (e 10)
 s11 : 11 ≤ m → Sent w 10 (e 11)
 s12 : 12 ≤ m → Sent w 11 (e 12)
 s13 : 13 ≤ m → Sent w 12 (e 13)
 s14 : 14 ≤ m → Sent w 13 (e 14)
 s15 : 15 ≤ m → Sent w 14 (e 15)
 s16 : 16 ≤ m → Sent w 15 (e 16)
 s17 : 17 ≤ m → Sent w 16 (e 17)
 s18 : 18 ≤ m → Sent w 17 (e 18)
 s19 : 19 ≤ m → Sent w 18 (e 19)
 ne : ∀ i j, 1 ≤ i → i < j → j ≤ m → e j ≠ e i
theorem Er.below {m : Nat} {w w' : World} {e : Nat → Addr} (h : Er m w e) (hb : Below w.heap.size w w') : Er m w' e :=
 ⟨fun hm => (h.s1 hm).below hb, fun hm => (h.s2 hm).below hb, fun hm => (h.s3 hm).below hb, fun hm => (h.s4 hm).below hb, fun hm => (h.s5 hm).below hb, fun hm => (h.s6 hm).below hb, fun hm => (h.s7 hm).below hb, fun hm => (h.s8 hm).below hb, fun hm => (h.s9 hm).below hb, fun hm => (h.s10 hm).below hb, fun hm => (h.s11 hm).below hb, fun hm => (h.s12 hm).below hb, fun hm => (h.s13 hm).below hb, fun hm => (h.s14 hm).below hb, fun hm => (h.s15 hm).below hb, fun hm => (h.s16 hm).below hb, fun hm => (h.s17 hm).below hb, fun hm => (h.s18 hm).below hb, fun hm => (h.s19 hm).below hb, h.ne⟩
set_option maxHeartbeats 1000000 in
theorem rest_14 {m : Nat} (hm : 14 ≤ m) (v : Value) (ls : List ByteArray) (l c : Int) (e : Nat → Addr) (w : World) (hE : Er m w e) (hC : Chain w l c (e 14) ls v) :
 Calls Tryz.prog 100 #[v] w fun r w' => r = .returned (.int .i64 14) ∧ w' = w := by
 obtain ⟨g14, c14, t14, b14⟩ := hE.s14 (by omega)
 obtain ⟨g11, c11, t11, b11⟩ := hE.s11 (by omega)
 obtain ⟨g12, c12, t12, b12⟩ := hE.s12 (by omega)
 obtain ⟨g13, c13, t13, b13⟩ := hE.s13 (by omega)
 have I11 : Hid _ := is_chain v ls l c (e 14) (e 11) c14 c11 t14 t11 w hC b14 b11
 have d11 : decide (e 14 = e 11) = false := by simpa using hE.ne 11 14 (by decide) (by decide) (by omega)
 have I12 : Hid _ := is_chain v ls l c (e 14) (e 12) c14 c12 t14 t12 w hC b14 b12
 have d12 : decide (e 14 = e 12) = false := by simpa using hE.ne 12 14 (by decide) (by decide) (by omega)
 have I13 : Hid _ := is_chain v ls l c (e 14) (e 13) c14 c13 t14 t13 w hC b14 b13
 have d13 : decide (e 14 = e 13) = false := by simpa using hE.ne 13 14 (by decide) (by decide) (by omega)
 have I14 : Hid _ := is_chain v ls l c (e 14) (e 14) c14 c14 t14 t14 w hC b14 b14
 have d14 : decide (e 14 = e 14) = true := by simp
 obtain ⟨T, x, rfl⟩ := hC.iface
 clear hE hC b11 b12 b13 b14
 go_enter Tryz.func100, Tryz.ntmps100
 go_wp2_with fail
 refine Calls.mono I11.out ?_
 rintro r w' ⟨rfl, hw⟩; obtain rfl := hw.symm; clear hw
 rw [d11]
 go_wp2_with fail
 refine Calls.mono I12.out ?_
 rintro r w' ⟨rfl, hw⟩; obtain rfl := hw.symm; clear hw
 rw [d12]
 go_wp2_with fail
 refine Calls.mono I13.out ?_
 rintro r w' ⟨rfl, hw⟩; obtain rfl := hw.symm; clear hw
 rw [d13]
 go_wp2_with fail
 refine Calls.mono I14.out ?_
 rintro r w' ⟨rfl, hw⟩; obtain rfl := hw.symm; clear hw
 rw [d14]
 go_wp2_with fail
 go_ret
 exact ⟨rfl, rfl⟩
set_option maxHeartbeats 1000000 in
theorem code_14 {m : Nat} (hm : 14 ≤ m) (v : Value) (ls : List ByteArray) (l c : Int) (e : Nat → Addr) (w : World) (hE : Er m w e) (hC : Chain w l c (e 14) ls v) :
 Calls Tryz.prog 32 #[v] w fun r w' => r = .returned (.int .i64 14) ∧ w' = w := by
 obtain ⟨g14, c14, t14, b14⟩ := hE.s14 (by omega)
 obtain ⟨g1, c1, t1, b1⟩ := hE.s1 (by omega)
 obtain ⟨g2, c2, t2, b2⟩ := hE.s2 (by omega)
 obtain ⟨g3, c3, t3, b3⟩ := hE.s3 (by omega)
 obtain ⟨g4, c4, t4, b4⟩ := hE.s4 (by omega)
 obtain ⟨g5, c5, t5, b5⟩ := hE.s5 (by omega)
 obtain ⟨g6, c6, t6, b6⟩ := hE.s6 (by omega)
 obtain ⟨g7, c7, t7, b7⟩ := hE.s7 (by omega)
 obtain ⟨g8, c8, t8, b8⟩ := hE.s8 (by omega)
 obtain ⟨g9, c9, t9, b9⟩ := hE.s9 (by omega)
 obtain ⟨g10, c10, t10, b10⟩ := hE.s10 (by omega)
 have I1 : Hid _ := is_chain v ls l c (e 14) (e 1) c14 c1 t14 t1 w hC b14 b1
 have d1 : decide (e 14 = e 1) = false := by simpa using hE.ne 1 14 (by decide) (by decide) (by omega)
 have I2 : Hid _ := is_chain v ls l c (e 14) (e 2) c14 c2 t14 t2 w hC b14 b2
 have d2 : decide (e 14 = e 2) = false := by simpa using hE.ne 2 14 (by decide) (by decide) (by omega)
 have I3 : Hid _ := is_chain v ls l c (e 14) (e 3) c14 c3 t14 t3 w hC b14 b3
 have d3 : decide (e 14 = e 3) = false := by simpa using hE.ne 3 14 (by decide) (by decide) (by omega)
 have I4 : Hid _ := is_chain v ls l c (e 14) (e 4) c14 c4 t14 t4 w hC b14 b4
 have d4 : decide (e 14 = e 4) = false := by simpa using hE.ne 4 14 (by decide) (by decide) (by omega)
 have I5 : Hid _ := is_chain v ls l c (e 14) (e 5) c14 c5 t14 t5 w hC b14 b5
 have d5 : decide (e 14 = e 5) = false := by simpa using hE.ne 5 14 (by decide) (by decide) (by omega)
 have I6 : Hid _ := is_chain v ls l c (e 14) (e 6) c14 c6 t14 t6 w hC b14 b6
 have d6 : decide (e 14 = e 6) = false := by simpa using hE.ne 6 14 (by decide) (by decide) (by omega)
 have I7 : Hid _ := is_chain v ls l c (e 14) (e 7) c14 c7 t14 t7 w hC b14 b7
 have d7 : decide (e 14 = e 7) = false := by simpa using hE.ne 7 14 (by decide) (by decide) (by omega)
 have I8 : Hid _ := is_chain v ls l c (e 14) (e 8) c14 c8 t14 t8 w hC b14 b8
 have d8 : decide (e 14 = e 8) = false := by simpa using hE.ne 8 14 (by decide) (by decide) (by omega)
 have I9 : Hid _ := is_chain v ls l c (e 14) (e 9) c14 c9 t14 t9 w hC b14 b9
 have d9 : decide (e 14 = e 9) = false := by simpa using hE.ne 9 14 (by decide) (by decide) (by omega)
 have I10 : Hid _ := is_chain v ls l c (e 14) (e 10) c14 c10 t14 t10 w hC b14 b10
 have d10 : decide (e 14 = e 10) = false := by simpa using hE.ne 10 14 (by decide) (by decide) (by omega)
 have d14 : decide (e 14 = e 14) = true := by simp
 have IR : Hid _ := rest_14 (m := m) hm v ls l c e w hE hC
 obtain ⟨T, x, rfl⟩ := hC.iface
 clear hE hC b1 b2 b3 b4 b5 b6 b7 b8 b9 b10 b14
 go_enter Tryz.func32, Tryz.ntmps32
 go_wp2_with fail
 refine Calls.mono I1.out ?_
 rintro r w' ⟨rfl, hw⟩; obtain rfl := hw.symm; clear hw
 rw [d1]
 go_wp2_with fail
 refine Calls.mono I2.out ?_
 rintro r w' ⟨rfl, hw⟩; obtain rfl := hw.symm; clear hw
 rw [d2]
 go_wp2_with fail
 refine Calls.mono I3.out ?_
 rintro r w' ⟨rfl, hw⟩; obtain rfl := hw.symm; clear hw
 rw [d3]
 go_wp2_with fail
 refine Calls.mono I4.out ?_
 rintro r w' ⟨rfl, hw⟩; obtain rfl := hw.symm; clear hw
 rw [d4]
 go_wp2_with fail
 refine Calls.mono I5.out ?_
 rintro r w' ⟨rfl, hw⟩; obtain rfl := hw.symm; clear hw
 rw [d5]
 go_wp2_with fail
 refine Calls.mono I6.out ?_
 rintro r w' ⟨rfl, hw⟩; obtain rfl := hw.symm; clear hw
 rw [d6]
 go_wp2_with fail
 refine Calls.mono I7.out ?_
 rintro r w' ⟨rfl, hw⟩; obtain rfl := hw.symm; clear hw
 rw [d7]
 go_wp2_with fail
 refine Calls.mono I8.out ?_
 rintro r w' ⟨rfl, hw⟩; obtain rfl := hw.symm; clear hw
 rw [d8]
 go_wp2_with fail
 refine Calls.mono I9.out ?_
 rintro r w' ⟨rfl, hw⟩; obtain rfl := hw.symm; clear hw
 rw [d9]
 go_wp2_with fail
 refine Calls.mono I10.out ?_
 rintro r w' ⟨rfl, hw⟩; obtain rfl := hw.symm; clear hw
 rw [d10]
 go_wp2_with fail
 refine Calls.mono IR.out ?_
 rintro r w' ⟨rfl, hw⟩; obtain rfl := hw.symm; clear hw
 go_wp2_with fail
 go_ret
 exact ⟨rfl, rfl⟩
end Go.Proofs.YtplofbabfkkimaaGreatDoor
/- The book's Told at a chain of faults, however many layers it has. -/
namespace Go.Proofs.YtplofbabfkkimaaGreatDoor
open Go.RowKit
theorem castY (v : Value) (w : World) : (Instr.typeAssert (.iface 74 v) 47 74 true).run Tryz.prog w = .ok (.tuple #[v, .bool true]) w := by kernel_rfl
theorem castN (v : Value) (w : World) : (Instr.typeAssert (.iface 234 v) 47 74 true).run Tryz.prog w = .ok (.tuple #[.pointer none, .bool false]) w := by kernel_rfl
def joinS (x : ByteArray) : List ByteArray → ByteArray
 | [] => x
 | s :: r => joinS (x ++ s ++ ⟨#[32]⟩) r
theorem joinS_size (ls : List ByteArray) (h : ∀ s ∈ ls, s.size ≤ 100) : ∀ x, (joinS x ls).size ≤ x.size + 101 * ls.length ∧ x.size ≤ (joinS x ls).size := by
 induction ls with
 | nil => intro x; simp [joinS]
 | cons s r ih =>
   intro x
   have h1 := h s List.mem_cons_self
   have h2 := ih (fun y hy => h y (List.mem_cons_of_mem _ hy)) (x ++ s ++ ⟨#[32]⟩)
   have h3 : (x ++ s ++ ⟨#[32]⟩).size = x.size + s.size + 1 := by rw [ByteArray.size_append, ByteArray.size_append]; rfl
   simp only [joinS, List.length_cons]
   omega
theorem Chain.drew {w : World} {l c : Int} {a : Addr} {ls : List ByteArray} {v : Value} (h : Chain w l c a ls v) (n : Nat) : Chain (w.drewN n) l c a ls v := h.below (below_drewN (Below.refl _ _) n)
set_option maxRecDepth 100000 in
set_option maxHeartbeats 8000000 in
theorem told_gen (k : Nat) (h1 : 1 ≤ k) (v : Value) (ls : List ByteArray) (l c : Int) (ae : Addr) (w : World) (hcode : ∀ W (x : Value) (r : List ByteArray), Below w.heap.size w W → Chain W l c ae r x → Calls Tryz.prog 32 #[x] W fun r w' => r = .returned (.int .i64 k) ∧ w' = W) (hC : Chain w l c ae ls v) (hl : ls.length ≤ 19) (hs : ∀ s ∈ ls, s.size ≤ 100) :
 Calls Tryz.prog 11 #[v, .agg #[.int .i64 k, .int .i64 l, .int .i64 c, .string (joinS ⟨#[]⟩ ls)]] w fun r w' => r = .returned (.bool true) ∧ Below w.heap.size w w' := by
 have y := castY
 have n := castN
 have z0 : ((k : Int) == 0) = false := by simp; omega
 have z3 : ((k : Int) != (k : Int)) = false := by simp
 have z4 : ((k : Int) == (k : Int)) = true := by simp
 have z5 : (l != l) = false := by simp
 have z6 : (c != c) = false := by simp
 obtain ⟨J, hJ⟩ : ∃ J, J = joinS ⟨#[]⟩ ls := ⟨_, rfl⟩
 have HE : Hid _ := And.intro hC (And.intro hs (And.intro hJ hl))
 have HC : Hid _ := hcode
 rw [← hJ]
 obtain ⟨T0, x0, rfl⟩ := hC.iface
 clear hC hs hcode hJ h1
 go_enter Tryz.func11, Tryz.ntmps11
 go_wp2_with fail
 obtain ⟨w1, hw1⟩ : ∃ w1, w1 = w.alloc (.cells #[.int .i64 k, .int .i64 l, .int .i64 c, .string J] 29) := ⟨_, rfl⟩
 rw [← hw1]
 have hb1 : Below w.heap.size w w1 := by rw [hw1]; exact (Below.refl _ _).alloc (Nat.le_refl _) _
 have hN : w1.heap[w.heap.size]? = some (.cells #[.int .i64 k, .int .i64 l, .int .i64 c, .string J] 29 (0, 0)) := by rw [hw1]; exact (MapKept.heap_alloc w _).1
 have H1 : Hid _ := And.intro hb1 (And.intro hN (HE.out.1.below hb1))
 clear hb1 hN hw1
 obtain ⟨e0, e1, e2, e3⟩ := fault_cells H1.out.2.1
 go_quiet ((go_at_call 32; exact Calls.quiet_of_same (HC.out _ _ _ (below_drewN H1.out.1 _) (H1.out.2.2.drew _))))
 obtain ⟨w2, hw2⟩ : ∃ w2, w2 = w1.drewN nq := ⟨_, rfl⟩
 rw [← hw2]
 have H2 : Hid _ := And.intro (below_drewN H1.out.1 nq) (And.intro (H1.out.2.2.drew nq) (show (w1.drewN nq).heap[w.heap.size]? = some (.cells #[.int .i64 k, .int .i64 l, .int .i64 c, .string J] 29 (0, 0)) from H1.out.2.1))
 rw [← hw2] at H2
 clear hw2 e0 e1 e2 e3 H1
 go_wp2_with fail
 go_loopg [0, 5, 6] (ls.length + 1) (fun q ev lv nv wr => ∃ (done r : List ByteArray) (x : ByteArray), q = r.length + 1 ∧ ls = done ++ r ∧ nv = .int .i64 done.length ∧ lv = .string x ∧ joinS x r = J ∧ Below w.heap.size w wr ∧ Chain wr l c ae r ev ∧ wr.heap[w.heap.size]? = some (.cells #[.int .i64 k, .int .i64 l, .int .i64 c, .string J] 29 (0, 0)))
 case atStart => exact ⟨[], ls, _, rfl, rfl, rfl, rfl, HE.out.2.2.1.symm, H2.out.1, H2.out.2.1, H2.out.2.2⟩
 case round =>
  obtain ⟨done, r, x, rfl, hls, rfl, rfl, hj, hbr, hCr, hNr⟩ := hrel
  clear H2
  have hlen : done.length + r.length = ls.length := by rw [hls, List.length_append]
  have hdl : (done.length : Int) < 20 := by have := HE.out.2.2.2; omega
  obtain ⟨e0, e1, e2, e3⟩ := fault_cells hNr
  cases r with
  | nil =>
    have ev : u0 = .iface 234 (.pointer (some ae)) := hCr
    subst ev
    have hx : x = J := hj
    subst hx
    have HR : Hid _ := And.intro hCr hbr
    clear hCr hj hls hNr hbr hlen
    go_wp2_with fail
    go_quiet ((go_at_call 32; exact Calls.quiet_of_same (HC.out _ _ [] (below_drewN HR.out.2 _) rfl)))
    go_wp2
    go_ret
    exact ⟨rfl, below_drewN HR.out.2 _⟩
  | cons s r =>
    obtain ⟨pb, u, rfl, hB, hCu⟩ := hCr
    obtain ⟨f0, f1, f2, f3⟩ := fault_cells hB
    have hz := joinS_size r (fun y hy => HE.out.2.1 y (by rw [hls]; exact List.mem_append_right _ (List.mem_cons_of_mem _ hy))) (x ++ s ++ ⟨#[32]⟩)
    have hz0 := joinS_size ls HE.out.2.1 ⟨#[]⟩
    have hz1 : (x ++ s ++ ⟨#[32]⟩).size ≤ 2000 := by
     have h2 : (joinS (x ++ s ++ ⟨#[32]⟩) r).size ≤ 0 + 101 * ls.length := by
      have h3 : joinS (x ++ s ++ ⟨#[32]⟩) r = J := hj
      rw [h3, HE.out.2.2.1]; exact hz0.1
     have := HE.out.2.2.2
     omega
    have hz3 : (x ++ s ++ ⟨#[32]⟩).size = x.size + s.size + 1 := by rw [ByteArray.size_append, ByteArray.size_append]; rfl
    have cat1 := fun W => run_string_add_sum (P := Tryz.prog) (w := W) x s (by omega)
    have cat2 := fun W => run_string_add_sum (P := Tryz.prog) (w := W) (x ++ s) ⟨#[32]⟩ (by rw [ByteArray.size_append]; show x.size + s.size + 1 ≤ _; omega)
    have HR : Hid _ := And.intro hCu (And.intro hls (And.intro hj (And.intro hbr hNr)))
    clear hCu hls hj hB hz hz0 hz1 hz3 hbr hNr hlen
    go_wp2_with fail
    go_quiet (fail)
    obtain ⟨w3, hw3⟩ : ∃ w3, w3 = wr.drewN nq := ⟨_, rfl⟩
    have g0 : w3.cell? ⟨pb, 0, none⟩ = some (.string s) := by rw [hw3]; exact f0
    have g3 : w3.cell? ⟨pb, 3, none⟩ = some u := by rw [hw3]; exact f3
    have H3 : Hid _ := And.intro (HR.out.1.drew nq) (And.intro (below_drewN HR.out.2.2.2.1 nq) (show (wr.drewN nq).heap[w.heap.size]? = some (.cells #[.int .i64 k, .int .i64 l, .int .i64 c, .string J] 29 (0, 0)) from HR.out.2.2.2.2))
    rw [← hw3] at H3 ⊢
    clear hw3 f0 f1 f2 f3 e0 e1 e2 e3
    go_wp2
    go_roundg (r.length + 1)
    case measure => simp
    case rel => exact ⟨done ++ [s], r, _, rfl, by rw [HR.out.2.1, List.append_assoc]; rfl, by rw [List.length_append]; go_num, rfl, HR.out.2.2.1, H3.out.2.1, H3.out.1, H3.out.2.2⟩
theorem told_14 {m : Nat} (hm : 14 ≤ m) (v : Value) (ls : List ByteArray) (l c : Int) (e : Nat → Addr) (w : World) (hE : Er m w e) (hC : Chain w l c (e 14) ls v) (hl : ls.length ≤ 19) (hs : ∀ s ∈ ls, s.size ≤ 100) :
 Calls Tryz.prog 11 #[v, .agg #[.int .i64 14, .int .i64 l, .int .i64 c, .string (joinS ⟨#[]⟩ ls)]] w fun r w' => r = .returned (.bool true) ∧ Below w.heap.size w w' :=
 told_gen 14 (by decide) v ls l c (e 14) w (fun W x r hb h => code_14 hm x r l c e W (hE.below hb) h) hC hl hs
theorem told_none (l c : Int) (x : ByteArray) (w : World) :
 Calls Tryz.prog 11 #[.nilIface, .agg #[.int .i64 0, .int .i64 l, .int .i64 c, .string x]] w fun e w' => e = .returned (.bool true) ∧ Below w.heap.size w w' := by
 go_enter Tryz.func11, Tryz.ntmps11
 go_wp2
 go_ret
 exact ⟨rfl, (Below.refl _ _).alloc (Nat.le_refl _) _⟩
end Go.Proofs.YtplofbabfkkimaaGreatDoor
/- Contracts of the document's Check and Normal of systems. -/
namespace Go.Proofs.YtplofbabfkkimaaGreatDoor
open Go.RowKit Go.Maps
attribute [local go_sem ↓] Go.wp_at_zero Go.wp_at_succ
def sysB : ByteArray := ⟨#[115, 121, 115, 116, 101, 109]⟩
def sysB1 : ByteArray := ⟨#[115, 121, 115, 116, 101, 109, 32]⟩
set_option maxHeartbeats 1000000 in
theorem badSys (k : Int) (w : World) : Calls Tryz.prog 83 #[.string ⟨#[115, 121, 115, 116, 101, 109]⟩, .int .i64 k] w fun e w' => e = .returned (.agg #[.int .i64 k, .int .i64 0, .int .i64 0, .string sysB1]) ∧ Below w.heap.size w w' := by
 have zs : (⟨#[115, 121, 115, 116, 101, 109]⟩ ++ ⟨#[32]⟩ : ByteArray) = sysB1 := by decide
 go_enter Tryz.func83, Tryz.ntmps83
 go_wp2
 exact bodyPost_ret (v := .agg #[.int .i64 k, .int .i64 0, .int .i64 0, .string sysB1]) (by simp [results, Tryz.results83, go_sem]) rfl ⟨rfl, (Below.refl _ _).alloc (Nat.le_refl _) _⟩
theorem four_set {w : World} {b : Nat} {x0 x1 x2 x3 a0 a1 a2 a3 : Value} {t : TypeId} (h : w.heap[b]? = some (.cells #[x0, x1, x2, x3] t (0, 0))) : ((((w.setCell ⟨b, 0, none⟩ a0).setCell ⟨b, 1, none⟩ a1).setCell ⟨b, 2, none⟩ a2).setCell ⟨b, 3, none⟩ a3).heap[b]? = some (.cells #[a0, a1, a2, a3] t (0, 0)) :=
 heap_setCell_same _ b 3 _ _ _ (heap_setCell_same _ b 2 _ _ _ (heap_setCell_same _ b 1 _ _ _ (heap_setCell_same w b 0 _ _ _ h)))
theorem four_below {B : Nat} {w w2 : World} {b : Nat} (h : Below B w w2) (hb : B ≤ b) (a0 a1 a2 a3 : Value) : Below B w ((((w2.setCell ⟨b, 0, none⟩ a0).setCell ⟨b, 1, none⟩ a1).setCell ⟨b, 2, none⟩ a2).setCell ⟨b, 3, none⟩ a3) := (((h.setCell hb _).setCell hb _).setCell hb _).setCell hb _
def chkV (ok : Bool) : Value := if ok then .agg #[.int .i64 0, .int .i64 0, .int .i64 0, .string ⟨#[]⟩] else .agg #[.int .i64 14, .int .i64 0, .int .i64 0, .string sysB1]
set_option maxRecDepth 100000 in
set_option maxHeartbeats 2000000 in
theorem refCheck_any (n k s : Int) (v : Value) (es : List Sy.Ed) (w : World) (hv : BEdges.Has w v es) :
 Calls Tryz.prog 22 #[sysV n k s v] w fun e w' => e = .returned (chkV (Sy.right n k s es)) ∧ Below w.heap.size w w' := by
 obtain ⟨w1, hw1⟩ : ∃ w1, w1 = (w.alloc (.cells #[.int .i64 n, .int .i64 k, .int .i64 s, v] 24)).alloc (.cells #[.int .i64 0, .int .i64 0, .int .i64 0, .string ⟨#[]⟩] 29) := ⟨_, rfl⟩
 have hb1 : Below w.heap.size w w1 := by rw [hw1]; exact ((Below.refl _ _).alloc (Nat.le_refl _) _).alloc (by simp) _
 have hR := right_any n k s v es w1 (hv.below hb1)
 have hg : w1.heap[w.heap.size + 1]? = some (.cells #[.int .i64 0, .int .i64 0, .int .i64 0, .string ⟨#[]⟩] 29 (0, 0)) := by rw [hw1]; exact two_alloc w _ _
 have H1 : Hid _ := And.intro hR (And.intro hb1 (And.intro hg hw1))
 obtain ⟨ao, cap, rfl, _⟩ := hv
 clear hR hb1 hg hw1
 unfold sysV at H1 ⊢
 cases hr : Sy.right n k s es with
 | true =>
   rw [hr] at H1
   clear hr
   go_enter Tryz.func22, Tryz.ntmps22
   go_wp2_with fail
   rw [← H1.out.2.2.2]
   refine Calls.mono H1.out.1 ?_
   rintro e w2 ⟨rfl, hb2⟩
   have hg2 := (hb2.block _ (t_lt H1.out.2.2.1)).trans H1.out.2.2.1
   obtain ⟨y0, y1, y2, y3⟩ := four_cells hg2
   have z0 := blk_free hg2 0
   have z1 := blk_free hg2 1
   have z2 := blk_free hg2 2
   have z3 := blk_free hg2 3
   have H2 : Hid _ := And.intro (H1.out.2.1.trans (hb2.mono H1.out.2.1.size)) hg2
   clear hb2 hg2
   go_wp2_with fail
   have hgf := four_set (a0 := .int .i64 0) (a1 := .int .i64 0) (a2 := .int .i64 0) (a3 := .string ⟨#[]⟩) H2.out.2
   have hbf := four_below H2.out.1 (b := w.heap.size + 1) (by omega) (.int .i64 0) (.int .i64 0) (.int .i64 0) (.string ⟨#[]⟩)
   generalize ((((w2.setCell ⟨w.heap.size + 1, 0, none⟩ (.int .i64 0)).setCell ⟨w.heap.size + 1, 1, none⟩ (.int .i64 0)).setCell ⟨w.heap.size + 1, 2, none⟩ (.int .i64 0)).setCell ⟨w.heap.size + 1, 3, none⟩ (.string ⟨#[]⟩)) = wf at hgf hbf ⊢
   obtain ⟨c0, c1, c2, c3⟩ := four_cells hgf
   exact bodyPost_ret (v := .agg #[.int .i64 0, .int .i64 0, .int .i64 0, .string ⟨#[]⟩]) (by simp [results, Tryz.results22, go_sem, c0, c1, c2, c3]) rfl ⟨rfl, hbf⟩
 | false =>
   rw [hr] at H1
   clear hr
   go_enter Tryz.func22, Tryz.ntmps22
   go_wp2_with fail
   rw [← H1.out.2.2.2]
   refine Calls.mono H1.out.1 ?_
   rintro e w2 ⟨rfl, hb2⟩
   have hg2 := (hb2.block _ (t_lt H1.out.2.2.1)).trans H1.out.2.2.1
   have H2 : Hid _ := And.intro (H1.out.2.1.trans (hb2.mono H1.out.2.1.size)) hg2
   clear hb2 hg2
   go_wp2_with fail
   refine (badSys 14 w2).mono ?_
   rintro e w3 ⟨rfl, hb3⟩
   have hg3 := (hb3.block _ (t_lt H2.out.2)).trans H2.out.2
   obtain ⟨y0, y1, y2, y3⟩ := four_cells hg3
   have z0 := blk_free hg3 0
   have z1 := blk_free hg3 1
   have z2 := blk_free hg3 2
   have z3 := blk_free hg3 3
   have H3 : Hid _ := And.intro (H2.out.1.trans (hb3.mono H2.out.1.size)) hg3
   clear hb3 hg3
   go_wp2_with fail
   have hgf := four_set (a0 := .int .i64 14) (a1 := .int .i64 0) (a2 := .int .i64 0) (a3 := .string sysB1) H3.out.2
   have hbf := four_below H3.out.1 (b := w.heap.size + 1) (by omega) (.int .i64 14) (.int .i64 0) (.int .i64 0) (.string sysB1)
   generalize ((((w3.setCell ⟨w.heap.size + 1, 0, none⟩ (.int .i64 14)).setCell ⟨w.heap.size + 1, 1, none⟩ (.int .i64 0)).setCell ⟨w.heap.size + 1, 2, none⟩ (.int .i64 0)).setCell ⟨w.heap.size + 1, 3, none⟩ (.string sysB1)) = wf at hgf hbf ⊢
   clear y0 y1 y2 y3 z0 z1 z2 z3
   obtain ⟨c0, c1, c2, c3⟩ := four_cells hgf
   exact bodyPost_ret (v := .agg #[.int .i64 14, .int .i64 0, .int .i64 0, .string sysB1]) (by simp [results, Tryz.results22, go_sem, c0, c1, c2, c3]) rfl ⟨rfl, hbf⟩
end Go.Proofs.YtplofbabfkkimaaGreatDoor
