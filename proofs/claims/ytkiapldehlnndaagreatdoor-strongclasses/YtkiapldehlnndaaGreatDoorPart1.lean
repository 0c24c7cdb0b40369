/- Texts of this claim, joined: RoDs0, RoDs, SyEq, RoDSame, RoPart, SyTab0, BXEdges, SyRight, SySort. -/
import Derived.Test.YtkiapldehlnndaaGreatDoorPart0
import Derived.Deep.AppendLies
import Derived.Maps.AppendAt
import Derived.RangeFuncBox
import Derived.BigQuiet
import Derived.Deep.LoopGhost
import Derived.Deep.QuietTactic
import Derived.WalkSmall
import Derived.Maps.OwnSet
import Derived.Deep.DeepCutAuto
import Derived.Deep.RegionHeld3
import Derived.Deep.RegionLaw
/- The document's insertion of a number into rising numbers: plain facts, and what it writes. -/
namespace Go.Proofs.YtkiapldehlnndaaGreatDoor
open Go.RowKit Go.Maps
def Ro.putAt (O : List Int) (k : Nat) (v : Int) : List Int := O.take k ++ v :: O.drop k
theorem Ro.putAt_len {O : List Int} {k : Nat} (v : Int) (h : k ≤ O.length) : (Ro.putAt O k v).length = O.length + 1 := by
 simp [Ro.putAt]; omega
theorem Ro.putAt_end (O : List Int) (v : Int) : Ro.putAt O O.length v = O ++ [v] := by simp [Ro.putAt]
theorem Ro.putAt_at {O : List Int} {k : Nat} (v : Int) (h : k ≤ O.length) : (Ro.putAt O k v)[k]? = some v := by
 unfold Ro.putAt
 rw [List.getElem?_append_right (by simp; omega), List.length_take, Nat.min_eq_left h, Nat.sub_self]; rfl
theorem Ro.putAt_ahead {O : List Int} {k j : Nat} (v : Int) (h : k ≤ O.length) (hj : j < k) : (Ro.putAt O k v)[j]? = O[j]? := by
 unfold Ro.putAt
 rw [List.getElem?_append_left (by simp; omega), List.getElem?_take_of_lt hj]
theorem Ro.putAt_set {O : List Int} {k : Nat} (v u : Int) (h : k ≤ O.length) : (Ro.putAt O k v).set k u = Ro.putAt O k u := by
 unfold Ro.putAt
 rw [List.set_append_right _ _ (by simp; omega), List.length_take, Nat.min_eq_left h, Nat.sub_self, List.set_cons_zero]
theorem Ro.putAt_up {O : List Int} {j : Nat} (v y : Int) (h : O[j]? = some y) : (Ro.putAt O (j + 1) v).set (j + 1) y = Ro.putAt O j y := by
 have hl := (List.getElem?_eq_some_iff.1 h).1
 rw [Ro.putAt_set _ _ (by omega)]
 unfold Ro.putAt
 rw [take_succ_of h, List.append_assoc]
 congr 1
 obtain ⟨_, rfl⟩ := List.getElem?_eq_some_iff.1 h
 rw [List.drop_eq_getElem_cons hl]; rfl
theorem Ro.putAt_rise {O : List Int} {k : Nat} {v : Int} (hO : Ro.Rise O) (hk : k ≤ O.length) (h1 : ∀ (j : Nat) (y : Int), k ≤ j → O[j]? = some y → v < y) (h2 : ∀ (j : Nat) (y : Int), k = j + 1 → O[j]? = some y → y < v) : Ro.Rise (Ro.putAt O k v) := by
 have hT : ∀ x ∈ O.take k, x < v := fun x hx => by
  cases k with
  | zero => simp at hx
  | succ j =>
    obtain ⟨y, hy⟩ : ∃ y, O[j]? = some y := ⟨O[j]'(by omega), List.getElem?_eq_getElem _⟩
    have h3 := h2 j y rfl hy
    rw [take_succ_of hy] at hx
    rcases List.mem_append.1 hx with hx | hx
    ·have h4 : Ro.Rise (O.take (j + 1)) := List.Pairwise.sublist (List.take_sublist _ _) hO
     rw [take_succ_of hy] at h4
     have := (List.pairwise_append.1 h4).2.2 x hx y List.mem_cons_self
     omega
    ·rw [List.mem_singleton.1 hx]; exact h3
 have hD : ∀ x ∈ O.drop k, v < x := fun x hx => by
  obtain ⟨i, hi⟩ := List.mem_iff_getElem?.1 hx
  rw [List.getElem?_drop] at hi
  exact h1 (k + i) x (by omega) hi
 unfold Ro.putAt Ro.Rise
 refine List.pairwise_append.2 ⟨List.Pairwise.sublist (List.take_sublist _ _) hO, List.pairwise_cons.2 ⟨hD, List.Pairwise.sublist (List.drop_sublist _ _) hO⟩, fun a ha b hb => ?_⟩
 rcases List.mem_cons.1 hb with rfl | hb
 ·exact hT a ha
 ·have := hT a ha; have := hD b hb; omega
theorem Ro.putAt_mem {O : List Int} {k : Nat} {v x : Int} : x ∈ Ro.putAt O k v ↔ x ∈ O ∨ x = v := by
 have h : x ∈ O ↔ x ∈ O.take k ∨ x ∈ O.drop k := by rw [← List.mem_append, List.take_append_drop]
 unfold Ro.putAt
 rw [List.mem_append, List.mem_cons, h]
 constructor
 ·rintro (h | h | h) <;> simp [h]
 ·rintro ((h | h) | h) <;> simp [h]
theorem Ro.sd_put {E : List Int} {k : Nat} {v : Int} (hk : k ≤ (Ro.sd E).length) (h1 : ∀ (j : Nat) (y : Int), k ≤ j → (Ro.sd E)[j]? = some y → v < y) (h2 : ∀ (j : Nat) (y : Int), k = j + 1 → (Ro.sd E)[j]? = some y → y < v) : Ro.putAt (Ro.sd E) k v = Ro.sd (E ++ [v]) :=
 Ro.sd_of (Ro.putAt_rise (Ro.sd_rise E) hk h1 h2) fun x => by rw [Ro.putAt_mem, Ro.mem_sd]; simp
theorem Ro.sd_in {E : List Int} {v : Int} (h : v ∈ Ro.sd E) : Ro.sd (E ++ [v]) = Ro.sd E := Ro.sd_eq.2 fun x => by
 have h1 := Ro.mem_sd.1 h
 simp only [List.mem_append, List.mem_singleton]
 exact ⟨fun h2 => h2.elim id fun e => by rw [e]; exact h1, .inl⟩
theorem OwnI.put {w : World} {B g n cap : Nat} {zs : List Int} (h : OwnI w B (.slice (some ⟨g, 0, none⟩) n cap) zs) (hn : n = zs.length) (j : Nat) (u : Int) : OwnI (w.setCell ⟨g, j, none⟩ (.int .i64 u)) B (.slice (some ⟨g, 0, none⟩) n cap) (zs.set j u) := by
 subst hn
 have h1 := (World.ownsRow.stored h j (.int .i64 u)).1
 unfold OwnI
 rw [List.length_set, show iC (zs.set j u) = (iC zs).set j (.int .i64 u) by simp [iC, List.map_set]]
 exact h1
theorem OwnI.free {w : World} {B g n cap : Nat} {zs : List Int} (h : OwnI w B (.slice (some ⟨g, 0, none⟩) n cap) zs) (hn : n = zs.length) (j : Nat) : w.frozen? ⟨g, j, none⟩ = false := by
 subst hn
 exact World.ownsRow.frozenAt h j
end Go.Proofs.YtkiapldehlnndaaGreatDoor
/- Contract of the document's signature: the ends of steps as rising numbers, each once. -/
namespace Go.Proofs.YtkiapldehlnndaaGreatDoor
open Go.RowKit Go.Maps
attribute [local go_sem ↓] Go.wp_at_zero Go.wp_at_succ
set_option maxRecDepth 100000 in
set_option maxHeartbeats 8000000 in
theorem docSig_any (n : Nat) (c : List Nat) (zs : List Ro.St) (vs vc : Value) (w : World) (hn : n ≤ 1000) (hc : c.length = n) (hcl : ∀ u ∈ c, u < n) (hz : ∀ z ∈ zs, (0 ≤ z.1 ∧ z.1 ≤ 300) ∧ 0 ≤ z.2 ∧ z.2 < (n : Int)) (hzl : zs.length ≤ 10000) (hs : BSteps.Has w vs zs) (hv : HasI w vc (natI c)) :
 Calls Tryz.prog 152 #[vs, vc] w fun r w' => ∃ u, r = .returned u ∧ OwnI w' w.heap.size u (Ro.sd (Ro.ends 1001 c zs)) ∧ Below w.heap.size w w' := by
 obtain ⟨i0, hi0, hz0, hz1, hz2⟩ := info_parts Tryz.infoI4
 have hs0 := hs
 obtain ⟨av, cs, rfl, _⟩ := hs0
 obtain ⟨ac, cc, rfl, hcs⟩ := hv
 obtain ⟨N, hN⟩ : ∃ N, N = zs.length := ⟨_, rfl⟩
 have hcn : (natI c).length = n := by simp [natI, hc]
 rw [hcn]
 rw [← hN] at hs hzl ⊢
 have HH : Hid _ := And.intro hs (And.intro hcs (And.intro hc (And.intro hcl (And.intro hz hN))))
 clear hs hcs hc hcl hz hN hcn
 go_enter Tryz.func152, Tryz.ntmps152
 go_wp2_with fail
 go_loopg [5, 6] N (fun q uv iv wr => ∃ i : Nat, q = N - i ∧ i ≤ N ∧ iv = .int .i64 i ∧ OwnI wr w.heap.size uv (Ro.sd (Ro.ends 1001 c (zs.take i))) ∧ Below w.heap.size w wr)
 case atStart => exact ⟨0, rfl, Nat.zero_le _, rfl, World.ownsRow_nil _ _ _ _, Below.refl _ _⟩
 case round =>
  obtain ⟨i, rfl, hi, rfl, hO, hb⟩ := hrel
  obtain ⟨au, cu, hu⟩ := row_shape hO
  obtain ⟨O, hOe⟩ : ∃ O, O = Ro.sd (Ro.ends 1001 c (zs.take i)) := ⟨_, rfl⟩
  obtain ⟨M, hM⟩ : ∃ M, M = O.length := ⟨_, rfl⟩
  rw [← hOe, ← hM] at hu
  obtain rfl := hu
  rw [← hOe] at hO
  by_cases hlt : i < N
  ·obtain ⟨⟨l, t0⟩, hzi⟩ : ∃ z, zs[i]? = some z := ⟨zs[i]'(by have := HH.out.2.2.2.2.2; omega), List.getElem?_eq_getElem _⟩
   have hzb := HH.out.2.2.2.2.1 _ (List.mem_of_getElem? hzi)
   simp only at hzb
   obtain ⟨t, rfl⟩ : ∃ t : Nat, t0 = (t : Int) := ⟨t0.toNat, by omega⟩
   obtain ⟨x, hx⟩ : ∃ x, c[t]? = some x := ⟨c[t]'(by have := HH.out.2.2.1; omega), List.getElem?_eq_getElem _⟩
   have hxn := HH.out.2.2.2.1 x (List.mem_of_getElem? hx)
   have hst := ends_take (n := 1001) (c := c) hzi
   have hcx : Ro.cl c (t : Int) = x := by unfold Ro.cl; rw [Int.toNat_natCast, hx]; rfl
   simp only [hcx] at hst
   obtain ⟨a, rfl, d0, d1⟩ := step_at (HH.out.1.below hb) hzi
   simp only at d0 d1
   obtain ⟨a2, rfl, d2⟩ := HH.out.2.1 t (x : Int) (by simp [natI, hx])
   have d3 : wr.cell? (a2.add t) = some (.int .i64 x) := (hb.cell (World.block_lt_of_cell? w _ d2)).trans d2
   have hMl : M ≤ 10000 := by
    have h1 := Ro.sd_len (Ro.ends 1001 c (zs.take i))
    rw [← hOe, ← hM] at h1
    have h2 : (Ro.ends 1001 c (zs.take i)).length ≤ i := by simp [Ro.ends]; omega
    omega
   have p0 : (0 : Int) ≤ (i : Int) := by omega
   have p1 : (i : Int) < (N : Int) := by omega
   have p2 : (0 : Int) ≤ (t : Int) := by omega
   have p3 : (t : Int) < (n : Int) := by omega
   have hm2 : IntKind.i64.wrap (l * 1001) = l * 1001 := by rw [IntKind.wrap_i64]; omega
   have hm3 : IntKind.i64.wrap (l * 1001 + (x : Int)) = l * 1001 + (x : Int) := by rw [IntKind.wrap_i64]; omega
   have HO0 : Hid _ := And.intro hO (And.intro hb (And.intro hst (And.intro hM hOe)))
   clear hO hb hst hM hOe hzi hx hcx d2 hzb hxn
   go_wp2_with fail
   go_quiet (fail)
   rename Nat => nq
   obtain ⟨wq, hwq⟩ : ∃ wq, wq = wr.drewN nq := ⟨_, rfl⟩
   have hbq : Below wr.heap.size wr wq := by rw [hwq]; exact below_drewN (Below.refl _ _) _
   have hOq : wq.ownsRow w.heap.size 3 1 (.slice au M cu) M (iC O) := by
    have h1 : wr.ownsRow w.heap.size 3 1 (.slice au M cu) M (iC O) := by have h1 := HO0.out.1; unfold OwnI at h1; rw [← HO0.out.2.2.2.1] at h1; exact h1
    exact trow_at h1 fun b hb => hbq.block b (h1.lt b hb).2
   have hbw : Below w.heap.size w wq := HO0.out.2.1.trans (hbq.mono HO0.out.2.1.size)
   obtain ⟨v, hv⟩ : ∃ v, v = l * 1001 + (x : Int) := ⟨_, rfl⟩
   have hst2 : Ro.ends 1001 c (zs.take (i + 1)) = Ro.ends 1001 c (zs.take i) ++ [v] := by rw [hv]; exact HO0.out.2.2.1
   have HO : Hid _ := And.intro hOq (And.intro hbw (And.intro trivial (And.intro HO0.out.2.2.2.1 (And.intro HO0.out.2.2.2.2 (congrArg Ro.sd hst2)))))
   rw [← hwq]
   rw [← hv] at hm3 ⊢
   clear hwq hbq hOq hbw hv hst2 HO0 d0 d1 d3 hm2 hm3
   go_wp2_with fail
   go_loopg [8] M (fun q kv wr => ∃ k : Nat, k = q ∧ kv = .int .i64 k ∧ wq = wr ∧ (k ≤ M ∧ ∀ (j : Nat) (y : Int), k ≤ j → O[j]? = some y → v < y))
   case atStart => exact ⟨M, rfl, rfl, rfl, Nat.le_refl _, fun j y h1 h2 => by have := (List.getElem?_eq_some_iff.1 h2).1; have := HO.out.2.2.2.1; omega⟩
   case round =>
    obtain ⟨k, rfl, rfl, rfl, hK⟩ := hrel
    have hkM : k ≤ M := hK.1
    have HK : Hid (k ≤ M ∧ ∀ (j : Nat) (y : Int), k ≤ j → O[j]? = some y → v < y) := hK
    clear hK
    by_cases hk0 : k = 0
    ·have f1 : ¬ (0 : Int) < (k : Int) := by omega
     have f2 : decide ((0 : Int) < (k : Int)) = false := decide_eq_false f1
     have f3 : decide (0 < k) = false := by simp [hk0]
     have H0 : Hid (k = 0) := hk0
     clear hk0
     have hml : M + 1 ≤ maxLen := by unfold maxLen; omega
     have hby : (M + 1) * 8 ≤ 140737488355328 := by omega
     have hle : w.heap.size ≤ (wq.alloc (.cells #[.int .i64 0] 3)).heap.size := by have := HO.out.2.1.size; simp; omega
     have e7 : IntKind.i64.wrap ((M : Int) + 1 - 1) = (M : Int) := by rw [IntKind.wrap_i64]; omega
     have e8 : (M : Int) + 1 - 1 = (M : Int) := by omega
     have e9 : IntKind.i64.wrap (M : Int) = (M : Int) := by rw [IntKind.wrap_i64]; omega
     go_wp2_with (at_builtin; refine wpList_append_own_at _ rfl _ _ 28 rfl w.heap.size 3 i0 (.int .i64 0) 1 8 Tryz.underlying28 hi0 hz0 hz1 hz2 rfl (by decide) (.slice au M cu) M (iC O) rfl (HO.out.1.alloc _) ⟨wq.heap.size, 0, none⟩ 1 1 [.int .i64 0] rfl rfl (World.news_of_block (cs := #[.int .i64 0]) (t := 3) (fr := (0, 0)) (heap_alloc_new wq _)) (by simp [Value.oneCell']) hml hby hle ?_; intro v5 w5 hO5 hg5 hnil5 hat5; obtain ⟨g5, cap5, rfl⟩ := ownsRow_succ hO5; have H5 : Hid _ := And.intro hO5 hg5; clear hO5 hg5 hnil5 hat5)
     have hO5 : OwnI w5 w.heap.size (.slice (some ⟨g5, 0, none⟩) (M + 1) cap5) (Ro.putAt O M 0) := by
      have h1 := H5.out.1
      rw [HO.out.2.2.2.1, Ro.putAt_end, ← HO.out.2.2.2.1]
      unfold OwnI
      rw [iC_snoc, List.length_append, ← HO.out.2.2.2.1]
      exact h1
     have hb5 : Below w.heap.size w w5 := HO.out.2.1.trans ((grown_alloc H5.out.2).below HO.out.2.1.size fun b hb => (HO.out.1.lt b hb).1)
     have H6 : Hid _ := And.intro hO5 hb5
     clear hO5 hb5 H5
     go_loopg [9] M (fun q jv wr => ∃ (j : Nat) (X : Int), j = q ∧ k ≤ j ∧ j ≤ M ∧ jv = .int .i64 j ∧ OwnI wr w.heap.size (.slice (some ⟨g5, 0, none⟩) (M + 1) cap5) (Ro.putAt O j X) ∧ Below w.heap.size w wr)
     case atStart => exact ⟨M, 0, rfl, HK.out.1, Nat.le_refl _, rfl, H6.out.1, H6.out.2⟩
     case round =>
      obtain ⟨j, X, rfl, hkj, hjM, rfl, hOj, hbj⟩ := hrel
      have hpl : (Ro.putAt O j X).length = M + 1 := by rw [Ro.putAt_len _ (by have := HO.out.2.2.2.1; omega), ← HO.out.2.2.2.1]
      by_cases hjk : k < j
      ·obtain ⟨j', hj'⟩ : ∃ j', j = j' + 1 := ⟨j - 1, by omega⟩
       obtain ⟨y, hy⟩ : ∃ y, O[j']? = some y := ⟨O[j']'(by have := HO.out.2.2.2.1; omega), List.getElem?_eq_getElem _⟩
       have hy2 : (Ro.putAt O j X)[j']? = some y := by rw [Ro.putAt_ahead _ (by have := HO.out.2.2.2.1; omega) (by omega)]; exact hy
       have cy := hOj.cell hy2
       have cj := hOj.cell (Ro.putAt_at X (by have := HO.out.2.2.2.1; omega))
       have cf := hOj.free hpl.symm j
       have hOs := hOj.put hpl.symm j y
       rw [hj', Ro.putAt_up _ _ hy, ← hj'] at hOs
       have t1 : (k : Int) < (j : Int) := by omega
       have t2 : decide ((k : Int) < (j : Int)) = true := decide_eq_true t1
       have t3 : IntKind.i64.wrap ((j : Int) - 1) = (j' : Int) := by rw [IntKind.wrap_i64]; omega
       have t4 : (j : Int) - 1 = (j' : Int) := by omega
       have t5 : IntKind.i64.wrap (j' : Int) = (j' : Int) := by rw [IntKind.wrap_i64]; omega
       have t6 : (0 : Int) ≤ (j' : Int) := by omega
       have t7 : (j' : Int) < ((M + 1 : Nat) : Int) := by omega
       have t8 : (0 : Int) ≤ (j : Int) := by omega
       have t9 : (j : Int) < ((M + 1 : Nat) : Int) := by omega
       have u7 : (j' : Int) < (M : Int) + 1 := by omega
       have u9 : (j : Int) < (M : Int) + 1 := by omega
       have HJ : Hid _ := And.intro hOs (And.intro hbj (And.intro hj' (And.intro hkj hjM)))
       have hgB : w.heap.size ≤ g5 := (hOj.lt g5 rfl).1
       clear hOs hbj hOj hj' hy hy2 hpl
       go_wp2_with fail
       go_roundg j'
       case measure => have := HJ.out.2.2.1; omega
       case rel =>
        exact ⟨j', y, rfl, by have := HJ.out.2.2.1; omega, by have := HJ.out.2.2.1; omega, rfl, HJ.out.1, HJ.out.2.1.setCell hgB _⟩
      ·obtain ⟨cj, hcj⟩ : ∃ x, (Ro.putAt O j X)[j]? = some x := ⟨X, Ro.putAt_at X (by have := HO.out.2.2.2.1; omega)⟩
       have hjk2 : j = k := by omega
       have cj2 := hOj.cell hcj
       have cf := hOj.free hpl.symm j
       have hOs := hOj.put hpl.symm j v
       rw [Ro.putAt_set _ _ (by have := HO.out.2.2.2.1; omega), hjk2, HO.out.2.2.2.2.1, Ro.sd_put (by rw [← HO.out.2.2.2.2.1, ← HO.out.2.2.2.1]; exact HK.out.1) (by rw [← HO.out.2.2.2.2.1]; exact HK.out.2) (by rw [← HO.out.2.2.2.2.1]; exact (fun j y h1 _ => by have := H0.out; omega)), ← HO.out.2.2.2.2.2] at hOs
       rw [hjk2] at cj2 cf
       have t1 : ¬ (k : Int) < (k : Int) := by omega
       have t2 : decide ((k : Int) < (k : Int)) = false := decide_eq_false t1
       have t8 : (0 : Int) ≤ (k : Int) := by omega
       have t9 : (k : Int) < ((M + 1 : Nat) : Int) := by have := HK.out.1; omega
       have u9 : (k : Int) < (M : Int) + 1 := by omega
       have HJ : Hid _ := And.intro hOs hbj
       have hgB : w.heap.size ≤ g5 := (hOj.lt g5 rfl).1
       subst hjk2
       clear hOs hbj hOj hcj hpl
       go_wp2_with fail
       go_roundg (N - (i + 1))
       case measure => omega
       case rel => exact ⟨i + 1, rfl, by omega, by go_num, HJ.out.1, HJ.out.2.setCell hgB _⟩
    ·obtain ⟨m, hm⟩ : ∃ m, k = m + 1 := ⟨k - 1, by omega⟩
     obtain ⟨y, hy⟩ : ∃ y, O[m]? = some y := ⟨O[m]'(by have := HO.out.2.2.2.1; omega), List.getElem?_eq_getElem _⟩
     have hOI : OwnI wq w.heap.size (.slice au M cu) O := by unfold OwnI; rw [← HO.out.2.2.2.1]; exact HO.out.1
     obtain ⟨ao2, cap2, hv2, hc2⟩ := hOI.has
     injection hv2 with e1 e2 e3
     subst e1
     obtain ⟨b, rfl, cy⟩ := hc2 m y hy
     have f1 : (0 : Int) < (k : Int) := by omega
     have f2 : decide ((0 : Int) < (k : Int)) = true := decide_eq_true f1
     have f3 : decide (0 < k) = true := by simp; omega
     have t3 : IntKind.i64.wrap ((k : Int) - 1) = (m : Int) := by rw [IntKind.wrap_i64]; omega
     have t4 : (k : Int) - 1 = (m : Int) := by omega
     have t5 : IntKind.i64.wrap (m : Int) = (m : Int) := by rw [IntKind.wrap_i64]; omega
     have t6 : (0 : Int) ≤ (m : Int) := by omega
     have t7 : (m : Int) < (M : Int) := by omega
     have HY : Hid _ := And.intro hm hy
     clear hm hy hOI hc2 e2 e3 hk0
     by_cases hgt : v < y
     ·have g1 : decide (v < y) = true := decide_eq_true hgt
      have HG : Hid (v < y) := hgt
      clear hgt
      go_wp2_with fail
      go_roundg m
      case measure => have := HY.out.1; omega
      case rel => exact ⟨m, rfl, rfl, rfl, by have := HY.out.1; omega, fun j z h1 h2 => by
       rcases Nat.lt_or_ge m j with h3 | h3
       ·exact HK.out.2 j z (by have := HY.out.1; omega) h2
       ·obtain rfl : j = m := by omega
        rw [HY.out.2] at h2
        rw [← Option.some.inj h2]; exact HG.out⟩
     ·have g1 : decide (v < y) = false := decide_eq_false hgt
      by_cases heq : y = v
      ·have g2 : (y == v) = true := by simp [heq]
       have HG : Hid (y = v) := heq
       clear hgt heq
       go_wp2_with fail
       go_roundg (N - (i + 1))
       case measure => omega
       case rel =>
        refine ⟨i + 1, rfl, by omega, by go_num, ?_, HO.out.2.1⟩
        rw [HO.out.2.2.2.2.2, Ro.sd_in (by rw [← HO.out.2.2.2.2.1, ← HG.out]; exact List.mem_of_getElem? HY.out.2), ← HO.out.2.2.2.2.1]
        unfold OwnI
        rw [← HO.out.2.2.2.1]
        exact HO.out.1
      ·have g2 : (y == v) = false := by simp [heq]
       have hlv : y < v := by omega
       have HG : Hid (y < v) := hlv
       clear hgt heq hlv
       have hml : M + 1 ≤ maxLen := by unfold maxLen; omega
       have hby : (M + 1) * 8 ≤ 140737488355328 := by omega
       have hle : w.heap.size ≤ (wq.alloc (.cells #[.int .i64 0] 3)).heap.size := by have := HO.out.2.1.size; simp; omega
       have e7 : IntKind.i64.wrap ((M : Int) + 1 - 1) = (M : Int) := by rw [IntKind.wrap_i64]; omega
       have e8 : (M : Int) + 1 - 1 = (M : Int) := by omega
       have e9 : IntKind.i64.wrap (M : Int) = (M : Int) := by rw [IntKind.wrap_i64]; omega
       go_wp2_with (at_builtin; refine wpList_append_own_at _ rfl _ _ 28 rfl w.heap.size 3 i0 (.int .i64 0) 1 8 Tryz.underlying28 hi0 hz0 hz1 hz2 rfl (by decide) (.slice (some b) M cu) M (iC O) rfl (HO.out.1.alloc _) ⟨wq.heap.size, 0, none⟩ 1 1 [.int .i64 0] rfl rfl (World.news_of_block (cs := #[.int .i64 0]) (t := 3) (fr := (0, 0)) (heap_alloc_new wq _)) (by simp [Value.oneCell']) hml hby hle ?_; intro v5 w5 hO5 hg5 hnil5 hat5; obtain ⟨g5, cap5, rfl⟩ := ownsRow_succ hO5; have H5 : Hid _ := And.intro hO5 hg5; clear hO5 hg5 hnil5 hat5)
       have hO5 : OwnI w5 w.heap.size (.slice (some ⟨g5, 0, none⟩) (M + 1) cap5) (Ro.putAt O M 0) := by
        have h1 := H5.out.1
        rw [HO.out.2.2.2.1, Ro.putAt_end, ← HO.out.2.2.2.1]
        unfold OwnI
        rw [iC_snoc, List.length_append, ← HO.out.2.2.2.1]
        exact h1
       have hb5 : Below w.heap.size w w5 := HO.out.2.1.trans ((grown_alloc H5.out.2).below HO.out.2.1.size fun b hb => (HO.out.1.lt b hb).1)
       have H6 : Hid _ := And.intro hO5 hb5
       clear hO5 hb5 H5
       go_loopg [9] M (fun q jv wr => ∃ (j : Nat) (X : Int), j = q ∧ k ≤ j ∧ j ≤ M ∧ jv = .int .i64 j ∧ OwnI wr w.heap.size (.slice (some ⟨g5, 0, none⟩) (M + 1) cap5) (Ro.putAt O j X) ∧ Below w.heap.size w wr)
       case atStart => exact ⟨M, 0, rfl, HK.out.1, Nat.le_refl _, rfl, H6.out.1, H6.out.2⟩
       case round =>
        obtain ⟨j, X, rfl, hkj, hjM, rfl, hOj, hbj⟩ := hrel
        have hpl : (Ro.putAt O j X).length = M + 1 := by rw [Ro.putAt_len _ (by have := HO.out.2.2.2.1; omega), ← HO.out.2.2.2.1]
        by_cases hjk : k < j
        ·obtain ⟨j', hj'⟩ : ∃ j', j = j' + 1 := ⟨j - 1, by omega⟩
         obtain ⟨y, hy⟩ : ∃ y, O[j']? = some y := ⟨O[j']'(by have := HO.out.2.2.2.1; omega), List.getElem?_eq_getElem _⟩
         have hy2 : (Ro.putAt O j X)[j']? = some y := by rw [Ro.putAt_ahead _ (by have := HO.out.2.2.2.1; omega) (by omega)]; exact hy
         have cy := hOj.cell hy2
         have cj := hOj.cell (Ro.putAt_at X (by have := HO.out.2.2.2.1; omega))
         have cf := hOj.free hpl.symm j
         have hOs := hOj.put hpl.symm j y
         rw [hj', Ro.putAt_up _ _ hy, ← hj'] at hOs
         have t1 : (k : Int) < (j : Int) := by omega
         have t2 : decide ((k : Int) < (j : Int)) = true := decide_eq_true t1
         have t3 : IntKind.i64.wrap ((j : Int) - 1) = (j' : Int) := by rw [IntKind.wrap_i64]; omega
         have t4 : (j : Int) - 1 = (j' : Int) := by omega
         have t5 : IntKind.i64.wrap (j' : Int) = (j' : Int) := by rw [IntKind.wrap_i64]; omega
         have t6 : (0 : Int) ≤ (j' : Int) := by omega
         have t7 : (j' : Int) < ((M + 1 : Nat) : Int) := by omega
         have t8 : (0 : Int) ≤ (j : Int) := by omega
         have t9 : (j : Int) < ((M + 1 : Nat) : Int) := by omega
         have u7 : (j' : Int) < (M : Int) + 1 := by omega
         have u9 : (j : Int) < (M : Int) + 1 := by omega
         have HJ : Hid _ := And.intro hOs (And.intro hbj (And.intro hj' (And.intro hkj hjM)))
         have hgB : w.heap.size ≤ g5 := (hOj.lt g5 rfl).1
         clear hOs hbj hOj hj' hy hy2 hpl
         go_wp2_with fail
         go_roundg j'
         case measure => have := HJ.out.2.2.1; omega
         case rel =>
          exact ⟨j', y, rfl, by have := HJ.out.2.2.1; omega, by have := HJ.out.2.2.1; omega, rfl, HJ.out.1, HJ.out.2.1.setCell hgB _⟩
        ·obtain ⟨cj, hcj⟩ : ∃ x, (Ro.putAt O j X)[j]? = some x := ⟨X, Ro.putAt_at X (by have := HO.out.2.2.2.1; omega)⟩
         have hjk2 : j = k := by omega
         have cj2 := hOj.cell hcj
         have cf := hOj.free hpl.symm j
         have hOs := hOj.put hpl.symm j v
         rw [Ro.putAt_set _ _ (by have := HO.out.2.2.2.1; omega), hjk2, HO.out.2.2.2.2.1, Ro.sd_put (by rw [← HO.out.2.2.2.2.1, ← HO.out.2.2.2.1]; exact HK.out.1) (by rw [← HO.out.2.2.2.2.1]; exact HK.out.2) (by rw [← HO.out.2.2.2.2.1]; exact (fun j y h1 h2 => by have h3 := HY.out.1; obtain rfl : j = m := (by omega); rw [HY.out.2] at h2; rw [← Option.some.inj h2]; exact HG.out)), ← HO.out.2.2.2.2.2] at hOs
         rw [hjk2] at cj2 cf
         have t1 : ¬ (k : Int) < (k : Int) := by omega
         have t2 : decide ((k : Int) < (k : Int)) = false := decide_eq_false t1
         have t8 : (0 : Int) ≤ (k : Int) := by omega
         have t9 : (k : Int) < ((M + 1 : Nat) : Int) := by have := HK.out.1; omega
         have u9 : (k : Int) < (M : Int) + 1 := by omega
         have HJ : Hid _ := And.intro hOs hbj
         have hgB : w.heap.size ≤ g5 := (hOj.lt g5 rfl).1
         subst hjk2
         clear hOs hbj hOj hcj hpl
         go_wp2_with fail
         go_roundg (N - (i + 1))
         case measure => omega
         case rel => exact ⟨i + 1, rfl, by omega, by go_num, HJ.out.1, HJ.out.2.setCell hgB _⟩
  ·obtain rfl : i = N := by omega
   have q1 : ¬ (i : Int) < (i : Int) := by omega
   have HO : Hid _ := And.intro hO (And.intro hb hOe)
   clear hO hb hM hOe
   go_wp2_with fail
   go_ret
   have h1 := HO.out.1
   rw [HO.out.2.2, List.take_of_length_le (by have := HH.out.2.2.2.2.2; omega)] at h1
   exact ⟨_, rfl, h1, HO.out.2.1⟩
end Go.Proofs.YtkiapldehlnndaaGreatDoor
/- Contract of slices.Equal of numbers. -/
namespace Go.Proofs.YtkiapldehlnndaaGreatDoor
open Go.RowKit Go.Maps
theorem take_both5 {α : Type} {a b : List α} {j : Nat} {x : α} (ha : a[j]? = some x) (hb : b[j]? = some x) (h : a.take j = b.take j) : a.take (j + 1) = b.take (j + 1) := by
 rw [take_succ_of ha, take_succ_of hb, h]
theorem eq_len5 {α : Type} {a b : List α} {n : Nat} (ha : a.length = n) (hb : b.length = n) (h : a.take n = b.take n) : a = b := by
 rw [List.take_of_length_le (by omega), List.take_of_length_le (by omega)] at h
 exact h
set_option maxRecDepth 100000 in
set_option maxHeartbeats 1000000 in
theorem slEqual_any (va vb : Value) (za zb : List Int) (w : World) (hn : za.length ≤ 1000000000000000) (hm : zb.length ≤ 1000000000000000) (hA : HasI w va za) (hB : HasI w vb zb) :
 Calls Tryz.prog 103 #[va, vb] w fun e w' => e = .returned (.bool (za == zb)) ∧ Below w.heap.size w w' := by
 obtain ⟨ao, cap, rfl, hcA⟩ := hA
 obtain ⟨ao', cap', rfl, hcB⟩ := hB
 by_cases hlen : za.length = zb.length
 ·obtain ⟨n, hN⟩ : ∃ n, n = za.length := ⟨_, rfl⟩
  have HH : Hid _ := And.intro hcA (And.intro hcB (And.intro hN (hN.trans hlen)))
  rw [← hlen, ← hN]
  rw [← hN] at hn
  clear hcA hcB hN hlen hm
  have q : ((n : Int) != (n : Int)) = false := by simp
  go_enter Tryz.func103, Tryz.ntmps103
  go_wp2
  go_loopg [13] n (fun g i wr => ∃ j m : Nat, g = n - j ∧ j ≤ n ∧ i = .int .i64 j ∧ za.take j = zb.take j ∧ wr = w.drewN m)
  case atStart => exact ⟨0, 0, rfl, Nat.zero_le _, rfl, rfl, rfl⟩
  case round =>
   obtain ⟨j, m, rfl, hj, rfl, heq, rfl⟩ := hrel
   have HQ : Hid _ := heq
   clear heq
   by_cases hlt : j < n
   ·obtain ⟨x, hx⟩ : ∃ z, za[j]? = some z := ⟨za[j]'(by have := HH.out.2.2.1; omega), List.getElem?_eq_getElem _⟩
    obtain ⟨y, hy⟩ : ∃ z, zb[j]? = some z := ⟨zb[j]'(by have := HH.out.2.2.2; omega), List.getElem?_eq_getElem _⟩
    obtain ⟨a, rfl, c0⟩ := HH.out.1 j x hx
    obtain ⟨b, rfl, d0⟩ := HH.out.2.1 j y hy
    have q0 : (0 : Int) ≤ (j : Int) := by omega
    have q1 : (j : Int) < (n : Int) := by omega
    by_cases hxy : x = y
    ·subst hxy
     have HT : Hid _ := take_both5 hx hy HQ.out
     clear hx hy
     go_wp2_with fail
     go_quiet (fail)
     go_wp2
     go_roundg (n - (j + 1))
     case measure => omega
     case rel => exact ⟨j + 1, _, rfl, by omega, by go_num, HT.out, by first | rfl | exact World.drewN_drewN _ _ _⟩
    ·have e1 : (x == y) = false := by simpa using hxy
     have HF : Hid ((za == zb) = false) := (by
      rw [beq_eq_false_iff_ne]
      rintro rfl
      rw [hx] at hy
      exact hxy (Option.some.inj hy) : (za == zb) = false)
     clear hx hy hxy
     go_wp2_with fail
     go_quiet (fail)
     go_wp2
     go_ret
     exact ⟨by rw [HF.out]; rfl, by first | exact below_drewN (below_drewN (Below.refl _ _) _) _ | exact below_drewN (Below.refl _ _) _⟩
   ·obtain rfl : j = n := by omega
    have q1 : ¬ (j : Int) < (j : Int) := by omega
    have HF : Hid ((za == zb) = true) := (by
     rw [beq_iff_eq]
     exact eq_len5 HH.out.2.2.1.symm HH.out.2.2.2.symm HQ.out : (za == zb) = true)
    go_wp2
    go_ret
    exact ⟨by rw [HF.out]; rfl, below_drewN (Below.refl _ _) _⟩
 ·have q : ((za.length : Int) != (zb.length : Int)) = true := by rw [bne_iff_ne]; omega
  have HF : Hid ((za == zb) = false) := (by rw [beq_eq_false_iff_ne]; rintro rfl; exact hlen rfl : (za == zb) = false)
  clear hcA hcB hlen
  go_enter Tryz.func103, Tryz.ntmps103
  go_wp2
  go_ret
  exact ⟨by rw [HF.out]; rfl, Below.refl _ _⟩
end Go.Proofs.YtkiapldehlnndaaGreatDoor
/- Contract of the document's SameInts. -/
namespace Go.Proofs.YtkiapldehlnndaaGreatDoor
open Go.RowKit Go.Maps
set_option maxRecDepth 100000 in
set_option maxHeartbeats 1000000 in
theorem refSame_any (va vb : Value) (za zb : List Int) (w : World) (hn : za.length ≤ 1000000000000000) (hm : zb.length ≤ 1000000000000000) (hA : HasI w va za) (hB : HasI w vb zb) :
 Calls Tryz.prog 153 #[va, vb] w fun e w' => e = .returned (.bool (za == zb)) ∧ ∃ m, w' = w.drewN m := by
 obtain ⟨ao, cap, rfl, hcA⟩ := hA
 obtain ⟨ao', cap', rfl, hcB⟩ := hB
 by_cases hlen : za.length = zb.length
 ·obtain ⟨n, hN⟩ : ∃ n, n = za.length := ⟨_, rfl⟩
  have HH : Hid _ := And.intro hcA (And.intro hcB (And.intro hN (hN.trans hlen)))
  rw [← hlen, ← hN]
  rw [← hN] at hn
  clear hcA hcB hN hlen hm
  have q : ((n : Int) != (n : Int)) = false := by simp
  go_enter Tryz.func153, Tryz.ntmps153
  go_wp2
  go_loopg [5] n (fun g i wr => ∃ j m : Nat, g = n - j ∧ j ≤ n ∧ i = .int .i64 j ∧ za.take j = zb.take j ∧ wr = w.drewN m)
  case atStart => exact ⟨0, 0, rfl, Nat.zero_le _, rfl, rfl, rfl⟩
  case round =>
   obtain ⟨j, m, rfl, hj, rfl, heq, rfl⟩ := hrel
   have HQ : Hid _ := heq
   clear heq
   by_cases hlt : j < n
   ·obtain ⟨x, hx⟩ : ∃ z, za[j]? = some z := ⟨za[j]'(by have := HH.out.2.2.1; omega), List.getElem?_eq_getElem _⟩
    obtain ⟨y, hy⟩ : ∃ z, zb[j]? = some z := ⟨zb[j]'(by have := HH.out.2.2.2; omega), List.getElem?_eq_getElem _⟩
    obtain ⟨a, rfl, c0⟩ := HH.out.1 j x hx
    obtain ⟨b, rfl, d0⟩ := HH.out.2.1 j y hy
    have q0 : (0 : Int) ≤ (j : Int) := by omega
    have q1 : (j : Int) < (n : Int) := by omega
    by_cases hxy : x = y
    ·subst hxy
     have e1 : (x != x) = false := by simp
     have HT : Hid _ := take_both5 hx hy HQ.out
     clear hx hy
     go_wp2_with fail
     go_quiet (fail)
     go_wp2
     go_roundg (n - (j + 1))
     case measure => omega
     case rel => exact ⟨j + 1, _, rfl, by omega, by go_num, HT.out, by first | rfl | exact World.drewN_drewN _ _ _⟩
    ·have e1 : (x != y) = true := by simpa using hxy
     have HF : Hid ((za == zb) = false) := (by
      rw [beq_eq_false_iff_ne]
      rintro rfl
      rw [hx] at hy
      exact hxy (Option.some.inj hy) : (za == zb) = false)
     clear hx hy hxy
     go_wp2_with fail
     go_quiet (fail)
     go_wp2
     go_ret
     exact ⟨by rw [HF.out]; rfl, _, by first | rfl | exact World.drewN_drewN _ _ _⟩
   ·obtain rfl : j = n := by omega
    have q1 : ¬ (j : Int) < (j : Int) := by omega
    have HF : Hid ((za == zb) = true) := (by
     rw [beq_iff_eq]
     exact eq_len5 HH.out.2.2.1.symm HH.out.2.2.2.symm HQ.out : (za == zb) = true)
    go_wp2
    go_ret
    exact ⟨by rw [HF.out]; rfl, _, rfl⟩
 ·have q : ((za.length : Int) != (zb.length : Int)) = true := by rw [bne_iff_ne]; omega
  have HF : Hid ((za == zb) = false) := (by rw [beq_eq_false_iff_ne]; rintro rfl; exact hlen rfl : (za == zb) = false)
  clear hcA hcB hlen
  go_enter Tryz.func153, Tryz.ntmps153
  go_wp2
  go_ret
  exact ⟨by rw [HF.out]; rfl, 0, rfl⟩
end Go.Proofs.YtkiapldehlnndaaGreatDoor
/- Contract of the program's parted: the classes of the round behind one. -/
namespace Go.Proofs.YtkiapldehlnndaaGreatDoor
open Go.RowKit Go.Maps
attribute [local go_sem ↓] Go.wp_at_zero Go.wp_at_succ
structure Stp (w : World) (gs n : Nat) (out : Nat → List Ro.St) : Prop where
 row : ∀ i, i < n → ∃ a c, w.cell? ⟨gs, i, none⟩ = some (.slice a (out i).length c) ∧ BSteps.Has w (.slice a (out i).length c) (out i)
theorem Stp.below {w w' : World} {gs n : Nat} {out : Nat → List Ro.St} (h : Stp w gs n out) (hb : Below w.heap.size w w') : Stp w' gs n out :=
 ⟨fun i hi => by obtain ⟨a, c, h1, h2⟩ := h.row i hi; exact ⟨a, c, cell_up h1 hb, h2.below hb⟩⟩
def Fit (n : Nat) (out : Nat → List Ro.St) : Prop := ∀ i, i < n → (out i).length ≤ 10000 ∧ ∀ z ∈ out i, (0 ≤ z.1 ∧ z.1 ≤ 300) ∧ 0 ≤ z.2 ∧ z.2 < (n : Int)
def tkey (s : ByteArray) : Lit := .string s.data.toList
structure MapT (D : DataW Unit) (ns : List ByteArray) : Prop where
 yes : ∀ (i : Nat) (s : ByteArray), ns[i]? = some s → Maps.has D (tkey s) = true ∧ D.atKey (tkey s) (.lit (.int .i64 0)) = .lit (.int .i64 i)
 no : ∀ s : ByteArray, s ∉ ns → Maps.has D (tkey s) = false
 size : Maps.size D = ns.length
def stx (n : Nat) (out : Nat → List Ro.St) (c : List Nat) (i : Nat) : ByteArray := sigB ((c[i]?).getD 0) (Ro.sd (Ro.ends n c (out i)))
def stxs (n : Nat) (out : Nat → List Ro.St) (c : List Nat) : List ByteArray := (List.range n).map (stx n out c)
structure PtAt (w wr : World) (ts : List ByteArray) (n i : Nat) (D : DataW Unit) (seen : List ByteArray) : Prop where
 arr : Arr 3 w wr (w.heap.size + 1) (natC (Ro.num (ts.take i)) ++ List.replicate (n - i) (.int .i64 0))
 own : wr.ownsMap (H := Unit) Tryz.prog 9 (plainElem Tryz.prog 3) w.heap.size seen.length D
 map : MapT D seen
end Go.Proofs.YtkiapldehlnndaaGreatDoor
/- Plain facts on rows of edges in order: how many come ahead of a row, and where a row stands. -/
namespace Go.Proofs.YtkiapldehlnndaaGreatDoor.Sy
def cnt (l : List Ed) (r : Int) : Nat := (l.filter fun e => decide (e.1 < r)).length
def Rows (l : List Ed) : Prop := l.Pairwise fun a b => a.1 ≤ b.1
theorem cnt_le (l : List Ed) (r : Int) : cnt l r ≤ l.length := List.length_filter_le _ _
theorem cnt_all {l : List Ed} {r : Int} (h : ∀ e ∈ l, e.1 < r) : cnt l r = l.length := by
 unfold cnt
 rw [List.filter_eq_self.2 fun e he => by simpa using h e he]
theorem cnt_none {l : List Ed} {r : Int} (h : ∀ e ∈ l, ¬ e.1 < r) : cnt l r = 0 := by
 unfold cnt
 rw [List.filter_eq_nil_iff.2 fun e he => by simpa using h e he]
 rfl
theorem cnt_cons (e : Ed) (l : List Ed) (r : Int) : cnt (e :: l) r = (if e.1 < r then 1 else 0) + cnt l r := by
 unfold cnt
 rw [List.filter_cons]
 by_cases h : e.1 < r
 ·simp [h]; omega
 ·simp [h]
theorem cnt_snoc (l : List Ed) (e : Ed) (r : Int) : cnt (l ++ [e]) r = cnt l r + if e.1 < r then 1 else 0 := by
 unfold cnt
 rw [List.filter_append, List.length_append]
 by_cases h : e.1 < r <;> simp [h]
theorem cnt_mono (l : List Ed) (r : Int) : cnt l r ≤ cnt l (r + 1) := by
 induction l with
 | nil => simp [cnt]
 | cons e t ih =>
   rw [cnt_cons, cnt_cons]
   by_cases h : e.1 < r
   ·have h2 : e.1 < r + 1 := by omega
    simp [h, h2]; exact ih
   ·by_cases h2 : e.1 < r + 1 <;> simp [h, h2] <;> omega
theorem row_piece {l : List Ed} (h : Rows l) (i : Int) : l.filter (fun e => e.1 == i) = (l.drop (cnt l i)).take (cnt l (i + 1) - cnt l i) := by
 induction l with
 | nil => simp
 | cons e r ih =>
   obtain ⟨h1, h2⟩ := List.pairwise_cons.1 h
   have ih := ih h2
   rw [cnt_cons, cnt_cons]
   by_cases c1 : e.1 < i
   ·have c2 : e.1 < i + 1 := by omega
    have c3 : (e.1 == i) = false := by simp; omega
    rw [List.filter_cons, c3, if_pos c1, if_pos c2, Nat.add_comm 1 (cnt r i), List.drop_succ_cons]
    have e1 : 1 + cnt r (i + 1) - (cnt r i + 1) = cnt r (i + 1) - cnt r i := by omega
    rw [e1]
    simpa using ih
   ·have hz : cnt r i = 0 := cnt_none fun x hx => by have := h1 x hx; omega
    by_cases c2 : e.1 = i
    ·have c3 : (e.1 == i) = true := by simp [c2]
     have c4 : e.1 < i + 1 := by omega
     rw [List.filter_cons, c3, if_neg c1, if_pos c4, hz]
     rw [hz] at ih
     simp only [List.drop_zero, Nat.sub_zero, if_true] at ih ⊢
     rw [ih, Nat.add_comm 1]
     simp
    ·have c3 : (e.1 == i) = false := by simpa using c2
     have c4 : ¬ e.1 < i + 1 := by omega
     have hz2 : cnt r (i + 1) = 0 := cnt_none fun x hx => by have := h1 x hx; omega
     rw [List.filter_cons, c3, if_neg c1, if_neg c4, hz, hz2]
     rw [hz, hz2] at ih
     simpa using ih
def lastOf (l : List Ed) (r : Int) : Nat := (l.foldl (fun (p : Nat × Nat) e => (p.1 + 1, if e.1 = r then p.1 + 1 else p.2)) (0, 0)).2
theorem last_fst (r : Int) (l : List Ed) : ∀ p : Nat × Nat, (l.foldl (fun (p : Nat × Nat) (e : Ed) => (p.1 + 1, if e.1 = r then p.1 + 1 else p.2)) p).1 = p.1 + l.length := by
 induction l with
 | nil => intro p; rfl
 | cons e t ih => intro p; rw [List.foldl_cons, ih]; simp; omega
theorem last_snoc (l : List Ed) (e : Ed) (r : Int) : lastOf (l ++ [e]) r = if e.1 = r then l.length + 1 else lastOf l r := by
 unfold lastOf
 rw [List.foldl_append]
 simp only [List.foldl_cons, List.foldl_nil, last_fst, Nat.zero_add]
theorem last_none {l : List Ed} {r : Int} (h : ∀ e ∈ l, e.1 ≠ r) : ∀ i, i ≤ l.length → lastOf (l.take i) r = 0 := by
 intro i
 induction i with
 | zero => intro _; rfl
 | succ i ih =>
   intro hi
   obtain ⟨x, hx⟩ : ∃ x, l[i]? = some x := ⟨l[i], List.getElem?_eq_getElem _⟩
   rw [take_succ_of hx, last_snoc, if_neg (h x (List.mem_of_getElem? hx))]
   exact ih (by omega)
theorem rows_take {l : List Ed} (h : Rows l) {i : Nat} {x : Ed} (hx : l[i]? = some x) : ∀ e ∈ l.take i, e.1 ≤ x.1 := fun e he => by
 obtain ⟨j, hj, rfl⟩ := List.mem_take_iff_getElem.1 he
 obtain ⟨hi, rfl⟩ := List.getElem?_eq_some_iff.1 hx
 exact List.pairwise_iff_getElem.1 h j i (by omega) hi (by omega)
theorem cnt_last {l : List Ed} (h : Rows l) (r : Int) : ∀ i, i ≤ l.length → cnt (l.take i) (r + 1) = max (lastOf (l.take i) r) (cnt (l.take i) r) := by
 intro i
 induction i with
 | zero => intro _; simp [cnt, lastOf]
 | succ i ih =>
   intro hi
   obtain ⟨x, hx⟩ : ∃ x, l[i]? = some x := ⟨l[i], List.getElem?_eq_getElem _⟩
   have hle := rows_take h hx
   have hlen : (l.take i).length = i := by rw [List.length_take]; omega
   rw [take_succ_of hx, cnt_snoc, cnt_snoc, last_snoc, hlen]
   by_cases c1 : x.1 = r
   ·have e1 : cnt (l.take i) (r + 1) = i := by rw [cnt_all fun e he => by have := hle e he; omega]; exact hlen
    have e2 := cnt_le (l.take i) r
    rw [hlen] at e2
    rw [e1, if_pos (by omega), if_pos c1, if_neg (by omega)]
    omega
   ·by_cases c2 : x.1 < r
    ·have e1 : cnt (l.take i) (r + 1) = i := by rw [cnt_all fun e he => by have := hle e he; omega]; exact hlen
     have e2 : cnt (l.take i) r = i := by rw [cnt_all fun e he => by have := hle e he; omega]; exact hlen
     have e3 := last_none (l := l.take i) (r := r) (fun e he => by have := hle e he; omega) i (by rw [hlen]; exact Nat.le_refl _)
     rw [List.take_take, Nat.min_self] at e3
     rw [e1, e2, e3, if_pos (by omega), if_neg c1, if_pos c2]
     omega
    ·rw [if_neg (by omega), if_neg c1, if_neg c2]
     exact ih (by omega)
def mixL (n : Nat) (l : List Ed) (st : Nat) : List Int := (List.range (n + 1)).map fun (r : Nat) => if r ≤ st then ((cnt l (r : Int) : Nat) : Int) else ((lastOf l ((r : Int) - 1) : Nat) : Int)
def bndL (n : Nat) (l : List Ed) : List Int := (List.range (n + 1)).map fun (r : Nat) => if r = 0 then 0 else ((lastOf l ((r : Int) - 1) : Nat) : Int)
def bounds (n : Nat) (l : List Ed) : List Int := (List.range (n + 1)).map fun (r : Nat) => ((cnt l (r : Int) : Nat) : Int)
theorem bnd_zero (n : Nat) : bndL n [] = List.replicate (n + 1) 0 := by
 unfold bndL
 rw [List.eq_replicate_iff]
 refine ⟨by simp, fun b hb => ?_⟩
 obtain ⟨r, _, rfl⟩ := List.mem_map.1 hb
 split <;> simp [lastOf]
theorem bnd_step {l : List Ed} {n i : Nat} {x : Ed} (hx : l[i]? = some x) {q : Nat} (hq : x.1 = (q : Int)) : (bndL n (l.take i)).set (q + 1) ((i : Int) + 1) = bndL n (l.take (i + 1)) := by
 have hlen : (l.take i).length = i := by rw [List.length_take]; have := (List.getElem?_eq_some_iff.1 hx).1; omega
 apply List.ext_getElem?
 intro r
 rw [List.getElem?_set]
 unfold bndL
 simp only [List.length_map, List.length_range, List.getElem?_map]
 by_cases hr : r < n + 1
 ·rw [List.getElem?_range hr, take_succ_of hx]
  simp only [Option.map_some, last_snoc, hlen, hq]
  by_cases e : q + 1 = r
  ·subst e
   rw [if_pos rfl, if_pos hr, if_neg (by omega), if_pos (by omega)]
   rfl
  ·rw [if_neg e]
   by_cases e0 : r = 0
   ·rw [if_pos e0, if_pos e0]
   ·rw [if_neg e0, if_neg e0, if_neg (by omega)]
 ·rw [List.getElem?_eq_none (by simp; omega)]
  by_cases e : q + 1 = r
  ·rw [if_pos e, if_neg (by omega)]; rfl
  ·rw [if_neg e]; rfl
theorem mix_zero {n : Nat} {l : List Ed} (h : ∀ e ∈ l, 0 ≤ e.1) : mixL n l 0 = bndL n l := by
 unfold mixL bndL
 apply List.map_congr_left
 intro r _
 by_cases e : r = 0
 ·subst e
  simp only [Nat.le_refl, if_true]
  rw [cnt_none fun x hx => by have := h x hx; omega]
  rfl
 ·rw [if_neg (by omega), if_neg e]
theorem mix_full (n : Nat) (l : List Ed) : mixL n l n = bounds n l := by
 unfold mixL bounds
 apply List.map_congr_left
 intro r hr
 have := List.mem_range.1 hr
 rw [if_pos (by omega)]
theorem mix_at {n st r : Nat} {l : List Ed} (hr : r ≤ n) : (mixL n l st)[r]? = some (if r ≤ st then ((cnt l (r : Int) : Nat) : Int) else ((lastOf l ((r : Int) - 1) : Nat) : Int)) := by
 unfold mixL
 rw [List.getElem?_map, List.getElem?_range (by omega)]
 rfl
theorem bounds_at {n r : Nat} {l : List Ed} (hr : r ≤ n) : (bounds n l)[r]? = some ((cnt l (r : Int) : Nat) : Int) := by
 unfold bounds
 rw [List.getElem?_map, List.getElem?_range (by omega)]
 rfl
theorem mix_step {n st : Nat} {l : List Ed} (h : Rows l) : (mixL n l st).set (st + 1) (((max (lastOf l (st : Int)) (cnt l (st : Int)) : Nat)) : Int) = mixL n l (st + 1) := by
 have hc := cnt_last h (st : Int) l.length (Nat.le_refl _)
 rw [List.take_length] at hc
 apply List.ext_getElem?
 intro r
 rw [List.getElem?_set]
 unfold mixL
 simp only [List.length_map, List.length_range, List.getElem?_map]
 by_cases hr : r < n + 1
 ·rw [List.getElem?_range hr]
  simp only [Option.map_some]
  by_cases e : st + 1 = r
  ·subst e
   rw [if_pos rfl, if_pos hr, if_pos (Nat.le_refl _), ← hc]
   rfl
  ·rw [if_neg e]
   by_cases e2 : r ≤ st
   ·rw [if_pos e2, if_pos (by omega)]
   ·rw [if_neg e2, if_neg (by omega)]
 ·rw [List.getElem?_eq_none (by simp; omega)]
  by_cases e : st + 1 = r
  ·rw [if_pos e, if_neg (by omega)]; rfl
  ·rw [if_neg e]; rfl
end Go.Proofs.YtkiapldehlnndaaGreatDoor.Sy
/- The book's lists of Edges: what it holds in memory, and contracts of the book's parts over them. (Written by mkbx.py out of BX.tmpl.) -/
namespace Go.Proofs.YtkiapldehlnndaaGreatDoor.BEdges
open Go.RowKit Go.Maps
attribute [local go_sem ↓] Go.wp_at_zero Go.wp_at_succ
abbrev El : Type := Int × Int × Int
def enc (z : El) : List Value := [.int .i64 z.1, .int .i64 z.2.1, .int .i64 z.2.2]
def C (zs : List El) : List Value := zs.flatMap enc
theorem enc_len (z : El) : (enc z).length = 3 := rfl
theorem C_len (zs : List El) : (C zs).length = zs.length * 3 := by
 unfold C
 induction zs with
 | nil => rfl
 | cons z r ih => rw [List.flatMap_cons, List.length_append, ih, enc_len, List.length_cons]; omega
theorem C_app (a b : List El) : C (a ++ b) = C a ++ C b := List.flatMap_append
theorem C_one (zs : List El) : ∀ u ∈ C zs, u.oneCell' = true := fun u hu => by
 obtain ⟨z, _, hz⟩ := List.mem_flatMap.1 hu
 simp only [enc, List.mem_cons, List.not_mem_nil, or_false] at hz
 rcases hz with rfl | rfl | rfl <;> rfl
theorem C_at : ∀ (zs : List El) (k : Nat) (z : El), zs[k]? = some z → ∀ q, q < 3 → (C zs)[k * 3 + q]? = (enc z)[q]?
 | [], _, _, h, _, _ => by simp at h
 | y :: r, 0, z, h, q, hq => by
   simp at h
   subst h
   show (enc y ++ C r)[0 * 3 + q]? = _
   rw [List.getElem?_append_left (by rw [enc_len]; omega)]
   congr 1
   omega
 | y :: r, k + 1, z, h, q, hq => by
   have ih := C_at r k z (by simpa using h) q hq
   show (enc y ++ C r)[(k + 1) * 3 + q]? = _
   rw [List.getElem?_append_right (by rw [enc_len]; omega), enc_len, ← ih]
   congr 1
   omega
theorem C_set (zs : List El) {k : Nat} (hk : k < zs.length) (x : El) : C (zs.set k x) = ((((C zs).set (k * 3) (.int .i64 x.1)).set (k * 3 + 1) (.int .i64 x.2.1)).set (k * 3 + 2) (.int .i64 x.2.2)) := by
 apply List.ext_getElem?
 intro j
 by_cases hj : j / 3 = k
 ·obtain ⟨q, hq, rfl⟩ : ∃ q, q < 3 ∧ j = k * 3 + q := ⟨j % 3, Nat.mod_lt _ (by decide), by omega⟩
  rw [C_at (zs.set k x) k x (List.getElem?_set_self hk) q hq]
  have hl : (C zs).length = zs.length * 3 := C_len zs
  have hq' : q = 0 ∨ q = 1 ∨ q = 2 := by omega
  rcases hq' with rfl | rfl | rfl <;> simp [List.getElem?_set, hl, enc] <;> omega
 ·have e : (C (zs.set k x))[j]? = (C zs)[j]? := by
   rcases Nat.lt_or_ge (j / 3) zs.length with h | h
   ·obtain ⟨z, hz⟩ : ∃ z, zs[j / 3]? = some z := ⟨_, List.getElem?_eq_getElem h⟩
    have hz' : (zs.set k x)[j / 3]? = some z := by rw [List.getElem?_set_ne (fun e => hj e.symm)]; exact hz
    have e0 : j = j / 3 * 3 + j % 3 := by omega
    rw [e0, C_at _ _ z hz' _ (Nat.mod_lt _ (by decide)), C_at _ _ z hz _ (Nat.mod_lt _ (by decide))]
   ·rw [List.getElem?_eq_none (by rw [C_len, List.length_set]; omega), List.getElem?_eq_none (by rw [C_len]; omega)]
  rw [e]
  rw [List.getElem?_set_ne (by omega), List.getElem?_set_ne (by omega), List.getElem?_set_ne (by omega)]
def Own (w : World) (B : Nat) (v : Value) (zs : List El) : Prop := w.ownsRow B 72 3 v zs.length (C zs)
def Has (w : World) (v : Value) (zs : List El) : Prop := ∃ ao cap, v = .slice ao zs.length cap ∧ ∀ (j : Nat) (u : Value), (C zs)[j]? = some u → ∃ a, ao = some a ∧ w.cell? (a.add j) = some u
theorem Has.below {w w' : World} {v : Value} {zs : List El} (h : Has w v zs) (hb : Below w.heap.size w w') : Has w' v zs := by
 obtain ⟨ao, cap, h1, h2⟩ := h
 refine ⟨ao, cap, h1, fun i p hi => ?_⟩
 obtain ⟨a, ha, c0⟩ := h2 i p hi
 exact ⟨a, ha, (hb.cell (World.block_lt_of_cell? w _ c0)).trans c0⟩
theorem C_nil {zs : List El} (h : zs ≠ []) : ∃ u, (C zs)[0]? = some u := by
 cases zs with
 | nil => exact absurd rfl h
 | cons z r =>
   have h1 := C_at (z :: r) 0 z rfl 0 (by decide)
   have h2 : (enc z)[0]? = some ((enc z)[0]'(by rw [enc_len]; decide)) := List.getElem?_eq_getElem _
   exact ⟨_, h1.trans h2⟩
theorem Own.at {w : World} {B g cap n : Nat} {zs : List El} (h : Own w B (.slice (some ⟨g, 0, none⟩) n cap) zs) {j : Nat} {u : Value} (hj : (C zs)[j]? = some u) : w.cell? ⟨g, j, none⟩ = some u := by
 obtain ⟨ao', cap', hv⟩ := row_shape h
 injection hv with _ e _
 subst e
 have h' : w.ownsRow B 72 3 (.slice (some ⟨g, 0, none⟩) zs.length cap) zs.length (C zs) := h
 rw [h'.cellAt j (by rw [← h'.1]; exact (List.getElem?_eq_some_iff.1 hj).1), hj]
theorem Own.has {w : World} {B : Nat} {v : Value} {zs : List El} (h : Own w B v zs) : Has w v zs := by
 obtain ⟨ao, cap, hv⟩ := row_shape h
 refine ⟨ao, cap, hv, fun j u hj => ?_⟩
 have hlt := (List.getElem?_eq_some_iff.1 hj).1
 rw [C_len] at hlt
 obtain ⟨g, c, hf, _, _⟩ := World.ownsRow.form h (by omega)
 rw [hv] at hf
 injection hf with e1 e2 e3
 subst e1; subst e3
 refine ⟨_, rfl, ?_⟩
 rw [addz]
 rw [hv] at h
 exact Own.at h hj
theorem add_q (a : Addr) (m q : Nat) : (a.add m).add q = a.add (m + q) := by
 unfold Addr.add
 by_cases h1 : m = 0 <;> by_cases h2 : q = 0 <;> simp [h1, h2] <;> omega
theorem copy_of {w : World} {ao : Option Addr} {n cap : Nat} {zs : List El} (h : Has w (.slice ao n cap) zs) : (ao = none → n = 0) ∧ ∀ ad, ao = some ad → ∀ j u, (C zs)[j]? = some u → w.cell? (ad.add j) = some u := by
 obtain ⟨ao', cap', hv, h2⟩ := h
 injection hv with e1 e2 e3
 subst e1
 refine ⟨fun e => ?_, fun ad e j u hj => ?_⟩
 ·rw [e2]
  by_cases hz : zs = []
  ·rw [hz]; rfl
  ·obtain ⟨u, hu⟩ := C_nil hz
   obtain ⟨a, ha, _⟩ := h2 0 u hu
   rw [e] at ha; cases ha
 ·obtain ⟨a, ha, hc⟩ := h2 j u hj
  rw [e] at ha
  cases ha
  exact hc
def mk1 (i k : Nat) : El := (-1 - (i : Int), (k : Int), 7)
def marks (i f n : Nat) : List El := (List.range n).map fun k => mk1 i (f + k)
theorem Tryz.infoE : (Tryz.prog.info? 72).map (fun i => (i.zero, i.size, i.bytes)) = some (some (.agg #[.int .i64 0, .int .i64 0, .int .i64 0]), 3, 24) := by kernel_rfl
theorem C_snoc (zs : List El) (z : El) : C (zs ++ [z]) = C zs ++ enc z := by
 rw [C_app]
 show _ ++ (enc z ++ []) = _
 rw [List.append_nil]
set_option maxRecDepth 100000 in
set_option maxHeartbeats 4000000 in
theorem same_b (va vb : Value) (zs : List El) (w : World) (hn : zs.length ≤ 1000000000000000) (hA : Has w va zs) (hB : Has w vb zs) :
 Calls Tryz.prog 35 #[va, vb] w fun e w' => e = .returned (.bool true) ∧ Below w.heap.size w w' := by
 obtain ⟨ao, cap, rfl, hcA⟩ := hA
 obtain ⟨ao', cap', rfl, hcB⟩ := hB
 obtain ⟨n, hN⟩ : ∃ n, n = zs.length := ⟨_, rfl⟩
 have HH : Hid _ := And.intro hcA (And.intro hcB hN)
 rw [← hN] at hn ⊢
 clear hcA hcB hN
 have q : ((n : Int) != (n : Int)) = false := by simp
 go_enter Tryz.func35, Tryz.ntmps35
 go_wp2
 go_loopg [5] n (fun g i wr => ∃ j m : Nat, g = n - j ∧ j ≤ n ∧ i = .int .i64 j ∧ wr = w.drewN m)
 case atStart => exact ⟨0, 0, rfl, Nat.zero_le _, rfl, rfl⟩
 case round =>
  obtain ⟨j, m, rfl, hj, rfl, rfl⟩ := hrel
  by_cases hlt : j < n
  ·obtain ⟨z, hz⟩ : ∃ z, zs[j]? = some z := ⟨zs[j]'(by have := HH.out.2.2; omega), List.getElem?_eq_getElem _⟩
   obtain ⟨a, rfl, c0'⟩ := HH.out.1 (j * 3 + 0) _ ((C_at zs j z hz 0 (by decide)).trans rfl)
   obtain ⟨b, rfl, d0'⟩ := HH.out.2.1 (j * 3 + 0) _ ((C_at zs j z hz 0 (by decide)).trans rfl)
   have c0 : w.cell? (a.add (j * 3)) = some (.int .i64 z.1) := by first | exact c0' | simpa using c0'
   have d0 : w.cell? (b.add (j * 3)) = some (.int .i64 z.1) := by first | exact d0' | simpa using d0'
   clear c0' d0'
   obtain ⟨_, ec1, c1'⟩ := HH.out.1 (j * 3 + 1) _ ((C_at zs j z hz 1 (by decide)).trans rfl)
   cases ec1
   have c1 : w.cell? ⟨(a.add (j * 3)).block, (a.add (j * 3)).off + 1, none⟩ = some (.int .i64 z.2.1) := by rw [← add_q] at c1'; exact c1'
   clear c1'
   obtain ⟨_, ed1, d1'⟩ := HH.out.2.1 (j * 3 + 1) _ ((C_at zs j z hz 1 (by decide)).trans rfl)
   cases ed1
   have d1 : w.cell? ⟨(b.add (j * 3)).block, (b.add (j * 3)).off + 1, none⟩ = some (.int .i64 z.2.1) := by rw [← add_q] at d1'; exact d1'
   clear d1'
   obtain ⟨_, ec2, c2'⟩ := HH.out.1 (j * 3 + 2) _ ((C_at zs j z hz 2 (by decide)).trans rfl)
   cases ec2
   have c2 : w.cell? ⟨(a.add (j * 3)).block, (a.add (j * 3)).off + 2, none⟩ = some (.int .i64 z.2.2) := by rw [← add_q] at c2'; exact c2'
   clear c2'
   obtain ⟨_, ed2, d2'⟩ := HH.out.2.1 (j * 3 + 2) _ ((C_at zs j z hz 2 (by decide)).trans rfl)
   cases ed2
   have d2 : w.cell? ⟨(b.add (j * 3)).block, (b.add (j * 3)).off + 2, none⟩ = some (.int .i64 z.2.2) := by rw [← add_q] at d2'; exact d2'
   clear d2'
   have q0 : (0 : Int) ≤ (j : Int) := by omega
   have q1 : (j : Int) < (n : Int) := by omega
   clear hz
   go_wp2_with fail
   go_quiet (fail)
   go_wp2
   go_roundg (n - (j + 1))
   case measure => omega
   case rel => exact ⟨j + 1, _, rfl, by omega, by go_num, by first | rfl | exact World.drewN_drewN _ _ _⟩
  ·obtain rfl : j = n := by omega
   have q1 : ¬ (j : Int) < (j : Int) := by omega
   go_wp2
   go_ret
   exact ⟨rfl, below_drewN (Below.refl _ _) _⟩
end Go.Proofs.YtkiapldehlnndaaGreatDoor.BEdges
/- Contracts of the document's Right and Check of systems. -/
namespace Go.Proofs.YtkiapldehlnndaaGreatDoor
open Go.RowKit Go.Maps
attribute [local go_sem ↓] Go.wp_at_zero Go.wp_at_succ
def sysV (n k s : Int) (v : Value) : Value := .agg #[.int .i64 n, .int .i64 k, .int .i64 s, v]
theorem four_cells {w : World} {b : Nat} {x0 x1 x2 x3 : Value} {t : TypeId} (h : w.heap[b]? = some (.cells #[x0, x1, x2, x3] t (0, 0))) : w.cell? ⟨b, 0, none⟩ = some x0 ∧ w.cell? ⟨b, 1, none⟩ = some x1 ∧ w.cell? ⟨b, 2, none⟩ = some x2 ∧ w.cell? ⟨b, 3, none⟩ = some x3 := by
 simp [World.cell?, h]
set_option maxRecDepth 100000 in
set_option maxHeartbeats 4000000 in
theorem right_a (n k s : Int) (ao : Option Addr) (m cap : Nat) (w : World) (h : ¬ (0 ≤ n ∧ n ≤ 1000 ∧ 1 ≤ k ∧ k ≤ 201 ∧ m ≤ 10000)) :
 Calls Tryz.prog 31 #[sysV n k s (.slice ao m cap)] w fun e w' => e = .returned (.bool false) ∧ Below w.heap.size w w' := by
 unfold sysV
 have hc : n < 0 ∨ ¬ n < 0 ∧ (1000 < n ∨ ¬ 1000 < n ∧ (k < 1 ∨ ¬ k < 1 ∧ (201 < k ∨ ¬ 201 < k ∧ (10000 : Int) < (m : Int)))) := by omega
 rcases hc with h1 | ⟨h1, h2 | ⟨h2, h3 | ⟨h3, h4 | ⟨h4, h5⟩⟩⟩⟩
 all_goals
  clear h
  go_enter Tryz.func31, Tryz.ntmps31
  go_wp2
  go_ret
  exact ⟨rfl, (Below.refl _ _).alloc (Nat.le_refl _) _⟩
set_option maxRecDepth 100000 in
set_option maxHeartbeats 4000000 in
theorem right_b (n k s : Int) (ao : Option Addr) (m cap : Nat) (w : World) (h : 0 ≤ n ∧ n ≤ 1000 ∧ 1 ≤ k ∧ k ≤ 201 ∧ m ≤ 10000) (hs : ¬ ((n = 0 → s = 0) ∧ (0 < n → 0 ≤ s ∧ s < n))) :
 Calls Tryz.prog 31 #[sysV n k s (.slice ao m cap)] w fun e w' => e = .returned (.bool false) ∧ Below w.heap.size w w' := by
 unfold sysV
 obtain ⟨h1, h2, h3, h4, h5⟩ := h
 have g1 : ¬ n < 0 := by omega
 have g2 : ¬ 1000 < n := by omega
 have g3 : ¬ k < 1 := by omega
 have g4 : ¬ 201 < k := by omega
 have g5 : ¬ (10000 : Int) < (m : Int) := by omega
 have hc : (n == 0) = true ∧ (s != 0) = true ∨ (n == 0) = false ∧ 0 < n ∧ (s < 0 ∨ ¬ s < 0 ∧ n ≤ s) := by
  by_cases e : n = 0
  ·left; simp [e]; intro e2; exact hs ⟨fun _ => e2, fun h => by omega⟩
  ·right
   refine ⟨by simpa using e, by omega, ?_⟩
   by_cases e2 : s < 0
   ·exact .inl e2
   ·exact .inr ⟨e2, by
     by_cases e3 : n ≤ s
     ·exact e3
     ·exact absurd ⟨fun h => absurd h e, fun _ => ⟨by omega, by omega⟩⟩ hs⟩
 clear hs h1 h2 h3 h4 h5
 rcases hc with ⟨e1, e2⟩ | ⟨e1, e2, e3 | ⟨e3, e4⟩⟩
 all_goals
  go_enter Tryz.func31, Tryz.ntmps31
  go_wp2
  go_ret
  exact ⟨rfl, (Below.refl _ _).alloc (Nat.le_refl _) _⟩
theorem edge_at {w : World} {ao : Option Addr} {n cap : Nat} {es : List BEdges.El} (h : BEdges.Has w (.slice ao n cap) es) {j : Nat} {z : BEdges.El} (hz : es[j]? = some z) :
 ∃ a, ao = some a ∧ w.cell? (a.add (j * 3)) = some (.int .i64 z.1) ∧ w.cell? ⟨(a.add (j * 3)).block, (a.add (j * 3)).off + 1, none⟩ = some (.int .i64 z.2.1) ∧ w.cell? ⟨(a.add (j * 3)).block, (a.add (j * 3)).off + 2, none⟩ = some (.int .i64 z.2.2) := by
 obtain ⟨ao', cap', hv, hc⟩ := h
 injection hv with e1 e2 e3
 subst e1
 obtain ⟨a, rfl, c0⟩ := hc (j * 3 + 0) _ ((BEdges.C_at es j z hz 0 (by decide)).trans rfl)
 obtain ⟨a1, e1, c1⟩ := hc (j * 3 + 1) _ ((BEdges.C_at es j z hz 1 (by decide)).trans rfl)
 cases e1
 obtain ⟨a2, e2, c2⟩ := hc (j * 3 + 2) _ ((BEdges.C_at es j z hz 2 (by decide)).trans rfl)
 cases e2
 refine ⟨a, rfl, by simpa using c0, ?_, ?_⟩
 ·rw [← BEdges.add_q] at c1; exact c1
 ·rw [← BEdges.add_q] at c2; exact c2
def edgeOk (n k : Int) (e : Sy.Ed) : Bool := decide (0 ≤ e.1 ∧ e.1 < n ∧ 0 ≤ e.2.2 ∧ e.2.2 < n ∧ 0 ≤ e.2.1 ∧ e.2.1 < k)
set_option maxRecDepth 100000 in
set_option maxHeartbeats 8000000 in
theorem right_c (n k s : Int) (v : Value) (es : List Sy.Ed) (w : World) (hv : BEdges.Has w v es) (h : 0 ≤ n ∧ n ≤ 1000 ∧ 1 ≤ k ∧ k ≤ 201 ∧ es.length ≤ 10000) (hs : (n = 0 → s = 0) ∧ (0 < n → 0 ≤ s ∧ s < n)) :
 Calls Tryz.prog 31 #[sysV n k s v] w fun e w' => e = .returned (.bool (es.all (edgeOk n k))) ∧ Below w.heap.size w w' := by
 unfold sysV
 obtain ⟨ao, cap, rfl, _⟩ := _root_.id hv
 obtain ⟨m, hm⟩ : ∃ m, m = es.length := ⟨_, rfl⟩
 have HV : Hid _ := And.intro hv hm
 rw [← hm] at h ⊢
 obtain ⟨h1, h2, h3, h4, h5⟩ := h
 have g1 : ¬ n < 0 := by omega
 have g2 : ¬ 1000 < n := by omega
 have g3 : ¬ k < 1 := by omega
 have g4 : ¬ 201 < k := by omega
 have g5 : ¬ (10000 : Int) < (m : Int) := by omega
 have hc : (n == 0) = true ∧ (s != 0) = false ∧ ¬ 0 < n ∨ (n == 0) = false ∧ 0 < n ∧ ¬ s < 0 ∧ ¬ n ≤ s := by
  by_cases e : n = 0
  ·left; simp [e, hs.1 e]
  ·right; have := hs.2 (by omega); exact ⟨by simpa using e, by omega, by omega, by omega⟩
 clear hv hm hs
 rcases hc with ⟨c1, c2, c3⟩ | ⟨c1, c2, c3, c4⟩
 all_goals
  go_enter Tryz.func31, Tryz.ntmps31
  go_wp2_with fail
  go_loopg [3] m (fun q iv wr => ∃ i : Nat, q = m - i ∧ i ≤ m ∧ iv = .int .i64 i ∧ Below w.heap.size w wr ∧ wr.heap[w.heap.size]? = some (.cells #[.int .i64 n, .int .i64 k, .int .i64 s, .slice ao m cap] 24 (0, 0)) ∧ (es.take i).all (edgeOk n k) = true)
  case atStart => exact ⟨0, rfl, Nat.zero_le _, rfl, (Below.refl _ _).alloc (Nat.le_refl _) _, heap_alloc_new w _, by simp⟩
  case round =>
   obtain ⟨i, rfl, hi, rfl, hb, hB, hall⟩ := hrel
   obtain ⟨b0, b1, b2, b3⟩ := four_cells hB
   have n2 : w.heap.size < wr.heap.size := t_lt hB
   have n1 : ¬ w.heap.size = wr.heap.size := by omega
   have HB : Hid _ := And.intro hb (And.intro hB hall)
   clear hb hB hall
   by_cases hlt : i < m
   ·obtain ⟨z, hz⟩ : ∃ z, es[i]? = some z := ⟨es[i]'(by have := HV.out.2; omega), List.getElem?_eq_getElem _⟩
    obtain ⟨a, rfl, z0, z1, z2⟩ := edge_at (HV.out.1.below HB.out.1) hz
    have q0 : (0 : Int) ≤ (i : Int) := by omega
    have q1 : (i : Int) < (m : Int) := by omega
    have HZ : Hid (es[i]? = some z) := hz
    clear hz
    by_cases hok : edgeOk n k z = true
    ·have hk := of_decide_eq_true hok
     obtain ⟨k1, k2, k3, k4, k5, k6⟩ := hk
     have r1 : ¬ z.1 < 0 := by omega
     have r2 : ¬ n ≤ z.1 := by omega
     have r3 : ¬ z.2.2 < 0 := by omega
     have r4 : ¬ n ≤ z.2.2 := by omega
     have r5 : ¬ z.2.1 < 0 := by omega
     have r6 : ¬ k ≤ z.2.1 := by omega
     have HOK : Hid (edgeOk n k z = true) := hok
     clear hok k1 k2 k3 k4 k5 k6
     first
      | (exfalso; omega)
      | (go_wp2
         go_roundg (m - (i + 1))
         case measure => omega
         case rel => exact ⟨i + 1, rfl, by omega, by go_num, HB.out.1.alloc HB.out.1.size _, by rw [Below.heap_alloc wr _ _ (t_lt HB.out.2.1)]; exact HB.out.2.1, by rw [take_succ_of HZ.out, List.all_append, HB.out.2.2]; simp [HOK.out]⟩)
    ·have hk : z.1 < 0 ∨ ¬ z.1 < 0 ∧ (n ≤ z.1 ∨ ¬ n ≤ z.1 ∧ (z.2.2 < 0 ∨ ¬ z.2.2 < 0 ∧ (n ≤ z.2.2 ∨ ¬ n ≤ z.2.2 ∧ (z.2.1 < 0 ∨ ¬ z.2.1 < 0 ∧ k ≤ z.2.1)))) := by
      have : ¬ (0 ≤ z.1 ∧ z.1 < n ∧ 0 ≤ z.2.2 ∧ z.2.2 < n ∧ 0 ≤ z.2.1 ∧ z.2.1 < k) := fun h => hok (decide_eq_true h)
      omega
     have HF : Hid (es.all (edgeOk n k) = false) := (by
      rw [List.all_eq_false]
      exact ⟨z, List.mem_of_getElem? HZ.out, hok⟩ : es.all (edgeOk n k) = false)
     clear hok
     rcases hk with r1 | ⟨r1, r2 | ⟨r2, r3 | ⟨r3, r4 | ⟨r4, r5 | ⟨r5, r6⟩⟩⟩⟩⟩
     all_goals
      first
       | (exfalso; omega)
       | (go_wp2; go_ret; exact ⟨by rw [HF.out]; rfl, HB.out.1.alloc HB.out.1.size _⟩)
   ·obtain rfl : i = m := by omega
    have q1 : ¬ (i : Int) < (i : Int) := by omega
    go_wp2
    go_ret
    refine ⟨?_, HB.out.1⟩
    have h9 := HB.out.2.2
    rw [List.take_of_length_le (by have := HV.out.2; omega)] at h9
    rw [h9]
    rfl
theorem right_any (n k s : Int) (v : Value) (es : List Sy.Ed) (w : World) (hv : BEdges.Has w v es) :
 Calls Tryz.prog 31 #[sysV n k s v] w fun e w' => e = .returned (.bool (Sy.right n k s es)) ∧ Below w.heap.size w w' := by
 unfold Sy.right
 by_cases h1 : 0 ≤ n ∧ n ≤ 1000 ∧ 1 ≤ k ∧ k ≤ 201 ∧ es.length ≤ 10000
 ·by_cases h2 : (n = 0 → s = 0) ∧ (0 < n → 0 ≤ s ∧ s < n)
  ·rw [decide_eq_true h1, decide_eq_true h2]
   exact right_c n k s v es w hv h1 h2
  ·rw [decide_eq_false h2, Bool.and_false, Bool.false_and]
   obtain ⟨ao, cap, rfl, _⟩ := hv
   exact right_b n k s ao es.length cap w h1 h2
 ·rw [decide_eq_false h1, Bool.false_and, Bool.false_and]
  obtain ⟨ao, cap, rfl, _⟩ := hv
  exact right_a n k s ao es.length cap w h1
end Go.Proofs.YtkiapldehlnndaaGreatDoor
/- Contracts of the document's less and Sorted of edges. -/
namespace Go.Proofs.YtkiapldehlnndaaGreatDoor
open Go.RowKit Go.Maps
attribute [local go_sem ↓] Go.wp_at_zero Go.wp_at_succ
def edV (a : Sy.Ed) : Value := .agg #[.int .i64 a.1, .int .i64 a.2.1, .int .i64 a.2.2]
set_option maxRecDepth 100000 in
set_option maxHeartbeats 2000000 in
theorem refLess_any (a b : Sy.Ed) (w : World) : Calls Tryz.prog 178 #[edV a, edV b] w fun e w' => e = .returned (.bool (Sy.lt a b)) ∧ Below w.heap.size w w' := by
 unfold edV
 have hne : ¬ w.heap.size + 1 = w.heap.size := by omega
 have hB : Below w.heap.size w ((w.alloc (.cells #[.int .i64 a.1, .int .i64 a.2.1, .int .i64 a.2.2] 72)).alloc (.cells #[.int .i64 b.1, .int .i64 b.2.1, .int .i64 b.2.2] 72)) := ((Below.refl _ _).alloc (Nat.le_refl _) _).alloc (by simp) _
 have HB : Hid _ := hB
 clear hB
 by_cases h1 : a.1 = b.1
 ·have e1 : (a.1 != b.1) = false := by simpa using h1
  by_cases h2 : a.2.1 = b.2.1
  ·have e2 : (a.2.1 != b.2.1) = false := by simpa using h2
   have HL : Hid (Sy.lt a b = decide (a.2.2 < b.2.2)) := (by unfold Sy.lt; rw [e1, e2]; rfl : Sy.lt a b = decide (a.2.2 < b.2.2))
   clear h1 h2
   go_enter Tryz.func178, Tryz.ntmps178
   go_wp2
   go_ret
   exact ⟨by rw [HL.out]; rfl, HB.out⟩
  ·have e2 : (a.2.1 != b.2.1) = true := by simpa using h2
   have HL : Hid (Sy.lt a b = decide (a.2.1 < b.2.1)) := (by unfold Sy.lt; rw [e1, e2]; rfl : Sy.lt a b = decide (a.2.1 < b.2.1))
   clear h1 h2
   go_enter Tryz.func178, Tryz.ntmps178
   go_wp2
   go_ret
   exact ⟨by rw [HL.out]; rfl, HB.out⟩
 ·have e1 : (a.1 != b.1) = true := by simpa using h1
  have HL : Hid (Sy.lt a b = decide (a.1 < b.1)) := (by unfold Sy.lt; rw [e1]; rfl : Sy.lt a b = decide (a.1 < b.1))
  clear h1
  go_enter Tryz.func178, Tryz.ntmps178
  go_wp2
  go_ret
  exact ⟨by rw [HL.out]; rfl, HB.out⟩
def HasE (w : World) (v : Value) (es : List Sy.Ed) : Prop := ∃ ao cap, v = .slice ao es.length cap ∧ es.length ≤ cap ∧ BEdges.Has w v es
theorem HasE.below {w w' : World} {v : Value} {es : List Sy.Ed} (h : HasE w v es) (hb : Below w.heap.size w w') : HasE w' v es := by
 obtain ⟨ao, cap, h1, h2, h3⟩ := h
 exact ⟨ao, cap, h1, h2, h3.below hb⟩
theorem HasE.of_own {w : World} {B : Nat} {v : Value} {es : List Sy.Ed} (h : BEdges.Own w B v es) : HasE w v es := by
 have h3 := BEdges.Own.has h
 rcases h.2 with ⟨rfl, h0⟩ | ⟨g, cap, cur, rfl, _, _, hc, _⟩
 ·exact ⟨none, 0, by rw [h0], by omega, h3⟩
 ·exact ⟨_, cap, rfl, hc, h3⟩
theorem hasE_take {w : World} {ao : Option Addr} {n cap : Nat} {es : List Sy.Ed} (h : HasE w (.slice ao n cap) es) (k : Nat) (hk : k ≤ es.length) : HasE w (.slice ao k cap) (es.take k) := by
 obtain ⟨ao', cap', hv, hc, h3⟩ := h
 injection hv with e1 e2 e3
 subst e1; subst e2; subst e3
 have hl : (es.take k).length = k := by rw [List.length_take]; omega
 obtain ⟨ao2, cap2, hv2, h4⟩ := h3
 injection hv2 with f1 f2 f3
 subst f1; subst f3
 refine ⟨ao, cap, by rw [hl], by omega, ao, cap, by rw [hl], fun j u hj => ?_⟩
 refine h4 j u ?_
 have e : BEdges.C es = BEdges.C (es.take k) ++ BEdges.C (es.drop k) := by rw [← BEdges.C_app, List.take_append_drop]
 rw [e, List.getElem?_append_left (List.getElem?_eq_some_iff.1 hj).1]
 exact hj
theorem hasE_drop {w : World} {a : Addr} {n cap : Nat} {es : List Sy.Ed} (h : HasE w (.slice (some a) n cap) es) (k : Nat) (hk : k ≤ es.length) : HasE w (.slice (some (a.add (k * 3))) (n - k) (cap - k)) (es.drop k) := by
 obtain ⟨ao', cap', hv, hc, h3⟩ := h
 injection hv with e1 e2 e3
 subst e1; subst e2; subst e3
 have hl : (es.drop k).length = es.length - k := List.length_drop
 obtain ⟨ao2, cap2, hv2, h4⟩ := h3
 injection hv2 with f1 f2 f3
 subst f1; subst f3
 refine ⟨_, _, by rw [hl], by omega, _, _, by rw [hl], fun j u hj => ⟨_, rfl, ?_⟩⟩
 have e : BEdges.C es = BEdges.C (es.take k) ++ BEdges.C (es.drop k) := by rw [← BEdges.C_app, List.take_append_drop]
 have hcl : (BEdges.C (es.take k)).length = k * 3 := by rw [BEdges.C_len, List.length_take, Nat.min_eq_left hk]
 obtain ⟨a2, ha2, hc2⟩ := h4 (k * 3 + j) u (by rw [e, List.getElem?_append_right (by omega), hcl, Nat.add_sub_cancel_left]; exact hj)
 cases ha2
 rw [BEdges.add_q]
 exact hc2
end Go.Proofs.YtkiapldehlnndaaGreatDoor
