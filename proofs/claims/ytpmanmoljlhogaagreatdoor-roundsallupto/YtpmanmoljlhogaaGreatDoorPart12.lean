/- Texts of this claim, joined: RoDs0, RoDs, RoDSame, RoDNext0, RoDNext, SyOne0, SyNum. -/
import Derived.Test.YtpmanmoljlhogaaGreatDoorPart5
import Derived.Deep.AppendLies
import Derived.Maps.AppendAt
import Derived.RangeFuncBox
import Derived.BigQuiet
import Derived.Test.YtpmanmoljlhogaaGreatDoorPart11
import Derived.Test.YtpmanmoljlhogaaGreatDoorPart9
import Derived.Maps.OwnSet
import Derived.WalkSmall
/- The document's insertion of a number into rising numbers: plain facts, and what it writes. -/
namespace Go.Proofs.YtpmanmoljlhogaaGreatDoor
open Go.RowKit Go.Maps
/-- A number's place is found: the list is as it will be. -/
def Ro.putAt (O : List Int) (k : Nat) (v : Int) : List Int := O.take k ++ v :: O.drop k
theorem Ro.putAt_len {O : List Int} {k : Nat} (v : Int) (h : k ≤ O.length) : (Ro.putAt O k v).length = O.length + 1 := by
  simp [Ro.putAt]; omega
theorem Ro.putAt_end (O : List Int) (v : Int) : Ro.putAt O O.length v = O ++ [v] := by simp [Ro.putAt]
theorem Ro.putAt_at {O : List Int} {k : Nat} (v : Int) (h : k ≤ O.length) : (Ro.putAt O k v)[k]? = some v := by
  unfold Ro.putAt
  rw [List.getElem?_append_right (by simp; omega), List.length_take, Nat.min_eq_left h, Nat.sub_self]; rfl
theorem Ro.putAt_ahead {O : List Int} {k j : Nat} (v : Int) (h : k ≤ O.length) (hj : j < k) : (Ro.putAt O k v)[j]? = O[j]? := by
  unfold Ro.putAt
  rw [List.getElem?_append_left (by simp; omega), List.getElem?_take_of_lt hj]
theorem Ro.putAt_set {O : List Int} {k : Nat} (v u : Int) (h : k ≤ O.length) : (Ro.putAt O k v).set k u = Ro.putAt O k u := by
  unfold Ro.putAt
  rw [List.set_append_right _ _ (by simp; omega), List.length_take, Nat.min_eq_left h, Nat.sub_self, List.set_cons_zero]
/-- A number moves up by one place. -/
theorem Ro.putAt_up {O : List Int} {j : Nat} (v y : Int) (h : O[j]? = some y) : (Ro.putAt O (j + 1) v).set (j + 1) y = Ro.putAt O j y := by
  have hl := (List.getElem?_eq_some_iff.1 h).1
  rw [Ro.putAt_set _ _ (by omega)]
  unfold Ro.putAt
  rw [take_succ_of h, List.append_assoc]
  congr 1
  obtain ⟨_, rfl⟩ := List.getElem?_eq_some_iff.1 h
  rw [List.drop_eq_getElem_cons hl]; rfl
/-- The numbers behind a place are greater, that ahead of it is less: there the number goes. -/
theorem Ro.putAt_rise {O : List Int} {k : Nat} {v : Int} (hO : Ro.Rise O) (hk : k ≤ O.length) (h1 : ∀ (j : Nat) (y : Int), k ≤ j → O[j]? = some y → v < y) (h2 : ∀ (j : Nat) (y : Int), k = j + 1 → O[j]? = some y → y < v) : Ro.Rise (Ro.putAt O k v) := by
  have hT : ∀ x ∈ O.take k, x < v := fun x hx => by
    cases k with
    | zero => simp at hx
    | succ j =>
      obtain ⟨y, hy⟩ : ∃ y, O[j]? = some y := ⟨O[j]'(by omega), List.getElem?_eq_getElem _⟩
      have h3 := h2 j y rfl hy
      rw [take_succ_of hy] at hx
      rcases List.mem_append.1 hx with hx | hx
      · have h4 : Ro.Rise (O.take (j + 1)) := List.Pairwise.sublist (List.take_sublist _ _) hO
        rw [take_succ_of hy] at h4
        have := (List.pairwise_append.1 h4).2.2 x hx y List.mem_cons_self
        omega
      · rw [List.mem_singleton.1 hx]; exact h3
  have hD : ∀ x ∈ O.drop k, v < x := fun x hx => by
    obtain ⟨i, hi⟩ := List.mem_iff_getElem?.1 hx
    rw [List.getElem?_drop] at hi
    exact h1 (k + i) x (by omega) hi
  unfold Ro.putAt Ro.Rise
  refine List.pairwise_append.2 ⟨List.Pairwise.sublist (List.take_sublist _ _) hO, List.pairwise_cons.2 ⟨hD, List.Pairwise.sublist (List.drop_sublist _ _) hO⟩, fun a ha b hb => ?_⟩
  rcases List.mem_cons.1 hb with rfl | hb
  · exact hT a ha
  · have := hT a ha; have := hD b hb; omega
theorem Ro.putAt_mem {O : List Int} {k : Nat} {v x : Int} : x ∈ Ro.putAt O k v ↔ x ∈ O ∨ x = v := by
  have h : x ∈ O ↔ x ∈ O.take k ∨ x ∈ O.drop k := by rw [← List.mem_append, List.take_append_drop]
  unfold Ro.putAt
  rw [List.mem_append, List.mem_cons, h]
  constructor
  · rintro (h | h | h) <;> simp [h]
  · rintro ((h | h) | h) <;> simp [h]
theorem Ro.sd_put {E : List Int} {k : Nat} {v : Int} (hk : k ≤ (Ro.sd E).length) (h1 : ∀ (j : Nat) (y : Int), k ≤ j → (Ro.sd E)[j]? = some y → v < y) (h2 : ∀ (j : Nat) (y : Int), k = j + 1 → (Ro.sd E)[j]? = some y → y < v) : Ro.putAt (Ro.sd E) k v = Ro.sd (E ++ [v]) :=
  Ro.sd_of (Ro.putAt_rise (Ro.sd_rise E) hk h1 h2) fun x => by rw [Ro.putAt_mem, Ro.mem_sd]; simp
theorem Ro.sd_in {E : List Int} {v : Int} (h : v ∈ Ro.sd E) : Ro.sd (E ++ [v]) = Ro.sd E := Ro.sd_eq.2 fun x => by
  have h1 := Ro.mem_sd.1 h
  simp only [List.mem_append, List.mem_singleton]
  exact ⟨fun h2 => h2.elim id fun e => by rw [e]; exact h1, .inl⟩
theorem OwnI.put {w : World} {B g n cap : Nat} {zs : List Int} (h : OwnI w B (.slice (some ⟨g, 0, none⟩) n cap) zs) (hn : n = zs.length) (j : Nat) (u : Int) : OwnI (w.setCell ⟨g, j, none⟩ (.int .i64 u)) B (.slice (some ⟨g, 0, none⟩) n cap) (zs.set j u) := by
  subst hn
  have h1 := (World.ownsRow.stored h j (.int .i64 u)).1
  unfold OwnI
  rw [List.length_set, show iC (zs.set j u) = (iC zs).set j (.int .i64 u) by simp [iC, List.map_set]]
  exact h1
theorem OwnI.free {w : World} {B g n cap : Nat} {zs : List Int} (h : OwnI w B (.slice (some ⟨g, 0, none⟩) n cap) zs) (hn : n = zs.length) (j : Nat) : w.frozen? ⟨g, j, none⟩ = false := by
  subst hn
  exact World.ownsRow.frozenAt h j
end Go.Proofs.YtpmanmoljlhogaaGreatDoor
/- Contract of the document's signature: the ends of steps as rising numbers, each once. -/
namespace Go.Proofs.YtpmanmoljlhogaaGreatDoor
open Go.RowKit Go.Maps
attribute [local go_sem ↓] Go.wp_at_zero Go.wp_at_succ
set_option maxRecDepth 100000 in
set_option maxHeartbeats 8000000 in
theorem docSig_any (n : Nat) (c : List Nat) (zs : List Ro.St) (vs vc : Value) (w : World) (hn : n ≤ 1000) (hc : c.length = n) (hcl : ∀ u ∈ c, u < n) (hz : ∀ z ∈ zs, (0 ≤ z.1 ∧ z.1 ≤ 300) ∧ 0 ≤ z.2 ∧ z.2 < (n : Int)) (hzl : zs.length ≤ 10000) (hs : BSteps.Has w vs zs) (hv : HasI w vc (natI c)) :
    Calls Tryz.prog 92 #[vs, vc] w fun r w' => ∃ u, r = .returned u ∧ OwnI w' w.heap.size u (Ro.sd (Ro.ends 1001 c zs)) ∧ Below w.heap.size w w' := by
  obtain ⟨i0, hi0, hz0, hz1, hz2⟩ := info_parts Tryz.infoI4
  have hs0 := hs
  obtain ⟨av, cs, rfl, _⟩ := hs0
  obtain ⟨ac, cc, rfl, hcs⟩ := hv
  obtain ⟨N, hN⟩ : ∃ N, N = zs.length := ⟨_, rfl⟩
  have hcn : (natI c).length = n := by simp [natI, hc]
  rw [hcn]
  rw [← hN] at hs hzl ⊢
  have HH : Hid _ := And.intro hs (And.intro hcs (And.intro hc (And.intro hcl (And.intro hz hN))))
  clear hs hcs hc hcl hz hN hcn
  go_enter Tryz.func92, Tryz.ntmps92
  go_wp2_with fail
  go_loopg [5, 6] N (fun q uv iv wr => ∃ i : Nat, q = N - i ∧ i ≤ N ∧ iv = .int .i64 i ∧ OwnI wr w.heap.size uv (Ro.sd (Ro.ends 1001 c (zs.take i))) ∧ Below w.heap.size w wr)
  case atStart => exact ⟨0, rfl, Nat.zero_le _, rfl, World.ownsRow_nil _ _ _ _, Below.refl _ _⟩
  case round =>
    obtain ⟨i, rfl, hi, rfl, hO, hb⟩ := hrel
    obtain ⟨au, cu, hu⟩ := row_shape hO
    obtain ⟨O, hOe⟩ : ∃ O, O = Ro.sd (Ro.ends 1001 c (zs.take i)) := ⟨_, rfl⟩
    obtain ⟨M, hM⟩ : ∃ M, M = O.length := ⟨_, rfl⟩
    rw [← hOe, ← hM] at hu
    obtain rfl := hu
    rw [← hOe] at hO
    by_cases hlt : i < N
    · obtain ⟨⟨l, t0⟩, hzi⟩ : ∃ z, zs[i]? = some z := ⟨zs[i]'(by have := HH.out.2.2.2.2.2; omega), List.getElem?_eq_getElem _⟩
      have hzb := HH.out.2.2.2.2.1 _ (List.mem_of_getElem? hzi)
      simp only at hzb
      obtain ⟨t, rfl⟩ : ∃ t : Nat, t0 = (t : Int) := ⟨t0.toNat, by omega⟩
      obtain ⟨x, hx⟩ : ∃ x, c[t]? = some x := ⟨c[t]'(by have := HH.out.2.2.1; omega), List.getElem?_eq_getElem _⟩
      have hxn := HH.out.2.2.2.1 x (List.mem_of_getElem? hx)
      have hst := ends_take (n := 1001) (c := c) hzi
      have hcx : Ro.cl c (t : Int) = x := by unfold Ro.cl; rw [Int.toNat_natCast, hx]; rfl
      simp only [hcx] at hst
      obtain ⟨a, rfl, d0, d1⟩ := step_at (HH.out.1.below hb) hzi
      simp only at d0 d1
      obtain ⟨a2, rfl, d2⟩ := HH.out.2.1 t (x : Int) (by simp [natI, hx])
      have d3 : wr.cell? (a2.add t) = some (.int .i64 x) := (hb.cell (World.block_lt_of_cell? w _ d2)).trans d2
      have hMl : M ≤ 10000 := by
        have h1 := Ro.sd_len (Ro.ends 1001 c (zs.take i))
        rw [← hOe, ← hM] at h1
        have h2 : (Ro.ends 1001 c (zs.take i)).length ≤ i := by simp [Ro.ends]; omega
        omega
      have p0 : (0 : Int) ≤ (i : Int) := by omega
      have p1 : (i : Int) < (N : Int) := by omega
      have p2 : (0 : Int) ≤ (t : Int) := by omega
      have p3 : (t : Int) < (n : Int) := by omega
      have hm2 : IntKind.i64.wrap (l * 1001) = l * 1001 := by rw [IntKind.wrap_i64]; omega
      have hm3 : IntKind.i64.wrap (l * 1001 + (x : Int)) = l * 1001 + (x : Int) := by rw [IntKind.wrap_i64]; omega
      have HO0 : Hid _ := And.intro hO (And.intro hb (And.intro hst (And.intro hM hOe)))
      clear hO hb hst hM hOe hzi hx hcx d2 hzb hxn
      go_wp2_with fail
      go_quiet (fail)
      rename Nat => nq
      obtain ⟨wq, hwq⟩ : ∃ wq, wq = wr.drewN nq := ⟨_, rfl⟩
      have hbq : Below wr.heap.size wr wq := by rw [hwq]; exact below_drewN (Below.refl _ _) _
      have hOq : wq.ownsRow w.heap.size 3 1 (.slice au M cu) M (iC O) := by
        have h1 : wr.ownsRow w.heap.size 3 1 (.slice au M cu) M (iC O) := by have h1 := HO0.out.1; unfold OwnI at h1; rw [← HO0.out.2.2.2.1] at h1; exact h1
        exact trow_at h1 fun b hb => hbq.block b (h1.lt b hb).2
      have hbw : Below w.heap.size w wq := HO0.out.2.1.trans (hbq.mono HO0.out.2.1.size)
      obtain ⟨v, hv⟩ : ∃ v, v = l * 1001 + (x : Int) := ⟨_, rfl⟩
      have hst2 : Ro.ends 1001 c (zs.take (i + 1)) = Ro.ends 1001 c (zs.take i) ++ [v] := by rw [hv]; exact HO0.out.2.2.1
      have HO : Hid _ := And.intro hOq (And.intro hbw (And.intro trivial (And.intro HO0.out.2.2.2.1 (And.intro HO0.out.2.2.2.2 (congrArg Ro.sd hst2)))))
      rw [← hwq]
      rw [← hv] at hm3 ⊢
      clear hwq hbq hOq hbw hv hst2 HO0 d0 d1 d3 hm2 hm3
      go_wp2_with fail
      go_loopg [8] M (fun q kv wr => ∃ k : Nat, k = q ∧ kv = .int .i64 k ∧ wq = wr ∧ (k ≤ M ∧ ∀ (j : Nat) (y : Int), k ≤ j → O[j]? = some y → v < y))
      case atStart => exact ⟨M, rfl, rfl, rfl, Nat.le_refl _, fun j y h1 h2 => by have := (List.getElem?_eq_some_iff.1 h2).1; have := HO.out.2.2.2.1; omega⟩
      case round =>
        obtain ⟨k, rfl, rfl, rfl, hK⟩ := hrel
        have hkM : k ≤ M := hK.1
        have HK : Hid (k ≤ M ∧ ∀ (j : Nat) (y : Int), k ≤ j → O[j]? = some y → v < y) := hK
        clear hK
        by_cases hk0 : k = 0
        · have f1 : ¬ (0 : Int) < (k : Int) := by omega
          have f2 : decide ((0 : Int) < (k : Int)) = false := decide_eq_false f1
          have f3 : decide (0 < k) = false := by simp [hk0]
          have H0 : Hid (k = 0) := hk0
          clear hk0
          have hml : M + 1 ≤ maxLen := by unfold maxLen; omega
          have hby : (M + 1) * 8 ≤ 140737488355328 := by omega
          have hle : w.heap.size ≤ (wq.alloc (.cells #[.int .i64 0] 3)).heap.size := by have := HO.out.2.1.size; simp; omega
          have e7 : IntKind.i64.wrap ((M : Int) + 1 - 1) = (M : Int) := by rw [IntKind.wrap_i64]; omega
          have e8 : (M : Int) + 1 - 1 = (M : Int) := by omega
          have e9 : IntKind.i64.wrap (M : Int) = (M : Int) := by rw [IntKind.wrap_i64]; omega
          go_wp2_with (at_builtin; refine wpList_append_own_at _ rfl _ _ 57 rfl w.heap.size 3 i0 (.int .i64 0) 1 8 Tryz.underlying57 hi0 hz0 hz1 hz2 rfl (by decide) (.slice au M cu) M (iC O) rfl (HO.out.1.alloc _) ⟨wq.heap.size, 0, none⟩ 1 1 [.int .i64 0] rfl rfl (World.news_of_block (cs := #[.int .i64 0]) (t := 3) (fr := (0, 0)) (heap_alloc_new wq _)) (by simp [Value.oneCell']) hml hby hle ?_; intro v5 w5 hO5 hg5 hnil5 hat5; obtain ⟨g5, cap5, rfl⟩ := ownsRow_succ hO5; have H5 : Hid _ := And.intro hO5 hg5; clear hO5 hg5 hnil5 hat5)
          have hO5 : OwnI w5 w.heap.size (.slice (some ⟨g5, 0, none⟩) (M + 1) cap5) (Ro.putAt O M 0) := by
            have h1 := H5.out.1
            rw [HO.out.2.2.2.1, Ro.putAt_end, ← HO.out.2.2.2.1]
            unfold OwnI
            rw [iC_snoc, List.length_append, ← HO.out.2.2.2.1]
            exact h1
          have hb5 : Below w.heap.size w w5 := HO.out.2.1.trans ((grown_alloc H5.out.2).below HO.out.2.1.size fun b hb => (HO.out.1.lt b hb).1)
          have H6 : Hid _ := And.intro hO5 hb5
          clear hO5 hb5 H5
          go_loopg [9] M (fun q jv wr => ∃ (j : Nat) (X : Int), j = q ∧ k ≤ j ∧ j ≤ M ∧ jv = .int .i64 j ∧ OwnI wr w.heap.size (.slice (some ⟨g5, 0, none⟩) (M + 1) cap5) (Ro.putAt O j X) ∧ Below w.heap.size w wr)
          case atStart => exact ⟨M, 0, rfl, HK.out.1, Nat.le_refl _, rfl, H6.out.1, H6.out.2⟩
          case round =>
            obtain ⟨j, X, rfl, hkj, hjM, rfl, hOj, hbj⟩ := hrel
            have hpl : (Ro.putAt O j X).length = M + 1 := by rw [Ro.putAt_len _ (by have := HO.out.2.2.2.1; omega), ← HO.out.2.2.2.1]
            by_cases hjk : k < j
            · obtain ⟨j', hj'⟩ : ∃ j', j = j' + 1 := ⟨j - 1, by omega⟩
              obtain ⟨y, hy⟩ : ∃ y, O[j']? = some y := ⟨O[j']'(by have := HO.out.2.2.2.1; omega), List.getElem?_eq_getElem _⟩
              have hy2 : (Ro.putAt O j X)[j']? = some y := by rw [Ro.putAt_ahead _ (by have := HO.out.2.2.2.1; omega) (by omega)]; exact hy
              have cy := hOj.cell hy2
              have cj := hOj.cell (Ro.putAt_at X (by have := HO.out.2.2.2.1; omega))
              have cf := hOj.free hpl.symm j
              have hOs := hOj.put hpl.symm j y
              rw [hj', Ro.putAt_up _ _ hy, ← hj'] at hOs
              have t1 : (k : Int) < (j : Int) := by omega
              have t2 : decide ((k : Int) < (j : Int)) = true := decide_eq_true t1
              have t3 : IntKind.i64.wrap ((j : Int) - 1) = (j' : Int) := by rw [IntKind.wrap_i64]; omega
              have t4 : (j : Int) - 1 = (j' : Int) := by omega
              have t5 : IntKind.i64.wrap (j' : Int) = (j' : Int) := by rw [IntKind.wrap_i64]; omega
              have t6 : (0 : Int) ≤ (j' : Int) := by omega
              have t7 : (j' : Int) < ((M + 1 : Nat) : Int) := by omega
              have t8 : (0 : Int) ≤ (j : Int) := by omega
              have t9 : (j : Int) < ((M + 1 : Nat) : Int) := by omega
              have u7 : (j' : Int) < (M : Int) + 1 := by omega
              have u9 : (j : Int) < (M : Int) + 1 := by omega
              have HJ : Hid _ := And.intro hOs (And.intro hbj (And.intro hj' (And.intro hkj hjM)))
              have hgB : w.heap.size ≤ g5 := (hOj.lt g5 rfl).1
              clear hOs hbj hOj hj' hy hy2 hpl
              go_wp2_with fail
              go_roundg j'
              case measure => have := HJ.out.2.2.1; omega
              case rel =>
                exact ⟨j', y, rfl, by have := HJ.out.2.2.1; omega, by have := HJ.out.2.2.1; omega, rfl, HJ.out.1, HJ.out.2.1.setCell hgB _⟩
            · obtain ⟨cj, hcj⟩ : ∃ x, (Ro.putAt O j X)[j]? = some x := ⟨X, Ro.putAt_at X (by have := HO.out.2.2.2.1; omega)⟩
              have hjk2 : j = k := by omega
              have cj2 := hOj.cell hcj
              have cf := hOj.free hpl.symm j
              have hOs := hOj.put hpl.symm j v
              rw [Ro.putAt_set _ _ (by have := HO.out.2.2.2.1; omega), hjk2, HO.out.2.2.2.2.1, Ro.sd_put (by rw [← HO.out.2.2.2.2.1, ← HO.out.2.2.2.1]; exact HK.out.1) (by rw [← HO.out.2.2.2.2.1]; exact HK.out.2) (by rw [← HO.out.2.2.2.2.1]; exact (fun j y h1 _ => by have := H0.out; omega)), ← HO.out.2.2.2.2.2] at hOs
              rw [hjk2] at cj2 cf
              have t1 : ¬ (k : Int) < (k : Int) := by omega
              have t2 : decide ((k : Int) < (k : Int)) = false := decide_eq_false t1
              have t8 : (0 : Int) ≤ (k : Int) := by omega
              have t9 : (k : Int) < ((M + 1 : Nat) : Int) := by have := HK.out.1; omega
              have u9 : (k : Int) < (M : Int) + 1 := by omega
              have HJ : Hid _ := And.intro hOs hbj
              have hgB : w.heap.size ≤ g5 := (hOj.lt g5 rfl).1
              subst hjk2
              clear hOs hbj hOj hcj hpl
              go_wp2_with fail
              go_roundg (N - (i + 1))
              case measure => omega
              case rel => exact ⟨i + 1, rfl, by omega, by go_num, HJ.out.1, HJ.out.2.setCell hgB _⟩
        · obtain ⟨m, hm⟩ : ∃ m, k = m + 1 := ⟨k - 1, by omega⟩
          obtain ⟨y, hy⟩ : ∃ y, O[m]? = some y := ⟨O[m]'(by have := HO.out.2.2.2.1; omega), List.getElem?_eq_getElem _⟩
          have hOI : OwnI wq w.heap.size (.slice au M cu) O := by unfold OwnI; rw [← HO.out.2.2.2.1]; exact HO.out.1
          obtain ⟨ao2, cap2, hv2, hc2⟩ := hOI.has
          injection hv2 with e1 e2 e3
          subst e1
          obtain ⟨b, rfl, cy⟩ := hc2 m y hy
          have f1 : (0 : Int) < (k : Int) := by omega
          have f2 : decide ((0 : Int) < (k : Int)) = true := decide_eq_true f1
          have f3 : decide (0 < k) = true := by simp; omega
          have t3 : IntKind.i64.wrap ((k : Int) - 1) = (m : Int) := by rw [IntKind.wrap_i64]; omega
          have t4 : (k : Int) - 1 = (m : Int) := by omega
          have t5 : IntKind.i64.wrap (m : Int) = (m : Int) := by rw [IntKind.wrap_i64]; omega
          have t6 : (0 : Int) ≤ (m : Int) := by omega
          have t7 : (m : Int) < (M : Int) := by omega
          have HY : Hid _ := And.intro hm hy
          clear hm hy hOI hc2 e2 e3 hk0
          by_cases hgt : v < y
          · have g1 : decide (v < y) = true := decide_eq_true hgt
            have HG : Hid (v < y) := hgt
            clear hgt
            go_wp2_with fail
            go_roundg m
            case measure => have := HY.out.1; omega
            case rel => exact ⟨m, rfl, rfl, rfl, by have := HY.out.1; omega, fun j z h1 h2 => by
              rcases Nat.lt_or_ge m j with h3 | h3
              · exact HK.out.2 j z (by have := HY.out.1; omega) h2
              · obtain rfl : j = m := by omega
                rw [HY.out.2] at h2
                rw [← Option.some.inj h2]; exact HG.out⟩
          · have g1 : decide (v < y) = false := decide_eq_false hgt
            by_cases heq : y = v
            · have g2 : (y == v) = true := by simp [heq]
              have HG : Hid (y = v) := heq
              clear hgt heq
              go_wp2_with fail
              go_roundg (N - (i + 1))
              case measure => omega
              case rel =>
                refine ⟨i + 1, rfl, by omega, by go_num, ?_, HO.out.2.1⟩
                rw [HO.out.2.2.2.2.2, Ro.sd_in (by rw [← HO.out.2.2.2.2.1, ← HG.out]; exact List.mem_of_getElem? HY.out.2), ← HO.out.2.2.2.2.1]
                unfold OwnI
                rw [← HO.out.2.2.2.1]
                exact HO.out.1
            · have g2 : (y == v) = false := by simp [heq]
              have hlv : y < v := by omega
              have HG : Hid (y < v) := hlv
              clear hgt heq hlv
              have hml : M + 1 ≤ maxLen := by unfold maxLen; omega
              have hby : (M + 1) * 8 ≤ 140737488355328 := by omega
              have hle : w.heap.size ≤ (wq.alloc (.cells #[.int .i64 0] 3)).heap.size := by have := HO.out.2.1.size; simp; omega
              have e7 : IntKind.i64.wrap ((M : Int) + 1 - 1) = (M : Int) := by rw [IntKind.wrap_i64]; omega
              have e8 : (M : Int) + 1 - 1 = (M : Int) := by omega
              have e9 : IntKind.i64.wrap (M : Int) = (M : Int) := by rw [IntKind.wrap_i64]; omega
              go_wp2_with (at_builtin; refine wpList_append_own_at _ rfl _ _ 57 rfl w.heap.size 3 i0 (.int .i64 0) 1 8 Tryz.underlying57 hi0 hz0 hz1 hz2 rfl (by decide) (.slice (some b) M cu) M (iC O) rfl (HO.out.1.alloc _) ⟨wq.heap.size, 0, none⟩ 1 1 [.int .i64 0] rfl rfl (World.news_of_block (cs := #[.int .i64 0]) (t := 3) (fr := (0, 0)) (heap_alloc_new wq _)) (by simp [Value.oneCell']) hml hby hle ?_; intro v5 w5 hO5 hg5 hnil5 hat5; obtain ⟨g5, cap5, rfl⟩ := ownsRow_succ hO5; have H5 : Hid _ := And.intro hO5 hg5; clear hO5 hg5 hnil5 hat5)
              have hO5 : OwnI w5 w.heap.size (.slice (some ⟨g5, 0, none⟩) (M + 1) cap5) (Ro.putAt O M 0) := by
                have h1 := H5.out.1
                rw [HO.out.2.2.2.1, Ro.putAt_end, ← HO.out.2.2.2.1]
                unfold OwnI
                rw [iC_snoc, List.length_append, ← HO.out.2.2.2.1]
                exact h1
              have hb5 : Below w.heap.size w w5 := HO.out.2.1.trans ((grown_alloc H5.out.2).below HO.out.2.1.size fun b hb => (HO.out.1.lt b hb).1)
              have H6 : Hid _ := And.intro hO5 hb5
              clear hO5 hb5 H5
              go_loopg [9] M (fun q jv wr => ∃ (j : Nat) (X : Int), j = q ∧ k ≤ j ∧ j ≤ M ∧ jv = .int .i64 j ∧ OwnI wr w.heap.size (.slice (some ⟨g5, 0, none⟩) (M + 1) cap5) (Ro.putAt O j X) ∧ Below w.heap.size w wr)
              case atStart => exact ⟨M, 0, rfl, HK.out.1, Nat.le_refl _, rfl, H6.out.1, H6.out.2⟩
              case round =>
                obtain ⟨j, X, rfl, hkj, hjM, rfl, hOj, hbj⟩ := hrel
                have hpl : (Ro.putAt O j X).length = M + 1 := by rw [Ro.putAt_len _ (by have := HO.out.2.2.2.1; omega), ← HO.out.2.2.2.1]
                by_cases hjk : k < j
                · obtain ⟨j', hj'⟩ : ∃ j', j = j' + 1 := ⟨j - 1, by omega⟩
                  obtain ⟨y, hy⟩ : ∃ y, O[j']? = some y := ⟨O[j']'(by have := HO.out.2.2.2.1; omega), List.getElem?_eq_getElem _⟩
                  have hy2 : (Ro.putAt O j X)[j']? = some y := by rw [Ro.putAt_ahead _ (by have := HO.out.2.2.2.1; omega) (by omega)]; exact hy
                  have cy := hOj.cell hy2
                  have cj := hOj.cell (Ro.putAt_at X (by have := HO.out.2.2.2.1; omega))
                  have cf := hOj.free hpl.symm j
                  have hOs := hOj.put hpl.symm j y
                  rw [hj', Ro.putAt_up _ _ hy, ← hj'] at hOs
                  have t1 : (k : Int) < (j : Int) := by omega
                  have t2 : decide ((k : Int) < (j : Int)) = true := decide_eq_true t1
                  have t3 : IntKind.i64.wrap ((j : Int) - 1) = (j' : Int) := by rw [IntKind.wrap_i64]; omega
                  have t4 : (j : Int) - 1 = (j' : Int) := by omega
                  have t5 : IntKind.i64.wrap (j' : Int) = (j' : Int) := by rw [IntKind.wrap_i64]; omega
                  have t6 : (0 : Int) ≤ (j' : Int) := by omega
                  have t7 : (j' : Int) < ((M + 1 : Nat) : Int) := by omega
                  have t8 : (0 : Int) ≤ (j : Int) := by omega
                  have t9 : (j : Int) < ((M + 1 : Nat) : Int) := by omega
                  have u7 : (j' : Int) < (M : Int) + 1 := by omega
                  have u9 : (j : Int) < (M : Int) + 1 := by omega
                  have HJ : Hid _ := And.intro hOs (And.intro hbj (And.intro hj' (And.intro hkj hjM)))
                  have hgB : w.heap.size ≤ g5 := (hOj.lt g5 rfl).1
                  clear hOs hbj hOj hj' hy hy2 hpl
                  go_wp2_with fail
                  go_roundg j'
                  case measure => have := HJ.out.2.2.1; omega
                  case rel =>
                    exact ⟨j', y, rfl, by have := HJ.out.2.2.1; omega, by have := HJ.out.2.2.1; omega, rfl, HJ.out.1, HJ.out.2.1.setCell hgB _⟩
                · obtain ⟨cj, hcj⟩ : ∃ x, (Ro.putAt O j X)[j]? = some x := ⟨X, Ro.putAt_at X (by have := HO.out.2.2.2.1; omega)⟩
                  have hjk2 : j = k := by omega
                  have cj2 := hOj.cell hcj
                  have cf := hOj.free hpl.symm j
                  have hOs := hOj.put hpl.symm j v
                  rw [Ro.putAt_set _ _ (by have := HO.out.2.2.2.1; omega), hjk2, HO.out.2.2.2.2.1, Ro.sd_put (by rw [← HO.out.2.2.2.2.1, ← HO.out.2.2.2.1]; exact HK.out.1) (by rw [← HO.out.2.2.2.2.1]; exact HK.out.2) (by rw [← HO.out.2.2.2.2.1]; exact (fun j y h1 h2 => by have h3 := HY.out.1; obtain rfl : j = m := (by omega); rw [HY.out.2] at h2; rw [← Option.some.inj h2]; exact HG.out)), ← HO.out.2.2.2.2.2] at hOs
                  rw [hjk2] at cj2 cf
                  have t1 : ¬ (k : Int) < (k : Int) := by omega
                  have t2 : decide ((k : Int) < (k : Int)) = false := decide_eq_false t1
                  have t8 : (0 : Int) ≤ (k : Int) := by omega
                  have t9 : (k : Int) < ((M + 1 : Nat) : Int) := by have := HK.out.1; omega
                  have u9 : (k : Int) < (M : Int) + 1 := by omega
                  have HJ : Hid _ := And.intro hOs hbj
                  have hgB : w.heap.size ≤ g5 := (hOj.lt g5 rfl).1
                  subst hjk2
                  clear hOs hbj hOj hcj hpl
                  go_wp2_with fail
                  go_roundg (N - (i + 1))
                  case measure => omega
                  case rel => exact ⟨i + 1, rfl, by omega, by go_num, HJ.out.1, HJ.out.2.setCell hgB _⟩
    · obtain rfl : i = N := by omega
      have q1 : ¬ (i : Int) < (i : Int) := by omega
      have HO : Hid _ := And.intro hO (And.intro hb hOe)
      clear hO hb hM hOe
      go_wp2_with fail
      go_ret
      have h1 := HO.out.1
      rw [HO.out.2.2, List.take_of_length_le (by have := HH.out.2.2.2.2.2; omega)] at h1
      exact ⟨_, rfl, h1, HO.out.2.1⟩
end Go.Proofs.YtpmanmoljlhogaaGreatDoor
/- Contract of the document's SameInts. -/
namespace Go.Proofs.YtpmanmoljlhogaaGreatDoor
open Go.RowKit Go.Maps
set_option maxRecDepth 100000 in
set_option maxHeartbeats 1000000 in
theorem refSame_any (va vb : Value) (za zb : List Int) (w : World) (hn : za.length ≤ 1000000000000000) (hm : zb.length ≤ 1000000000000000) (hA : HasI w va za) (hB : HasI w vb zb) :
    Calls Tryz.prog 93 #[va, vb] w fun e w' => e = .returned (.bool (za == zb)) ∧ ∃ m, w' = w.drewN m := by
  obtain ⟨ao, cap, rfl, hcA⟩ := hA
  obtain ⟨ao', cap', rfl, hcB⟩ := hB
  by_cases hlen : za.length = zb.length
  · obtain ⟨n, hN⟩ : ∃ n, n = za.length := ⟨_, rfl⟩
    have HH : Hid _ := And.intro hcA (And.intro hcB (And.intro hN (hN.trans hlen)))
    rw [← hlen, ← hN]
    rw [← hN] at hn
    clear hcA hcB hN hlen hm
    have q : ((n : Int) != (n : Int)) = false := by simp
    go_enter Tryz.func93, Tryz.ntmps93
    go_wp2
    go_loopg [5] n (fun g i wr => ∃ j m : Nat, g = n - j ∧ j ≤ n ∧ i = .int .i64 j ∧ za.take j = zb.take j ∧ wr = w.drewN m)
    case atStart => exact ⟨0, 0, rfl, Nat.zero_le _, rfl, rfl, rfl⟩
    case round =>
      obtain ⟨j, m, rfl, hj, rfl, heq, rfl⟩ := hrel
      have HQ : Hid _ := heq
      clear heq
      by_cases hlt : j < n
      · obtain ⟨x, hx⟩ : ∃ z, za[j]? = some z := ⟨za[j]'(by have := HH.out.2.2.1; omega), List.getElem?_eq_getElem _⟩
        obtain ⟨y, hy⟩ : ∃ z, zb[j]? = some z := ⟨zb[j]'(by have := HH.out.2.2.2; omega), List.getElem?_eq_getElem _⟩
        obtain ⟨a, rfl, c0⟩ := HH.out.1 j x hx
        obtain ⟨b, rfl, d0⟩ := HH.out.2.1 j y hy
        have q0 : (0 : Int) ≤ (j : Int) := by omega
        have q1 : (j : Int) < (n : Int) := by omega
        by_cases hxy : x = y
        · subst hxy
          have e1 : (x != x) = false := by simp
          have HT : Hid _ := take_both5 hx hy HQ.out
          clear hx hy
          go_wp2_with fail
          go_quiet (fail)
          go_wp2
          go_roundg (n - (j + 1))
          case measure => omega
          case rel => exact ⟨j + 1, _, rfl, by omega, by go_num, HT.out, by first | rfl | exact World.drewN_drewN _ _ _⟩
        · have e1 : (x != y) = true := by simpa using hxy
          have HF : Hid ((za == zb) = false) := (by
            rw [beq_eq_false_iff_ne]
            rintro rfl
            rw [hx] at hy
            exact hxy (Option.some.inj hy) : (za == zb) = false)
          clear hx hy hxy
          go_wp2_with fail
          go_quiet (fail)
          go_wp2
          go_ret
          exact ⟨by rw [HF.out]; rfl, _, by first | rfl | exact World.drewN_drewN _ _ _⟩
      · obtain rfl : j = n := by omega
        have q1 : ¬ (j : Int) < (j : Int) := by omega
        have HF : Hid ((za == zb) = true) := (by
          rw [beq_iff_eq]
          exact eq_len5 HH.out.2.2.1.symm HH.out.2.2.2.symm HQ.out : (za == zb) = true)
        go_wp2
        go_ret
        exact ⟨by rw [HF.out]; rfl, _, rfl⟩
  · have q : ((za.length : Int) != (zb.length : Int)) = true := by rw [bne_iff_ne]; omega
    have HF : Hid ((za == zb) = false) := (by rw [beq_eq_false_iff_ne]; rintro rfl; exact hlen rfl : (za == zb) = false)
    clear hcA hcB hlen
    go_enter Tryz.func93, Tryz.ntmps93
    go_wp2
    go_ret
    exact ⟨by rw [HF.out]; rfl, 0, rfl⟩
end Go.Proofs.YtpmanmoljlhogaaGreatDoor
/- What the document's Next has in memory. -/
namespace Go.Proofs.YtpmanmoljlhogaaGreatDoor
open Go.RowKit Go.Maps
/-- The keys of all states; the ends of a state's steps. -/
def Ro.keys (n : Nat) (out : Nat → List Ro.St) (c : List Nat) : List (Int × List Int) := (List.range n).map (Ro.key out c)
def Ro.sgn (out : Nat → List Ro.St) (c : List Nat) (j : Nat) : List Int := Ro.sd (Ro.ends 1001 c (out j))
theorem Ro.keys_len (n : Nat) (out : Nat → List Ro.St) (c : List Nat) : (Ro.keys n out c).length = n := by simp [Ro.keys]
theorem Ro.keys_at {n i : Nat} (out : Nat → List Ro.St) (c : List Nat) (h : i < n) : (Ro.keys n out c)[i]? = some (Ro.key out c i) := Ro.key_at out c h
theorem Ro.keys_nx (n : Nat) (out : Nat → List Ro.St) (c : List Nat) : Ro.num (Ro.keys n out c) = Ro.nx n out c := rfl
theorem sgn_len (out : Nat → List Ro.St) (c : List Nat) (j : Nat) : (Ro.sgn out c j).length ≤ (out j).length := by
  have h1 := Ro.sd_len (Ro.ends 1001 c (out j))
  have h2 : (Ro.ends 1001 c (out j)).length = (out j).length := by simp [Ro.ends]
  unfold Ro.sgn
  omega
theorem makeRI (n : Nat) (hn : n ≤ 1000000) (w : World) : (Instr.makeSlice 28 (.int .i64 (n : Int)) (.int .i64 (n : Int))).run Tryz.prog w = .ok (.slice (some ⟨w.heap.size, 0, none⟩) n n) (w.alloc (.cells (madeV (.slice none 0 0) n) 57)) := make_of _ _ _ 24 Tryz.underlying28 Tryz.infoRI n hn (by decide) w
/-- The classes so far (of i states), the signatures (of r states), and the states that stand for classes. -/
structure NxAt (w wr : World) (n i r : Nat) (out : Nat → List Ro.St) (c : List Nat) (fv : Value) (Fn : List Nat) : Prop where
  cls : Arr 3 w wr w.heap.size (natC (Ro.num ((Ro.keys n out c).take i)) ++ List.replicate (n - i) (.int .i64 0))
  sg : ∃ vs, Arr 57 w wr (w.heap.size + 1) vs ∧ vs.length = n ∧ ∀ j, j < r → ∃ u, vs[j]? = some u ∧ OwnI wr (w.heap.size + 2) u (Ro.sgn out c j) ∧ ∀ b, u.ownBlock = some b → fv.ownBlock ≠ some b
  fst : OwnI wr (w.heap.size + 2) fv (natI Fn)
theorem NxAt.big {w wr : World} {n i r : Nat} {out : Nat → List Ro.St} {c : List Nat} {fv : Value} {Fn : List Nat} (h : NxAt w wr n i r out c fv Fn) : w.heap.size + 2 ≤ wr.heap.size := by
  obtain ⟨vs, h1, _⟩ := h.sg
  have := h1.lt
  omega
theorem NxAt.below {w wr w' : World} {n i r : Nat} {out : Nat → List Ro.St} {c : List Nat} {fv : Value} {Fn : List Nat} (h : NxAt w wr n i r out c fv Fn) (hb : Below wr.heap.size wr w') : NxAt w w' n i r out c fv Fn := by
  obtain ⟨vs, h1, h2, h3⟩ := h.sg
  refine ⟨h.cls.below hb, ⟨vs, h1.below hb, h2, fun j hj => ?_⟩, trow_at h.fst fun b e => hb.block b (h.fst.lt b e).2⟩
  obtain ⟨u, h4, h5, h6⟩ := h3 j hj
  exact ⟨u, h4, trow_at h5 fun b e => hb.block b (h5.lt b e).2, h6⟩
theorem NxAt.new (w : World) (n : Nat) (out : Nat → List Ro.St) (c : List Nat) : NxAt w ((w.alloc (.cells (madeV (.int .i64 0) n) 3)).alloc (.cells (madeV (.slice none 0 0) n) 57)) n 0 0 out c (.slice none 0 0) [] := by
  have hb : Below w.heap.size w (w.alloc (.cells (madeV (.int .i64 0) n) 3)) := (Below.refl _ _).alloc (Nat.le_refl _) _
  have h1 := arr_new 3 (.int .i64 0) rfl n w
  have h2 := arr_new 57 (.slice none 0 0) rfl n (w.alloc (.cells (madeV (.int .i64 0) n) 3))
  have h3 := h1.below ((Below.refl _ _).alloc (Nat.le_refl _) (.cells (madeV (.slice none 0 0) n) 57))
  have h4 := h2.back hb
  rw [show (w.alloc (.cells (madeV (.int .i64 0) n) 3)).heap.size = w.heap.size + 1 by simp] at h4
  exact ⟨by simpa [Ro.num, natC] using h3, ⟨List.replicate n (.slice none 0 0), h4, List.length_replicate, fun j hj => by omega⟩, World.ownsRow_nil _ _ _ _⟩
/-- A state's signature is put down. -/
theorem NxAt.sig {w wr w2 : World} {n i : Nat} {out : Nat → List Ro.St} {c : List Nat} {fv u : Value} {Fn : List Nat} (h : NxAt w wr n i i out c fv Fn) (hi : i < n) (hb : Below wr.heap.size wr w2) (hu : OwnI w2 wr.heap.size u (Ro.sgn out c i)) : NxAt w (w2.setCell ⟨w.heap.size + 1, i, none⟩ u) n i (i + 1) out c fv Fn := by
  have hbig := h.big
  have h0 := h.below hb
  obtain ⟨vs, h1, h2, h3⟩ := h.sg
  have far : ∀ {v : Value} {zs : List Int}, OwnI w2 (w.heap.size + 2) v zs → OwnI (w2.setCell ⟨w.heap.size + 1, i, none⟩ u) (w.heap.size + 2) v zs := fun {v zs} hv =>
    trow_at hv fun b e => set_other _ _ _ _ _ (by have := (hv.lt b e).1; omega)
  refine ⟨h0.cls.kept (Kept.setCell _ _ _ _) (fun b e => ⟨by omega, by omega⟩), ⟨vs.set i u, (h1.below hb).set i u, by simp [h2], fun j hj => ?_⟩, far h0.fst⟩
  rcases Nat.lt_or_ge j i with hji | hji
  · obtain ⟨v, h4, h5, h6⟩ := h3 j hji
    exact ⟨v, by rw [List.getElem?_set_ne (by omega)]; exact h4, far (trow_at h5 fun b e => hb.block b (h5.lt b e).2), h6⟩
  · obtain rfl : j = i := by omega
    exact ⟨u, by rw [List.getElem?_set_self (by omega)], far (row_base hu hbig), fun b e e2 => by have := (hu.lt b e).1; have := (h.fst.lt b e2).2; omega⟩
/-- A state stands for a class. -/
theorem NxAt.app {w wr w5 : World} {n i r M : Nat} {out : Nat → List Ro.St} {c : List Nat} {fv v5 : Value} {Fn : List Nat} {tmp : Obj} (h : NxAt w wr n i r out c fv Fn) (hM : M = Fn.length) (hO : w5.ownsRow (w.heap.size + 2) 3 1 v5 (M + 1) (iC (natI Fn) ++ [.int .i64 i])) (hg : (wr.alloc tmp).grownBy w5 fv.ownBlock) (hat : v5.ownBlock = fv.ownBlock ∨ v5.ownBlock = some (wr.alloc tmp).heap.size) : NxAt w w5 n i r out c v5 (Fn ++ [i]) := by
  have hk := grown_alloc hg
  obtain ⟨vs, h1, h2, h3⟩ := h.sg
  have hF : ∀ b, fv.ownBlock = some b → w.heap.size + 2 ≤ b := fun b e => (h.fst.lt b e).1
  refine ⟨h.cls.kept hk (fun b e => ⟨by have := hF b e; omega, by have := hF b e; omega⟩), ⟨vs, h1.kept hk (fun b e => ⟨by have := hF b e; omega, by have := hF b e; omega⟩), h2, fun j hj => ?_⟩, ?_⟩
  · obtain ⟨u, h4, h5, h6⟩ := h3 j hj
    refine ⟨u, h4, trow_at h5 fun b e => hk.block b (h5.lt b e).2 (h6 b e), fun b e e2 => ?_⟩
    rcases hat with h7 | h7
    · exact h6 b e (h7 ▸ e2)
    · rw [h7] at e2
      have := (h5.lt b e).2
      simp at e2
      omega
  · have e1 : natI (Fn ++ [i]) = natI Fn ++ [(i : Int)] := by simp [natI]
    unfold OwnI
    rw [e1, iC_snoc, List.length_append, show (natI Fn).length = M by simp [natI, hM]]
    exact hO
/-- A state's class is put down. -/
theorem NxAt.put {w wr : World} {n i r k : Nat} {out : Nat → List Ro.St} {c : List Nat} {fv : Value} {Fn : List Nat} (h : NxAt w wr n i r out c fv Fn) (hi : i < n) (hk : k = Ro.place (Ro.key out c i) (Ro.dd ((Ro.keys n out c).take i))) : NxAt w (wr.setCell ⟨w.heap.size, i, none⟩ (.int .i64 k)) n (i + 1) r out c fv Fn := by
  obtain ⟨vs, h1, h2, h3⟩ := h.sg
  have far : ∀ {v : Value} {zs : List Int}, OwnI wr (w.heap.size + 2) v zs → OwnI (wr.setCell ⟨w.heap.size, i, none⟩ (.int .i64 k)) (w.heap.size + 2) v zs := fun {v zs} hv =>
    trow_at hv fun b e => set_other _ _ _ _ _ (by have := (hv.lt b e).1; omega)
  refine ⟨?_, ⟨vs, h1.kept (Kept.setCell _ _ _ _) (fun b e => ⟨by omega, by omega⟩), h2, fun j hj => ?_⟩, far h.fst⟩
  · have hC : (Ro.num ((Ro.keys n out c).take i)).length = i := by rw [Ro.num_len, List.length_take, Ro.keys_len]; omega
    have hAs := h.cls.set i (.int .i64 (k : Int))
    rw [natC_step _ n i k hC hi] at hAs
    rw [take_succ_of (Ro.keys_at out c hi), Ro.num_snoc, ← hk]
    exact hAs
  · obtain ⟨u, h4, h5, h6⟩ := h3 j hj
    exact ⟨u, h4, far h5, h6⟩
/-- The states that stand for classes, in their order. -/
structure FsAt (n i : Nat) (out : Nat → List Ro.St) (c : List Nat) (Fn : List Nat) : Prop where
  fe : Ro.dd ((Ro.keys n out c).take i) = Fn.map (Ro.key out c)
  fl : ∀ f ∈ Fn, f < i
theorem FsAt.len {n i : Nat} {out : Nat → List Ro.St} {c : List Nat} {Fn : List Nat} (h : FsAt n i out c Fn) : Fn.length ≤ i := by
  have h1 := Ro.dd_le ((Ro.keys n out c).take i)
  rw [h.fe, List.length_map, List.length_take] at h1
  omega
theorem FsAt.old {n i k f : Nat} {out : Nat → List Ro.St} {c : List Nat} {Fn : List Nat} (h : FsAt n i out c Fn) (hi : i < n) (hk : Fn[k]? = some f) (he : Ro.key out c f = Ro.key out c i) : FsAt n (i + 1) out c Fn := by
  refine ⟨?_, fun g hg => by have := h.fl g hg; omega⟩
  rw [take_succ_of (Ro.keys_at out c hi), Ro.dd_snoc]
  unfold Ro.more
  rw [if_pos (by rw [h.fe, ← he]; exact List.mem_map.2 ⟨f, List.mem_of_getElem? hk, rfl⟩), h.fe]
theorem FsAt.new {n i : Nat} {out : Nat → List Ro.St} {c : List Nat} {Fn : List Nat} (h : FsAt n i out c Fn) (hi : i < n) (hno : ∀ f ∈ Fn, Ro.key out c f ≠ Ro.key out c i) : FsAt n (i + 1) out c (Fn ++ [i]) ∧ Fn.length = Ro.place (Ro.key out c i) (Ro.dd ((Ro.keys n out c).take i)) := by
  have hn : Ro.key out c i ∉ Ro.dd ((Ro.keys n out c).take i) := fun hm => by
    rw [h.fe] at hm
    obtain ⟨f, hf, e⟩ := List.mem_map.1 hm
    exact hno f hf e
  refine ⟨⟨?_, fun g hg => ?_⟩, by rw [Ro.place_no hn, h.fe, List.length_map]⟩
  · rw [take_succ_of (Ro.keys_at out c hi), Ro.dd_snoc]
    unfold Ro.more
    rw [if_neg hn, h.fe, List.map_append]
    rfl
  · rcases List.mem_append.1 hg with hg | hg
    · have := h.fl g hg; omega
    · rw [List.mem_singleton.1 hg]; omega
theorem place_first {K : Type} [DecidableEq K] {x : K} : ∀ {l : List K} {k : Nat}, l[k]? = some x → (∀ y ∈ l.take k, y ≠ x) → Ro.place x l = k
  | [], k, h, _ => by simp at h
  | a :: r, 0, h, _ => by simp at h; simp [Ro.place, h]
  | a :: r, k + 1, h, hn => by
    have ha : a ≠ x := hn a (by simp)
    rw [List.getElem?_cons_succ] at h
    simp only [Ro.place, if_neg ha]
    rw [place_first h fun y hy => hn y (by simp [hy])]
theorem FsAt.at {n i k f : Nat} {out : Nat → List Ro.St} {c : List Nat} {Fn : List Nat} (h : FsAt n i out c Fn) (hk : Fn[k]? = some f) (he : Ro.key out c f = Ro.key out c i) (hno : ∀ g ∈ Fn.take k, Ro.key out c g ≠ Ro.key out c i) : k = Ro.place (Ro.key out c i) (Ro.dd ((Ro.keys n out c).take i)) := by
  rw [h.fe]
  refine (place_first (by rw [List.getElem?_map, hk, ← he]; rfl) fun y hy => ?_).symm
  rw [← List.map_take] at hy
  obtain ⟨g, hg, rfl⟩ := List.mem_map.1 hy
  exact hno g hg
end Go.Proofs.YtpmanmoljlhogaaGreatDoor
/- Contract of the document's Next: the classes of the round behind one. -/
namespace Go.Proofs.YtpmanmoljlhogaaGreatDoor
open Go.RowKit Go.Maps
attribute [local go_sem ↓] Go.wp_at_zero Go.wp_at_succ
theorem key_eq {out : Nat → List Ro.St} {c : List Nat} {i j x y : Nat} (hx : c[i]? = some x) (hy : c[j]? = some y) : Ro.key out c i = Ro.key out c j ↔ x = y ∧ Ro.sgn out c i = Ro.sgn out c j := by
  unfold Ro.key Ro.sgn
  rw [Prod.mk.injEq, hx, hy]
  simp only [Option.getD_some]
  constructor
  · rintro ⟨h1, h2⟩; exact ⟨by omega, h2⟩
  · rintro ⟨h1, h2⟩; exact ⟨by omega, h2⟩
set_option maxRecDepth 100000 in
set_option maxHeartbeats 8000000 in
theorem docNext_any (gs n : Nat) (out : Nat → List Ro.St) (c : List Nat) (vc : Value) (w : World) (hn : n ≤ 1000) (hc : c.length = n) (hcl : ∀ u ∈ c, u < n) (hF : Fit n out) (hS : Stp w gs n out) (hv : HasI w vc (natI c)) :
    Calls Tryz.prog 32 #[.slice (some ⟨gs, 0, none⟩) n n, vc] w fun r w' => ∃ g, r = .returned (.slice (some ⟨g, 0, none⟩) n n) ∧ Arr 3 w w' g (natC (Ro.nx n out c)) := by
  obtain ⟨i0, hi0, hz0, hz1, hz2⟩ := info_parts Tryz.infoI4
  have hv0 := hv
  obtain ⟨ac, cc, rfl, hcs⟩ := hv
  have hcn : (natI c).length = n := by simp [natI, hc]
  rw [hcn] at hv0 ⊢
  have HH : Hid _ := And.intro hcs (And.intro hv0 (And.intro hc (And.intro hcl (And.intro hF hS))))
  clear hcs hc hcl hF hS hv0 hcn
  have hmk := makeI n (by omega) w
  have hmk2 := makeRI n (by omega) (w.alloc (.cells (madeV (.int .i64 0) n) 3))
  go_enter Tryz.func32, Tryz.ntmps32
  go_wp2_with fail
  clear hmk hmk2
  have hN0 := NxAt.new w n out c
  obtain ⟨w0, hw0⟩ : ∃ w0, w0 = (w.alloc (.cells (madeV (.int .i64 0) n) 3)).alloc (.cells (madeV (.slice none 0 0) n) 57) := ⟨_, rfl⟩
  rw [← hw0] at hN0 ⊢
  have HN0 : Hid _ := hN0
  clear hw0 hN0
  go_loopg [5, 8] n (fun q fv iv wr => ∃ (i : Nat) (Fn : List Nat), q = n - i ∧ i ≤ n ∧ iv = .int .i64 i ∧ NxAt w wr n i i out c fv Fn ∧ FsAt n i out c Fn)
  case atStart => exact ⟨0, [], rfl, Nat.zero_le _, rfl, HN0.out, by simp [Ro.dd], fun f hf => by simp at hf⟩
  case round =>
    obtain ⟨i, Fn, rfl, hi, rfl, hX, hFs⟩ := hrel
    obtain ⟨w1, rfl⟩ : ∃ w1, w1 = wr := ⟨_, rfl⟩
    by_cases hlt : i < n
    · obtain ⟨x, hx⟩ : ∃ x, c[i]? = some x := ⟨c[i]'(by have := HH.out.2.2.1; omega), List.getElem?_eq_getElem _⟩
      obtain ⟨a, rfl, c0⟩ := HH.out.1 i (x : Int) (by simp [natI, hx])
      obtain ⟨ar, cr, cs, hrow⟩ := (HH.out.2.2.2.2.2.below hX.cls.bl).row i hlt
      have hfit := HH.out.2.2.2.2.1 i hlt
      have hSg := docSig_any n c (out i) _ _ w1 hn HH.out.2.2.1 HH.out.2.2.2.1 hfit.2 hfit.1 hrow (HH.out.2.1.below hX.cls.bl)
      obtain ⟨Lr, hLr⟩ : ∃ Lr, Lr = (out i).length := ⟨_, rfl⟩
      rw [← hLr] at hSg cs
      have q0 : (0 : Int) ≤ (i : Int) := by omega
      have q1 : (i : Int) < (n : Int) := by omega
      obtain ⟨vs, hA, hvl, _⟩ := hX.sg
      obtain ⟨y0, hy0⟩ : ∃ y, vs[i]? = some y := ⟨vs[i]'(by omega), List.getElem?_eq_getElem _⟩
      have hft := hX.fst
      obtain ⟨au, cu, hu⟩ := row_shape hft
      obtain ⟨M, hM⟩ : ∃ M, M = Fn.length := ⟨_, rfl⟩
      rw [show (natI Fn).length = M by simp [natI, hM]] at hu
      obtain rfl := hu
      have hMi : M ≤ i := by have := hFs.len; omega
      have HS : Hid _ := And.intro hSg (And.intro hX (And.intro hFs (And.intro hx (And.intro hM (And.intro c0 (And.intro hA hy0))))))
      clear hSg hX hFs hx hM hrow hfit hLr c0 hA hy0 hvl hft
      go_wp2_with (go_at_call 92; refine Calls.mono HS.out.1 ?_; rintro r w2 ⟨u2, rfl, hO2, hb2⟩; obtain ⟨b2, c2, rfl⟩ := row_shape hO2; have cg := (HS.out.2.2.2.2.2.2.1.below hb2).cell HS.out.2.2.2.2.2.2.2; have cf := (HS.out.2.2.2.2.2.2.1.below hb2).free i; have HB2 : Hid _ := And.intro hO2 hb2; clear hO2 hb2)
      have hX2 := HS.out.2.1.sig hlt HB2.out.2 HB2.out.1
      obtain ⟨w3, hw3⟩ : ∃ w3, w3 = w2.setCell ⟨w.heap.size + 1, i, none⟩ (.slice b2 (Ro.sd (Ro.ends 1001 c (out i))).length c2) := ⟨_, rfl⟩
      rw [← hw3] at hX2 ⊢
      have HX : Hid _ := hX2
      clear hw3 hX2 cg cf cs
      go_loopg [9] M (fun q kv wr => ∃ (k d : Nat), q = M - k ∧ k ≤ M ∧ kv = .int .i64 k ∧ wr = w3.drewN d ∧ ∀ f ∈ Fn.take k, Ro.key out c f ≠ Ro.key out c i)
      case atStart => exact ⟨0, 0, rfl, Nat.zero_le _, rfl, rfl, fun f hf => by simp at hf⟩
      case round =>
        obtain ⟨k, d, rfl, hk, rfl, rfl, hno⟩ := hrel
        have HNo : Hid (∀ f ∈ Fn.take k, Ro.key out c f ≠ Ro.key out c i) := hno
        clear hno
        have hXd := HX.out
        by_cases hkM : k < M
        · obtain ⟨f, hf⟩ : ∃ f, Fn[k]? = some f := ⟨Fn[k]'(by have := HS.out.2.2.2.2.1; omega), List.getElem?_eq_getElem _⟩
          have hfi := HS.out.2.2.1.fl f (List.mem_of_getElem? hf)
          obtain ⟨xf, hxf⟩ : ∃ x, c[f]? = some x := ⟨c[f]'(by have := HH.out.2.2.1; omega), List.getElem?_eq_getElem _⟩
          obtain ⟨a9, ha9, cf0⟩ := HH.out.1 f (xf : Int) (by simp [natI, hxf])
          obtain rfl := Option.some.inj ha9
          have cx : w3.cell? (a.add i) = some (.int .i64 x) := (hXd.cls.bl.cell (World.block_lt_of_cell? w _ HS.out.2.2.2.2.2.1)).trans HS.out.2.2.2.2.2.1
          have cxf : w3.cell? (a.add f) = some (.int .i64 xf) := (hXd.cls.bl.cell (World.block_lt_of_cell? w _ cf0)).trans cf0
          obtain ⟨ao2, cap2, hv2, hc2⟩ := hXd.fst.has
          injection hv2 with e1 e2 e3
          subst e1
          obtain ⟨b, rfl, ck⟩ := hc2 k (f : Int) (by simp [natI, hf])
          have p0 : (0 : Int) ≤ (k : Int) := by omega
          have p1 : (k : Int) < (M : Int) := by omega
          have p2 : decide ((k : Int) < (M : Int)) = true := decide_eq_true p1
          have p3 : (0 : Int) ≤ (f : Int) := by omega
          have p4 : (f : Int) < (n : Int) := by omega
          have hkey := key_eq (out := out) hxf HS.out.2.2.2.1
          have HY : Hid _ := And.intro hf hkey
          clear hf hkey hc2 e2 e3 ha9 cf0 hxf
          by_cases hxe : xf = x
          · have g1 : ((xf : Int) != (x : Int)) = false := by simp [hxe]
            obtain ⟨vs3, hA3, hvl3, hrows⟩ := hXd.sg
            obtain ⟨uf, hvf, hOf, _⟩ := hrows f (by omega)
            obtain ⟨ui, hvi, hOi, _⟩ := hrows i (by omega)
            have cuf := hA3.cell hvf
            have cui := hA3.cell hvi
            have hSm : ∀ e9, Calls Tryz.prog 93 #[uf, ui] (w3.drewN (d + e9)) fun e w' => e = .returned (.bool (Ro.sgn out c f == Ro.sgn out c i)) ∧ ∃ m, w' = w3.drewN (d + m) := fun e9 =>
              (refSame_any uf ui _ _ _ (by have h1 := sgn_len out c f; have h2 := (HH.out.2.2.2.2.1 f (by omega)).1; omega) (by have h1 := sgn_len out c i; have h2 := (HH.out.2.2.2.2.1 i (by omega)).1; omega) (hOf.has.below (below_drewN (Below.refl _ _) _)) (hOi.has.below (below_drewN (Below.refl _ _) _))).mono fun _ _ ⟨he, m, hm⟩ => ⟨he, e9 + m, by rw [hm, World.drewN_drewN, Nat.add_assoc]⟩
            obtain ⟨auf, cuf0, rfl⟩ := row_shape hOf
            obtain ⟨aui, cui0, rfl⟩ := row_shape hOi
            have HA : Hid _ := And.intro hSm hxe
            clear hSm hxe hA3 hvl3 hrows hvf hvi hOf hOi
            by_cases hse : Ro.sgn out c f = Ro.sgn out c i
            · have g2 : (Ro.sgn out c f == Ro.sgn out c i) = true := by simp [hse]
              rw [g2] at HA
              have HE : Hid _ := hse
              clear hse g2 hXd
              have g3 : ((k : Int) == (M : Int)) = false := by simp; omega
              go_wp2_with fail
              go_quiet ((go_at_call 93; exact HA.out.1 _))
              rename Nat => nq
              rw [World.drewN_drewN]
              have hXz := HX.out.below (below_drewN (Below.refl _ _) (d + nq))
              have cz := hXz.cls.cell (i := i) (x := .int .i64 0) (by rw [List.getElem?_append_right (by rw [natC_len, Ro.num_len, List.length_take]; omega), natC_len, Ro.num_len, List.length_take, Ro.keys_len, List.getElem?_replicate, if_pos (by omega)])
              have cfz := hXz.cls.free i
              have HZ : Hid _ := hXz
              clear hXz
              go_wp2_with fail
              go_roundg (n - (i + 1))
              case measure => omega
              case rel =>
                have hke : Ro.key out c f = Ro.key out c i := HY.out.2.2 ⟨HA.out.2, HE.out⟩
                exact ⟨i + 1, Fn, rfl, by omega, by go_num, HZ.out.put hlt (HS.out.2.2.1.at HY.out.1 hke HNo.out), HS.out.2.2.1.old hlt HY.out.1 hke⟩
            · have g2 : (Ro.sgn out c f == Ro.sgn out c i) = false := by simp [hse]
              rw [g2] at HA
              have HE : Hid _ := hse
              clear hse g2 hXd
              go_wp2_with fail
              go_quiet ((go_at_call 93; exact HA.out.1 _))
              rename Nat => nq
              rw [World.drewN_drewN]
              go_wp2_with fail
              go_roundg (M - (k + 1))
              case measure => omega
              case rel =>
                exact ⟨k + 1, _, rfl, by omega, by go_num, rfl, fun g hg => by
                  rw [take_succ_of HY.out.1] at hg
                  rcases List.mem_append.1 hg with hg | hg
                  · exact HNo.out g hg
                  · rw [List.mem_singleton.1 hg]; exact fun e => HE.out (HY.out.2.1 e).2⟩
          · have g1 : ((xf : Int) != (x : Int)) = true := by simp; omega
            have HE : Hid _ := hxe
            clear hxe hXd
            go_wp2_with fail
            go_quiet (fail)
            rename Nat => nq
            rw [World.drewN_drewN]
            go_wp2_with fail
            go_roundg (M - (k + 1))
            case measure => omega
            case rel =>
              exact ⟨k + 1, _, rfl, by omega, by go_num, rfl, fun g hg => by
                rw [take_succ_of HY.out.1] at hg
                rcases List.mem_append.1 hg with hg | hg
                · exact HNo.out g hg
                · rw [List.mem_singleton.1 hg]; exact fun e => HE.out (HY.out.2.1 e).1⟩
        · obtain rfl : k = M := by omega
          have p1 : ¬ (k : Int) < (k : Int) := by omega
          have p2 : decide ((k : Int) < (k : Int)) = false := decide_eq_false p1
          have p3 : ((k : Int) == (k : Int)) = true := by simp
          clear hXd
          go_wp2_with fail
          go_quiet (fail)
          rename Nat => nq
          rw [World.drewN_drewN]
          have hXz := HX.out.below (below_drewN (Below.refl _ _) (d + nq))
          obtain ⟨wz, hwz⟩ : ∃ wz, wz = w3.drewN (d + nq) := ⟨_, rfl⟩
          rw [← hwz] at hXz ⊢
          have hOz : wz.ownsRow (w.heap.size + 2) 3 1 (.slice au k cu) k (iC (natI Fn)) := by have h1 := hXz.fst; unfold OwnI at h1; rw [show (natI Fn).length = k by simp [natI, HS.out.2.2.2.2.1]] at h1; exact h1
          have hml : k + 1 ≤ maxLen := by unfold maxLen; omega
          have hby : (k + 1) * 8 ≤ 140737488355328 := by omega
          have hle : w.heap.size + 2 ≤ (wz.alloc (.cells #[.int .i64 i] 3)).heap.size := by have := hXz.big; simp; omega
          have HZ : Hid _ := And.intro hOz hXz
          clear hwz hOz hXz
          have hcx : ((natC (Ro.num ((Ro.keys n out c).take i)) ++ List.replicate (n - i) (Value.int .i64 0)))[i]? = some (.int .i64 0) := by
            rw [List.getElem?_append_right (by rw [natC_len, Ro.num_len, List.length_take]; omega), natC_len, Ro.num_len, List.length_take, Ro.keys_len, List.getElem?_replicate, if_pos (by omega)]
          have HCX : Hid _ := hcx
          clear hcx
          go_wp2_with (at_builtin; refine wpList_append_own_at _ rfl _ _ 57 rfl (w.heap.size + 2) 3 i0 (.int .i64 0) 1 8 Tryz.underlying57 hi0 hz0 hz1 hz2 rfl (by decide) (.slice au k cu) k (iC (natI Fn)) rfl (HZ.out.1.alloc _) ⟨wz.heap.size, 0, none⟩ 1 1 [.int .i64 i] rfl rfl (World.news_of_block (cs := #[.int .i64 i]) (t := 3) (fr := (0, 0)) (heap_alloc_new wz _)) (by simp [Value.oneCell']) hml hby hle ?_; intro v5 w5 hO5 hg5 hnil5 hat5; have hX5 := HZ.out.2.app HS.out.2.2.2.2.1 hO5 hg5 hat5; have cx := hX5.cls.cell HCX.out; have cf := hX5.cls.free i; have H5 : Hid _ := hX5; clear hO5 hg5 hnil5 hat5 hX5)
          go_roundg (n - (i + 1))
          case measure => omega
          case rel =>
            have hno := HNo.out
            rw [List.take_of_length_le (by have := HS.out.2.2.2.2.1; omega)] at hno
            obtain ⟨hF1, hp1⟩ := HS.out.2.2.1.new hlt hno
            exact ⟨i + 1, Fn ++ [i], rfl, by omega, by go_num, H5.out.put hlt (by rw [HS.out.2.2.2.2.1]; exact hp1), hF1⟩
    · obtain rfl : i = n := by omega
      have q1 : ¬ (i : Int) < (i : Int) := by omega
      have HA : Hid _ := hX.cls
      clear hX hFs
      go_wp2_with fail
      go_ret
      have h1 := HA.out
      rw [Nat.sub_self, List.replicate_zero, List.append_nil, List.take_of_length_le (by rw [Ro.keys_len]; exact Nat.le_refl _), Ro.keys_nx] at h1
      exact ⟨_, rfl, h1⟩
end Go.Proofs.YtpmanmoljlhogaaGreatDoor
/- The one form of classes: who is together, the form of the form, when two have one. Plain facts. -/
namespace Go.Proofs.YtpmanmoljlhogaaGreatDoor.Sy
theorem place_lt {c : Int} {l : List Int} : place c l < l.length ↔ c ∈ l := by
  induction l with
  | nil => simp [place]
  | cons a r ih =>
    unfold place
    by_cases h : a = c
    · simp [h]
    · rw [if_neg h, List.length_cons, Nat.add_lt_add_iff_right, ih, List.mem_cons]
      exact ⟨fun h1 => .inr h1, fun h1 => h1.elim (fun e => absurd e.symm h) id⟩
theorem place_not {c : Int} {l : List Int} (h : c ∉ l) : place c l = l.length := by
  have h1 := place_le c l
  have h2 : ¬ place c l < l.length := fun h2 => h (place_lt.1 h2)
  omega
theorem place_at {c : Int} {l : List Int} (h : c ∈ l) : l[place c l]? = some c := by
  induction l with
  | nil => simp at h
  | cons a r ih =>
    unfold place
    by_cases h1 : a = c
    · simp [h1]
    · rw [if_neg h1, List.getElem?_cons_succ]
      exact ih ((List.mem_cons.1 h).elim (fun e => absurd e.symm h1) id)
theorem place_inj {a b : Int} {l : List Int} (ha : a ∈ l) (hb : b ∈ l) (h : place a l = place b l) : a = b := by
  have h1 := place_at ha
  rw [h, place_at hb] at h1
  exact (Option.some.inj h1).symm
theorem place_left {c : Int} {a : List Int} (b : List Int) (h : c ∈ a) : place c (a ++ b) = place c a := by
  induction a with
  | nil => simp at h
  | cons x r ih =>
    simp only [List.cons_append, place]
    by_cases h1 : x = c
    · simp [h1]
    · rw [if_neg h1, if_neg h1, ih ((List.mem_cons.1 h).elim (fun e => absurd e.symm h1) id)]
/-- Those seen, with one more. -/
def more (c : Int) (seen : List Int) : List Int := if place c seen < seen.length then seen else seen ++ [c]
theorem more_mem (c : Int) (seen : List Int) : c ∈ more c seen := by
  unfold more
  split
  · next h => exact place_lt.1 h
  · exact List.mem_append_right _ (List.mem_singleton.2 rfl)
theorem more_pre (c : Int) (seen : List Int) : ∃ t, more c seen = seen ++ t := by
  unfold more
  split
  · exact ⟨[], by simp⟩
  · exact ⟨[c], rfl⟩
theorem more_place (c : Int) (seen : List Int) : place c (more c seen) = place c seen := by
  unfold more
  split
  · rfl
  · next h =>
    have h1 : c ∉ seen := fun h1 => h (place_lt.2 h1)
    rw [place_app c seen [c] (fun x hx e => h1 (by rw [← e]; exact hx)), place_not h1]
    simp [place]
theorem seenG_pre (l : List Int) : ∀ seen, ∃ t, seenG seen l = seen ++ t := by
  induction l with
  | nil => intro seen; exact ⟨[], by simp [seenG]⟩
  | cons c r ih =>
    intro seen
    obtain ⟨t, ht⟩ := ih (more c seen)
    obtain ⟨u, hu⟩ := more_pre c seen
    refine ⟨u ++ t, ?_⟩
    show seenG (more c seen) r = _
    rw [ht, hu, List.append_assoc]
theorem seenG_mem (l : List Int) : ∀ seen, ∀ z ∈ l, z ∈ seenG seen l := by
  induction l with
  | nil => intro seen z h; simp at h
  | cons c r ih =>
    intro seen z hz
    show z ∈ seenG (more c seen) r
    rcases List.mem_cons.1 hz with rfl | hz
    · obtain ⟨t, ht⟩ := seenG_pre r (more z seen)
      rw [ht]; exact List.mem_append_left _ (more_mem z seen)
    · exact ih _ z hz
theorem canonG_map (l : List Int) : ∀ seen, canonG seen l = l.map fun z => place z (seenG seen l) := by
  induction l with
  | nil => intro seen; rfl
  | cons c r ih =>
    intro seen
    show place c seen :: canonG (more c seen) r = place c (seenG (more c seen) r) :: r.map fun z => place z (seenG (more c seen) r)
    rw [ih]
    congr 1
    obtain ⟨t, ht⟩ := seenG_pre r (more c seen)
    rw [ht, place_left t (more_mem c seen), more_place]
theorem canon_map (l : List Int) : canon l = l.map fun z => place z (seenG [] l) := canonG_map l []
theorem place_map (f : Int → Int) (c : Int) (l : List Int) (h : ∀ x ∈ l, f x = f c → x = c) : place (f c) (l.map f) = place c l := by
  induction l with
  | nil => rfl
  | cons a r ih =>
    simp only [List.map_cons, place]
    by_cases h1 : a = c
    · simp [h1]
    · rw [if_neg h1, if_neg (fun e => h1 (h a List.mem_cons_self e)), ih fun x hx => h x (List.mem_cons_of_mem _ hx)]
/-- Numbers that are renamed one to one have the same one form. -/
theorem canonG_inj (f : Int → Int) (l : List Int) : ∀ seen, (∀ x ∈ seen ++ l, ∀ y ∈ seen ++ l, f x = f y → x = y) → canonG (seen.map f) (l.map f) = canonG seen l := by
  induction l with
  | nil => intro seen _; rfl
  | cons c r ih =>
    intro seen h
    have hp : place (f c) (seen.map f) = place c seen := place_map f c seen fun x hx e => h x (List.mem_append_left _ hx) c (List.mem_append_right _ List.mem_cons_self) e
    have hm : more (f c) (seen.map f) = (more c seen).map f := by
      unfold more
      rw [hp, List.length_map]
      split
      · rfl
      · simp
    show place (f c) (seen.map f) :: canonG (more (f c) (seen.map f)) (r.map f) = place c seen :: canonG (more c seen) r
    rw [hp, hm, ih (more c seen)]
    have hsub : ∀ x ∈ more c seen ++ r, x ∈ seen ++ c :: r := fun x hx => by
      rcases List.mem_append.1 hx with hx | hx
      · unfold more at hx
        split at hx
        · exact List.mem_append_left _ hx
        · rcases List.mem_append.1 hx with hx | hx
          · exact List.mem_append_left _ hx
          · rw [List.mem_singleton.1 hx]; exact List.mem_append_right _ List.mem_cons_self
      · exact List.mem_append_right _ (List.mem_cons_of_mem _ hx)
    exact fun x hx y hy e => h x (hsub x hx) y (hsub y hy) e
theorem canon_inj (f : Int → Int) (l : List Int) (h : ∀ x ∈ l, ∀ y ∈ l, f x = f y → x = y) : canon (l.map f) = canon l := canonG_inj f l [] (by simpa using h)
theorem natI_map (l : List Int) : natI (canon l) = l.map fun z => ((place z (seenG [] l) : Nat) : Int) := by
  rw [canon_map]; simp [natI]
/-- It is its own one form. -/
theorem canon_idem (l : List Int) : canon (natI (canon l)) = canon l := by
  rw [natI_map]
  refine canon_inj _ l fun x hx y hy e => place_inj (seenG_mem l [] x hx) (seenG_mem l [] y hy) (by omega)
/-- It keeps who is together. -/
theorem canon_eq {l : List Int} {i k : Nat} {x y : Int} (hi : l[i]? = some x) (hk : l[k]? = some y) {u v : Int} (hu : (natI (canon l))[i]? = some u) (hv : (natI (canon l))[k]? = some v) : u = v ↔ x = y := by
  rw [natI_map, List.getElem?_map, hi] at hu
  rw [natI_map, List.getElem?_map, hk] at hv
  simp only [Option.map_some, Option.some.injEq] at hu hv
  subst hu; subst hv
  constructor
  · intro e
    exact place_inj (seenG_mem l [] x (List.mem_of_getElem? hi)) (seenG_mem l [] y (List.mem_of_getElem? hk)) (by omega)
  · rintro rfl; rfl
/-- Two lists have one just if they say the same together. -/
theorem canon_iff {a b : List Int} (hl : a.length = b.length) : canon a = canon b ↔ ∀ (i k : Nat) (x y u v : Int), a[i]? = some x → a[k]? = some y → b[i]? = some u → b[k]? = some v → (x = y ↔ u = v) := by
  constructor
  · intro h i k x y u v hx hy hu hv
    have hil := (List.getElem?_eq_some_iff.1 hx).1
    have hkl := (List.getElem?_eq_some_iff.1 hy).1
    have hn : (natI (canon a)).length = a.length := by rw [natI_map, List.length_map]
    obtain ⟨p, hp⟩ : ∃ p, (natI (canon a))[i]? = some p := ⟨_, List.getElem?_eq_getElem (by rw [hn]; exact hil)⟩
    obtain ⟨q, hq⟩ : ∃ q, (natI (canon a))[k]? = some q := ⟨_, List.getElem?_eq_getElem (by rw [hn]; exact hkl)⟩
    exact (canon_eq hx hy hp hq).symm.trans (canon_eq hu hv (by rw [← h]; exact hp) (by rw [← h]; exact hq))
  · intro h
    have hb : b = a.map fun z => (b[place z a]?).getD 0 := by
      apply List.ext_getElem?
      intro i
      by_cases hi : i < a.length
      · have hx : a[i]? = some a[i] := List.getElem?_eq_getElem hi
        have hu : b[i]? = some (b[i]'(by omega)) := List.getElem?_eq_getElem _
        have hm : a[i] ∈ a := List.getElem_mem hi
        have hp := place_at hm
        have hpl : place a[i] a < a.length := place_lt.2 hm
        have hv : b[place a[i] a]? = some (b[place a[i] a]'(by omega)) := List.getElem?_eq_getElem _
        rw [List.getElem?_map, hx, hu]
        simp only [Option.map_some]
        rw [hv]
        have h2 := (h i (place a[i] a) _ _ _ _ hx hp hu hv).1 rfl
        rw [h2]; rfl
      · rw [List.getElem?_eq_none (by omega), List.getElem?_eq_none (by rw [List.length_map]; omega)]
    rw [hb]
    refine (canon_inj _ a fun x hx y hy e => ?_).symm
    have hxl : place x a < b.length := by rw [← hl]; exact place_lt.2 hx
    have hyl : place y a < b.length := by rw [← hl]; exact place_lt.2 hy
    have hu : b[place x a]? = some b[place x a] := List.getElem?_eq_getElem hxl
    have hv : b[place y a]? = some b[place y a] := List.getElem?_eq_getElem hyl
    rw [hu, hv] at e
    exact (h _ _ _ _ _ _ (place_at hx) (place_at hy) hu hv).2 e
theorem formG_canon (l : List Int) : ∀ seen, formG seen.length (natI (canonG seen l)) = true := by
  induction l with
  | nil => intro seen; rfl
  | cons c r ih =>
    intro seen
    have h1 := ih (more c seen)
    show (decide ((0 : Int) ≤ ((place c seen : Nat) : Int) ∧ ((place c seen : Nat) : Int) ≤ (seen.length : Int)) && formG (if ((place c seen : Nat) : Int) = (seen.length : Int) then seen.length + 1 else seen.length) (natI (canonG (more c seen) r))) = true
    have h2 := place_le c seen
    rw [decide_eq_true (by omega), Bool.true_and]
    have h3 : (more c seen).length = if ((place c seen : Nat) : Int) = (seen.length : Int) then seen.length + 1 else seen.length := by
      unfold more
      by_cases e : place c seen < seen.length
      · rw [if_pos e, if_neg (by omega)]
      · rw [if_neg e, if_pos (by omega)]; simp
    rw [← h3]
    exact h1
/-- It is in the one form. -/
theorem classes_canon (l : List Int) (n : Int) (hn : n = (l.length : Int)) : classes n (natI (canon l)) = true := by
  have h1 : (natI (canon l)).length = l.length := by rw [natI_map, List.length_map]
  unfold classes
  rw [h1, hn, decide_eq_true rfl, Bool.true_and]
  exact formG_canon l []
end Go.Proofs.YtpmanmoljlhogaaGreatDoor.Sy
/- Contracts of the program's numbered, Canon, Together and Classes. -/
namespace Go.Proofs.YtpmanmoljlhogaaGreatDoor
open Go.RowKit Go.Maps
attribute [local go_sem ↓] Go.wp_at_zero Go.wp_at_succ
/-- The map tells each class's place among those that were seen. -/
structure MapI (D : DataW Unit) (ns : List Int) : Prop where
  yes : ∀ (i : Nat) (z : Int), ns[i]? = some z → Maps.has D (.int .i64 z) = true ∧ D.atKey (.int .i64 z) (.lit (.int .i64 0)) = .lit (.int .i64 i)
  no : ∀ z : Int, z ∉ ns → Maps.has D (.int .i64 z) = false
  size : Maps.size D = ns.length
theorem MapI.nil : MapI (.map []) [] := ⟨fun i s h => by simp at h, fun s _ => rfl, rfl⟩
theorem ikey_inj {a b : Int} (h : Lit.int .i64 a = Lit.int .i64 b) : a = b := by injection h
theorem MapI.snoc {D : DataW Unit} {ns : List Int} (h : MapI D ns) (hD : IsMap D) (hT : Tidy D) (s : Int) (hs : s ∉ ns) : MapI (D.put (.int .i64 s) (.lit (.int .i64 ns.length))) (ns ++ [s]) := by
  refine ⟨fun i t ht => ?_, fun t ht => ?_, ?_⟩
  · rcases Nat.lt_or_ge i ns.length with hi | hi
    · rw [List.getElem?_append_left hi] at ht
      have hne : Lit.int .i64 t ≠ Lit.int .i64 s := fun e => hs (ikey_inj e ▸ List.mem_of_getElem? ht)
      rw [has_put_other hne, atKey_put_other hne]
      exact h.yes i t ht
    · rw [List.getElem?_append_right hi] at ht
      have hi0 : i - ns.length = 0 := by
        have := (List.getElem?_eq_some_iff.1 ht).1
        simp at this; omega
      rw [hi0] at ht
      simp at ht
      subst ht
      have : i = ns.length := by omega
      subst this
      have hk : WideAt.IsKeyLit (.int .i64 s) := trivial
      exact ⟨has_put_same hD hk _, atKey_put_same hD hk _ _⟩
  · have hne : Lit.int .i64 t ≠ Lit.int .i64 s := fun e => ht (by rw [ikey_inj e]; simp)
    rw [has_put_other hne]
    exact h.no t fun hm => ht (by simp [hm])
  · rw [size_put hT, h.no s hs]
    simp [h.size]
theorem Sy.place_mem {z : Int} {l : List Int} : Sy.place z l < l.length ↔ z ∈ l := by
  induction l with
  | nil => simp [Sy.place]
  | cons a r ih =>
    unfold Sy.place
    by_cases h : a = z
    · simp [h]
    · have h2 : z ≠ a := fun e => h e.symm
      simp [h, h2, ← ih]
theorem Sy.place_no {z : Int} {l : List Int} (h : z ∉ l) : Sy.place z l = l.length := by
  have h1 := Sy.place_le z l
  have h2 : ¬ Sy.place z l < l.length := fun e => h (Sy.place_mem.1 e)
  omega
theorem Tryz.lawI7 : Keyed Tryz.prog 3 := int_keyed Tryz.underlying3
theorem Tryz.zeroI7 (w : World) : (zeroValue 3).run Tryz.prog w = .ok (.int .i64 0) w := by kernel_rfl
/-- The list being made, and the map, in memory. -/
structure NumAt (w wr : World) (zs : List Int) (n i : Nat) (D : DataW Unit) (seen : List Int) : Prop where
  arr : Arr 3 w wr (w.heap.size + 1) (natC (Sy.canonG [] (zs.take i)) ++ List.replicate (n - i) (.int .i64 0))
  own : wr.ownsMap (H := Unit) Tryz.prog 3 (plainElem Tryz.prog 3) w.heap.size seen.length D
  map : MapI D seen
theorem Sy.top_canonG (l : List Int) : ∀ seen : List Int, max seen.length (Sy.top (Sy.canonG seen l)) = (Sy.seenG seen l).length := by
  induction l with
  | nil => intro seen; simp [Sy.canonG, Sy.top, Sy.seenG]
  | cons c r ih =>
    intro seen
    simp only [Sy.canonG, Sy.top, Sy.seenG]
    rw [← ih]
    have h1 := Sy.place_le c seen
    split <;> (try simp) <;> omega
theorem Sy.together_eq (zs : List Int) : Sy.together zs = (Sy.seenG [] zs).length := by
  rw [← Sy.top_canonG zs []]
  simp [Sy.together, Sy.canon]
theorem arr_mapTurn {w wr w3 : World} {gi : Nat} {vs : List Value} {bm : Nat} (h : Arr 3 w wr gi vs) (hg : wr.grownBy w3 (some bm)) (hb : w.heap.size ≤ bm) (hne : bm ≠ gi) : Arr 3 w w3 gi vs :=
  h.kept (Kept.of_grown hg) fun b e => by injection e with e; subst e; exact ⟨hb, hne⟩
theorem num_step {w w3 w4 : World} {zs : List Int} {n i k : Nat} {D2 : DataW Unit} {seen s2 : List Int} {z : Int} (hz : zs[i]? = some z) (hi : i < n) (hn : n = zs.length) (hs : seen = Sy.seenG [] (zs.take i)) (hA : Arr 3 w w3 (w.heap.size + 1) (natC (Sy.canonG [] (zs.take i)) ++ List.replicate (n - i) (.int .i64 0)))
    (hk : k = Sy.place z seen) (h4 : w4 = w3.setCell ⟨w.heap.size + 1, i, none⟩ (.int .i64 (k : Int))) (ho : w3.ownsMap (H := Unit) Tryz.prog 3 (plainElem Tryz.prog 3) w.heap.size s2.length D2) (hm : MapI D2 s2) :
    NumAt w w4 zs n (i + 1) D2 s2 := by
  subst h4
  have hC : (Sy.canonG [] (zs.take i)).length = i := by rw [Sy.canonG_len, List.length_take]; omega
  have hAs := hA.set i (.int .i64 (k : Int))
  rw [natC_step _ n i k hC hi] at hAs
  refine ⟨?_, ho.setCell (by simp) _, hm⟩
  rw [Sy.canon_step hz, ← hs, ← hk]
  exact hAs
set_option maxRecDepth 100000 in
set_option maxHeartbeats 8000000 in
theorem numbered_any (v : Value) (zs : List Int) (w : World) (hv : HasI w v zs) (hn : zs.length ≤ 100000) (hw : I64s zs) :
    Calls Tryz.prog 90 #[v] w fun e w' => ∃ u, e = .returned (.tuple #[u, .int .i64 (Sy.together zs : Nat)]) ∧ OwnI w' w.heap.size u (natI (Sy.canon zs)) ∧ Below w.heap.size w w' := by
  obtain ⟨ao, cap, rfl, hcs⟩ := hv
  obtain ⟨n, hN⟩ : ∃ n, n = zs.length := ⟨_, rfl⟩
  have HH : Hid _ := And.intro hcs (And.intro hN hw)
  rw [← hN] at hn ⊢
  clear hcs hN hw
  have hmm := @run_makeMap Tryz.prog
  have hmk := makeI n (by omega) (w.alloc (.map #[] 0))
  go_enter Tryz.func90, Tryz.ntmps90
  go_wp2_with fail
  clear hmk hmm
  go_loopg [16] n (fun q iv wr => ∃ (i : Nat) (D : DataW Unit) (seen : List Int), q = n - i ∧ i ≤ n ∧ iv = .int .i64 i ∧ seen = Sy.seenG [] (zs.take i) ∧ NumAt w wr zs n i D seen)
  case atStart =>
    refine ⟨0, .map [], [], rfl, Nat.zero_le _, rfl, by simp [Sy.seenG], ?_, ?_, MapI.nil⟩
    · have h1 := arr_new 3 (.int .i64 0) rfl n (w.alloc (.map #[] 0))
      have h2 := h1.back ((Below.refl _ w).alloc (Nat.le_refl _) _)
      simpa [Sy.canonG, natC] using h2
    · have := World.ownsMap_made (H := Unit) w Tryz.prog 3 (plainElem Tryz.prog 3)
      exact this.alloc _
  case round =>
    obtain ⟨i, D, seen, rfl, hi, rfl, hseen, hM⟩ := hrel
    by_cases hlt : i < n
    · obtain ⟨z, hz⟩ : ∃ z, zs[i]? = some z := ⟨zs[i]'(by have := HH.out.2.1; omega), List.getElem?_eq_getElem _⟩
      obtain ⟨a, rfl, c0⟩ := HH.out.1 i z hz
      have cz : wr.cell? (a.add i) = some (.int .i64 z) := (hM.arr.bl.cell (World.block_lt_of_cell? w _ c0)).trans c0
      have hzw : (Lit.int .i64 z).wf = true := HH.out.2.2 z (List.mem_of_getElem? hz)
      have hkey : keyOf Tryz.prog 3 (.int .i64 z) = some (.int .i64 z) := keyOf_int_mk Tryz.underlying3 hzw
      have q0 : (0 : Int) ≤ (i : Int) := by omega
      have q1 : (i : Int) < (n : Int) := by omega
      have hsl : seen.length ≤ i := by
        have := Sy.seenG_len (zs.take i) []
        rw [← hseen, List.length_take] at this
        simp at this; omega
      have hix : (natC (Sy.canonG [] (zs.take i)) ++ List.replicate (n - i) (Value.int .i64 0))[i]? = some (.int .i64 0) := by
        rw [List.getElem?_append_right (by rw [natC_len, Sy.canonG_len, List.length_take]; omega), natC_len, Sy.canonG_len, List.length_take, List.getElem?_replicate, if_pos (by have := HH.out.2.1; omega)]
      have hst := Sy.seen_step hz
      rw [← hseen] at hst
      by_cases hin : z ∈ seen
      · obtain ⟨hy1, hy2⟩ := hM.map.yes _ z (Sy.place_at hin)
        have cx := hM.arr.cell hix
        have cf := hM.arr.free i
        rw [if_pos (Sy.place_mem.2 hin)] at hst
        have HO : Hid (wr.ownsMap (H := Unit) Tryz.prog 3 (plainElem Tryz.prog 3) w.heap.size seen.length D) := hM.own
        have HY : Hid (D.atKey (.int .i64 z) (.lit (.int .i64 0)) = .lit (.int .i64 (Sy.place z seen : Nat))) := hy2
        have HM : Hid _ := And.intro hM (And.intro hseen (And.intro hz hst))
        clear hM hseen hz hst hy2 hix c0 hin hzw
        obtain ⟨k, hk⟩ : ∃ k, k = Sy.place z seen := ⟨_, rfl⟩
        rw [← hk] at HY
        have HK : Hid (k = Sy.place z seen) := hk
        clear hk
        go_wp2_with (at_lookup; refine wpList_lookup_own_ok_int _ rfl _ _ 174 rfl 3 3 .i64 Tryz.lawI7 Tryz.underlying174 Tryz.underlying3 (Tryz.zeroI7 _) w.heap.size seen.length D rfl HO.out _ _ rfl hkey ?_; rw [hy1]; intro c hat hwc; obtain rfl : c = (k : Int) := (by rw [HY.out] at hat; injection hat with hat; injection hat with _ hat; exact hat.symm); clear hat hwc)
        go_roundg (n - (i + 1))
        case measure => omega
        case rel =>
          exact ⟨i + 1, D, seen, rfl, by omega, by go_num, HM.out.2.2.2.symm, num_step HM.out.2.2.1 hlt HH.out.2.1 HM.out.2.1 HM.out.1.arr HK.out rfl HO.out HM.out.1.map⟩
      · have hy1 := hM.map.no z hin
        rw [if_neg fun e => hin (Sy.place_mem.1 e)] at hst
        have HO : Hid (wr.ownsMap (H := Unit) Tryz.prog 3 (plainElem Tryz.prog 3) w.heap.size seen.length D) := hM.own
        have hml : seen.length < maxLen := by unfold maxLen; omega
        have hsz : Maps.size D = seen.length := hM.map.size
        obtain ⟨m, hm⟩ : ∃ m, m = seen.length := ⟨_, rfl⟩
        have HM : Hid _ := And.intro hM (And.intro hseen (And.intro hz (And.intro hst (And.intro hin (And.intro hix hm)))))
        rw [← hm] at HO hml hsz hsl
        have hwf : (Lit.int .i64 (m : Int)).wf = true := WalkArith.wf_i64 (by omega)
        have HS : Hid _ := hsz
        clear hM hseen hz hst hix c0 hin hzw hm hsz
        go_wp2_with (first
          | (at_lookup; refine wpList_lookup_own_ok_int _ rfl _ _ 174 rfl 3 3 .i64 Tryz.lawI7 Tryz.underlying174 Tryz.underlying3 (Tryz.zeroI7 _) w.heap.size m D rfl HO.out _ _ rfl hkey ?_; rw [hy1]; intro c hat hwc; clear hat hwc)
          | (at_len; refine wpList_len_own _ rfl _ 174 rfl 3 3 Tryz.underlying174 _ w.heap.size m D rfl HO.out ?_; rw [HS.out])
          | (at_mapUpdate; refine wpList_mapUpdate_own _ rfl _ _ _ 174 rfl 3 3 Tryz.lawI7 Tryz.underlying174 _ w.heap.size m D rfl HO.out hml _ _ _ rfl rfl hkey _ [] (plainElem_int Tryz.underlying3 hwf) ?_; intro w3 hown3 hgrow3; have hA3 := arr_mapTurn HM.out.1.arr hgrow3 (Nat.le_refl _) (by omega); have cx := hA3.cell HM.out.2.2.2.2.2.1; have cf := hA3.free i; have H3 : Hid _ := And.intro hA3 hown3; clear hA3 hown3 hgrow3))
        go_roundg (n - (i + 1))
        case measure => omega
        case rel =>
          have hm := HM.out.2.2.2.2.2.2
          have h3 := H3.out.2
          have hmp := HM.out.1.map.snoc HM.out.1.own.isMap (HM.out.1.own.tidy Tryz.lawI7) z HM.out.2.2.2.2.1
          rw [← hm] at hmp
          have el : m + 1 = (seen ++ [z]).length := by simp [hm]
          rw [el] at h3
          exact ⟨i + 1, _, seen ++ [z], rfl, by omega, by go_num, HM.out.2.2.2.1.symm, num_step HM.out.2.2.1 hlt HH.out.2.1 HM.out.2.1 H3.out.1 (by rw [Sy.place_no HM.out.2.2.2.2.1, hm]) rfl h3 hmp⟩
    · obtain rfl : i = n := by omega
      have hsz : Maps.size D = seen.length := hM.map.size
      have HO : Hid (wr.ownsMap (H := Unit) Tryz.prog 3 (plainElem Tryz.prog 3) w.heap.size seen.length D) := hM.own
      have HM : Hid _ := And.intro hM (And.intro hseen hsz)
      obtain ⟨m, hm⟩ : ∃ m, m = seen.length := ⟨_, rfl⟩
      rw [← hm] at HO
      have HS : Hid (Maps.size D = m) := hsz.trans hm.symm
      have HN : Hid _ := hm
      clear hM hseen hsz hm
      go_wp2_with (at_len; refine wpList_len_own _ rfl _ 174 rfl 3 3 Tryz.underlying174 _ w.heap.size m D rfl HO.out ?_; rw [HS.out])
      go_ret2
      have hA := HM.out.1.arr
      have hl : i = zs.length := HH.out.2.1
      rw [hl, Nat.sub_self, List.replicate_zero, List.append_nil, List.take_length] at hA
      have how := (hA.own (by rw [natC_len, Sy.canonG_len]; unfold maxLen; omega))
      rw [natC_len, Sy.canonG_len] at how
      refine ⟨.slice (some ⟨w.heap.size + 1, 0, none⟩) zs.length zs.length, by rw [HN.out, HM.out.2.1, hl, List.take_length, ← Sy.together_eq]; rfl, ?_, HM.out.1.arr.bl⟩
      unfold OwnI
      rw [iC_nat, show (natI (Sy.canon zs)).length = zs.length by simp [natI, Sy.canon, Sy.canonG_len]]
      exact how
end Go.Proofs.YtpmanmoljlhogaaGreatDoor
