/- Texts of this claim, joined: SyRep, RoDs0, RoDs, RoDSame, RoDNext0, RoRanks0. -/
import Derived.Test.YtpmanmoljlhogaaGreatDoorPart2
import Derived.Laws.IdiomCopy
import Derived.Deep.LoopGhost
import Derived.WalkSmall
import Derived.Deep.DrawnRows
import Derived.Test.YtpmanmoljlhogaaGreatDoorPart3
import Derived.Deep.AppendLies
import Derived.Maps.AppendAt
import Derived.RangeFuncBox
import Derived.BigQuiet
import Derived.Test.YtpmanmoljlhogaaGreatDoorPart11
import Derived.Test.YtpmanmoljlhogaaGreatDoorPart12
/- Contract of slices.Repeat of one number. -/
namespace Go.Proofs.YtpmanmoljlhogaaGreatDoor
open Go.RowKit Go.Maps
attribute [local go_sem ↓] Go.wp_at_zero Go.wp_at_succ
/-- So many copies, and noughts behind them. -/
def repV (n c : Nat) : List Value := List.replicate c (.int .i64 (-1)) ++ List.replicate (n - c) (.int .i64 0)
theorem repV_len {n c : Nat} (h : c ≤ n) : (repV n c).length = n := by simp [repV]; omega
theorem repV_at {n c j : Nat} (h : j < c) : (repV n c)[j]? = some (.int .i64 (-1)) := by
  unfold repV
  rw [List.getElem?_append_left (by simpa using h), List.getElem?_replicate, if_pos h]
theorem arr_setCells {ty : TypeId} {w : World} {g : Nat} : ∀ (zs vs : List Value) (o : Nat) (wr : World), Arr ty w wr g vs → Arr ty w (wr.setCells g o zs) g ((List.range zs.length).foldl (fun l j => l.set (o + j) ((zs[j]?).getD (.int .i64 0))) vs) := by
  intro zs
  induction zs with
  | nil => intro vs o wr h; exact h
  | cons z r ih =>
    intro vs o wr h
    have h1 := ih (vs.set o z) (o + 1) (wr.setCell ⟨g, o, none⟩ z) (h.set o z)
    show Arr ty w ((wr.setCell ⟨g, o, none⟩ z).setCells g (o + 1) r) g _
    rw [List.length_cons, List.range_succ_eq_map, List.foldl_cons, List.foldl_map]
    have e : (fun (l : List Value) (j : Nat) => l.set (o + (j + 1)) (((z :: r)[j + 1]?).getD (.int .i64 0))) = fun l j => l.set (o + 1 + j) ((r[j]?).getD (.int .i64 0)) := by
      funext l j
      rw [show o + (j + 1) = o + 1 + j by omega]
      rfl
    rw [show (fun (l : List Value) (j : Nat) => l.set (o + j.succ) (((z :: r)[j.succ]?).getD (.int .i64 0))) = _ from e]
    simpa using h1
theorem repV_fill (n c : Nat) : ∀ d, c + d ≤ n → (List.range d).foldl (fun l j => l.set (c + j) (((List.replicate d (Value.int .i64 (-1)))[j]?).getD (.int .i64 0))) (repV n c) = repV n (c + d) := by
  intro d hd
  suffices h : ∀ q, q ≤ d → (List.range q).foldl (fun l j => l.set (c + j) (((List.replicate d (Value.int .i64 (-1)))[j]?).getD (.int .i64 0))) (repV n c) = repV n (c + q) from h d (Nat.le_refl _)
  intro q
  induction q with
  | zero => intro _; rfl
  | succ q ih =>
    intro hq
    rw [List.range_succ, List.foldl_append, ih (by omega), List.foldl_cons, List.foldl_nil, List.getElem?_replicate, if_pos (by omega)]
    apply List.ext_getElem?
    intro j
    rw [List.getElem?_set]
    unfold repV
    simp only [Option.getD_some]
    by_cases hj : c + q = j
    · subst hj
      rw [if_pos rfl, if_pos (by simp; omega), List.getElem?_append_left (by simp), List.getElem?_replicate, if_pos (by omega)]
    · rw [if_neg hj]
      by_cases h1 : j < c + q
      · rw [List.getElem?_append_left (by simpa using h1), List.getElem?_append_left (by simp; omega), List.getElem?_replicate, List.getElem?_replicate, if_pos h1, if_pos (by omega)]
      · rw [List.getElem?_append_right (by simp; omega), List.getElem?_append_right (by simp; omega), List.getElem?_replicate, List.getElem?_replicate]
        simp only [List.length_replicate]
        by_cases h2 : j < n
        · rw [if_pos (by omega), if_pos (by omega)]
        · rw [if_neg (by omega), if_neg (by omega)]
theorem Arr.rep {w wr : World} {g n c : Nat} (h : Arr 3 w wr g (repV n c)) (d : Nat) (hd : c + d ≤ n) : Arr 3 w (wr.setCells g c (List.replicate d (.int .i64 (-1)))) g (repV n (c + d)) := by
  have h1 := arr_setCells (List.replicate d (.int .i64 (-1))) _ c wr h
  rw [List.length_replicate, repV_fill n c d hd] at h1
  exact h1
theorem Tryz.inI : (Tryz.prog.info? 3).map (·.size) = some 1 := by kernel_rfl
set_option maxRecDepth 100000 in
set_option maxHeartbeats 4000000 in
theorem repeat_any (g0 n : Nat) (w : World) (hn : n ≤ 1000000) (h0 : w.cell? ⟨g0, 0, none⟩ = some (.int .i64 (-1))) :
    Calls Tryz.prog 84 #[.slice (some ⟨g0, 0, none⟩) 1 1, .int .i64 n] w fun r w' => ∃ g, r = .returned (.slice (some ⟨g, 0, none⟩) n n) ∧ Arr 3 w w' g (List.replicate n (.int .i64 (-1))) := by
  have hMul : ∀ W, Calls Tryz.prog 121 #[.int .u64 1, .int .u64 n] W fun e w' => e = .returned (.tuple #[.int .u64 0, .int .u64 n]) ∧ w' = W := fun W => by
    have h := Tryz.bits_Mul 1 n (by omega) (by omega) W
    have e1 : 1 * n / 18446744073709551616 = 0 := by omega
    have e2 : 1 * n % 18446744073709551616 = n := by omega
    rw [e1, e2] at h
    exact h
  have hmk := makeI n hn w
  obtain ⟨w1, hw1⟩ : ∃ w1, w1 = w.alloc (.cells (madeV (.int .i64 0) n) 3) := ⟨_, rfl⟩
  have hA1 := arr_new 3 (.int .i64 0) rfl n w
  rw [← hw1] at hmk hA1
  have hA1 : Arr 3 w w1 w.heap.size (repV n 0) := by unfold repV; simpa using hA1
  have h1 := cell_up h0 hA1.bl
  obtain ⟨w2, hc2, hA2⟩ : ∃ w2, (∀ ty, (Builtin.copy_ #[57, 57] ty #[.slice (some ⟨w.heap.size, 0, none⟩) n n, .slice (some ⟨g0, 0, none⟩) 1 1]).run Tryz.prog w1 = .ok (.int .i64 ((min n 1 : Nat) : Int)) w2) ∧ Arr 3 w w2 w.heap.size (repV n (min n 1)) := by
    by_cases hz : n = 0
    · subst hz
      exact ⟨w1, fun ty => run_copy_none (P := Tryz.prog) w1 _ _ ty 3 _ _ 0 0 1 1 Tryz.underlying57 Tryz.inI (by decide), hA1⟩
    · have e1 : min n 1 = 1 := by omega
      rw [e1]
      refine ⟨w1.setCells w.heap.size 0 (List.replicate 1 (.int .i64 (-1))), fun ty => ?_, by have := hA1.rep 1 (by omega); simpa using this⟩
      have h := run_copy_cells (P := Tryz.prog) w1 57 57 ty 3 w.heap.size 0 n n ⟨g0, 0, none⟩ 1 1 (List.replicate 1 (.int .i64 (-1))) Tryz.underlying57 Tryz.inI (by show 1 = Nat.min 1 n; exact (Nat.min_eq_left (by omega)).symm) (fun j x hx => by
        have hj : j = 0 := by have := (List.getElem?_eq_some_iff.1 hx).1; simpa using this
        subst hj
        have hx2 : x = .int .i64 (-1) := by simpa using hx.symm
        rw [hx2]; exact h1) (fun j hj => by
        have hj0 : j = 0 := by simpa using hj
        subst hj0
        obtain ⟨x, hx⟩ : ∃ x, (repV n 0)[0]? = some x := ⟨_, List.getElem?_eq_getElem (by rw [repV_len (Nat.zero_le _)]; omega)⟩
        rw [hA1.cell hx]; rfl) (fun j _ => hA1.free _) (fun v hv => by rw [List.eq_of_mem_replicate hv]; rfl)
      exact h
  have u1 : IntKind.u64.wrap (n : Int) = (n : Int) := by rw [IntKind.wrap_u64]; omega
  have u2 : IntKind.i64.wrap (n : Int) = (n : Int) := by rw [IntKind.wrap_i64]; omega
  have q1 : ¬ (n : Int) < 0 := by omega
  have q2 : ¬ (9223372036854775807 : Int) < (n : Int) := by omega
  have HM : Hid _ := And.intro hMul (And.intro hA2 hw1)
  clear hMul hA1 hA2 hw1 h0 h1
  go_enter Tryz.func84, Tryz.ntmps84
  go_wp2_with (go_at_call 121; refine Calls.mono (HM.out.1 _) ?_; rintro r w9 ⟨rfl, hw9⟩; obtain rfl := hw9.symm; clear hw9)
  go_loopg [8] (n - min n 1) (fun q cv wr => ∃ c : Nat, q = n - c ∧ c ≤ n ∧ (n = 0 ∨ 0 < c) ∧ cv = .int .i64 c ∧ Arr 3 w wr w.heap.size (repV n c))
  case atStart => exact ⟨min n 1, rfl, Nat.min_le_left _ _, by omega, rfl, HM.out.2.1⟩
  case round =>
    obtain ⟨c, rfl, hcn, hpos, rfl, hA⟩ := hrel
    clear hmk hc2
    by_cases hlt : c < n
    · obtain ⟨d, hd⟩ : ∃ d, d = min c (n - c) := ⟨_, rfl⟩
      have hd1 : d ≤ n - c := by omega
      have hd2 : 0 < d := by omega
      have hd3 : d ≤ c := by omega
      have hAd : Arr 3 w wr.drew w.heap.size (repV n c) := hA.below (Below.refl _ _).drew
      have hcp : ∀ ty, (Builtin.copy_ #[57, 57] ty #[.slice (some ⟨w.heap.size, c, none⟩) (n - c) (n - c), .slice (some ⟨w.heap.size, 0, none⟩) c n]).run Tryz.prog wr.drew = .ok (.int .i64 ((d : Nat) : Int)) (wr.drew.setCells w.heap.size c (List.replicate d (.int .i64 (-1)))) := fun ty => by
        have h := run_copy_cells (P := Tryz.prog) wr.drew 57 57 ty 3 w.heap.size c (n - c) (n - c) ⟨w.heap.size, 0, none⟩ c n (List.replicate d (.int .i64 (-1))) Tryz.underlying57 Tryz.inI (by rw [List.length_replicate, hd]) (fun j x hx => by
          have hj : j < d := by have := (List.getElem?_eq_some_iff.1 hx).1; simpa using this
          have hx2 : x = .int .i64 (-1) := by rw [List.getElem?_replicate, if_pos hj] at hx; exact (Option.some.inj hx).symm
          rw [hx2, addz]
          exact hAd.cell (repV_at (by omega))) (fun j hj => by
          rw [List.length_replicate] at hj
          obtain ⟨x, hx⟩ : ∃ x, (repV n c)[c + j]? = some x := ⟨_, List.getElem?_eq_getElem (by rw [repV_len hcn]; omega)⟩
          rw [hAd.cell hx]; rfl) (fun j _ => hAd.free _) (fun v hv => by rw [List.eq_of_mem_replicate hv]; rfl)
        rw [List.length_replicate] at h
        exact h
      have hA3 := hAd.rep d (by omega)
      have p0 : (0 : Int) ≤ (c : Int) := by omega
      have p1 : (c : Int) < (n : Int) := by omega
      have p2 : (c : Int) ≤ (n : Int) := by omega
      have p3 : ¬ n = c := by omega
      have H3 : Hid _ := hA3
      clear hA hAd hA3 hd
      go_wp2_with fail
      go_region
      all_goals go_wp2_with fail
      all_goals
        go_roundg (n - (c + d))
        case measure => omega
        case rel => exact ⟨c + d, rfl, by omega, by omega, by go_num, by first | exact H3.out | exact H3.out.below (Below.refl _ _).drew⟩
    · obtain rfl : c = n := by omega
      have p1 : ¬ (c : Int) < (c : Int) := by omega
      have H3 : Hid _ := hA
      clear hA
      go_wp2_with fail
      go_ret
      refine ⟨_, rfl, ?_⟩
      have h9 := H3.out
      unfold repV at h9
      simpa using h9
end Go.Proofs.YtpmanmoljlhogaaGreatDoor
/- The document's insertion of a number into rising numbers: plain facts, and what it writes. -/
namespace Go.Proofs.YtpmanmoljlhogaaGreatDoor
open Go.RowKit Go.Maps
/-- A number's place is found: the list is as it will be. -/
def Ro.putAt (O : List Int) (k : Nat) (v : Int) : List Int := O.take k ++ v :: O.drop k
theorem Ro.putAt_len {O : List Int} {k : Nat} (v : Int) (h : k ≤ O.length) : (Ro.putAt O k v).length = O.length + 1 := by
  simp [Ro.putAt]; omega
theorem Ro.putAt_end (O : List Int) (v : Int) : Ro.putAt O O.length v = O ++ [v] := by simp [Ro.putAt]
theorem Ro.putAt_at {O : List Int} {k : Nat} (v : Int) (h : k ≤ O.length) : (Ro.putAt O k v)[k]? = some v := by
  unfold Ro.putAt
  rw [List.getElem?_append_right (by simp; omega), List.length_take, Nat.min_eq_left h, Nat.sub_self]; rfl
theorem Ro.putAt_ahead {O : List Int} {k j : Nat} (v : Int) (h : k ≤ O.length) (hj : j < k) : (Ro.putAt O k v)[j]? = O[j]? := by
  unfold Ro.putAt
  rw [List.getElem?_append_left (by simp; omega), List.getElem?_take_of_lt hj]
theorem Ro.putAt_set {O : List Int} {k : Nat} (v u : Int) (h : k ≤ O.length) : (Ro.putAt O k v).set k u = Ro.putAt O k u := by
  unfold Ro.putAt
  rw [List.set_append_right _ _ (by simp; omega), List.length_take, Nat.min_eq_left h, Nat.sub_self, List.set_cons_zero]
/-- A number moves up by one place. -/
theorem Ro.putAt_up {O : List Int} {j : Nat} (v y : Int) (h : O[j]? = some y) : (Ro.putAt O (j + 1) v).set (j + 1) y = Ro.putAt O j y := by
  have hl := (List.getElem?_eq_some_iff.1 h).1
  rw [Ro.putAt_set _ _ (by omega)]
  unfold Ro.putAt
  rw [take_succ_of h, List.append_assoc]
  congr 1
  obtain ⟨_, rfl⟩ := List.getElem?_eq_some_iff.1 h
  rw [List.drop_eq_getElem_cons hl]; rfl
/-- The numbers behind a place are greater, that ahead of it is less: there the number goes. -/
theorem Ro.putAt_rise {O : List Int} {k : Nat} {v : Int} (hO : Ro.Rise O) (hk : k ≤ O.length) (h1 : ∀ (j : Nat) (y : Int), k ≤ j → O[j]? = some y → v < y) (h2 : ∀ (j : Nat) (y : Int), k = j + 1 → O[j]? = some y → y < v) : Ro.Rise (Ro.putAt O k v) := by
  have hT : ∀ x ∈ O.take k, x < v := fun x hx => by
    cases k with
    | zero => simp at hx
    | succ j =>
      obtain ⟨y, hy⟩ : ∃ y, O[j]? = some y := ⟨O[j]'(by omega), List.getElem?_eq_getElem _⟩
      have h3 := h2 j y rfl hy
      rw [take_succ_of hy] at hx
      rcases List.mem_append.1 hx with hx | hx
      · have h4 : Ro.Rise (O.take (j + 1)) := List.Pairwise.sublist (List.take_sublist _ _) hO
        rw [take_succ_of hy] at h4
        have := (List.pairwise_append.1 h4).2.2 x hx y List.mem_cons_self
        omega
      · rw [List.mem_singleton.1 hx]; exact h3
  have hD : ∀ x ∈ O.drop k, v < x := fun x hx => by
    obtain ⟨i, hi⟩ := List.mem_iff_getElem?.1 hx
    rw [List.getElem?_drop] at hi
    exact h1 (k + i) x (by omega) hi
  unfold Ro.putAt Ro.Rise
  refine List.pairwise_append.2 ⟨List.Pairwise.sublist (List.take_sublist _ _) hO, List.pairwise_cons.2 ⟨hD, List.Pairwise.sublist (List.drop_sublist _ _) hO⟩, fun a ha b hb => ?_⟩
  rcases List.mem_cons.1 hb with rfl | hb
  · exact hT a ha
  · have := hT a ha; have := hD b hb; omega
theorem Ro.putAt_mem {O : List Int} {k : Nat} {v x : Int} : x ∈ Ro.putAt O k v ↔ x ∈ O ∨ x = v := by
  have h : x ∈ O ↔ x ∈ O.take k ∨ x ∈ O.drop k := by rw [← List.mem_append, List.take_append_drop]
  unfold Ro.putAt
  rw [List.mem_append, List.mem_cons, h]
  constructor
  · rintro (h | h | h) <;> simp [h]
  · rintro ((h | h) | h) <;> simp [h]
theorem Ro.sd_put {E : List Int} {k : Nat} {v : Int} (hk : k ≤ (Ro.sd E).length) (h1 : ∀ (j : Nat) (y : Int), k ≤ j → (Ro.sd E)[j]? = some y → v < y) (h2 : ∀ (j : Nat) (y : Int), k = j + 1 → (Ro.sd E)[j]? = some y → y < v) : Ro.putAt (Ro.sd E) k v = Ro.sd (E ++ [v]) :=
  Ro.sd_of (Ro.putAt_rise (Ro.sd_rise E) hk h1 h2) fun x => by rw [Ro.putAt_mem, Ro.mem_sd]; simp
theorem Ro.sd_in {E : List Int} {v : Int} (h : v ∈ Ro.sd E) : Ro.sd (E ++ [v]) = Ro.sd E := Ro.sd_eq.2 fun x => by
  have h1 := Ro.mem_sd.1 h
  simp only [List.mem_append, List.mem_singleton]
  exact ⟨fun h2 => h2.elim id fun e => by rw [e]; exact h1, .inl⟩
theorem OwnI.put {w : World} {B g n cap : Nat} {zs : List Int} (h : OwnI w B (.slice (some ⟨g, 0, none⟩) n cap) zs) (hn : n = zs.length) (j : Nat) (u : Int) : OwnI (w.setCell ⟨g, j, none⟩ (.int .i64 u)) B (.slice (some ⟨g, 0, none⟩) n cap) (zs.set j u) := by
  subst hn
  have h1 := (World.ownsRow.stored h j (.int .i64 u)).1
  unfold OwnI
  rw [List.length_set, show iC (zs.set j u) = (iC zs).set j (.int .i64 u) by simp [iC, List.map_set]]
  exact h1
theorem OwnI.free {w : World} {B g n cap : Nat} {zs : List Int} (h : OwnI w B (.slice (some ⟨g, 0, none⟩) n cap) zs) (hn : n = zs.length) (j : Nat) : w.frozen? ⟨g, j, none⟩ = false := by
  subst hn
  exact World.ownsRow.frozenAt h j
end Go.Proofs.YtpmanmoljlhogaaGreatDoor
/- Contract of the document's signature: the ends of steps as rising numbers, each once. -/
namespace Go.Proofs.YtpmanmoljlhogaaGreatDoor
open Go.RowKit Go.Maps
attribute [local go_sem ↓] Go.wp_at_zero Go.wp_at_succ
set_option maxRecDepth 100000 in
set_option maxHeartbeats 8000000 in
theorem docSig_any (n : Nat) (c : List Nat) (zs : List Ro.St) (vs vc : Value) (w : World) (hn : n ≤ 1000) (hc : c.length = n) (hcl : ∀ u ∈ c, u < n) (hz : ∀ z ∈ zs, (0 ≤ z.1 ∧ z.1 ≤ 300) ∧ 0 ≤ z.2 ∧ z.2 < (n : Int)) (hzl : zs.length ≤ 10000) (hs : BSteps.Has w vs zs) (hv : HasI w vc (natI c)) :
    Calls Tryz.prog 92 #[vs, vc] w fun r w' => ∃ u, r = .returned u ∧ OwnI w' w.heap.size u (Ro.sd (Ro.ends 1001 c zs)) ∧ Below w.heap.size w w' := by
  obtain ⟨i0, hi0, hz0, hz1, hz2⟩ := info_parts Tryz.infoI4
  have hs0 := hs
  obtain ⟨av, cs, rfl, _⟩ := hs0
  obtain ⟨ac, cc, rfl, hcs⟩ := hv
  obtain ⟨N, hN⟩ : ∃ N, N = zs.length := ⟨_, rfl⟩
  have hcn : (natI c).length = n := by simp [natI, hc]
  rw [hcn]
  rw [← hN] at hs hzl ⊢
  have HH : Hid _ := And.intro hs (And.intro hcs (And.intro hc (And.intro hcl (And.intro hz hN))))
  clear hs hcs hc hcl hz hN hcn
  go_enter Tryz.func92, Tryz.ntmps92
  go_wp2_with fail
  go_loopg [5, 6] N (fun q uv iv wr => ∃ i : Nat, q = N - i ∧ i ≤ N ∧ iv = .int .i64 i ∧ OwnI wr w.heap.size uv (Ro.sd (Ro.ends 1001 c (zs.take i))) ∧ Below w.heap.size w wr)
  case atStart => exact ⟨0, rfl, Nat.zero_le _, rfl, World.ownsRow_nil _ _ _ _, Below.refl _ _⟩
  case round =>
    obtain ⟨i, rfl, hi, rfl, hO, hb⟩ := hrel
    obtain ⟨au, cu, hu⟩ := row_shape hO
    obtain ⟨O, hOe⟩ : ∃ O, O = Ro.sd (Ro.ends 1001 c (zs.take i)) := ⟨_, rfl⟩
    obtain ⟨M, hM⟩ : ∃ M, M = O.length := ⟨_, rfl⟩
    rw [← hOe, ← hM] at hu
    obtain rfl := hu
    rw [← hOe] at hO
    by_cases hlt : i < N
    · obtain ⟨⟨l, t0⟩, hzi⟩ : ∃ z, zs[i]? = some z := ⟨zs[i]'(by have := HH.out.2.2.2.2.2; omega), List.getElem?_eq_getElem _⟩
      have hzb := HH.out.2.2.2.2.1 _ (List.mem_of_getElem? hzi)
      simp only at hzb
      obtain ⟨t, rfl⟩ : ∃ t : Nat, t0 = (t : Int) := ⟨t0.toNat, by omega⟩
      obtain ⟨x, hx⟩ : ∃ x, c[t]? = some x := ⟨c[t]'(by have := HH.out.2.2.1; omega), List.getElem?_eq_getElem _⟩
      have hxn := HH.out.2.2.2.1 x (List.mem_of_getElem? hx)
      have hst := ends_take (n := 1001) (c := c) hzi
      have hcx : Ro.cl c (t : Int) = x := by unfold Ro.cl; rw [Int.toNat_natCast, hx]; rfl
      simp only [hcx] at hst
      obtain ⟨a, rfl, d0, d1⟩ := step_at (HH.out.1.below hb) hzi
      simp only at d0 d1
      obtain ⟨a2, rfl, d2⟩ := HH.out.2.1 t (x : Int) (by simp [natI, hx])
      have d3 : wr.cell? (a2.add t) = some (.int .i64 x) := (hb.cell (World.block_lt_of_cell? w _ d2)).trans d2
      have hMl : M ≤ 10000 := by
        have h1 := Ro.sd_len (Ro.ends 1001 c (zs.take i))
        rw [← hOe, ← hM] at h1
        have h2 : (Ro.ends 1001 c (zs.take i)).length ≤ i := by simp [Ro.ends]; omega
        omega
      have p0 : (0 : Int) ≤ (i : Int) := by omega
      have p1 : (i : Int) < (N : Int) := by omega
      have p2 : (0 : Int) ≤ (t : Int) := by omega
      have p3 : (t : Int) < (n : Int) := by omega
      have hm2 : IntKind.i64.wrap (l * 1001) = l * 1001 := by rw [IntKind.wrap_i64]; omega
      have hm3 : IntKind.i64.wrap (l * 1001 + (x : Int)) = l * 1001 + (x : Int) := by rw [IntKind.wrap_i64]; omega
      have HO0 : Hid _ := And.intro hO (And.intro hb (And.intro hst (And.intro hM hOe)))
      clear hO hb hst hM hOe hzi hx hcx d2 hzb hxn
      go_wp2_with fail
      go_quiet (fail)
      rename Nat => nq
      obtain ⟨wq, hwq⟩ : ∃ wq, wq = wr.drewN nq := ⟨_, rfl⟩
      have hbq : Below wr.heap.size wr wq := by rw [hwq]; exact below_drewN (Below.refl _ _) _
      have hOq : wq.ownsRow w.heap.size 3 1 (.slice au M cu) M (iC O) := by
        have h1 : wr.ownsRow w.heap.size 3 1 (.slice au M cu) M (iC O) := by have h1 := HO0.out.1; unfold OwnI at h1; rw [← HO0.out.2.2.2.1] at h1; exact h1
        exact trow_at h1 fun b hb => hbq.block b (h1.lt b hb).2
      have hbw : Below w.heap.size w wq := HO0.out.2.1.trans (hbq.mono HO0.out.2.1.size)
      obtain ⟨v, hv⟩ : ∃ v, v = l * 1001 + (x : Int) := ⟨_, rfl⟩
      have hst2 : Ro.ends 1001 c (zs.take (i + 1)) = Ro.ends 1001 c (zs.take i) ++ [v] := by rw [hv]; exact HO0.out.2.2.1
      have HO : Hid _ := And.intro hOq (And.intro hbw (And.intro trivial (And.intro HO0.out.2.2.2.1 (And.intro HO0.out.2.2.2.2 (congrArg Ro.sd hst2)))))
      rw [← hwq]
      rw [← hv] at hm3 ⊢
      clear hwq hbq hOq hbw hv hst2 HO0 d0 d1 d3 hm2 hm3
      go_wp2_with fail
      go_loopg [8] M (fun q kv wr => ∃ k : Nat, k = q ∧ kv = .int .i64 k ∧ wq = wr ∧ (k ≤ M ∧ ∀ (j : Nat) (y : Int), k ≤ j → O[j]? = some y → v < y))
      case atStart => exact ⟨M, rfl, rfl, rfl, Nat.le_refl _, fun j y h1 h2 => by have := (List.getElem?_eq_some_iff.1 h2).1; have := HO.out.2.2.2.1; omega⟩
      case round =>
        obtain ⟨k, rfl, rfl, rfl, hK⟩ := hrel
        have hkM : k ≤ M := hK.1
        have HK : Hid (k ≤ M ∧ ∀ (j : Nat) (y : Int), k ≤ j → O[j]? = some y → v < y) := hK
        clear hK
        by_cases hk0 : k = 0
        · have f1 : ¬ (0 : Int) < (k : Int) := by omega
          have f2 : decide ((0 : Int) < (k : Int)) = false := decide_eq_false f1
          have f3 : decide (0 < k) = false := by simp [hk0]
          have H0 : Hid (k = 0) := hk0
          clear hk0
          have hml : M + 1 ≤ maxLen := by unfold maxLen; omega
          have hby : (M + 1) * 8 ≤ 140737488355328 := by omega
          have hle : w.heap.size ≤ (wq.alloc (.cells #[.int .i64 0] 3)).heap.size := by have := HO.out.2.1.size; simp; omega
          have e7 : IntKind.i64.wrap ((M : Int) + 1 - 1) = (M : Int) := by rw [IntKind.wrap_i64]; omega
          have e8 : (M : Int) + 1 - 1 = (M : Int) := by omega
          have e9 : IntKind.i64.wrap (M : Int) = (M : Int) := by rw [IntKind.wrap_i64]; omega
          go_wp2_with (at_builtin; refine wpList_append_own_at _ rfl _ _ 57 rfl w.heap.size 3 i0 (.int .i64 0) 1 8 Tryz.underlying57 hi0 hz0 hz1 hz2 rfl (by decide) (.slice au M cu) M (iC O) rfl (HO.out.1.alloc _) ⟨wq.heap.size, 0, none⟩ 1 1 [.int .i64 0] rfl rfl (World.news_of_block (cs := #[.int .i64 0]) (t := 3) (fr := (0, 0)) (heap_alloc_new wq _)) (by simp [Value.oneCell']) hml hby hle ?_; intro v5 w5 hO5 hg5 hnil5 hat5; obtain ⟨g5, cap5, rfl⟩ := ownsRow_succ hO5; have H5 : Hid _ := And.intro hO5 hg5; clear hO5 hg5 hnil5 hat5)
          have hO5 : OwnI w5 w.heap.size (.slice (some ⟨g5, 0, none⟩) (M + 1) cap5) (Ro.putAt O M 0) := by
            have h1 := H5.out.1
            rw [HO.out.2.2.2.1, Ro.putAt_end, ← HO.out.2.2.2.1]
            unfold OwnI
            rw [iC_snoc, List.length_append, ← HO.out.2.2.2.1]
            exact h1
          have hb5 : Below w.heap.size w w5 := HO.out.2.1.trans ((grown_alloc H5.out.2).below HO.out.2.1.size fun b hb => (HO.out.1.lt b hb).1)
          have H6 : Hid _ := And.intro hO5 hb5
          clear hO5 hb5 H5
          go_loopg [9] M (fun q jv wr => ∃ (j : Nat) (X : Int), j = q ∧ k ≤ j ∧ j ≤ M ∧ jv = .int .i64 j ∧ OwnI wr w.heap.size (.slice (some ⟨g5, 0, none⟩) (M + 1) cap5) (Ro.putAt O j X) ∧ Below w.heap.size w wr)
          case atStart => exact ⟨M, 0, rfl, HK.out.1, Nat.le_refl _, rfl, H6.out.1, H6.out.2⟩
          case round =>
            obtain ⟨j, X, rfl, hkj, hjM, rfl, hOj, hbj⟩ := hrel
            have hpl : (Ro.putAt O j X).length = M + 1 := by rw [Ro.putAt_len _ (by have := HO.out.2.2.2.1; omega), ← HO.out.2.2.2.1]
            by_cases hjk : k < j
            · obtain ⟨j', hj'⟩ : ∃ j', j = j' + 1 := ⟨j - 1, by omega⟩
              obtain ⟨y, hy⟩ : ∃ y, O[j']? = some y := ⟨O[j']'(by have := HO.out.2.2.2.1; omega), List.getElem?_eq_getElem _⟩
              have hy2 : (Ro.putAt O j X)[j']? = some y := by rw [Ro.putAt_ahead _ (by have := HO.out.2.2.2.1; omega) (by omega)]; exact hy
              have cy := hOj.cell hy2
              have cj := hOj.cell (Ro.putAt_at X (by have := HO.out.2.2.2.1; omega))
              have cf := hOj.free hpl.symm j
              have hOs := hOj.put hpl.symm j y
              rw [hj', Ro.putAt_up _ _ hy, ← hj'] at hOs
              have t1 : (k : Int) < (j : Int) := by omega
              have t2 : decide ((k : Int) < (j : Int)) = true := decide_eq_true t1
              have t3 : IntKind.i64.wrap ((j : Int) - 1) = (j' : Int) := by rw [IntKind.wrap_i64]; omega
              have t4 : (j : Int) - 1 = (j' : Int) := by omega
              have t5 : IntKind.i64.wrap (j' : Int) = (j' : Int) := by rw [IntKind.wrap_i64]; omega
              have t6 : (0 : Int) ≤ (j' : Int) := by omega
              have t7 : (j' : Int) < ((M + 1 : Nat) : Int) := by omega
              have t8 : (0 : Int) ≤ (j : Int) := by omega
              have t9 : (j : Int) < ((M + 1 : Nat) : Int) := by omega
              have u7 : (j' : Int) < (M : Int) + 1 := by omega
              have u9 : (j : Int) < (M : Int) + 1 := by omega
              have HJ : Hid _ := And.intro hOs (And.intro hbj (And.intro hj' (And.intro hkj hjM)))
              have hgB : w.heap.size ≤ g5 := (hOj.lt g5 rfl).1
              clear hOs hbj hOj hj' hy hy2 hpl
              go_wp2_with fail
              go_roundg j'
              case measure => have := HJ.out.2.2.1; omega
              case rel =>
                exact ⟨j', y, rfl, by have := HJ.out.2.2.1; omega, by have := HJ.out.2.2.1; omega, rfl, HJ.out.1, HJ.out.2.1.setCell hgB _⟩
            · obtain ⟨cj, hcj⟩ : ∃ x, (Ro.putAt O j X)[j]? = some x := ⟨X, Ro.putAt_at X (by have := HO.out.2.2.2.1; omega)⟩
              have hjk2 : j = k := by omega
              have cj2 := hOj.cell hcj
              have cf := hOj.free hpl.symm j
              have hOs := hOj.put hpl.symm j v
              rw [Ro.putAt_set _ _ (by have := HO.out.2.2.2.1; omega), hjk2, HO.out.2.2.2.2.1, Ro.sd_put (by rw [← HO.out.2.2.2.2.1, ← HO.out.2.2.2.1]; exact HK.out.1) (by rw [← HO.out.2.2.2.2.1]; exact HK.out.2) (by rw [← HO.out.2.2.2.2.1]; exact (fun j y h1 _ => by have := H0.out; omega)), ← HO.out.2.2.2.2.2] at hOs
              rw [hjk2] at cj2 cf
              have t1 : ¬ (k : Int) < (k : Int) := by omega
              have t2 : decide ((k : Int) < (k : Int)) = false := decide_eq_false t1
              have t8 : (0 : Int) ≤ (k : Int) := by omega
              have t9 : (k : Int) < ((M + 1 : Nat) : Int) := by have := HK.out.1; omega
              have u9 : (k : Int) < (M : Int) + 1 := by omega
              have HJ : Hid _ := And.intro hOs hbj
              have hgB : w.heap.size ≤ g5 := (hOj.lt g5 rfl).1
              subst hjk2
              clear hOs hbj hOj hcj hpl
              go_wp2_with fail
              go_roundg (N - (i + 1))
              case measure => omega
              case rel => exact ⟨i + 1, rfl, by omega, by go_num, HJ.out.1, HJ.out.2.setCell hgB _⟩
        · obtain ⟨m, hm⟩ : ∃ m, k = m + 1 := ⟨k - 1, by omega⟩
          obtain ⟨y, hy⟩ : ∃ y, O[m]? = some y := ⟨O[m]'(by have := HO.out.2.2.2.1; omega), List.getElem?_eq_getElem _⟩
          have hOI : OwnI wq w.heap.size (.slice au M cu) O := by unfold OwnI; rw [← HO.out.2.2.2.1]; exact HO.out.1
          obtain ⟨ao2, cap2, hv2, hc2⟩ := hOI.has
          injection hv2 with e1 e2 e3
          subst e1
          obtain ⟨b, rfl, cy⟩ := hc2 m y hy
          have f1 : (0 : Int) < (k : Int) := by omega
          have f2 : decide ((0 : Int) < (k : Int)) = true := decide_eq_true f1
          have f3 : decide (0 < k) = true := by simp; omega
          have t3 : IntKind.i64.wrap ((k : Int) - 1) = (m : Int) := by rw [IntKind.wrap_i64]; omega
          have t4 : (k : Int) - 1 = (m : Int) := by omega
          have t5 : IntKind.i64.wrap (m : Int) = (m : Int) := by rw [IntKind.wrap_i64]; omega
          have t6 : (0 : Int) ≤ (m : Int) := by omega
          have t7 : (m : Int) < (M : Int) := by omega
          have HY : Hid _ := And.intro hm hy
          clear hm hy hOI hc2 e2 e3 hk0
          by_cases hgt : v < y
          · have g1 : decide (v < y) = true := decide_eq_true hgt
            have HG : Hid (v < y) := hgt
            clear hgt
            go_wp2_with fail
            go_roundg m
            case measure => have := HY.out.1; omega
            case rel => exact ⟨m, rfl, rfl, rfl, by have := HY.out.1; omega, fun j z h1 h2 => by
              rcases Nat.lt_or_ge m j with h3 | h3
              · exact HK.out.2 j z (by have := HY.out.1; omega) h2
              · obtain rfl : j = m := by omega
                rw [HY.out.2] at h2
                rw [← Option.some.inj h2]; exact HG.out⟩
          · have g1 : decide (v < y) = false := decide_eq_false hgt
            by_cases heq : y = v
            · have g2 : (y == v) = true := by simp [heq]
              have HG : Hid (y = v) := heq
              clear hgt heq
              go_wp2_with fail
              go_roundg (N - (i + 1))
              case measure => omega
              case rel =>
                refine ⟨i + 1, rfl, by omega, by go_num, ?_, HO.out.2.1⟩
                rw [HO.out.2.2.2.2.2, Ro.sd_in (by rw [← HO.out.2.2.2.2.1, ← HG.out]; exact List.mem_of_getElem? HY.out.2), ← HO.out.2.2.2.2.1]
                unfold OwnI
                rw [← HO.out.2.2.2.1]
                exact HO.out.1
            · have g2 : (y == v) = false := by simp [heq]
              have hlv : y < v := by omega
              have HG : Hid (y < v) := hlv
              clear hgt heq hlv
              have hml : M + 1 ≤ maxLen := by unfold maxLen; omega
              have hby : (M + 1) * 8 ≤ 140737488355328 := by omega
              have hle : w.heap.size ≤ (wq.alloc (.cells #[.int .i64 0] 3)).heap.size := by have := HO.out.2.1.size; simp; omega
              have e7 : IntKind.i64.wrap ((M : Int) + 1 - 1) = (M : Int) := by rw [IntKind.wrap_i64]; omega
              have e8 : (M : Int) + 1 - 1 = (M : Int) := by omega
              have e9 : IntKind.i64.wrap (M : Int) = (M : Int) := by rw [IntKind.wrap_i64]; omega
              go_wp2_with (at_builtin; refine wpList_append_own_at _ rfl _ _ 57 rfl w.heap.size 3 i0 (.int .i64 0) 1 8 Tryz.underlying57 hi0 hz0 hz1 hz2 rfl (by decide) (.slice (some b) M cu) M (iC O) rfl (HO.out.1.alloc _) ⟨wq.heap.size, 0, none⟩ 1 1 [.int .i64 0] rfl rfl (World.news_of_block (cs := #[.int .i64 0]) (t := 3) (fr := (0, 0)) (heap_alloc_new wq _)) (by simp [Value.oneCell']) hml hby hle ?_; intro v5 w5 hO5 hg5 hnil5 hat5; obtain ⟨g5, cap5, rfl⟩ := ownsRow_succ hO5; have H5 : Hid _ := And.intro hO5 hg5; clear hO5 hg5 hnil5 hat5)
              have hO5 : OwnI w5 w.heap.size (.slice (some ⟨g5, 0, none⟩) (M + 1) cap5) (Ro.putAt O M 0) := by
                have h1 := H5.out.1
                rw [HO.out.2.2.2.1, Ro.putAt_end, ← HO.out.2.2.2.1]
                unfold OwnI
                rw [iC_snoc, List.length_append, ← HO.out.2.2.2.1]
                exact h1
              have hb5 : Below w.heap.size w w5 := HO.out.2.1.trans ((grown_alloc H5.out.2).below HO.out.2.1.size fun b hb => (HO.out.1.lt b hb).1)
              have H6 : Hid _ := And.intro hO5 hb5
              clear hO5 hb5 H5
              go_loopg [9] M (fun q jv wr => ∃ (j : Nat) (X : Int), j = q ∧ k ≤ j ∧ j ≤ M ∧ jv = .int .i64 j ∧ OwnI wr w.heap.size (.slice (some ⟨g5, 0, none⟩) (M + 1) cap5) (Ro.putAt O j X) ∧ Below w.heap.size w wr)
              case atStart => exact ⟨M, 0, rfl, HK.out.1, Nat.le_refl _, rfl, H6.out.1, H6.out.2⟩
              case round =>
                obtain ⟨j, X, rfl, hkj, hjM, rfl, hOj, hbj⟩ := hrel
                have hpl : (Ro.putAt O j X).length = M + 1 := by rw [Ro.putAt_len _ (by have := HO.out.2.2.2.1; omega), ← HO.out.2.2.2.1]
                by_cases hjk : k < j
                · obtain ⟨j', hj'⟩ : ∃ j', j = j' + 1 := ⟨j - 1, by omega⟩
                  obtain ⟨y, hy⟩ : ∃ y, O[j']? = some y := ⟨O[j']'(by have := HO.out.2.2.2.1; omega), List.getElem?_eq_getElem _⟩
                  have hy2 : (Ro.putAt O j X)[j']? = some y := by rw [Ro.putAt_ahead _ (by have := HO.out.2.2.2.1; omega) (by omega)]; exact hy
                  have cy := hOj.cell hy2
                  have cj := hOj.cell (Ro.putAt_at X (by have := HO.out.2.2.2.1; omega))
                  have cf := hOj.free hpl.symm j
                  have hOs := hOj.put hpl.symm j y
                  rw [hj', Ro.putAt_up _ _ hy, ← hj'] at hOs
                  have t1 : (k : Int) < (j : Int) := by omega
                  have t2 : decide ((k : Int) < (j : Int)) = true := decide_eq_true t1
                  have t3 : IntKind.i64.wrap ((j : Int) - 1) = (j' : Int) := by rw [IntKind.wrap_i64]; omega
                  have t4 : (j : Int) - 1 = (j' : Int) := by omega
                  have t5 : IntKind.i64.wrap (j' : Int) = (j' : Int) := by rw [IntKind.wrap_i64]; omega
                  have t6 : (0 : Int) ≤ (j' : Int) := by omega
                  have t7 : (j' : Int) < ((M + 1 : Nat) : Int) := by omega
                  have t8 : (0 : Int) ≤ (j : Int) := by omega
                  have t9 : (j : Int) < ((M + 1 : Nat) : Int) := by omega
                  have u7 : (j' : Int) < (M : Int) + 1 := by omega
                  have u9 : (j : Int) < (M : Int) + 1 := by omega
                  have HJ : Hid _ := And.intro hOs (And.intro hbj (And.intro hj' (And.intro hkj hjM)))
                  have hgB : w.heap.size ≤ g5 := (hOj.lt g5 rfl).1
                  clear hOs hbj hOj hj' hy hy2 hpl
                  go_wp2_with fail
                  go_roundg j'
                  case measure => have := HJ.out.2.2.1; omega
                  case rel =>
                    exact ⟨j', y, rfl, by have := HJ.out.2.2.1; omega, by have := HJ.out.2.2.1; omega, rfl, HJ.out.1, HJ.out.2.1.setCell hgB _⟩
                · obtain ⟨cj, hcj⟩ : ∃ x, (Ro.putAt O j X)[j]? = some x := ⟨X, Ro.putAt_at X (by have := HO.out.2.2.2.1; omega)⟩
                  have hjk2 : j = k := by omega
                  have cj2 := hOj.cell hcj
                  have cf := hOj.free hpl.symm j
                  have hOs := hOj.put hpl.symm j v
                  rw [Ro.putAt_set _ _ (by have := HO.out.2.2.2.1; omega), hjk2, HO.out.2.2.2.2.1, Ro.sd_put (by rw [← HO.out.2.2.2.2.1, ← HO.out.2.2.2.1]; exact HK.out.1) (by rw [← HO.out.2.2.2.2.1]; exact HK.out.2) (by rw [← HO.out.2.2.2.2.1]; exact (fun j y h1 h2 => by have h3 := HY.out.1; obtain rfl : j = m := (by omega); rw [HY.out.2] at h2; rw [← Option.some.inj h2]; exact HG.out)), ← HO.out.2.2.2.2.2] at hOs
                  rw [hjk2] at cj2 cf
                  have t1 : ¬ (k : Int) < (k : Int) := by omega
                  have t2 : decide ((k : Int) < (k : Int)) = false := decide_eq_false t1
                  have t8 : (0 : Int) ≤ (k : Int) := by omega
                  have t9 : (k : Int) < ((M + 1 : Nat) : Int) := by have := HK.out.1; omega
                  have u9 : (k : Int) < (M : Int) + 1 := by omega
                  have HJ : Hid _ := And.intro hOs hbj
                  have hgB : w.heap.size ≤ g5 := (hOj.lt g5 rfl).1
                  subst hjk2
                  clear hOs hbj hOj hcj hpl
                  go_wp2_with fail
                  go_roundg (N - (i + 1))
                  case measure => omega
                  case rel => exact ⟨i + 1, rfl, by omega, by go_num, HJ.out.1, HJ.out.2.setCell hgB _⟩
    · obtain rfl : i = N := by omega
      have q1 : ¬ (i : Int) < (i : Int) := by omega
      have HO : Hid _ := And.intro hO (And.intro hb hOe)
      clear hO hb hM hOe
      go_wp2_with fail
      go_ret
      have h1 := HO.out.1
      rw [HO.out.2.2, List.take_of_length_le (by have := HH.out.2.2.2.2.2; omega)] at h1
      exact ⟨_, rfl, h1, HO.out.2.1⟩
end Go.Proofs.YtpmanmoljlhogaaGreatDoor
/- Contract of the document's SameInts. -/
namespace Go.Proofs.YtpmanmoljlhogaaGreatDoor
open Go.RowKit Go.Maps
set_option maxRecDepth 100000 in
set_option maxHeartbeats 1000000 in
theorem refSame_any (va vb : Value) (za zb : List Int) (w : World) (hn : za.length ≤ 1000000000000000) (hm : zb.length ≤ 1000000000000000) (hA : HasI w va za) (hB : HasI w vb zb) :
    Calls Tryz.prog 93 #[va, vb] w fun e w' => e = .returned (.bool (za == zb)) ∧ ∃ m, w' = w.drewN m := by
  obtain ⟨ao, cap, rfl, hcA⟩ := hA
  obtain ⟨ao', cap', rfl, hcB⟩ := hB
  by_cases hlen : za.length = zb.length
  · obtain ⟨n, hN⟩ : ∃ n, n = za.length := ⟨_, rfl⟩
    have HH : Hid _ := And.intro hcA (And.intro hcB (And.intro hN (hN.trans hlen)))
    rw [← hlen, ← hN]
    rw [← hN] at hn
    clear hcA hcB hN hlen hm
    have q : ((n : Int) != (n : Int)) = false := by simp
    go_enter Tryz.func93, Tryz.ntmps93
    go_wp2
    go_loopg [5] n (fun g i wr => ∃ j m : Nat, g = n - j ∧ j ≤ n ∧ i = .int .i64 j ∧ za.take j = zb.take j ∧ wr = w.drewN m)
    case atStart => exact ⟨0, 0, rfl, Nat.zero_le _, rfl, rfl, rfl⟩
    case round =>
      obtain ⟨j, m, rfl, hj, rfl, heq, rfl⟩ := hrel
      have HQ : Hid _ := heq
      clear heq
      by_cases hlt : j < n
      · obtain ⟨x, hx⟩ : ∃ z, za[j]? = some z := ⟨za[j]'(by have := HH.out.2.2.1; omega), List.getElem?_eq_getElem _⟩
        obtain ⟨y, hy⟩ : ∃ z, zb[j]? = some z := ⟨zb[j]'(by have := HH.out.2.2.2; omega), List.getElem?_eq_getElem _⟩
        obtain ⟨a, rfl, c0⟩ := HH.out.1 j x hx
        obtain ⟨b, rfl, d0⟩ := HH.out.2.1 j y hy
        have q0 : (0 : Int) ≤ (j : Int) := by omega
        have q1 : (j : Int) < (n : Int) := by omega
        by_cases hxy : x = y
        · subst hxy
          have e1 : (x != x) = false := by simp
          have HT : Hid _ := take_both5 hx hy HQ.out
          clear hx hy
          go_wp2_with fail
          go_quiet (fail)
          go_wp2
          go_roundg (n - (j + 1))
          case measure => omega
          case rel => exact ⟨j + 1, _, rfl, by omega, by go_num, HT.out, by first | rfl | exact World.drewN_drewN _ _ _⟩
        · have e1 : (x != y) = true := by simpa using hxy
          have HF : Hid ((za == zb) = false) := (by
            rw [beq_eq_false_iff_ne]
            rintro rfl
            rw [hx] at hy
            exact hxy (Option.some.inj hy) : (za == zb) = false)
          clear hx hy hxy
          go_wp2_with fail
          go_quiet (fail)
          go_wp2
          go_ret
          exact ⟨by rw [HF.out]; rfl, _, by first | rfl | exact World.drewN_drewN _ _ _⟩
      · obtain rfl : j = n := by omega
        have q1 : ¬ (j : Int) < (j : Int) := by omega
        have HF : Hid ((za == zb) = true) := (by
          rw [beq_iff_eq]
          exact eq_len5 HH.out.2.2.1.symm HH.out.2.2.2.symm HQ.out : (za == zb) = true)
        go_wp2
        go_ret
        exact ⟨by rw [HF.out]; rfl, _, rfl⟩
  · have q : ((za.length : Int) != (zb.length : Int)) = true := by rw [bne_iff_ne]; omega
    have HF : Hid ((za == zb) = false) := (by rw [beq_eq_false_iff_ne]; rintro rfl; exact hlen rfl : (za == zb) = false)
    clear hcA hcB hlen
    go_enter Tryz.func93, Tryz.ntmps93
    go_wp2
    go_ret
    exact ⟨by rw [HF.out]; rfl, 0, rfl⟩
end Go.Proofs.YtpmanmoljlhogaaGreatDoor
/- What the document's Next has in memory. -/
namespace Go.Proofs.YtpmanmoljlhogaaGreatDoor
open Go.RowKit Go.Maps
/-- The keys of all states; the ends of a state's steps. -/
def Ro.keys (n : Nat) (out : Nat → List Ro.St) (c : List Nat) : List (Int × List Int) := (List.range n).map (Ro.key out c)
def Ro.sgn (out : Nat → List Ro.St) (c : List Nat) (j : Nat) : List Int := Ro.sd (Ro.ends 1001 c (out j))
theorem Ro.keys_len (n : Nat) (out : Nat → List Ro.St) (c : List Nat) : (Ro.keys n out c).length = n := by simp [Ro.keys]
theorem Ro.keys_at {n i : Nat} (out : Nat → List Ro.St) (c : List Nat) (h : i < n) : (Ro.keys n out c)[i]? = some (Ro.key out c i) := Ro.key_at out c h
theorem Ro.keys_nx (n : Nat) (out : Nat → List Ro.St) (c : List Nat) : Ro.num (Ro.keys n out c) = Ro.nx n out c := rfl
theorem sgn_len (out : Nat → List Ro.St) (c : List Nat) (j : Nat) : (Ro.sgn out c j).length ≤ (out j).length := by
  have h1 := Ro.sd_len (Ro.ends 1001 c (out j))
  have h2 : (Ro.ends 1001 c (out j)).length = (out j).length := by simp [Ro.ends]
  unfold Ro.sgn
  omega
theorem makeRI (n : Nat) (hn : n ≤ 1000000) (w : World) : (Instr.makeSlice 28 (.int .i64 (n : Int)) (.int .i64 (n : Int))).run Tryz.prog w = .ok (.slice (some ⟨w.heap.size, 0, none⟩) n n) (w.alloc (.cells (madeV (.slice none 0 0) n) 57)) := make_of _ _ _ 24 Tryz.underlying28 Tryz.infoRI n hn (by decide) w
/-- The classes so far (of i states), the signatures (of r states), and the states that stand for classes. -/
structure NxAt (w wr : World) (n i r : Nat) (out : Nat → List Ro.St) (c : List Nat) (fv : Value) (Fn : List Nat) : Prop where
  cls : Arr 3 w wr w.heap.size (natC (Ro.num ((Ro.keys n out c).take i)) ++ List.replicate (n - i) (.int .i64 0))
  sg : ∃ vs, Arr 57 w wr (w.heap.size + 1) vs ∧ vs.length = n ∧ ∀ j, j < r → ∃ u, vs[j]? = some u ∧ OwnI wr (w.heap.size + 2) u (Ro.sgn out c j) ∧ ∀ b, u.ownBlock = some b → fv.ownBlock ≠ some b
  fst : OwnI wr (w.heap.size + 2) fv (natI Fn)
theorem NxAt.big {w wr : World} {n i r : Nat} {out : Nat → List Ro.St} {c : List Nat} {fv : Value} {Fn : List Nat} (h : NxAt w wr n i r out c fv Fn) : w.heap.size + 2 ≤ wr.heap.size := by
  obtain ⟨vs, h1, _⟩ := h.sg
  have := h1.lt
  omega
theorem NxAt.below {w wr w' : World} {n i r : Nat} {out : Nat → List Ro.St} {c : List Nat} {fv : Value} {Fn : List Nat} (h : NxAt w wr n i r out c fv Fn) (hb : Below wr.heap.size wr w') : NxAt w w' n i r out c fv Fn := by
  obtain ⟨vs, h1, h2, h3⟩ := h.sg
  refine ⟨h.cls.below hb, ⟨vs, h1.below hb, h2, fun j hj => ?_⟩, trow_at h.fst fun b e => hb.block b (h.fst.lt b e).2⟩
  obtain ⟨u, h4, h5, h6⟩ := h3 j hj
  exact ⟨u, h4, trow_at h5 fun b e => hb.block b (h5.lt b e).2, h6⟩
theorem NxAt.new (w : World) (n : Nat) (out : Nat → List Ro.St) (c : List Nat) : NxAt w ((w.alloc (.cells (madeV (.int .i64 0) n) 3)).alloc (.cells (madeV (.slice none 0 0) n) 57)) n 0 0 out c (.slice none 0 0) [] := by
  have hb : Below w.heap.size w (w.alloc (.cells (madeV (.int .i64 0) n) 3)) := (Below.refl _ _).alloc (Nat.le_refl _) _
  have h1 := arr_new 3 (.int .i64 0) rfl n w
  have h2 := arr_new 57 (.slice none 0 0) rfl n (w.alloc (.cells (madeV (.int .i64 0) n) 3))
  have h3 := h1.below ((Below.refl _ _).alloc (Nat.le_refl _) (.cells (madeV (.slice none 0 0) n) 57))
  have h4 := h2.back hb
  rw [show (w.alloc (.cells (madeV (.int .i64 0) n) 3)).heap.size = w.heap.size + 1 by simp] at h4
  exact ⟨by simpa [Ro.num, natC] using h3, ⟨List.replicate n (.slice none 0 0), h4, List.length_replicate, fun j hj => by omega⟩, World.ownsRow_nil _ _ _ _⟩
/-- A state's signature is put down. -/
theorem NxAt.sig {w wr w2 : World} {n i : Nat} {out : Nat → List Ro.St} {c : List Nat} {fv u : Value} {Fn : List Nat} (h : NxAt w wr n i i out c fv Fn) (hi : i < n) (hb : Below wr.heap.size wr w2) (hu : OwnI w2 wr.heap.size u (Ro.sgn out c i)) : NxAt w (w2.setCell ⟨w.heap.size + 1, i, none⟩ u) n i (i + 1) out c fv Fn := by
  have hbig := h.big
  have h0 := h.below hb
  obtain ⟨vs, h1, h2, h3⟩ := h.sg
  have far : ∀ {v : Value} {zs : List Int}, OwnI w2 (w.heap.size + 2) v zs → OwnI (w2.setCell ⟨w.heap.size + 1, i, none⟩ u) (w.heap.size + 2) v zs := fun {v zs} hv =>
    trow_at hv fun b e => set_other _ _ _ _ _ (by have := (hv.lt b e).1; omega)
  refine ⟨h0.cls.kept (Kept.setCell _ _ _ _) (fun b e => ⟨by omega, by omega⟩), ⟨vs.set i u, (h1.below hb).set i u, by simp [h2], fun j hj => ?_⟩, far h0.fst⟩
  rcases Nat.lt_or_ge j i with hji | hji
  · obtain ⟨v, h4, h5, h6⟩ := h3 j hji
    exact ⟨v, by rw [List.getElem?_set_ne (by omega)]; exact h4, far (trow_at h5 fun b e => hb.block b (h5.lt b e).2), h6⟩
  · obtain rfl : j = i := by omega
    exact ⟨u, by rw [List.getElem?_set_self (by omega)], far (row_base hu hbig), fun b e e2 => by have := (hu.lt b e).1; have := (h.fst.lt b e2).2; omega⟩
/-- A state stands for a class. -/
theorem NxAt.app {w wr w5 : World} {n i r M : Nat} {out : Nat → List Ro.St} {c : List Nat} {fv v5 : Value} {Fn : List Nat} {tmp : Obj} (h : NxAt w wr n i r out c fv Fn) (hM : M = Fn.length) (hO : w5.ownsRow (w.heap.size + 2) 3 1 v5 (M + 1) (iC (natI Fn) ++ [.int .i64 i])) (hg : (wr.alloc tmp).grownBy w5 fv.ownBlock) (hat : v5.ownBlock = fv.ownBlock ∨ v5.ownBlock = some (wr.alloc tmp).heap.size) : NxAt w w5 n i r out c v5 (Fn ++ [i]) := by
  have hk := grown_alloc hg
  obtain ⟨vs, h1, h2, h3⟩ := h.sg
  have hF : ∀ b, fv.ownBlock = some b → w.heap.size + 2 ≤ b := fun b e => (h.fst.lt b e).1
  refine ⟨h.cls.kept hk (fun b e => ⟨by have := hF b e; omega, by have := hF b e; omega⟩), ⟨vs, h1.kept hk (fun b e => ⟨by have := hF b e; omega, by have := hF b e; omega⟩), h2, fun j hj => ?_⟩, ?_⟩
  · obtain ⟨u, h4, h5, h6⟩ := h3 j hj
    refine ⟨u, h4, trow_at h5 fun b e => hk.block b (h5.lt b e).2 (h6 b e), fun b e e2 => ?_⟩
    rcases hat with h7 | h7
    · exact h6 b e (h7 ▸ e2)
    · rw [h7] at e2
      have := (h5.lt b e).2
      simp at e2
      omega
  · have e1 : natI (Fn ++ [i]) = natI Fn ++ [(i : Int)] := by simp [natI]
    unfold OwnI
    rw [e1, iC_snoc, List.length_append, show (natI Fn).length = M by simp [natI, hM]]
    exact hO
/-- A state's class is put down. -/
theorem NxAt.put {w wr : World} {n i r k : Nat} {out : Nat → List Ro.St} {c : List Nat} {fv : Value} {Fn : List Nat} (h : NxAt w wr n i r out c fv Fn) (hi : i < n) (hk : k = Ro.place (Ro.key out c i) (Ro.dd ((Ro.keys n out c).take i))) : NxAt w (wr.setCell ⟨w.heap.size, i, none⟩ (.int .i64 k)) n (i + 1) r out c fv Fn := by
  obtain ⟨vs, h1, h2, h3⟩ := h.sg
  have far : ∀ {v : Value} {zs : List Int}, OwnI wr (w.heap.size + 2) v zs → OwnI (wr.setCell ⟨w.heap.size, i, none⟩ (.int .i64 k)) (w.heap.size + 2) v zs := fun {v zs} hv =>
    trow_at hv fun b e => set_other _ _ _ _ _ (by have := (hv.lt b e).1; omega)
  refine ⟨?_, ⟨vs, h1.kept (Kept.setCell _ _ _ _) (fun b e => ⟨by omega, by omega⟩), h2, fun j hj => ?_⟩, far h.fst⟩
  · have hC : (Ro.num ((Ro.keys n out c).take i)).length = i := by rw [Ro.num_len, List.length_take, Ro.keys_len]; omega
    have hAs := h.cls.set i (.int .i64 (k : Int))
    rw [natC_step _ n i k hC hi] at hAs
    rw [take_succ_of (Ro.keys_at out c hi), Ro.num_snoc, ← hk]
    exact hAs
  · obtain ⟨u, h4, h5, h6⟩ := h3 j hj
    exact ⟨u, h4, far h5, h6⟩
/-- The states that stand for classes, in their order. -/
structure FsAt (n i : Nat) (out : Nat → List Ro.St) (c : List Nat) (Fn : List Nat) : Prop where
  fe : Ro.dd ((Ro.keys n out c).take i) = Fn.map (Ro.key out c)
  fl : ∀ f ∈ Fn, f < i
theorem FsAt.len {n i : Nat} {out : Nat → List Ro.St} {c : List Nat} {Fn : List Nat} (h : FsAt n i out c Fn) : Fn.length ≤ i := by
  have h1 := Ro.dd_le ((Ro.keys n out c).take i)
  rw [h.fe, List.length_map, List.length_take] at h1
  omega
theorem FsAt.old {n i k f : Nat} {out : Nat → List Ro.St} {c : List Nat} {Fn : List Nat} (h : FsAt n i out c Fn) (hi : i < n) (hk : Fn[k]? = some f) (he : Ro.key out c f = Ro.key out c i) : FsAt n (i + 1) out c Fn := by
  refine ⟨?_, fun g hg => by have := h.fl g hg; omega⟩
  rw [take_succ_of (Ro.keys_at out c hi), Ro.dd_snoc]
  unfold Ro.more
  rw [if_pos (by rw [h.fe, ← he]; exact List.mem_map.2 ⟨f, List.mem_of_getElem? hk, rfl⟩), h.fe]
theorem FsAt.new {n i : Nat} {out : Nat → List Ro.St} {c : List Nat} {Fn : List Nat} (h : FsAt n i out c Fn) (hi : i < n) (hno : ∀ f ∈ Fn, Ro.key out c f ≠ Ro.key out c i) : FsAt n (i + 1) out c (Fn ++ [i]) ∧ Fn.length = Ro.place (Ro.key out c i) (Ro.dd ((Ro.keys n out c).take i)) := by
  have hn : Ro.key out c i ∉ Ro.dd ((Ro.keys n out c).take i) := fun hm => by
    rw [h.fe] at hm
    obtain ⟨f, hf, e⟩ := List.mem_map.1 hm
    exact hno f hf e
  refine ⟨⟨?_, fun g hg => ?_⟩, by rw [Ro.place_no hn, h.fe, List.length_map]⟩
  · rw [take_succ_of (Ro.keys_at out c hi), Ro.dd_snoc]
    unfold Ro.more
    rw [if_neg hn, h.fe, List.map_append]
    rfl
  · rcases List.mem_append.1 hg with hg | hg
    · have := h.fl g hg; omega
    · rw [List.mem_singleton.1 hg]; omega
theorem place_first {K : Type} [DecidableEq K] {x : K} : ∀ {l : List K} {k : Nat}, l[k]? = some x → (∀ y ∈ l.take k, y ≠ x) → Ro.place x l = k
  | [], k, h, _ => by simp at h
  | a :: r, 0, h, _ => by simp at h; simp [Ro.place, h]
  | a :: r, k + 1, h, hn => by
    have ha : a ≠ x := hn a (by simp)
    rw [List.getElem?_cons_succ] at h
    simp only [Ro.place, if_neg ha]
    rw [place_first h fun y hy => hn y (by simp [hy])]
theorem FsAt.at {n i k f : Nat} {out : Nat → List Ro.St} {c : List Nat} {Fn : List Nat} (h : FsAt n i out c Fn) (hk : Fn[k]? = some f) (he : Ro.key out c f = Ro.key out c i) (hno : ∀ g ∈ Fn.take k, Ro.key out c g ≠ Ro.key out c i) : k = Ro.place (Ro.key out c i) (Ro.dd ((Ro.keys n out c).take i)) := by
  rw [h.fe]
  refine (place_first (by rw [List.getElem?_map, hk, ← he]; rfl) fun y hy => ?_).symm
  rw [← List.map_take] at hy
  obtain ⟨g, hg, rfl⟩ := List.mem_map.1 hy
  exact hno g hg
end Go.Proofs.YtpmanmoljlhogaaGreatDoor
/- Contract of the program's Ranks at right systems. -/
namespace Go.Proofs.YtpmanmoljlhogaaGreatDoor
open Go.RowKit Go.Maps Go.Shelf
/-- The rows so far. -/
structure RrAt (w2 wr : World) (m i : Nat) (us : List Value) (rb : Nat → Nat) : Prop where
  arr : Arr 57 w2 wr w2.heap.size us
  len : us.length = m
  tab : ∀ p, p < i → us[p]? = some (.slice (some ⟨rb p, 0, none⟩) m m)
  row : ∀ p, p < i → ∃ cs : Array Value, wr.heap[rb p]? = some (.cells cs 3 (0, 0)) ∧ cs.toList = (List.range m).map fun _ => Value.int .i64 (-1)
  ne : ∀ p q, p < i → q < i → rb p = rb q → p = q
  lo : ∀ p, p < i → w2.heap.size + 2 ≤ rb p
theorem RrAt.step {w2 w4 w5 w6 : World} {m i g : Nat} {us : List Value} {rb : Nat → Nat} (h : RrAt w2 w4 m i us rb) (hi : i < m) (hbig : w2.heap.size + 2 ≤ w4.heap.size) (hb : Below w4.heap.size w4 w5) (hA : Arr 3 w5 w6 g (List.replicate m (.int .i64 (-1)))) : RrAt w2 (w6.setCell ⟨w2.heap.size, i, none⟩ (.slice (some ⟨g, 0, none⟩) m m)) m (i + 1) (us.set i (.slice (some ⟨g, 0, none⟩) m m)) (fun p => if p = i then g else rb p) := by
  have hb46 := bel6 hA.bl hb
  have hgl := Nat.le_trans hb.size hA.gu
  have hr : ∀ p, p < i → rb p < w4.heap.size := fun p hp => by obtain ⟨cs, h1, _⟩ := h.row p hp; exact t_lt h1
  refine ⟨(h.arr.below hb46).set i _, by simp [h.len], fun p hp => ?_, fun p hp => ?_, fun p q hp hq => ?_, fun p hp => ?_⟩
  · by_cases e : p = i
    · rw [if_pos e, e, List.getElem?_set_self (by rw [h.len]; omega)]
    · rw [if_neg e, List.getElem?_set_ne (fun e2 => e e2.symm)]
      exact h.tab p (by omega)
  · by_cases e : p = i
    · rw [if_pos e]
      obtain ⟨cs, h1, h2⟩ := hA.ids
      refine ⟨cs, (set_other _ _ _ _ _ (by omega)).trans h1, ?_⟩
      rw [h2]
      apply List.ext_getElem?
      intro j
      by_cases hj : j < m <;> simp [hj]
    · rw [if_neg e]
      obtain ⟨cs, h1, h2⟩ := h.row p (by omega)
      have := h.lo p (by omega)
      exact ⟨cs, (set_other _ _ _ _ _ (by omega)).trans (res_up6 hb46 h1), h2⟩
  · by_cases e : p = i <;> by_cases e2 : q = i
    · intro _; omega
    · rw [if_pos e, if_neg e2]; intro h3; have := hr q (by omega); omega
    · rw [if_neg e, if_pos e2]; intro h3; have := hr p (by omega); omega
    · rw [if_neg e, if_neg e2]; exact h.ne p q (by omega) (by omega)
  · by_cases e : p = i
    · rw [if_pos e]; omega
    · rw [if_neg e]; exact h.lo p (by omega)
theorem RrAt.done {w2 wr : World} {m : Nat} {us : List Value} {rb : Nat → Nat} (h : RrAt w2 wr m m us rb) (out : Nat → List Ro.St) : RkAt wr w2.heap.size m rb (rkT m out 0) :=
  ⟨fun p hp => h.arr.cell (h.tab p hp), fun p hp => h.row p hp, h.ne, fun p hp => by have := h.lo p hp; omega⟩
theorem makeRR (n : Nat) (hn : n ≤ 1000000) (w : World) : (Instr.makeSlice 28 (.int .i64 (n : Int)) (.int .i64 (n : Int))).run Tryz.prog w = .ok (.slice (some ⟨w.heap.size, 0, none⟩) n n) (w.alloc (.cells (madeV (.slice none 0 0) n) 57)) := makeRI n hn w
end Go.Proofs.YtpmanmoljlhogaaGreatDoor
