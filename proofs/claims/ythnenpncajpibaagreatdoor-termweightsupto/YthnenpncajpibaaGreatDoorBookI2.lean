/- Contract of the book's putInts. -/
import Derived.Test.YthnenpncajpibaaGreatDoorBookI1
import Derived.Test.YthnenpncajpibaaGreatDoorTmWalk1
namespace Go.Proofs.YthnenpncajpibaaGreatDoor
open Go.RowKit Go.Maps
attribute [local go_sem ↓] Go.wp_at_zero Go.wp_at_succ
/-- The blocks of the lists. -/
def LsF (ls : List Value) (b : Nat) : Prop := ∃ l ∈ ls, l.ownBlock = some b
/-- A list of which the first k places are marked. -/
def mid (i : Nat) (zs : List Int) (k : Nat) : List Int := marks i 0 k ++ zs.drop k
theorem mid_len (i : Nat) (zs : List Int) {k : Nat} (hk : k ≤ zs.length) : (mid i zs k).length = zs.length := by
  unfold mid
  rw [List.length_append, marks_len, List.length_drop]
  omega
theorem mid_zero (i : Nat) (zs : List Int) : mid i zs 0 = zs := by simp [mid, marks]
theorem mid_full (i : Nat) (zs : List Int) : mid i zs zs.length = marks i 0 zs.length := by simp [mid]
theorem mid_succ (i : Nat) (zs : List Int) {k : Nat} (hk : k < zs.length) : (mid i zs k).set k (mk1 i k) = mid i zs (k + 1) := by
  unfold mid
  rw [List.set_append_right _ _ (by rw [marks_len]; exact Nat.le_refl _), marks_len, Nat.sub_self, marks_succ, List.append_assoc, Nat.zero_add]
  congr 1
  rw [List.drop_eq_getElem_cons hk]
  rfl
theorem set_same {α : Type} {l : List α} {i : Nat} {x : α} (h : l[i]? = some x) : l.set i x = l := by
  apply List.ext_getElem?
  intro k
  by_cases e : k = i
  · subst e; rw [List.getElem?_set_self (List.getElem?_eq_some_iff.1 h).1, h]
  · rw [List.getElem?_set_ne (fun e' => e e'.symm)]
/-- All lists ahead of i are marked. -/
structure Mkd (zss yss : List (List Int)) (i : Nat) : Prop where
  len : yss.length = zss.length
  at' : ∀ (k : Nat) (zs : List Int), zss[k]? = some zs → yss[k]? = some (if k < i then marks k 0 zs.length else zs)
theorem Mkd.start (zss : List (List Int)) : Mkd zss zss 0 := ⟨rfl, fun k zs h => by rw [if_neg (by omega)]; exact h⟩
theorem Mkd.next {zss yss : List (List Int)} {i : Nat} {zs : List Int} (h : Mkd zss yss i) (hi : zss[i]? = some zs) : Mkd zss (yss.set i (marks i 0 zs.length)) (i + 1) := by
  refine ⟨by rw [List.length_set]; exact h.len, fun k ys hk => ?_⟩
  have hlt := (List.getElem?_eq_some_iff.1 hi).1
  by_cases e : k = i
  · subst e
    rw [List.getElem?_set_self (by rw [h.len]; exact hlt), if_pos (by omega)]
    rw [hi] at hk
    cases hk
    rfl
  · rw [List.getElem?_set_ne (fun e' => e e'.symm), h.at' k ys hk]
    by_cases h2 : k < i
    · rw [if_pos h2, if_pos (by omega)]
    · rw [if_neg h2, if_neg (by omega)]
/-- The lists' marks. -/
def allM (zss : List (List Int)) : List (List Int) := zss.mapIdx fun k zs => marks k 0 zs.length
theorem Mkd.fin {zss yss : List (List Int)} (h : Mkd zss yss zss.length) : yss = allM zss := by
  apply List.ext_getElem?
  intro k
  unfold allM
  rw [List.getElem?_mapIdx]
  cases e : zss[k]? with
  | none =>
    rw [List.getElem?_eq_none_iff] at e
    rw [List.getElem?_eq_none_iff.2 (by rw [h.len]; exact e)]
    rfl
  | some zs =>
    have hlt := (List.getElem?_eq_some_iff.1 e).1
    rw [h.at' k zs e, if_pos hlt]
    rfl
set_option maxRecDepth 100000 in
set_option maxHeartbeats 8000000 in
theorem putI_any (bk : Nat) (vi : Value) (ls : List Value) (zss : List (List Int)) (w : World) (h : Bp w bk vi ls zss) :
    Calls Tryz.prog 45 #[.pointer (some ⟨bk, 0, none⟩)] w fun r w' => r = .returned (.tuple #[]) ∧ Bp w' bk vi ls (allM zss) ∧ Kept (LsF ls) w w' := by
  obtain ⟨ai, ci, rfl⟩ := row_shape h.ri
  obtain ⟨n, hn⟩ : ∃ n, n = zss.length := ⟨_, rfl⟩
  have hnl : n ≤ 400 := by rw [hn]; exact h.len
  have HB : Hid _ := And.intro h hn
  have HZ : Hid (n = zss.length) := hn
  rw [← hn]
  clear h hn
  go_enter Tryz.func45, Tryz.ntmps45
  go_wp2_with fail
  go_loopg [2] n (fun q iv wr => ∃ (i : Nat) (yss : List (List Int)), q = n - i ∧ i ≤ n ∧ iv = .int .i64 i ∧ Mkd zss yss i ∧ Bp wr bk (.slice ai n ci) ls yss ∧ Kept (LsF ls) w wr)
  case atStart => exact ⟨0, zss, rfl, Nat.zero_le _, rfl, Mkd.start _, by have h1 := HB.out.1; rw [← HZ.out] at h1; exact h1, Kept.refl _ _⟩
  case round =>
    obtain ⟨i, yss, rfl, hi, rfl, hM, hP, hK⟩ := hrel
    clear HB
    obtain ⟨wq, rfl⟩ : ∃ wq, wq = wr := ⟨_, rfl⟩
    have c0 := hP.c0
    by_cases hlt : i < n
    · obtain ⟨zs, hz⟩ : ∃ zs, zss[i]? = some zs := ⟨zss[i]'(by have := HZ.out; omega), List.getElem?_eq_getElem _⟩
      have hy : yss[i]? = some zs := by rw [hM.at' i zs hz, if_neg (by omega)]
      obtain ⟨gi, ci', l, hv, hl, cl, hO⟩ := hP.at hy
      injection hv with e1 e2 e3
      subst e1
      have hzl := hP.sz zs (List.mem_of_getElem? hy)
      obtain ⟨a1, k1, rfl⟩ := row_shape hO
      have q0 : (0 : Int) ≤ (i : Int) := by omega
      have q1 : (i : Int) < (n : Int) := by omega
      have HMk : Hid _ := mark_any i 0 zs.length wq (by omega) (by omega)
      have HI : Hid _ := And.intro hM (And.intro hP (And.intro hK (And.intro hz (And.intro hy hl))))
      clear hM hP hK hz hy hl hO e2 e3
      go_wp2_with fail
      refine Calls.mono HMk.out ?_
      rintro r w2 ⟨vm, rfl, hOm, hb2⟩
      obtain ⟨am, km, rfl⟩ := row_shape hOm
      have hml : (marks i 0 zs.length).length = zs.length := marks_len _ _ _
      rw [hml]
      have hOm' : w2.ownsRow wq.heap.size 3 1 (.slice am zs.length km) zs.length (iC (marks i 0 zs.length)) := by have h1 := hOm; unfold OwnI at h1; rw [hml] at h1; exact h1
      have H2 : Hid _ := And.intro hOm' (And.intro hb2 (HI.out.2.1.below hb2))
      obtain ⟨N, hN⟩ : ∃ N, N = zs.length := ⟨_, rfl⟩
      have HNz : Hid (N = zs.length) := hN
      rw [← hN] at hzl ⊢
      clear hOm hOm' hb2 hml hN HMk c0 cl
      go_wp2_with fail
      go_loopg [4] N (fun q kv wr => ∃ (k : Nat), q = N - k ∧ k ≤ N ∧ kv = .int .i64 k ∧ Bp wr bk (.slice (some ⟨gi, 0, none⟩) n ci) ls (yss.set i (mid i zs k)) ∧ Kept (fun b => (Value.slice a1 zs.length k1).ownBlock = some b) w2 wr)
      case atStart => exact ⟨0, rfl, Nat.zero_le _, rfl, by rw [mid_zero, set_same HI.out.2.2.2.2.1]; exact H2.out.2.2, Kept.refl _ _⟩
      case round =>
        obtain ⟨k, rfl, hk, rfl, hPk, hKk⟩ := hrel
        have hyl : i < yss.length := by have h1 := HI.out.1.len; have h2 := HZ.out; omega
        have hyk : (yss.set i (mid i zs k))[i]? = some (mid i zs k) := List.getElem?_set_self hyl
        have c0 := hPk.c0
        by_cases hkl : k < N
        · obtain ⟨gi', ci'', l', hv', hl', cl', hO'⟩ := hPk.at hyk
          injection hv' with e1 en1 en2
          clear en1 en2
          have e1 := Option.some.inj e1
          injection e1 with e1
          subst e1
          rw [HI.out.2.2.2.2.2] at hl'
          have e2 := Option.some.inj hl'
          subst e2
          have hmidl : (mid i zs k).length = zs.length := mid_len i zs (by have := HNz.out; omega)
          obtain ⟨g, cg, hf, _, hgl⟩ := World.ownsRow.form hO' (by rw [hmidl]; have := HNz.out; omega)
          injection hf with e3 en3 e4
          clear en3
          subst e3; subst e4
          obtain ⟨gm, cm, hfm, hgm, _⟩ := World.ownsRow.form H2.out.1 (by have := HNz.out; omega)
          injection hfm with e5 en5 e6
          clear en5
          subst e5; subst e6
          have hgq : g < wq.heap.size := ((HI.out.2.1.li i _ zs HI.out.2.2.2.2.2 HI.out.2.2.2.2.1).lt g rfl).2
          have cM : wr.cell? ⟨gm, k, none⟩ = some (.int .i64 (mk1 i k)) := by
            have h1 : w2.cell? ⟨gm, k, none⟩ = some (.int .i64 (mk1 i k)) := by
              rw [World.ownsRow.cellAt H2.out.1 k (by have := HNz.out; omega)]
              unfold iC
              rw [List.getElem?_map, marks_at (by have := HNz.out; omega), Nat.zero_add]
              rfl
            rw [World.cell?_of_block (a := ⟨gm, k, none⟩) (hKk.block gm (World.block_lt_of_cell? w2 _ h1) (fun e => by have h9 := Option.some.inj e; simp at h9; omega))]
            exact h1
          obtain ⟨z0, hz0⟩ : ∃ z0, (mid i zs k)[k]? = some z0 := ⟨(mid i zs k)[k]'(by rw [hmidl]; have := HNz.out; omega), List.getElem?_eq_getElem _⟩
          have cG := OwnI.cell hO' hz0
          obtain ⟨cc, hcc⟩ := row_cells hO' (i := g) rfl
          have cF := blk_free hcc k
          have q2 : (0 : Int) ≤ (k : Int) := by omega
          have q3 : (k : Int) < (N : Int) := by omega
          have hset := hPk.set hyk HI.out.2.2.2.2.2 k (mk1 i k)
          rw [List.set_set, mid_succ i zs (by have := HNz.out; omega)] at hset
          have HJ : Hid _ := And.intro hset (hKk.trans ((Kept.setCell wr g k (.int .i64 (mk1 i k))).mono fun b _ hb => by subst hb; rfl))
          clear hset hPk hKk hyk hO' hl' hz0 hcc hmidl hgl
          rw [← HNz.out] at cl'
          go_upto_region 7 with fail
          go_region
          all_goals
            go_wp2_with fail
            go_roundg (N - (k + 1))
            case measure => omega
            case rel => exact ⟨k + 1, rfl, by omega, by go_num, by first | exact HJ.out.1 | exact HJ.out.1.below ((Below.refl _ _).drew), by first | exact HJ.out.2 | exact HJ.out.2.trans (.of_below ((Below.refl _ _).drew))⟩
        · obtain rfl : k = N := by omega
          have q3 : ¬ (k : Int) < (k : Int) := by omega
          have hfull : mid i zs k = marks i 0 zs.length := by rw [HNz.out]; exact mid_full i zs
          rw [hfull] at hPk
          have hKw : Kept (LsF ls) w wr := (HI.out.2.2.1.trans (.of_below H2.out.2.1)).trans (hKk.mono fun b _ hb => ⟨_, List.mem_of_getElem? HI.out.2.2.2.2.2, hb⟩)
          have HJ : Hid _ := And.intro hPk (And.intro hKw (HI.out.1.next HI.out.2.2.2.1))
          clear hPk hKk hyk hfull hKw
          go_wp2_with fail
          go_roundg (n - (i + 1))
          case measure => omega
          case rel => exact ⟨i + 1, _, rfl, by omega, by go_num, HJ.out.2.2, HJ.out.1, HJ.out.2.1⟩
    · obtain rfl : i = n := by omega
      have q1 : ¬ (i : Int) < (i : Int) := by omega
      have hMf : Mkd zss yss zss.length := by rw [← HZ.out]; exact hM
      have hP' := hP
      rw [hMf.fin] at hP'
      have HJ : Hid _ := And.intro hP' hK
      clear hP' hP hK hM hMf
      go_wp2_with fail
      go_end0
      exact ⟨rfl, HJ.out.1, HJ.out.2⟩
end Go.Proofs.YthnenpncajpibaaGreatDoor
