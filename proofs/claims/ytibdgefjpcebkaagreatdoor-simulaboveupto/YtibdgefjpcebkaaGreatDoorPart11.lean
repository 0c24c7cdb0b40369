/- Texts of this claim, joined: BookI0, BookI1, BookI2, BookI3, BookI4, BookI5, BookI6, BXaInts, BYRows. -/
import Derived.Test.YtibdgefjpcebkaaGreatDoorPart10
import Derived.Test.YtibdgefjpcebkaaGreatDoorPart1
import Derived.Deep.DeepCutAuto
import Derived.Deep.RegionHeld3
import Derived.Deep.AppendLies
import Derived.Deep.RegionLaw
import Derived.Deep.QuietTactic
import Derived.BigQuiet
namespace Go.Proofs.YtibdgefjpcebkaaGreatDoor
section
open Go.RowKit Go.Maps
structure Apt (bk : Nat) (vi : Value) (ls : List Value) : Prop where
  b : ∀ l ∈ ls, l.ownBlock ≠ some bk
  r : ∀ l ∈ ls, ∀ k, l.ownBlock = some k → vi.ownBlock ≠ some k
  rb : vi.ownBlock ≠ some bk
  p : ∀ (i j : Nat) (l m : Value), ls[i]? = some l → ls[j]? = some m → i ≠ j → ∀ k, l.ownBlock = some k → m.ownBlock ≠ some k
structure Bp (w : World) (bk : Nat) (vi : Value) (ls : List Value) (zss : List (List Int)) : Prop where
  c0 : w.cell? ⟨bk, 0, none⟩ = some vi
  ri : w.ownsRow 0 50 1 vi zss.length ls
  li : ∀ (k : Nat) (l : Value) (zs : List Int), ls[k]? = some l → zss[k]? = some zs → OwnI w 0 l zs
  ap : Apt bk vi ls
  len : zss.length ≤ 400
  sz : ∀ zs ∈ zss, zs.length ≤ 1000000
theorem Bp.ll {w : World} {bk : Nat} {vi : Value} {ls : List Value} {zss : List (List Int)} (h : Bp w bk vi ls zss) : ls.length = zss.length := by
  have := h.ri.1
  rw [Nat.mul_one] at this
  exact this
theorem Bp.below {w w' : World} {bk : Nat} {vi : Value} {ls : List Value} {zss : List (List Int)} (h : Bp w bk vi ls zss) (hb : Below w.heap.size w w') : Bp w' bk vi ls zss :=
  ⟨cell_up h.c0 hb, trow_at h.ri fun i hi => hb.block i (h.ri.lt i hi).2, fun k l zs h1 h2 => trow_at (h.li k l zs h1 h2) fun i hi => hb.block i ((h.li k l zs h1 h2).lt i hi).2, h.ap, h.len, h.sz⟩
theorem Bp.at {w : World} {bk : Nat} {vi : Value} {ls : List Value} {zss : List (List Int)} (h : Bp w bk vi ls zss) {i : Nat} {zs : List Int} (hi : zss[i]? = some zs) : ∃ gi ci l, vi = .slice (some ⟨gi, 0, none⟩) zss.length ci ∧ ls[i]? = some l ∧ w.cell? ⟨gi, i, none⟩ = some l ∧ OwnI w 0 l zs := by
  have hlt := (List.getElem?_eq_some_iff.1 hi).1
  obtain ⟨gi, ci, hv, _, _⟩ := h.ri.form (by omega)
  obtain ⟨l, hl⟩ : ∃ l, ls[i]? = some l := ⟨ls[i]'(by rw [h.ll]; exact hlt), List.getElem?_eq_getElem _⟩
  refine ⟨gi, ci, l, hv, hl, ?_, h.li i l zs hl hi⟩
  have hr := h.ri
  rw [hv] at hr
  rw [hr.cellAt i (by omega), hl]
theorem Bp.set {w : World} {bk : Nat} {vi : Value} {ls : List Value} {zss : List (List Int)} (h : Bp w bk vi ls zss) {i : Nat} {zs : List Int} {g n c : Nat} (hi : zss[i]? = some zs) (hl : ls[i]? = some (.slice (some ⟨g, 0, none⟩) n c)) (k : Nat) (x : Int) : Bp (w.setCell ⟨g, k, none⟩ (.int .i64 x)) bk vi ls (zss.set i (zs.set k x)) := by
  have hlm := List.mem_of_getElem? hl
  have hbk : bk ≠ g := fun e => h.ap.b _ hlm (by rw [e]; rfl)
  have hcell : ∀ o, (w.setCell ⟨g, k, none⟩ (.int .i64 x)).cell? ⟨bk, o, none⟩ = w.cell? ⟨bk, o, none⟩ := fun o => World.cell?_of_block (set_other _ _ _ _ _ hbk)
  have hO := h.li i _ zs hl hi
  refine ⟨by rw [hcell]; exact h.c0, ?_, fun q l ys h1 h2 => ?_, h.ap, by rw [List.length_set]; exact h.len, fun ys hy => ?_⟩
  · rw [List.length_set]
    exact trow_at h.ri fun j hj => set_other _ _ _ _ _ fun e => h.ap.r _ hlm g rfl (by rw [← e]; exact hj)
  · by_cases hq : q = i
    · subst hq
      rw [hl] at h1
      have e1 := Option.some.inj h1
      rw [List.getElem?_set_self (List.getElem?_eq_some_iff.1 hi).1] at h2
      have e2 := Option.some.inj h2
      subst e1; subst e2
      rcases hO.2 with ⟨e, _⟩ | ⟨g', cap', cur, e, hg, hb, hc, hm, hs, htk⟩
      · cases e
      injection e with e1 e2 e3
      have e4 := Option.some.inj e1
      injection e4 with e5
      subst e5; subst e3
      refine ⟨by simp [iC], .inr ⟨g, c, cur.setIfInBounds k (.int .i64 x), by rw [List.length_set, e2], hg, heap_setCell_same w g k cur _ _ hb, by rw [List.length_set]; exact hc, hm, by simpa using hs, ?_⟩⟩
      rw [Array.toList_setIfInBounds, List.length_set, List.take_set, htk]
      unfold iC
      rw [List.map_set]
    · rw [List.getElem?_set_ne (fun e => hq e.symm)] at h2
      refine trow_at (h.li q l ys h1 h2) fun j hj => set_other _ _ _ _ _ fun e => ?_
      exact h.ap.p i q _ l hl h1 (fun e' => hq e'.symm) g rfl (by rw [← e]; exact hj)
  · rcases List.mem_or_eq_of_mem_set hy with hm | rfl
    · exact h.sz ys hm
    · rw [List.length_set]; exact h.sz zs (List.mem_of_getElem? hi)
structure Bs (w : World) (bk : Nat) (vi vw : Value) (ls ws : List Value) (zss : List (List Int)) : Prop where
  p : Bp w bk vi ls zss
  c1 : w.cell? ⟨bk, 1, none⟩ = some vw
  rw : w.ownsRow 0 50 1 vw zss.length ws
  lw : ∀ (k : Nat) (l : Value) (zs : List Int), ws[k]? = some l → zss[k]? = some zs → OwnI w 0 l zs
  bt : ∃ cs, w.heap[bk]? = some (.cells cs 45 (0, 0)) ∧ cs.size = 22
  ne : ∀ k, vi.ownBlock = some k → vw.ownBlock ≠ some k
theorem Bs.below {w w' : World} {bk : Nat} {vi vw : Value} {ls ws : List Value} {zss : List (List Int)} (h : Bs w bk vi vw ls ws zss) (hb : Below w.heap.size w w') : Bs w' bk vi vw ls ws zss :=
  ⟨h.p.below hb, cell_up h.c1 hb, trow_at h.rw fun i hi => hb.block i (h.rw.lt i hi).2, fun k l zs h1 h2 => trow_at (h.lw k l zs h1 h2) fun i hi => hb.block i ((h.lw k l zs h1 h2).lt i hi).2, h.bt.imp fun _ hx => ⟨(hb.block bk (t_lt hx.1)).trans hx.1, hx.2⟩, h.ne⟩
theorem Bs.at {w : World} {bk : Nat} {vi vw : Value} {ls ws : List Value} {zss : List (List Int)} (h : Bs w bk vi vw ls ws zss) {i : Nat} {zs : List Int} (hi : zss[i]? = some zs) : ∃ gw cw l, vw = .slice (some ⟨gw, 0, none⟩) zss.length cw ∧ w.cell? ⟨gw, i, none⟩ = some l ∧ OwnI w 0 l zs := by
  have hlt := (List.getElem?_eq_some_iff.1 hi).1
  obtain ⟨gw, cw, hv, _, _⟩ := h.rw.form (by omega)
  have hwl : ws.length = zss.length := by have := h.rw.1; rw [Nat.mul_one] at this; exact this
  obtain ⟨l, hl⟩ : ∃ l, ws[i]? = some l := ⟨ws[i]'(by rw [hwl]; exact hlt), List.getElem?_eq_getElem _⟩
  refine ⟨gw, cw, l, hv, ?_, h.lw i l zs hl hi⟩
  have hr := h.rw
  rw [hv] at hr
  rw [hr.cellAt i (by omega), hl]
end
section
open Go.RowKit Go.Maps
attribute [local go_sem ↓] Go.wp_at_zero Go.wp_at_succ
set_option maxRecDepth 100000 in
set_option maxHeartbeats 4000000 in
theorem still_any (bk : Nat) (vi vw : Value) (ls ws : List Value) (zss : List (List Int)) (w : World) (h : Bs w bk vi vw ls ws zss) :
    Calls Tryz.prog 36 #[.pointer (some ⟨bk, 0, none⟩)] w fun r w' => r = .returned (.bool true) ∧ Below w.heap.size w w' := by
  obtain ⟨ai, ci, rfl⟩ := row_shape h.p.ri
  obtain ⟨n, hn⟩ : ∃ n, n = zss.length := ⟨_, rfl⟩
  have HB : Hid _ := And.intro h (And.intro hn h.p.len)
  have c0 := h.p.c0
  rw [← hn] at c0
  have hnl : n ≤ 400 := by rw [hn]; exact h.p.len
  clear h hn
  go_enter Tryz.func36, Tryz.ntmps36
  go_wp2_with fail
  go_loopg [3] n (fun q iv wr => ∃ (i : Nat), q = n - i ∧ i ≤ n ∧ iv = .int .i64 i ∧ Below w.heap.size w wr)
  case atStart => exact ⟨0, rfl, Nat.zero_le _, rfl, Below.refl _ _⟩
  case round =>
    obtain ⟨i, rfl, hi, rfl, hb⟩ := hrel
    have c0' := cell_up c0 hb
    by_cases hlt : i < n
    · obtain ⟨zs, hz⟩ : ∃ zs, zss[i]? = some zs := ⟨zss[i]'(by have := HB.out.2.1; omega), List.getElem?_eq_getElem _⟩
      have h1 := HB.out.1.below hb
      obtain ⟨gi, ci', l, hv, _, cl, hO⟩ := h1.p.at hz
      obtain ⟨gw, cw, l2, hv2, cl2, hO2⟩ := h1.at hz
      have c1 := h1.c1
      rw [hv2] at c1
      injection hv with e1 e2 e3
      subst e1
      rw [← HB.out.2.1] at c1
      have hzl := h1.p.sz zs (List.mem_of_getElem? hz)
      obtain ⟨a1, k1, rfl⟩ := row_shape hO
      obtain ⟨a2, k2, rfl⟩ := row_shape hO2
      have q0 : (0 : Int) ≤ (i : Int) := by omega
      have q1 : (i : Int) < (n : Int) := by omega
      have hSm := fun W (hw : Below wr.heap.size wr W) => sameInts_b (.slice a1 zs.length k1) (.slice a2 zs.length k2) zs zs W (by omega) (by omega) (hO.has.below hw) (hO2.has.below hw)
      rw [beq_self_eq_true] at hSm
      have HS : Hid _ := hSm
      have HBl : Hid _ := hb
      clear hSm hO hO2 h1 hz hb hzl e2 e3 hv2
      go_upto_region 4 with fail
      go_cut [28] (fun s28 wx => s28 = .bool false ∧ Below w.heap.size w wx)
      case first =>
        go_region_held3 (fun w' => w'.cell? ⟨bk, 0, none⟩ = some (.slice (some ⟨gi, 0, none⟩) n ci) ∧ w'.cell? ⟨gi, i, none⟩ = some (.slice a1 zs.length k1) ∧ w'.cell? ⟨bk, 1, none⟩ = some (.slice (some ⟨gw, 0, none⟩) n cw) ∧ w'.cell? ⟨gw, i, none⟩ = some (.slice a2 zs.length k2)) (go_keep)
          ((first
            | (go_at_call 13; refine (HS.out _ (by repeat (first | exact Below.refl _ _ | assumption | refine Below.drew ?_ | refine Below.setCell ?_ (by simp) _ | refine Below.alloc ?_ (by simp) _))).mono ?_; rintro r8 w8 ⟨rfl, hb8'⟩; have hb8 := below_of_drew3 hb8'; have c0' := cell_up c0' hb8; have cl := cell_up cl hb8; have c1 := cell_up c1 hb8; have cl2 := cell_up cl2 hb8; have H8 : Hid _ := HBl.out.trans (hb8.mono HBl.out.size); clear hb8 hb8' HS)
            | fail))
        all_goals (refine Met.intro ?_; apply_assumption; refine Met.intro ?_; apply_assumption; (repeat apply Exists.intro); refine ⟨?rel, rfl⟩; case rel => exact ⟨rfl, by first | exact H8.out | exact below_drewN H8.out _⟩)
      case rest =>
        obtain ⟨rfl, hb9⟩ := hcut
        have H9 : Hid _ := hb9
        clear hb9 HS c0' cl c1 cl2
        go_wp2_with fail
        go_roundg (n - (i + 1))
        case measure => omega
        case rel => exact ⟨i + 1, rfl, by omega, by go_num, H9.out⟩
    · obtain rfl : i = n := by omega
      have q1 : ¬ (i : Int) < (i : Int) := by omega
      have HBl : Hid _ := hb
      clear hb
      go_wp2_with fail
      go_ret
      exact ⟨rfl, HBl.out⟩
end
section
open Go.RowKit Go.Maps
attribute [local go_sem ↓] Go.wp_at_zero Go.wp_at_succ
def mid (i : Nat) (zs : List Int) (k : Nat) : List Int := marks i 0 k ++ zs.drop k
theorem mid_len (i : Nat) (zs : List Int) {k : Nat} (hk : k ≤ zs.length) : (mid i zs k).length = zs.length := by
  unfold mid
  rw [List.length_append, marks_len, List.length_drop]
  omega
theorem mid_zero (i : Nat) (zs : List Int) : mid i zs 0 = zs := by simp [mid, marks]
theorem mid_full (i : Nat) (zs : List Int) : mid i zs zs.length = marks i 0 zs.length := by simp [mid]
theorem mid_succ (i : Nat) (zs : List Int) {k : Nat} (hk : k < zs.length) : (mid i zs k).set k (mk1 i k) = mid i zs (k + 1) := by
  unfold mid
  rw [List.set_append_right _ _ (by rw [marks_len]; exact Nat.le_refl _), marks_len, Nat.sub_self, marks_succ, List.append_assoc, Nat.zero_add]
  congr 1
  rw [List.drop_eq_getElem_cons hk]
  rfl
structure Mkd (zss yss : List (List Int)) (i : Nat) : Prop where
  len : yss.length = zss.length
  at' : ∀ (k : Nat) (zs : List Int), zss[k]? = some zs → yss[k]? = some (if k < i then marks k 0 zs.length else zs)
theorem Mkd.start (zss : List (List Int)) : Mkd zss zss 0 := ⟨rfl, fun k zs h => by rw [if_neg (by omega)]; exact h⟩
theorem Mkd.next {zss yss : List (List Int)} {i : Nat} {zs : List Int} (h : Mkd zss yss i) (hi : zss[i]? = some zs) : Mkd zss (yss.set i (marks i 0 zs.length)) (i + 1) := by
  refine ⟨by rw [List.length_set]; exact h.len, fun k ys hk => ?_⟩
  have hlt := (List.getElem?_eq_some_iff.1 hi).1
  by_cases e : k = i
  · subst e
    rw [List.getElem?_set_self (by rw [h.len]; exact hlt), if_pos (by omega)]
    rw [hi] at hk
    cases hk
    rfl
  · rw [List.getElem?_set_ne (fun e' => e e'.symm), h.at' k ys hk]
    by_cases h2 : k < i
    · rw [if_pos h2, if_pos (by omega)]
    · rw [if_neg h2, if_neg (by omega)]
def allM (zss : List (List Int)) : List (List Int) := zss.mapIdx fun k zs => marks k 0 zs.length
theorem Mkd.fin {zss yss : List (List Int)} (h : Mkd zss yss zss.length) : yss = allM zss := by
  apply List.ext_getElem?
  intro k
  unfold allM
  rw [List.getElem?_mapIdx]
  cases e : zss[k]? with
  | none =>
    rw [List.getElem?_eq_none_iff] at e
    rw [List.getElem?_eq_none_iff.2 (by rw [h.len]; exact e)]
    rfl
  | some zs =>
    have hlt := (List.getElem?_eq_some_iff.1 e).1
    rw [h.at' k zs e, if_pos hlt]
    rfl
set_option maxRecDepth 100000 in
set_option maxHeartbeats 8000000 in
theorem putI_any (bk : Nat) (vi : Value) (ls : List Value) (zss : List (List Int)) (w : World) (h : Bp w bk vi ls zss) :
    Calls Tryz.prog 47 #[.pointer (some ⟨bk, 0, none⟩)] w fun r w' => r = .returned (.tuple #[]) ∧ Bp w' bk vi ls (allM zss) ∧ Kept (LsF ls) w w' := by
  obtain ⟨ai, ci, rfl⟩ := row_shape h.ri
  obtain ⟨n, hn⟩ : ∃ n, n = zss.length := ⟨_, rfl⟩
  have hnl : n ≤ 400 := by rw [hn]; exact h.len
  have HB : Hid _ := And.intro h hn
  have HZ : Hid (n = zss.length) := hn
  rw [← hn]
  clear h hn
  go_enter Tryz.func47, Tryz.ntmps47
  go_wp2_with fail
  go_loopg [2] n (fun q iv wr => ∃ (i : Nat) (yss : List (List Int)), q = n - i ∧ i ≤ n ∧ iv = .int .i64 i ∧ Mkd zss yss i ∧ Bp wr bk (.slice ai n ci) ls yss ∧ Kept (LsF ls) w wr)
  case atStart => exact ⟨0, zss, rfl, Nat.zero_le _, rfl, Mkd.start _, by have h1 := HB.out.1; rw [← HZ.out] at h1; exact h1, Kept.refl _ _⟩
  case round =>
    obtain ⟨i, yss, rfl, hi, rfl, hM, hP, hK⟩ := hrel
    clear HB
    obtain ⟨wq, rfl⟩ : ∃ wq, wq = wr := ⟨_, rfl⟩
    have c0 := hP.c0
    by_cases hlt : i < n
    · obtain ⟨zs, hz⟩ : ∃ zs, zss[i]? = some zs := ⟨zss[i]'(by have := HZ.out; omega), List.getElem?_eq_getElem _⟩
      have hy : yss[i]? = some zs := by rw [hM.at' i zs hz, if_neg (by omega)]
      obtain ⟨gi, ci', l, hv, hl, cl, hO⟩ := hP.at hy
      injection hv with e1 e2 e3
      subst e1
      have hzl := hP.sz zs (List.mem_of_getElem? hy)
      obtain ⟨a1, k1, rfl⟩ := row_shape hO
      have q0 : (0 : Int) ≤ (i : Int) := by omega
      have q1 : (i : Int) < (n : Int) := by omega
      have HMk : Hid _ := mark_any i 0 zs.length wq (by omega) (by omega)
      have HI : Hid _ := And.intro hM (And.intro hP (And.intro hK (And.intro hz (And.intro hy hl))))
      clear hM hP hK hz hy hl hO e2 e3
      go_wp2_with fail
      refine Calls.mono HMk.out ?_
      rintro r w2 ⟨vm, rfl, hOm, hb2⟩
      obtain ⟨am, km, rfl⟩ := row_shape hOm
      have hml : (marks i 0 zs.length).length = zs.length := marks_len _ _ _
      rw [hml]
      have hOm' : w2.ownsRow wq.heap.size 3 1 (.slice am zs.length km) zs.length (iC (marks i 0 zs.length)) := by have h1 := hOm; unfold OwnI at h1; rw [hml] at h1; exact h1
      have H2 : Hid _ := And.intro hOm' (And.intro hb2 (HI.out.2.1.below hb2))
      obtain ⟨N, hN⟩ : ∃ N, N = zs.length := ⟨_, rfl⟩
      have HNz : Hid (N = zs.length) := hN
      rw [← hN] at hzl ⊢
      clear hOm hOm' hb2 hml hN HMk c0 cl
      go_wp2_with fail
      go_loopg [4] N (fun q kv wr => ∃ (k : Nat), q = N - k ∧ k ≤ N ∧ kv = .int .i64 k ∧ Bp wr bk (.slice (some ⟨gi, 0, none⟩) n ci) ls (yss.set i (mid i zs k)) ∧ Kept (fun b => (Value.slice a1 zs.length k1).ownBlock = some b) w2 wr)
      case atStart => exact ⟨0, rfl, Nat.zero_le _, rfl, by rw [mid_zero, set_same HI.out.2.2.2.2.1]; exact H2.out.2.2, Kept.refl _ _⟩
      case round =>
        obtain ⟨k, rfl, hk, rfl, hPk, hKk⟩ := hrel
        have hyl : i < yss.length := by have h1 := HI.out.1.len; have h2 := HZ.out; omega
        have hyk : (yss.set i (mid i zs k))[i]? = some (mid i zs k) := List.getElem?_set_self hyl
        have c0 := hPk.c0
        by_cases hkl : k < N
        · obtain ⟨gi', ci'', l', hv', hl', cl', hO'⟩ := hPk.at hyk
          injection hv' with e1 en1 en2
          clear en1 en2
          have e1 := Option.some.inj e1
          injection e1 with e1
          subst e1
          rw [HI.out.2.2.2.2.2] at hl'
          have e2 := Option.some.inj hl'
          subst e2
          have hmidl : (mid i zs k).length = zs.length := mid_len i zs (by have := HNz.out; omega)
          obtain ⟨g, cg, hf, _, hgl⟩ := World.ownsRow.form hO' (by rw [hmidl]; have := HNz.out; omega)
          injection hf with e3 en3 e4
          clear en3
          subst e3; subst e4
          obtain ⟨gm, cm, hfm, hgm, _⟩ := World.ownsRow.form H2.out.1 (by have := HNz.out; omega)
          injection hfm with e5 en5 e6
          clear en5
          subst e5; subst e6
          have hgq : g < wq.heap.size := ((HI.out.2.1.li i _ zs HI.out.2.2.2.2.2 HI.out.2.2.2.2.1).lt g rfl).2
          have cM : wr.cell? ⟨gm, k, none⟩ = some (.int .i64 (mk1 i k)) := by
            have h1 : w2.cell? ⟨gm, k, none⟩ = some (.int .i64 (mk1 i k)) := by
              rw [World.ownsRow.cellAt H2.out.1 k (by have := HNz.out; omega)]
              unfold iC
              rw [List.getElem?_map, marks_at (by have := HNz.out; omega), Nat.zero_add]
              rfl
            rw [World.cell?_of_block (a := ⟨gm, k, none⟩) (hKk.block gm (World.block_lt_of_cell? w2 _ h1) (fun e => by have h9 := Option.some.inj e; simp at h9; omega))]
            exact h1
          obtain ⟨z0, hz0⟩ : ∃ z0, (mid i zs k)[k]? = some z0 := ⟨(mid i zs k)[k]'(by rw [hmidl]; have := HNz.out; omega), List.getElem?_eq_getElem _⟩
          have cG := OwnI.cell hO' hz0
          obtain ⟨cc, hcc⟩ := row_cells hO' (i := g) rfl
          have cF := blk_free hcc k
          have q2 : (0 : Int) ≤ (k : Int) := by omega
          have q3 : (k : Int) < (N : Int) := by omega
          have hset := hPk.set hyk HI.out.2.2.2.2.2 k (mk1 i k)
          rw [List.set_set, mid_succ i zs (by have := HNz.out; omega)] at hset
          have HJ : Hid _ := And.intro hset (hKk.trans ((Kept.setCell wr g k (.int .i64 (mk1 i k))).mono fun b _ hb => by subst hb; rfl))
          clear hset hPk hKk hyk hO' hl' hz0 hcc hmidl hgl
          rw [← HNz.out] at cl'
          go_upto_region 7 with fail
          go_region
          all_goals
            go_wp2_with fail
            go_roundg (N - (k + 1))
            case measure => omega
            case rel => exact ⟨k + 1, rfl, by omega, by go_num, by first | exact HJ.out.1 | exact HJ.out.1.below ((Below.refl _ _).drew), by first | exact HJ.out.2 | exact HJ.out.2.trans (.of_below ((Below.refl _ _).drew))⟩
        · obtain rfl : k = N := by omega
          have q3 : ¬ (k : Int) < (k : Int) := by omega
          have hfull : mid i zs k = marks i 0 zs.length := by rw [HNz.out]; exact mid_full i zs
          rw [hfull] at hPk
          have hKw : Kept (LsF ls) w wr := (HI.out.2.2.1.trans (.of_below H2.out.2.1)).trans (hKk.mono fun b _ hb => ⟨_, List.mem_of_getElem? HI.out.2.2.2.2.2, hb⟩)
          have HJ : Hid _ := And.intro hPk (And.intro hKw (HI.out.1.next HI.out.2.2.2.1))
          clear hPk hKk hyk hfull hKw
          go_wp2_with fail
          go_roundg (n - (i + 1))
          case measure => omega
          case rel => exact ⟨i + 1, _, rfl, by omega, by go_num, HJ.out.2.2, HJ.out.1, HJ.out.2.1⟩
    · obtain rfl : i = n := by omega
      have q1 : ¬ (i : Int) < (i : Int) := by omega
      have hMf : Mkd zss yss zss.length := by rw [← HZ.out]; exact hM
      have hP' := hP
      rw [hMf.fin] at hP'
      have HJ : Hid _ := And.intro hP' hK
      clear hP' hP hK hM hMf
      go_wp2_with fail
      go_end0
      exact ⟨rfl, HJ.out.1, HJ.out.2⟩
end
section
open Go.RowKit Go.Maps
attribute [local go_sem ↓] Go.wp_at_zero Go.wp_at_succ
structure Mr (w : World) (v : Value) (ns : List Nat) : Prop where
  ex : ∃ ao cap, v = .slice ao ns.length cap ∧ ∀ (k n : Nat), ns[k]? = some n → ∃ a l, ao = some a ∧ w.cell? (a.add k) = some l ∧ HasI w l (marks k 0 n)
theorem Mr.below {w w' : World} {v : Value} {ns : List Nat} (h : Mr w v ns) (hb : Below w.heap.size w w') : Mr w' v ns := by
  obtain ⟨ao, cap, hv, h1⟩ := h.ex
  refine ⟨ao, cap, hv, fun k n hk => ?_⟩
  obtain ⟨a, l, ha, hc, hl⟩ := h1 k n hk
  exact ⟨a, l, ha, (hb.cell (World.block_lt_of_cell? w _ hc)).trans hc, hl.below hb⟩
set_option maxRecDepth 100000 in
set_option maxHeartbeats 4000000 in
theorem markedI_any (v : Value) (ns : List Nat) (w : World) (h : Mr w v ns) (hl : ns.length ≤ 400) (hs : ∀ n ∈ ns, n ≤ 2000000) :
    Calls Tryz.prog 69 #[v] w fun r w' => r = .returned (.bool true) ∧ Below w.heap.size w w' := by
  obtain ⟨ao, cap, rfl, _⟩ := h.ex
  obtain ⟨n, hn⟩ : ∃ n, n = ns.length := ⟨_, rfl⟩
  have HM : Hid _ := And.intro h (And.intro hs hn)
  rw [← hn] at hl ⊢
  clear h hs hn
  go_enter Tryz.func69, Tryz.ntmps69
  go_wp2_with fail
  go_loopg [3] n (fun q iv wr => ∃ (i : Nat), q = n - i ∧ i ≤ n ∧ iv = .int .i64 i ∧ Below w.heap.size w wr)
  case atStart => exact ⟨0, rfl, Nat.zero_le _, rfl, Below.refl _ _⟩
  case round =>
    obtain ⟨i, rfl, hi, rfl, hb⟩ := hrel
    by_cases hlt : i < n
    · obtain ⟨N, hN⟩ : ∃ N, ns[i]? = some N := ⟨ns[i]'(by have := HM.out.2.2; omega), List.getElem?_eq_getElem _⟩
      obtain ⟨ao', cap', hv, h1⟩ := (HM.out.1.below hb).ex
      injection hv with e1 e2 e3
      subst e1
      obtain ⟨a, l, rfl, cl, hL⟩ := h1 i N hN
      have hN2 := HM.out.2.1 N (List.mem_of_getElem? hN)
      obtain ⟨al, kl, hlv, _⟩ := _root_.id hL
      rw [marks_len] at hlv
      subst hlv
      have q0 : (0 : Int) ≤ (i : Int) := by omega
      have q1 : (i : Int) < (n : Int) := by omega
      have hMk := fun W => mark_any i 0 N W (by omega) (by omega)
      have HK : Hid _ := And.intro hMk (And.intro hL hb)
      clear hMk hL hb h1 hN e2 e3
      go_upto_region 4 with fail
      go_cut [22] (fun s22 wx => s22 = .bool false ∧ Below w.heap.size w wx)
      case first =>
        go_region_held3 (fun w' => w'.cell? (a.add i) = some (.slice al N kl)) (go_keep)
          ((first
            | (go_at_call 101; refine (HK.out.1 _).mono ?_; rintro r8 w8 ⟨v8, rfl, hO8, hb8'⟩; have hb8 := below_of_drew3 hb8'; have cl := (hb8.cell (World.block_lt_of_cell? _ _ cl)).trans cl; have hL8 := HK.out.2.1.below hb8; have hS8 := sameInts_b (.slice al N kl) v8 (marks i 0 N) (marks i 0 N) w8 (by rw [marks_len]; omega) (by rw [marks_len]; omega) hL8 hO8.has; rw [beq_self_eq_true] at hS8; have H8 : Hid _ := And.intro hS8 (HK.out.2.2.trans (hb8.mono HK.out.2.2.size)); clear hb8 hb8' hO8 hL8 hS8)
            | (go_at_call 13; refine (Calls.mono H8.out.1 ?_); rintro r9 w9 ⟨rfl, hb9⟩; have cl := (hb9.cell (World.block_lt_of_cell? _ _ cl)).trans cl; have H9 : Hid _ := H8.out.2.trans (hb9.mono H8.out.2.size); clear hb9)
            | fail))
        all_goals (refine Met.intro ?_; apply_assumption; refine Met.intro ?_; apply_assumption; (repeat apply Exists.intro); refine ⟨?rel, rfl⟩; case rel => exact ⟨rfl, by first | exact H9.out | exact below_drewN H9.out _⟩)
      case rest =>
        obtain ⟨rfl, hb9⟩ := hcut
        have H9 : Hid _ := hb9
        clear hb9 cl
        go_wp2_with fail
        go_roundg (n - (i + 1))
        case measure => omega
        case rel => exact ⟨i + 1, rfl, by omega, by go_num, H9.out⟩
    · obtain rfl : i = n := by omega
      have q1 : ¬ (i : Int) < (i : Int) := by omega
      have HBl : Hid _ := hb
      clear hb
      go_wp2_with fail
      go_ret
      exact ⟨rfl, HBl.out⟩
end
section
open Go.RowKit Go.Maps
structure GrI (w wr : World) (bk : Nat) (vi : Value) (ls : List Value) (zss : List (List Int)) (i : Nat) (vo : Value) (os : List Value) : Prop where
  c0 : wr.cell? ⟨bk, 0, none⟩ = some vi
  ri : wr.ownsRow 0 50 1 vi zss.length ls
  todo : ∀ (k : Nat) (l : Value) (zs : List Int), i ≤ k → ls[k]? = some l → zss[k]? = some zs → OwnI wr 0 l zs
  done : ∀ (k : Nat) (l : Value) (zs : List Int), k < i → ls[k]? = some l → zss[k]? = some zs → HasI wr l zs ∧ ∃ o, os[k]? = some o ∧ HasI wr o (zs ++ marks k zs.length 96) ∧ (o.ownBlock = l.ownBlock ∨ ∀ b, o.ownBlock = some b → w.heap.size ≤ b) ∧ ∀ b, o.ownBlock = some b → vo.ownBlock ≠ some b
  row : wr.ownsRow w.heap.size 50 1 vo i os
  kp : Kept (LsF ls) w wr
structure Gs (w : World) (bk : Nat) (vi : Value) (ls : List Value) : Prop where
  ap : Apt bk vi ls
  bk : bk < w.heap.size
  vi : ∀ b, vi.ownBlock = some b → b < w.heap.size
  ls : ∀ l ∈ ls, ∀ b, l.ownBlock = some b → b < w.heap.size
theorem gr_start {w : World} {bk : Nat} {vi : Value} {ls : List Value} {zss : List (List Int)} (h : Bp w bk vi ls zss) : GrI w w bk vi ls zss 0 (.slice none 0 0) [] ∧ Gs w bk vi ls := by
  refine ⟨⟨h.c0, h.ri, fun k l zs _ h1 h2 => h.li k l zs h1 h2, fun k l zs hk => by omega, World.ownsRow_nil _ _ _ _, Kept.refl _ _⟩, ⟨h.ap, World.block_lt_of_cell? w _ h.c0, fun b hb => (h.ri.lt b hb).2, fun l hl b hb => ?_⟩⟩
  obtain ⟨k, hk, rfl⟩ := List.getElem_of_mem hl
  have hz : zss[k]? = some (zss[k]'(by rw [← h.ll]; exact hk)) := List.getElem?_eq_getElem _
  exact ((h.li k _ _ (List.getElem?_eq_getElem hk) hz).lt b hb).2
structure Gm (wq wr : World) (l : Value) (zs : List Int) (i : Nat) (lv : Value) (m : Nat) : Prop where
  kp : Kept (fun b => l.ownBlock = some b) wq wr
  has : HasI wr l zs
  own : OwnI wr 0 lv (zs ++ marks i zs.length m)
  at' : lv.ownBlock = l.ownBlock ∨ ∀ b, lv.ownBlock = some b → wq.heap.size ≤ b
theorem gm_start {wq : World} {l : Value} {zs : List Int} (i : Nat) (h : OwnI wq 0 l zs) : Gm wq wq l zs i l 0 :=
  ⟨Kept.refl _ _, h.has, by simpa [marks] using h, .inl rfl⟩
theorem Gm.below {wq wr w' : World} {l : Value} {zs : List Int} {i : Nat} {lv : Value} {m : Nat} (h : Gm wq wr l zs i lv m) (hb : Below wr.heap.size wr w') : Gm wq w' l zs i lv m :=
  ⟨h.kp.trans (.of_below hb), h.has.below hb, trow_at h.own fun k hk => hb.block k (h.own.lt k hk).2, h.at'⟩
theorem has_prefix {w : World} {l lv : Value} {zs ys : List Int} (hl : ∃ c, l = .slice (match l with | .slice a _ _ => a | _ => none) zs.length c) (ho : OwnI w 0 lv (zs ++ ys)) (he : lv.ownBlock = l.ownBlock) (hlf : zs ≠ [] → ∃ g c, l = .slice (some ⟨g, 0, none⟩) zs.length c) (h0 : zs = [] → HasI w l zs) : HasI w l zs := by
  by_cases hz : zs = []
  · exact h0 hz
  obtain ⟨g, c, rfl⟩ := hlf hz
  refine ⟨_, c, rfl, fun j z hj => ⟨_, rfl, ?_⟩⟩
  have hlt := (List.getElem?_eq_some_iff.1 hj).1
  obtain ⟨g2, c2, rfl, _, _⟩ := World.ownsRow.form ho (by rw [List.length_append]; omega)
  have hg : g2 = g := by have h1 := he; simp [Value.ownBlock] at h1; exact h1
  subst hg
  rw [addz]
  exact OwnI.cell ho (by rw [List.getElem?_append_left hlt]; exact hj)
theorem Gm.app {wq wr w' : World} {l : Value} {zs : List Int} {i : Nat} {lv lv' : Value} {m d : Nat} (h : Gm wq wr l zs i lv m) (hO : OwnI wq 0 l zs) (hn : w'.ownsRow 0 3 1 lv' ((zs ++ marks i zs.length m).length + d) (iC (zs ++ marks i zs.length m) ++ iC (marks i (zs.length + m) d)))
    (hk : (lv'.ownBlock = lv.ownBlock ∧ wr.grownBy w' lv.ownBlock) ∨ ((∀ k, lv'.ownBlock = some k → wr.heap.size ≤ k) ∧ wr.grownBy w' none)) : Gm wq w' l zs i lv' (m + d) := by
  have e1 : zs ++ marks i zs.length (m + d) = (zs ++ marks i zs.length m) ++ marks i (zs.length + m) d := by rw [List.append_assoc, marks_add]
  have hown : OwnI w' 0 lv' (zs ++ marks i zs.length (m + d)) := by
    have e2 : ((zs ++ marks i zs.length m) ++ marks i (zs.length + m) d).length = (zs ++ marks i zs.length m).length + d := by rw [List.length_append, marks_len i (zs.length + m) d]
    have e3 : iC ((zs ++ marks i zs.length m) ++ marks i (zs.length + m) d) = iC (zs ++ marks i zs.length m) ++ iC (marks i (zs.length + m) d) := by unfold iC; rw [List.map_append]
    unfold OwnI
    rw [e1, e2, e3]
    exact hn
  rcases hk with ⟨h1, h2⟩ | ⟨h1, h2⟩
  · have hkk : Kept (fun b => l.ownBlock = some b) wq w' := by
      refine h.kp.trans2 (Kept.of_grown h2) fun b hb => ?_
      rcases h.at' with e | e
      · exact .inl (by rw [← e]; exact hb)
      · exact .inr (e b hb)
    refine ⟨hkk, ?_, hown, ?_⟩
    · rcases h.at' with e | e
      · obtain ⟨al, cl, hlv⟩ := row_shape hO
        refine has_prefix ⟨cl, by rw [hlv]⟩ hown (h1.trans e) (fun hz => ?_) (fun hz => ?_)
        · obtain ⟨g, c, hf, _, _⟩ := World.ownsRow.form hO (List.length_pos_iff.2 hz)
          exact ⟨g, c, hf⟩
        · subst hz; rw [hlv]; exact ⟨al, cl, rfl, fun j z hj => by simp at hj⟩
      · exact h.has.kept (Kept.of_grown h2) fun hz b hb hf => by
          have h3 := e b hf
          have h4 := made_far hO.has hz hb
          omega
    · rcases h.at' with e | e
      · exact .inl (h1.trans e)
      · exact .inr fun b hb => e b (by rw [← h1]; exact hb)
  · refine ⟨h.kp.trans ((Kept.of_grown h2).mono fun b _ hb => by cases hb), h.has.kept (Kept.of_grown h2) fun _ b _ hf => (by cases hf), hown, .inr fun b hb => ?_⟩
    have := h1 b hb
    have := h.kp.size
    omega
theorem GrI.next {w wq wr w' : World} {bk : Nat} {vi : Value} {ls : List Value} {zss : List (List Int)} {i : Nat} {vo vo' : Value} {os : List Value} {l lv : Value} {zs : List Int} (h : GrI w wq bk vi ls zss i vo os) (hs : Gs w bk vi ls) (hl : ls[i]? = some l) (hz : zss[i]? = some zs) (hm : Gm wq wr l zs i lv 96)
    (hr : w'.ownsRow w.heap.size 50 1 vo' (i + 1) (os ++ [lv])) (hg : wr.grownBy w' vo.ownBlock) (hat : vo'.ownBlock = vo.ownBlock ∨ ∀ b, vo'.ownBlock = some b → wr.heap.size ≤ b) : GrI w w' bk vi ls zss (i + 1) vo' (os ++ [lv]) := by
  have hlm := List.mem_of_getElem? hl
  have hO := h.todo i l zs (Nat.le_refl _) hl hz
  have hvo : ∀ b, vo.ownBlock = some b → w.heap.size ≤ b ∧ b < wq.heap.size := fun b hb => h.row.lt b hb
  -- a block below w that is not the list's own stands
  have hst : ∀ b, b < w.heap.size → l.ownBlock ≠ some b → w'.heap[b]? = wq.heap[b]? := fun b hb hn => by
    have h1 := h.kp.size
    have h2 := hm.kp.size
    rw [hg.block b (by omega) (fun e => by have := (hvo b e.symm).1; omega)]
    exact hm.kp.block b (by omega) hn
  have hst2 : ∀ b, b < wq.heap.size → l.ownBlock ≠ some b → vo.ownBlock ≠ some b → w'.heap[b]? = wq.heap[b]? := fun b hb hn hn2 => by
    have h2 := hm.kp.size
    rw [hg.block b (by omega) (fun e => hn2 e.symm)]
    exact hm.kp.block b hb hn
  have hKw : Kept (LsF ls) w w' := by
    refine (h.kp.trans (hm.kp.mono fun b _ hb => ⟨l, hlm, hb⟩)).trans2 (Kept.of_grown hg) fun b hb => .inr (hvo b hb).1
  have hK2 : Kept (fun b => l.ownBlock = some b ∨ vo.ownBlock = some b) wq w' := (hm.kp.mono fun b _ hb => .inl hb).trans ((Kept.of_grown hg).mono fun b _ hb => .inr hb)
  have hlen : os.length = i := by have := h.row.1; rw [Nat.mul_one] at this; exact this
  refine ⟨?_, trow_at h.ri fun b hb => hst b (hs.vi b hb) (fun e => hs.ap.r l hlm b e hb), fun k l2 zs2 hk h1 h2 => ?_, fun k l2 zs2 hk h1 h2 => ?_, hr, hKw⟩
  · rw [World.cell?_of_block (a := ⟨bk, 0, none⟩) (hst bk hs.bk (hs.ap.b l hlm))]; exact h.c0
  · exact trow_at (h.todo k l2 zs2 (by omega) h1 h2) fun b hb => hst b (hs.ls l2 (List.mem_of_getElem? h1) b hb) fun e => hs.ap.p i k l l2 hl h1 (by omega) b e hb
  · by_cases e : k = i
    · subst e
      rw [hl] at h1; rw [hz] at h2
      cases h1; cases h2
      have hvn : ∀ b, lv.ownBlock = some b → vo.ownBlock ≠ some b := fun b hb hv => by
        have h3 := hvo b hv
        rcases hm.at' with e | e
        · rw [e] at hb; have := hs.ls l hlm b hb; omega
        · have := e b hb; omega
      have hO' := trow_at (w' := w') hm.own fun b hb => hg.block b (hm.own.lt b hb).2 fun e => hvn b hb e.symm
      refine ⟨hm.has.kept (Kept.of_grown hg) fun hz b hb hf => ?_, lv, ?_, OwnI.has hO', ?_, fun b hb hv => ?_⟩
      · have := hs.ls l hlm b hb; have := (hvo b hf).1; omega
      · rw [List.getElem?_append_right (by omega), hlen, Nat.sub_self]; rfl
      · rcases hm.at' with e | e
        · exact .inl e
        · exact .inr fun b hb => by have := e b hb; have := h.kp.size; omega
      · rcases hat with e | e
        · rw [e] at hv; exact hvn b hb hv
        · have h3 := e b hv
          have := (hm.own.lt b hb).2
          omega
    · obtain ⟨d1, o, d2, d3, d4, d5⟩ := h.done k l2 zs2 (by omega) h1 h2
      have hne : ∀ b, l2.ownBlock = some b → l.ownBlock ≠ some b := fun b hb e' => hs.ap.p i k l l2 hl h1 (fun e9 => e e9.symm) b e' hb
      refine ⟨?_, o, by rw [List.getElem?_append_left (by omega)]; exact d2, ?_, d4, fun b hb hv => ?_⟩
      · exact d1.kept hK2 fun _ b hb hf => hf.elim (hne b hb) fun hv => by
          have h3 := hs.ls l2 (List.mem_of_getElem? h1) b hb
          have h4 := (hvo b hv).1
          omega
      · exact d3.kept hK2 fun _ b hb hf => hf.elim (fun hv => by
          rcases d4 with e9 | e9
          · rw [e9] at hb; exact hne b hb hv
          · have h3 := e9 b hb
            have h4 := hs.ls l hlm b hv
            omega) (d5 b hb)
      · rcases hat with e9 | e9
        · rw [e9] at hv; exact d5 b hb hv
        · have h3 := e9 b hv
          have h4 := made_far d3 (fun e8 => by have h5 := congrArg List.length e8; rw [List.length_append, marks_len] at h5; simp at h5) hb
          have h5 := hm.kp.size
          omega
end
section
open Go.RowKit Go.Maps
attribute [local go_sem ↓] Go.wp_at_zero Go.wp_at_succ
theorem Tryz.infoRowI : (Tryz.prog.info? 50).map (fun i => (i.zero, i.size, i.bytes)) = some (some (.slice none 0 0), 1, 24) := by kernel_rfl
set_option maxRecDepth 100000 in
set_option maxHeartbeats 8000000 in
theorem growI_any (bk : Nat) (vi : Value) (ls : List Value) (zss : List (List Int)) (w : World) (h : Bp w bk vi ls zss) :
    Calls Tryz.prog 58 #[.pointer (some ⟨bk, 0, none⟩)] w fun r w' => ∃ vo os, r = .returned vo ∧ GrI w w' bk vi ls zss zss.length vo os := by
  obtain ⟨i0, hi0, hz0, hz1, hz2⟩ := info_parts Tryz.infoI3
  obtain ⟨j0, hj0, hy0, hy1, hy2⟩ := info_parts Tryz.infoRowI
  obtain ⟨ai, ci, rfl⟩ := row_shape h.ri
  obtain ⟨n, hn⟩ : ∃ n, n = zss.length := ⟨_, rfl⟩
  have hnl : n ≤ 400 := by rw [hn]; exact h.len
  have h2 := gr_start h
  rw [← hn] at h2 ⊢
  have HS : Hid _ := And.intro h2.2 (And.intro hn h.sz)
  have HR : Hid _ := h2.1
  clear h hn h2
  go_enter Tryz.func58, Tryz.ntmps58
  go_wp2_with fail
  go_loopg [3, 4] n (fun q ov iv wr => ∃ (i : Nat) (os : List Value), q = n - i ∧ i ≤ n ∧ iv = .int .i64 i ∧ GrI w wr bk (.slice ai n ci) ls zss i ov os)
  case atStart => exact ⟨0, [], rfl, Nat.zero_le _, rfl, HR.out⟩
  case round =>
    obtain ⟨i, os, rfl, hi, rfl, hG⟩ := hrel
    clear HR
    obtain ⟨wq, rfl⟩ : ∃ wq, wq = wr := ⟨_, rfl⟩
    have c0 := hG.c0
    by_cases hlt : i < n
    · obtain ⟨zs, hz⟩ : ∃ zs, zss[i]? = some zs := ⟨zss[i]'(by have := HS.out.2.1; omega), List.getElem?_eq_getElem _⟩
      have hri := hG.ri
      rw [← HS.out.2.1] at hri
      have hll : ls.length = n := by have := hri.1; rw [Nat.mul_one] at this; exact this
      obtain ⟨l, hl⟩ : ∃ l, ls[i]? = some l := ⟨ls[i]'(by omega), List.getElem?_eq_getElem _⟩
      obtain ⟨gi, cgi, hv, _, _⟩ := World.ownsRow.form hri (by omega)
      injection hv with e1 e2 e3
      subst e1; subst e3
      clear e2
      have cl : wq.cell? ⟨gi, i, none⟩ = some l := by rw [hri.cellAt i (by omega), hl]
      have hO := hG.todo i l zs (Nat.le_refl _) hl hz
      have hzl := HS.out.2.2 zs (List.mem_of_getElem? hz)
      obtain ⟨al, kl, rfl⟩ := row_shape hO
      obtain ⟨ao, ko, rfl⟩ := row_shape hG.row
      have q0 : (0 : Int) ≤ (i : Int) := by omega
      have q1 : (i : Int) < (n : Int) := by omega
      have HG : Hid _ := And.intro hG (And.intro hO (And.intro hl hz))
      clear hG hO hl hz hri
      go_wp2_with fail
      go_loopg [5, 6] 16 (fun q lv nv wr => ∃ (m : Nat), q = 16 - m ∧ m ≤ 16 ∧ nv = .int .i64 m ∧ Gm wq wr (.slice al zs.length kl) zs i lv m)
      case atStart => exact ⟨0, rfl, Nat.zero_le _, rfl, gm_start i HG.out.2.1⟩
      case round =>
        obtain ⟨m, rfl, hm, rfl, hM⟩ := hrel
        obtain ⟨ay, ky, hys⟩ := row_shape hM.own
        have hyl : (zs ++ marks i zs.length m).length = zs.length + m := by rw [List.length_append, marks_len]
        rw [hyl] at hys
        subst hys
        obtain ⟨N, hN⟩ : ∃ N, N = zs.length + m := ⟨_, rfl⟩
        by_cases hmt : m < 16
        · have p1 : (m : Int) < 16 := by omega
          have hMk := fun W => mark_any i N 1 W (by omega) (by omega)
          rw [← hN] at hM
          have HM : Hid _ := And.intro hM (And.intro hMk (And.intro hyl hN))
          rw [← hN]
          have hN1 : N + 1 ≤ maxLen := by unfold maxLen; omega
          have hN8 : (N + 1) * 8 ≤ 140737488355328 := by omega
          clear hM hMk hyl hN
          go_wp2_with (first
            | (go_at_call 101; refine (HM.out.2.1 _).mono ?_; rintro r8 w8 ⟨v8, rfl, hO8, hb8⟩; obtain ⟨g8, c8, rfl, _, _⟩ := World.ownsRow.form hO8 (by rw [marks_len]; omega); rw [marks_len]; have hM8 := HM.out.1.below hb8; have hown8 : w8.ownsRow 0 3 1 (.slice ay N ky) N (iC (zs ++ marks i zs.length m)) := (by have h9 := hM8.own; unfold OwnI at h9; rw [HM.out.2.2.1, ← HM.out.2.2.2] at h9; exact h9); have H8 : Hid _ := And.intro hown8 (And.intro hO8 hM8); clear hb8 hO8 hM8 hown8)
            | (at_builtin; refine wpList_append_keep _ rfl _ _ 50 rfl 0 3 i0 (.int .i64 0) 1 8 Tryz.underlying50 hi0 hz0 hz1 hz2 rfl (by decide) (.slice ay N ky) N (iC (zs ++ marks i zs.length m)) rfl H8.out.1 ⟨g8, 0, none⟩ 1 c8 (iC (marks i N 1)) rfl (by rw [iC_length, marks_len]) (fun j u hj => by rw [addz, World.ownsRow.cellAt H8.out.2.1 j (by rw [← H8.out.2.1.1]; exact (List.getElem?_eq_some_iff.1 hj).1)]; exact hj) (iC_one _) hN1 hN8 (Nat.zero_le _) ?_; intro v2 w2 hown2 hk2; have H2 : Hid _ := And.intro hown2 hk2; clear hown2 hk2)
            | fail)
          have hgm : Gm wq w2 (.slice al zs.length kl) zs i v2 (m + 1) := Gm.app H8.out.2.2 HG.out.2.1 (by rw [HM.out.2.2.1, ← HM.out.2.2.2]; exact H2.out.1) H2.out.2
          have H3 : Hid _ := hgm
          clear hgm
          go_roundg (16 - (m + 1))
          case measure => omega
          case rel => exact ⟨m + 1, rfl, by omega, by go_num, H3.out⟩
        · obtain rfl : m = 16 := by omega
          have p1 : ¬ (16 : Int) < 16 := by omega
          have hMk := fun W => mark_any i N 80 W (by omega) (by omega)
          rw [← hN] at hM
          have HM : Hid _ := And.intro hM (And.intro hMk (And.intro hyl hN))
          rw [← hN]
          have hN1 : N + 80 ≤ maxLen := by unfold maxLen; omega
          have hN8 : (N + 80) * 8 ≤ 140737488355328 := by omega
          have hR1 : i + 1 ≤ maxLen := by unfold maxLen; omega
          have hR8 : (i + 1) * 24 ≤ 140737488355328 := by omega
          clear hM hMk hyl hN
          go_wp2_with (first
            | (go_at_call 101; refine (HM.out.2.1 _).mono ?_; rintro r8 w8 ⟨v8, rfl, hO8, hb8⟩; obtain ⟨g8, c8, rfl, _, _⟩ := World.ownsRow.form hO8 (by rw [marks_len]; omega); rw [marks_len]; have hM8 := HM.out.1.below hb8; have hown8 : w8.ownsRow 0 3 1 (.slice ay N ky) N (iC (zs ++ marks i zs.length 16)) := (by have h9 := hM8.own; unfold OwnI at h9; rw [HM.out.2.2.1, ← HM.out.2.2.2] at h9; exact h9); have H8 : Hid _ := And.intro hown8 (And.intro hO8 hM8); clear hb8 hO8 hM8 hown8)
            | (at_builtin; refine wpList_append_keep _ rfl _ _ 50 rfl 0 3 i0 (.int .i64 0) 1 8 Tryz.underlying50 hi0 hz0 hz1 hz2 rfl (by decide) (.slice ay N ky) N (iC (zs ++ marks i zs.length 16)) rfl H8.out.1 ⟨g8, 0, none⟩ 80 c8 (iC (marks i N 80)) rfl (by rw [iC_length, marks_len]) (fun j u hj => by rw [addz, World.ownsRow.cellAt H8.out.2.1 j (by rw [← H8.out.2.1.1]; exact (List.getElem?_eq_some_iff.1 hj).1)]; exact hj) (iC_one _) hN1 hN8 (Nat.zero_le _) ?_; intro v2 w2 hown2 hk2; obtain ⟨a2, k2, rfl⟩ := row_shape hown2; have hgm : Gm wq w2 (.slice al zs.length kl) zs i (.slice a2 (N + 80) k2) 96 := Gm.app H8.out.2.2 HG.out.2.1 (by rw [HM.out.2.2.1, ← HM.out.2.2.2]; exact hown2) hk2; have H2 : Hid _ := hgm.below (w' := w2.alloc (.cells #[.slice a2 (N + 80) k2] 50)) ((Below.refl _ _).alloc (Nat.le_refl _) _); have hle2 : w.heap.size ≤ (w2.alloc (.cells #[.slice a2 (N + 80) k2] 50)).heap.size := (by have h1 := HG.out.1.kp.size; have h2 := hgm.kp.size; simp; omega); have hrow2 : (w2.alloc (.cells #[.slice a2 (N + 80) k2] 50)).ownsRow w.heap.size 50 1 (.slice ao i ko) i os := trow_at HG.out.1.row (fun b hb => (by have h3 := (HG.out.1.row.lt b hb); have h4 := H2.out.kp; refine h4.block b h3.2 fun e => ?_; have h5 := HS.out.1.ls _ (List.mem_of_getElem? HG.out.2.2.1) b e; omega)); have HR2 : Hid _ := hrow2; clear hown2 hk2 hgm hrow2)
            | (at_builtin; refine wpList_append_own_at _ rfl _ _ 34 rfl w.heap.size 50 j0 (.slice none 0 0) 1 24 Tryz.underlying34 hj0 hy0 hy1 hy2 rfl (by decide) (.slice ao i ko) i os rfl HR2.out ⟨w2.heap.size, 0, none⟩ 1 1 [.slice a2 (N + 80) k2] rfl rfl (World.news_of_block (cs := #[.slice a2 (N + 80) k2]) (t := 50) (fr := (0, 0)) (heap_alloc_new w2 _)) (one_list _ ⟨_, _, _, rfl⟩) hR1 hR8 hle2 ?_; intro v3 w3 hown3 hgrow3 hnil3 hat3; have H3 : Hid _ := And.intro hown3 (And.intro hgrow3 hat3); clear hown3 hgrow3 hnil3 hat3)
            | fail)
          have hnx : GrI w w3 bk (.slice (some ⟨gi, 0, none⟩) n ci) ls zss (i + 1) v3 (os ++ [.slice a2 (N + 80) k2]) := HG.out.1.next HS.out.1 HG.out.2.2.1 HG.out.2.2.2 H2.out H3.out.1 H3.out.2.1 (H3.out.2.2.imp_right fun e b hb => by rw [e] at hb; have := Option.some.inj hb; omega)
          have H4 : Hid _ := hnx
          clear hnx
          go_roundg (n - (i + 1))
          case measure => omega
          case rel => exact ⟨i + 1, _, rfl, by omega, by go_num, H4.out⟩
    · obtain rfl : i = n := by omega
      have q1 : ¬ (i : Int) < (i : Int) := by omega
      have HJ : Hid _ := hG
      clear hG
      go_wp2_with fail
      go_ret
      exact ⟨_, rfl, os, HJ.out⟩
end
section
open Go.RowKit Go.Maps
attribute [local go_sem ↓] Go.wp_at_zero Go.wp_at_succ
structure Bsn (w w' : World) (bk : Nat) (vi vw : Value) (v : Value) (ls ws : List Value) (zss : List (List Int)) (zs : List Int) (vi' vw' v1 : Value) : Prop where
  b : Bs w' bk vi' vw' (ls ++ [v]) (ws ++ [v1]) (zss ++ [zs])
  k : Kept (fun b => b = bk ∨ vi.ownBlock = some b ∨ vw.ownBlock = some b) w w'
  o : ∀ o, 2 ≤ o → w'.cell? ⟨bk, o, none⟩ = w.cell? ⟨bk, o, none⟩
  f : ∀ b, (vi'.ownBlock = some b ∨ vw'.ownBlock = some b) → (vi.ownBlock = some b ∨ vw.ownBlock = some b) ∨ w.heap.size ≤ b
  n : ∀ b, v1.ownBlock = some b → w.heap.size ≤ b
theorem Bs.snoc {w w1 w2 w3 : World} {bk : Nat} {vi vw : Value} {ls ws : List Value} {zss : List (List Int)} (h : Bs w bk vi vw ls ws zss) {v : Value} {zs : List Int} (hO : OwnI w 0 v zs) (hap : ∀ l ∈ ls, ∀ k, l.ownBlock = some k → v.ownBlock ≠ some k) (hlen : zss.length < 400) (hsz : zs.length ≤ 1000000) {vi' vw' v1 : Value}
    (r1 : w1.ownsRow 0 50 1 vi' (zss.length + 1) (ls ++ [v])) (g1 : (w.alloc (.cells #[v] 50)).grownBy w1 vi.ownBlock) (a1 : vi'.ownBlock = vi.ownBlock ∨ vi'.ownBlock = some (w.heap.size + 1))
    (r2 : w2.ownsRow ((w1.setCell ⟨bk, 0, none⟩ vi').drew.heap.size) 3 1 v1 zs.length (iC zs)) (g2 : Below (w1.setCell ⟨bk, 0, none⟩ vi').drew.heap.size (w1.setCell ⟨bk, 0, none⟩ vi').drew w2)
    (r3 : w3.ownsRow 0 50 1 vw' (zss.length + 1) (ws ++ [v1])) (g3 : (w2.alloc (.cells #[v1] 50)).grownBy w3 vw.ownBlock) (a3 : vw'.ownBlock = vw.ownBlock ∨ vw'.ownBlock = some (w2.heap.size + 1)) :
    Bsn w (w3.setCell ⟨bk, 1, none⟩ vw') bk vi vw v ls ws zss zs vi' vw' v1 := by
  obtain ⟨cs, hcs, hcz⟩ := h.bt
  have hbk : bk < w.heap.size := t_lt hcs
  have nbi : vi.ownBlock ≠ some bk := own_bk h.p.ri hcs (by decide)
  have nbw : vw.ownBlock ≠ some bk := own_bk h.rw hcs (by decide)
  have kA : Kept (fun b => vi.ownBlock = some b) w w1 := (Kept.of_below ((Below.refl _ _).alloc (Nat.le_refl _) _)).trans (Kept.of_grown g1)
  have s1 : w.heap.size + 1 ≤ w1.heap.size := by have := g1.size; simp at this; omega
  have kB : Kept (fun b => b = bk) w1 (w1.setCell ⟨bk, 0, none⟩ vi').drew := (Kept.setCell w1 bk 0 vi').trans (Kept.of_below ((Below.refl _ _).drew))
  have sB : (w1.setCell ⟨bk, 0, none⟩ vi').drew.heap.size = w1.heap.size := by simp
  have kC : Kept (fun b => b = bk) w1 w2 := kB.trans (Kept.of_below g2)
  have s2 : w1.heap.size ≤ w2.heap.size := by have := g2.size; omega
  have kD : Kept (fun b => vw.ownBlock = some b) w2 w3 := (Kept.of_below ((Below.refl _ _).alloc (Nat.le_refl _) _)).trans (Kept.of_grown g3)
  have s3 : w2.heap.size + 1 ≤ w3.heap.size := by have := g3.size; simp at this; omega
  have kE : Kept (fun b => b = bk) w3 (w3.setCell ⟨bk, 1, none⟩ vw') := Kept.setCell w3 bk 1 vw'
  have kW : Kept (fun b => b = bk ∨ vi.ownBlock = some b ∨ vw.ownBlock = some b) w (w3.setCell ⟨bk, 1, none⟩ vw') :=
    (((kA.mono fun b _ hb => .inr (.inl hb)).trans (kC.mono fun b _ hb => .inl hb)).trans (kD.mono fun b _ hb => .inr (.inr hb))).trans (kE.mono fun b _ hb => .inl hb)
  -- the book's own block
  have b1 : w1.heap[bk]? = some (.cells cs 45 (0, 0)) := (kA.block bk hbk nbi).trans hcs
  have b2 : (w1.setCell ⟨bk, 0, none⟩ vi').drew.heap[bk]? = some (.cells (cs.setIfInBounds 0 vi') 45 (0, 0)) := heap_setCell_same w1 bk 0 cs _ _ b1
  have b3 : w2.heap[bk]? = some (.cells (cs.setIfInBounds 0 vi') 45 (0, 0)) := (g2.block bk (by omega)).trans b2
  have b4 : w3.heap[bk]? = some (.cells (cs.setIfInBounds 0 vi') 45 (0, 0)) := (kD.block bk (by omega) nbw).trans b3
  have b5 : (w3.setCell ⟨bk, 1, none⟩ vw').heap[bk]? = some (.cells ((cs.setIfInBounds 0 vi').setIfInBounds 1 vw') 45 (0, 0)) := heap_setCell_same w3 bk 1 _ _ _ b4
  have hcell : ∀ o, (w3.setCell ⟨bk, 1, none⟩ vw').cell? ⟨bk, o, none⟩ = ((cs.setIfInBounds 0 vi').setIfInBounds 1 vw')[o]? := fun o => by simp [World.cell?, b5]
  have hcell0 : ∀ o, w.cell? ⟨bk, o, none⟩ = cs[o]? := fun o => by simp [World.cell?, hcs]
  -- what else stands
  have hint : ∀ (x : Value) (ys : List Int), OwnI w 0 x ys → OwnI (w3.setCell ⟨bk, 1, none⟩ vw') 0 x ys := fun x ys hx => own_up hx kW fun b hb hf => by
    rcases hf with rfl | hf | hf
    · exact own_bk hx hcs (by decide) hb
    · exact own_ne hx h.p.ri (by decide) b hb hf
    · exact own_ne hx h.rw (by decide) b hb hf
  have nvi' : vi'.ownBlock ≠ some bk := fun e => by
    rcases a1 with a | a
    · rw [a] at e; exact nbi e
    · rw [a] at e; have := Option.some.inj e; omega
  have nvw' : vw'.ownBlock ≠ some bk := fun e => by
    rcases a3 with a | a
    · rw [a] at e; exact nbw e
    · rw [a] at e; have := Option.some.inj e; omega
  have nvv : ∀ k, vi'.ownBlock = some k → vw.ownBlock ≠ some k := fun k hk e => by
    rcases a1 with a | a
    · rw [a] at hk; exact h.ne k hk e
    · rw [a] at hk; have := Option.some.inj hk; have := (h.rw.lt k e).2; omega
  have hvi3 : w3.ownsRow 0 50 1 vi' (zss.length + 1) (ls ++ [v]) := own_up (own_up r1 kC fun b hb e => nvi' (by rw [hb, e])) kD nvv
  have hvif := own_up hvi3 kE fun b hb e => nvi' (by rw [hb, e])
  have hvwf := own_up r3 kE fun b hb e => nvw' (by rw [hb, e])
  have hv1 : OwnI (w3.setCell ⟨bk, 1, none⟩ vw') 0 v1 zs := by
    have x2 : w2.ownsRow 0 3 1 v1 zs.length (iC zs) := row_base r2 (Nat.zero_le _)
    have hlow : ∀ b, v1.ownBlock = some b → w1.heap.size ≤ b := fun b hb => by have := (r2.lt b hb).1; omega
    exact own_up (own_up x2 kD fun b hb e => by have := hlow b hb; have := (h.rw.lt b e).2; omega) kE fun b hb e => by have := hlow b hb; omega
  have hlls : ls.length = zss.length := h.p.ll
  have hlws : ws.length = zss.length := by have := h.rw.1; rw [Nat.mul_one] at this; exact this
  refine ⟨⟨⟨?_, ?_, fun k l ys h1 h2 => ?_, ⟨fun l hl => ?_, fun l hl k hk => ?_, nvi', fun i j l m hl hm hij k hk => ?_⟩, by rw [List.length_append]; simp; omega, fun ys hy => ?_⟩, ?_, ?_, fun k l ys h1 h2 => ?_, ⟨_, b5, by simpa using hcz⟩, fun k hk e => ?_⟩, kW, fun o ho => ?_, fun b hb => ?_, fun b hb => by have := (r2.lt b hb).1; omega⟩
  · rw [hcell, Array.getElem?_setIfInBounds_ne (by decide)]; simp [show 0 < cs.size from by omega]
  · rw [List.length_append]; exact hvif
  · rcases Nat.lt_or_ge k zss.length with hk | hk
    · rw [List.getElem?_append_left (by omega)] at h1
      rw [List.getElem?_append_left hk] at h2
      exact hint l ys (h.p.li k l ys h1 h2)
    · have hk' := (List.getElem?_eq_some_iff.1 h2).1
      simp at hk'
      obtain rfl : k = zss.length := by omega
      rw [List.getElem?_append_right (by omega), hlls] at h1
      rw [List.getElem?_append_right (by omega)] at h2
      simp at h1 h2
      subst h1; subst h2
      exact hint v zs hO
  · rcases List.mem_append.1 hl with hl | hl
    · exact h.p.ap.b l hl
    · rw [List.mem_singleton.1 hl]; exact own_bk hO hcs (by decide)
  · have hlI : ∃ ys, OwnI w 0 l ys := by
      rcases List.mem_append.1 hl with hl | hl
      · obtain ⟨q, hq, rfl⟩ := List.getElem_of_mem hl
        exact ⟨_, h.p.li q _ _ (List.getElem?_eq_getElem hq) (List.getElem?_eq_getElem (by omega))⟩
      · rw [List.mem_singleton.1 hl]; exact ⟨_, hO⟩
    obtain ⟨ys, hl'⟩ := hlI
    exact own_ne (hint l ys hl') hvif (by decide) k hk
  · rcases Nat.lt_or_ge i zss.length with hi | hi
    · rw [List.getElem?_append_left (by omega)] at hl
      rcases Nat.lt_or_ge j zss.length with hj | hj
      · rw [List.getElem?_append_left (by omega)] at hm
        exact h.p.ap.p i j l m hl hm hij k hk
      · have hj' := (List.getElem?_eq_some_iff.1 hm).1
        simp at hj'
        obtain rfl : j = ls.length := by omega
        rw [List.getElem?_append_right (Nat.le_refl _), Nat.sub_self] at hm
        have e : v = m := by simpa using hm
        subst e
        exact hap l (List.mem_of_getElem? hl) k hk
    · have hi' := (List.getElem?_eq_some_iff.1 hl).1
      simp at hi'
      obtain rfl : i = ls.length := by omega
      rw [List.getElem?_append_right (Nat.le_refl _), Nat.sub_self] at hl
      have e : v = l := by simpa using hl
      subst e
      have hj' := (List.getElem?_eq_some_iff.1 hm).1
      simp at hj'
      rw [List.getElem?_append_left (by omega)] at hm
      exact fun e => hap m (List.mem_of_getElem? hm) k e hk
  · rcases List.mem_append.1 hy with hy | hy
    · exact h.p.sz ys hy
    · rw [List.mem_singleton.1 hy]; exact hsz
  · rw [hcell]; simp [hcz]
  · rw [List.length_append]; exact hvwf
  · rcases Nat.lt_or_ge k zss.length with hk | hk
    · rw [List.getElem?_append_left (by omega)] at h1
      rw [List.getElem?_append_left hk] at h2
      exact hint l ys (h.lw k l ys h1 h2)
    · have hk' := (List.getElem?_eq_some_iff.1 h2).1
      simp at hk'
      obtain rfl : k = zss.length := by omega
      rw [List.getElem?_append_right (by omega), hlws] at h1
      rw [List.getElem?_append_right (by omega)] at h2
      simp at h1 h2
      subst h1; subst h2
      exact hv1
  · rcases a3 with a | a
    · rw [a] at e; exact nvv k hk e
    · rw [a] at e
      have h9 := Option.some.inj e
      have := (r1.lt k hk).2
      omega
  · rw [hcell, hcell0]
    rw [Array.getElem?_setIfInBounds_ne (by omega), Array.getElem?_setIfInBounds_ne (by omega)]
  · rcases hb with hb | hb
    · rcases a1 with a | a
      · rw [a] at hb; exact .inl (.inl hb)
      · rw [a] at hb; have := Option.some.inj hb; exact .inr (by omega)
    · rcases a3 with a | a
      · rw [a] at hb; exact .inl (.inr hb)
      · rw [a] at hb; have := Option.some.inj hb; exact .inr (by omega)
set_option maxRecDepth 100000 in
set_option maxHeartbeats 4000000 in
theorem ints_any (bk : Nat) (vi vw v : Value) (ls ws : List Value) (zss : List (List Int)) (zs : List Int) (w : World) (h : Bs w bk vi vw ls ws zss) (hO : OwnI w 0 v zs) (hap : ∀ l ∈ ls, ∀ k, l.ownBlock = some k → v.ownBlock ≠ some k) (hlen : zss.length < 400) (hsz : zs.length ≤ 1000000) :
    Calls Tryz.prog 17 #[.pointer (some ⟨bk, 0, none⟩), v] w fun r w' => r = .returned (.tuple #[]) ∧ ∃ vi' vw' v1, Bsn w w' bk vi vw v ls ws zss zs vi' vw' v1 := by
  obtain ⟨i0, hi0, hz0, hz1, hz2⟩ := info_parts Tryz.infoI3
  obtain ⟨j0, hj0, hy0, hy1, hy2⟩ := info_parts Tryz.infoRowI
  obtain ⟨ai, ci, rfl⟩ := row_shape h.p.ri
  obtain ⟨aw, cw, rfl⟩ := row_shape h.rw
  obtain ⟨al, cl, rfl⟩ := row_shape hO
  obtain ⟨n, hn⟩ : ∃ n, n = zss.length := ⟨_, rfl⟩
  obtain ⟨cs, hcs, hcz⟩ := h.bt
  have hbk : bk < w.heap.size := t_lt hcs
  have c0 := h.p.c0
  have q1 : (n : Int) < 400 := by omega
  have hR1 : n + 1 ≤ maxLen := by unfold maxLen; omega
  have hR8 : (n + 1) * 24 ≤ 140737488355328 := by omega
  have hL1 : zs.length ≤ maxLen := by unfold maxLen; omega
  have hL8 : zs.length * 8 ≤ 140737488355328 := by omega
  have hr := h.p.ri
  have hrw := h.rw
  rw [← hn] at c0 hr hrw ⊢
  have nbi := own_bk hr hcs (by decide)
  have nbw := own_bk hrw hcs (by decide)
  have HB : Hid _ := And.intro h (And.intro hO (And.intro hap (And.intro hr (And.intro hrw (And.intro hcs (And.intro hn (And.intro hsz (And.intro nbi nbw))))))))
  clear h hO hap hr hrw hcs hn nbi nbw
  go_enter Tryz.func17, Tryz.ntmps17
  go_wp2_with (at_builtin; (refine wpList_append_own_at _ rfl _ _ 34 rfl 0 50 j0 (.slice none 0 0) 1 24 Tryz.underlying34 hj0 hy0 hy1 hy2 rfl (by decide) (.slice ai n ci) n ls rfl (HB.out.2.2.2.1.alloc _) ⟨w.heap.size, 0, none⟩ 1 1 [.slice al zs.length cl] rfl rfl (World.news_of_block (cs := #[.slice al zs.length cl]) (t := 50) (fr := (0, 0)) (heap_alloc_new w _)) (one_list _ ⟨_, _, _, rfl⟩) hR1 hR8 (Nat.zero_le _) ?_; intro v2 w2 hown2 hgrow2 hnil2 hat2; obtain ⟨a2, k2, rfl⟩ := row_shape hown2; have hB2 : w2.heap[bk]? = some (.cells cs 45 (0, 0)) := ((grown_alloc hgrow2).block bk hbk HB.out.2.2.2.2.2.2.2.2.1).trans HB.out.2.2.2.2.2.1; have f2 := blk_free hB2 0; have g2 : w2.cell? ⟨bk, 0, none⟩ = some (.slice ai n ci) := (by rw [← c0]; simp [World.cell?, hB2, HB.out.2.2.2.2.2.1]); have H2 : Hid _ := And.intro hown2 (And.intro hgrow2 (And.intro hat2 hB2)); clear hown2 hgrow2 hnil2 hat2 hB2))
  have S1 : (w2.setCell ⟨bk, 0, none⟩ (.slice a2 (n + 1) k2)).heap[bk]? = some (.cells (cs.setIfInBounds 0 (.slice a2 (n + 1) k2)) 45 (0, 0)) := heap_setCell_same w2 bk 0 cs _ _ H2.out.2.2.2
  have kS : Kept (fun b => b = bk ∨ (Value.slice ai n ci).ownBlock = some b) w (w2.setCell ⟨bk, 0, none⟩ (.slice a2 (n + 1) k2)) := ((grown_alloc H2.out.2.1).mono fun b _ hb => .inr hb).trans ((Kept.setCell w2 bk 0 _).mono fun b _ hb => .inl hb)
  obtain ⟨wS, hwS⟩ : ∃ W, W = w2.setCell ⟨bk, 0, none⟩ (.slice a2 (n + 1) k2) := ⟨_, rfl⟩
  rw [← hwS] at S1 kS ⊢
  have e1 : wS.cell? ⟨bk, 1, none⟩ = some (.slice aw n cw) := by
    have h1 := HB.out.1.c1
    rw [← HB.out.2.2.2.2.2.2.1] at h1
    rw [← h1]
    simp [World.cell?, S1, HB.out.2.2.2.2.2.1]
  have hOS : OwnI wS 0 (.slice al zs.length cl) zs := own_up HB.out.2.1 kS fun b hb hf => by
    rcases hf with rfl | hf
    · exact own_bk HB.out.2.1 HB.out.2.2.2.2.2.1 (by decide) hb
    · exact own_ne HB.out.2.1 HB.out.2.2.2.1 (by decide) b hb hf
  have hC := hasI_copy (hOS.has.below ((Below.refl _ wS).drew))
  have hRS : wS.ownsRow 0 50 1 (.slice aw n cw) n ws := own_up HB.out.2.2.2.2.1 kS fun b hb hf => by
    rcases hf with rfl | hf
    · exact HB.out.2.2.2.2.2.2.2.2.2 hb
    · have h1 := HB.out.1.ne b
      rw [← HB.out.2.2.2.2.2.2.1] at h1
      exact h1 hf hb
  have HS : Hid _ := And.intro hC (And.intro hRS (And.intro S1 hwS))
  clear hC hRS S1 hwS hOS kS g2 f2 c0
  go_region_law
    ((first
      | (refine step_copy_at _ (by rfl) _ _ _ (by rfl) wS.drew.heap.size 3 i0 (.int .i64 0) 1 8 Tryz.underlying50 hi0 hz0 hz1 hz2 rfl (by decide) (by rfl) al zs.length cl (iC zs) (by rfl) HS.out.1.1 (iC_length _) HS.out.1.2 (iC_one _) hL1 hL8 (Nat.le_refl _) ?_; intro v3 w3 hown3 hgrow3; obtain ⟨a3, k3, rfl⟩ := row_shape hown3; have hb3 : Below wS.drew.heap.size wS.drew w3 := tgrown0 hgrow3; have hb4 : Below wS.heap.size wS w3 := (Below.refl _ wS).drew.trans hb3; clear hgrow3; have e1 := cell_up e1 hb4; have hR3 : (w3.alloc (.cells #[.slice a3 zs.length k3] 50)).ownsRow 0 50 1 (.slice aw n cw) n ws := trow_at HS.out.2.1 (fun i hi => (hb4.alloc hb4.size _).block i (HS.out.2.1.lt i hi).2); have hB3 := (hb4.block bk (t_lt HS.out.2.2.1)).trans HS.out.2.2.1; have hbk3 := t_lt hB3; have H3 : Hid _ := And.intro hown3 (And.intro hb3 (And.intro hR3 hB3)); clear hown3 hb3 hb4 hR3 hB3)
      | (refine step_append_lies _ (by rfl) _ _ _ (by rfl) 0 50 j0 _ 1 24 Tryz.underlying34 hj0 hy0 hy1 hy2 rfl (Nat.succ_pos 0) (.slice aw n cw) n ws (by rfl) H3.out.2.2.1 ⟨w3.heap.size, 0, none⟩ 1 1 [.slice a3 zs.length k3] (by rfl) (by rfl) (World.news_of_block (cs := #[.slice a3 zs.length k3]) (t := 50) (fr := (0, 0)) (heap_alloc_new w3 _)) (one_list _ ⟨_, _, _, rfl⟩) Nat.one_pos hR1 hR8 (Nat.zero_le _) (w3.heap.size + 1) (by simp) ?_; intro g4 k4 w4 hown4 hgrow4 hat4 hlt4; have hB4 := ((grown_alloc hgrow4).block bk (t_lt H3.out.2.2.2) HB.out.2.2.2.2.2.2.2.2.2).trans H3.out.2.2.2; have f4 := blk_free hB4 1; have e4 : w4.cell? ⟨bk, 1, none⟩ = some (.slice aw n cw) := (by rw [← e1]; simp [World.cell?, hB4, H3.out.2.2.2]); have H4 : Hid _ := And.intro hown4 (And.intro hgrow4 hat4); clear hown4 hgrow4 hat4 hlt4 hB4 e1)
      | fail))
  all_goals
    go_wp2_with fail
    go_end0
    obtain rfl : n = zss.length := HB.out.2.2.2.2.2.2.1
    obtain rfl : wS = _ := HS.out.2.2.2
    exact ⟨rfl, _, _, _, Bs.snoc (w1 := w2) (w2 := w3) (v1 := .slice a3 zs.length k3) HB.out.1 HB.out.2.1 HB.out.2.2.1 hlen hsz H2.out.1 H2.out.2.1 (H2.out.2.2.1.imp_right fun e => by rw [e]; simp) H3.out.1 H3.out.2.1 H4.out.1 H4.out.2.1 (H4.out.2.2.imp (fun e => e.symm) (fun e => by rw [e]; rfl))⟩
set_option maxRecDepth 100000 in
set_option maxHeartbeats 4000000 in
theorem ints_full (bk : Nat) (vi vw v : Value) (ls ws : List Value) (zss : List (List Int)) (w : World) (h : Bs w bk vi vw ls ws zss) (hlen : ¬ zss.length < 400) :
    Calls Tryz.prog 17 #[.pointer (some ⟨bk, 0, none⟩), v] w fun r w' => r = .returned (.tuple #[]) ∧ w' = w := by
  obtain ⟨ai, ci, rfl⟩ := row_shape h.p.ri
  have c0 := h.p.c0
  have hl := h.p.len
  have e : zss.length = 400 := by omega
  rw [e] at c0
  clear h hl e hlen
  go_enter Tryz.func17, Tryz.ntmps17
  go_wp2_with fail
  go_end0
  exact ⟨rfl, rfl⟩
theorem Bs.other {w w' : World} {F : Nat → Prop} {bk : Nat} {vi vw : Value} {ls ws : List Value} {zss : List (List Int)} (h : Bs w bk vi vw ls ws zss) (hk : Kept F w w') (c0 : w'.cell? ⟨bk, 0, none⟩ = w.cell? ⟨bk, 0, none⟩) (c1 : w'.cell? ⟨bk, 1, none⟩ = w.cell? ⟨bk, 1, none⟩) (hbt : ∃ cs, w'.heap[bk]? = some (.cells cs 45 (0, 0)) ∧ cs.size = 22)
    (hF : ∀ b, F b → b = bk ∨ ∃ B e sz v n xs, w.ownsRow B e sz v n xs ∧ v.ownBlock = some b ∧ 50 ≠ e ∧ 3 ≠ e) : Bs w' bk vi vw ls ws zss := by
  obtain ⟨cs, hcs, _⟩ := h.bt
  have hrow : ∀ {v : Value} {n : Nat} {xs : List Value}, w.ownsRow 0 50 1 v n xs → w'.ownsRow 0 50 1 v n xs := fun ho => own_up ho hk fun b hb hf => by
    rcases hF b hf with rfl | ⟨B, e, sz, v2, n2, xs2, h2, hb2, hne, _⟩
    · exact own_bk ho hcs (by decide) hb
    · exact own_ne ho h2 hne b hb hb2
  have hli : ∀ {v : Value} {zs : List Int}, OwnI w 0 v zs → OwnI w' 0 v zs := fun ho => own_up ho hk fun b hb hf => by
    rcases hF b hf with rfl | ⟨B, e, sz, v2, n2, xs2, h2, hb2, _, hne⟩
    · exact own_bk ho hcs (by decide) hb
    · exact own_ne ho h2 hne b hb hb2
  exact ⟨⟨c0.trans h.p.c0, hrow h.p.ri, fun k l zs h1 h2 => hli (h.p.li k l zs h1 h2), h.p.ap, h.p.len, h.p.sz⟩, c1.trans h.c1, hrow h.rw, fun k l zs h1 h2 => hli (h.lw k l zs h1 h2), hbt, h.ne⟩
end
namespace BInts
open Go.RowKit Go.Maps
theorem Bp.lsf_lt {w : World} {bk : Nat} {vi : Value} {ls : List Value} {zss : List (List Int)} (h : Bp w bk vi ls zss) {b : Nat} (hb : LsF ls b) : b < w.heap.size := by
  obtain ⟨l, hl, hb⟩ := hb
  obtain ⟨k, hk, rfl⟩ := List.getElem_of_mem hl
  have hz : zss[k]? = some (zss[k]'(by rw [← h.ll]; exact hk)) := List.getElem?_eq_getElem _
  exact ((h.li k _ _ (List.getElem?_eq_getElem hk) hz).lt b hb).2
theorem Bp.keep {w w' : World} {F : Nat → Prop} {bk : Nat} {vi : Value} {ls : List Value} {zss : List (List Int)} (h : Bp w bk vi ls zss) (hk : Kept F w w') (hb : ¬ F bk) (hr : ∀ b, vi.ownBlock = some b → ¬ F b) (hl : ∀ b, LsF ls b → ¬ F b) : Bp w' bk vi ls zss :=
  ⟨(World.cell?_of_block (a := ⟨bk, 0, none⟩) (hk.block bk (World.block_lt_of_cell? w _ h.c0) hb)).trans h.c0, trow_at h.ri fun i hi => hk.block i (h.ri.lt i hi).2 (hr i hi), fun k l zs h1 h2 => trow_at (h.li k l zs h1 h2) fun i hi => hk.block i ((h.li k l zs h1 h2).lt i hi).2 (hl i ⟨l, List.mem_of_getElem? h1, hi⟩), h.ap, h.len, h.sz⟩
structure Mq (w : World) (v : Value) (ns : List Nat) (F : Nat → Prop) : Prop where
  ex : ∃ ao cap, v = .slice ao ns.length cap ∧ ∀ (k n : Nat), ns[k]? = some n → ∃ g l, ao = some ⟨g, 0, none⟩ ∧ w.cell? ⟨g, k, none⟩ = some l ∧ HasI w l (marks k 0 n) ∧ (n ≠ 0 → ∀ b, l.ownBlock = some b → F b)
  row : ∀ b, v.ownBlock = some b → F b
theorem Mq.mr {w : World} {v : Value} {ns : List Nat} {F : Nat → Prop} (h : Mq w v ns F) : Mr w v ns := by
  obtain ⟨ao, cap, hv, h1⟩ := h.ex
  refine ⟨ao, cap, hv, fun k n hk => ?_⟩
  obtain ⟨g, l, ha, hc, hl, _⟩ := h1 k n hk
  exact ⟨_, l, ha, by rw [addz]; exact hc, hl⟩
theorem Mq.kept {w w' : World} {v : Value} {ns : List Nat} {F G : Nat → Prop} (h : Mq w v ns F) (hk : Kept G w w') (hd : ∀ b, F b → ¬ G b) : Mq w' v ns F := by
  obtain ⟨ao, cap, hv, h1⟩ := h.ex
  refine ⟨⟨ao, cap, hv, fun k n hn => ?_⟩, h.row⟩
  obtain ⟨g, l, ha, hc, hl, hF⟩ := h1 k n hn
  refine ⟨g, l, ha, (World.cell?_of_block (a := ⟨g, k, none⟩) (hk.block g (World.block_lt_of_cell? w _ hc) (hd g (h.row g (by rw [hv, ha]; rfl))))).trans hc, hl.kept hk fun hz b hb => hd b (hF (fun e => hz (by rw [e]; rfl)) b hb), hF⟩
theorem Mq.below {w w' : World} {v : Value} {ns : List Nat} {F : Nat → Prop} (h : Mq w v ns F) (hb : Below w.heap.size w w') : Mq w' v ns F := h.kept (G := fun _ => False) (Kept.of_below hb) fun _ _ hg => hg
theorem marks_zero_add (k n m : Nat) : marks k 0 n ++ marks k n m = marks k 0 (n + m) := by have := marks_add k 0 n m; rwa [Nat.zero_add] at this
theorem gr_marked {w wr : World} {bk : Nat} {vi : Value} {ls : List Value} {zss : List (List Int)} {vo : Value} {os : List Value} (h : GrI w wr bk vi ls (allM zss) (allM zss).length vo os) : Mq wr vo (zss.map fun z => z.length + 96) (fun b => LsF ls b ∨ vi.ownBlock = some b ∨ w.heap.size ≤ b) ∧ Mq wr vi (zss.map List.length) (fun b => LsF ls b ∨ vi.ownBlock = some b ∨ w.heap.size ≤ b) := by
  have hal : (allM zss).length = zss.length := by unfold allM; rw [List.length_mapIdx]
  have hlo : os.length = zss.length := by have := h.row.1; rw [Nat.mul_one, hal] at this; exact this
  have hll : ls.length = zss.length := by have := h.ri.1; rw [Nat.mul_one, hal] at this; exact this
  have hD : ∀ (k n : Nat), (zss.map List.length)[k]? = some n → ∃ l o, ls[k]? = some l ∧ os[k]? = some o ∧ HasI wr l (marks k 0 n) ∧ HasI wr o (marks k 0 (n + 96)) ∧ ∀ b, o.ownBlock = some b → LsF ls b ∨ w.heap.size ≤ b := fun k n hk => by
    rw [List.getElem?_map] at hk
    obtain ⟨zs, hz, rfl⟩ := Option.map_eq_some_iff.1 hk
    have hkl := (List.getElem?_eq_some_iff.1 hz).1
    have hl : ls[k]? = some (ls[k]'(by omega)) := List.getElem?_eq_getElem _
    have ha : (allM zss)[k]? = some (marks k 0 zs.length) := by unfold allM; rw [List.getElem?_mapIdx, hz]; rfl
    obtain ⟨d1, o, d2, d3, d4, _⟩ := h.done k _ _ (by omega) hl ha
    rw [marks_len, marks_zero_add] at d3
    refine ⟨_, o, hl, d2, d1, d3, fun b hb => ?_⟩
    rcases d4 with e | e
    · exact .inl ⟨_, List.mem_of_getElem? hl, by rw [← e]; exact hb⟩
    · exact .inr (e b hb)
  constructor
  · obtain ⟨ao, co, hv⟩ := row_shape h.row
    refine ⟨⟨ao, co, by rw [List.length_map, hv, hal], fun k n hk => ?_⟩, fun b hb => .inr (.inr (h.row.lt b hb).1)⟩
    rw [List.getElem?_map] at hk
    obtain ⟨zs, hz, rfl⟩ := Option.map_eq_some_iff.1 hk
    have hkl := (List.getElem?_eq_some_iff.1 hz).1
    obtain ⟨l, o, _, ho, _, hO, hF⟩ := hD k zs.length (by rw [List.getElem?_map, hz]; rfl)
    obtain ⟨g, c, hf, _, _⟩ := h.row.form (by omega)
    rw [hv] at hf
    injection hf with e1 e2 e3
    subst e1; subst e3
    have hr := h.row
    rw [hv] at hr
    exact ⟨_, o, rfl, by rw [hr.cellAt k (by omega), ho], hO, fun _ b hb => (hF b hb).imp_right .inr⟩
  · obtain ⟨ao, co, hv⟩ := row_shape h.ri
    refine ⟨⟨ao, co, by rw [List.length_map, hv, hal], fun k n hk => ?_⟩, fun b hb => .inr (.inl hb)⟩
    obtain ⟨l, o, hl, _, hL, _⟩ := hD k n hk
    rw [List.getElem?_map] at hk
    obtain ⟨zs, hz, rfl⟩ := Option.map_eq_some_iff.1 hk
    have hkl := (List.getElem?_eq_some_iff.1 hz).1
    obtain ⟨g, c, hf, _, _⟩ := h.ri.form (by omega)
    rw [hv] at hf
    injection hf with e1 e2 e3
    subst e1; subst e3
    have hr := h.ri
    rw [hv] at hr
    exact ⟨_, l, rfl, by rw [hr.cellAt k (by omega), hl], hL, fun _ b hb => .inl ⟨l, List.mem_of_getElem? hl, hb⟩⟩
theorem Bp.far_of {w : World} {bk : Nat} {vi : Value} {ls : List Value} {zss : List (List Int)} (h : Bp w bk vi ls zss) {B : Nat} {e : TypeId} {sz : Nat} {v : Value} {n : Nat} {xs : List Value} (ho : w.ownsRow B e sz v n xs) (hne : e ≠ 3) {b : Nat} (hb : v.ownBlock = some b) : ¬ LsF ls b := fun ⟨l, hl, hlb⟩ => by
  obtain ⟨k, hk, rfl⟩ := List.getElem_of_mem hl
  have hz : zss[k]? = some (zss[k]'(by rw [← h.ll]; exact hk)) := List.getElem?_eq_getElem _
  exact own_ne ho (h.li k _ _ (List.getElem?_eq_getElem hk) hz) hne b hb hlb
theorem Bp.far_bk {w : World} {bk : Nat} {vi : Value} {ls : List Value} {zss : List (List Int)} (h : Bp w bk vi ls zss) : ¬ LsF ls bk := fun ⟨l, hl, hlb⟩ => h.ap.b l hl hlb
theorem Bp.typed {w : World} {bk : Nat} {vi : Value} {ls : List Value} {zss : List (List Int)} (h : Bp w bk vi ls zss) {b : Nat} (hb : LsF ls b) : ∃ B n xs v, w.ownsRow B 3 1 v n xs ∧ v.ownBlock = some b := by
  obtain ⟨l, hl, hlb⟩ := hb
  obtain ⟨k, hk, rfl⟩ := List.getElem_of_mem hl
  have hz : zss[k]? = some (zss[k]'(by rw [← h.ll]; exact hk)) := List.getElem?_eq_getElem _
  exact ⟨_, _, _, _, h.li k _ _ (List.getElem?_eq_getElem hk) hz, hlb⟩
end BInts
namespace BRows
open Go.RowKit Go.Maps
attribute [local go_sem ↓] Go.wp_at_zero Go.wp_at_succ
abbrev El : Type := Option Addr × Nat × Nat
def enc (z : El) : List Value := [.slice z.1 z.2.1 z.2.2]
def C (zs : List El) : List Value := zs.flatMap enc
theorem enc_len (z : El) : (enc z).length = 1 := rfl
theorem C_len (zs : List El) : (C zs).length = zs.length * 1 := by
  unfold C
  induction zs with
  | nil => rfl
  | cons z r ih => rw [List.flatMap_cons, List.length_append, ih, enc_len, List.length_cons]; omega
theorem C_app (a b : List El) : C (a ++ b) = C a ++ C b := List.flatMap_append
theorem C_one (zs : List El) : ∀ u ∈ C zs, u.oneCell' = true := fun u hu => by
  obtain ⟨z, _, hz⟩ := List.mem_flatMap.1 hu
  simp only [enc, List.mem_cons, List.not_mem_nil, or_false] at hz
  rcases hz with rfl <;> rfl
theorem C_at : ∀ (zs : List El) (k : Nat) (z : El), zs[k]? = some z → ∀ q, q < 1 → (C zs)[k * 1 + q]? = (enc z)[q]?
  | [], _, _, h, _, _ => by simp at h
  | y :: r, 0, z, h, q, hq => by
    simp at h
    subst h
    show (enc y ++ C r)[0 * 1 + q]? = _
    rw [List.getElem?_append_left (by rw [enc_len]; omega)]
    congr 1
    omega
  | y :: r, k + 1, z, h, q, hq => by
    have ih := C_at r k z (by simpa using h) q hq
    show (enc y ++ C r)[(k + 1) * 1 + q]? = _
    rw [List.getElem?_append_right (by rw [enc_len]; omega), enc_len, ← ih]
    congr 1
    omega
theorem C_set (zs : List El) {k : Nat} (hk : k < zs.length) (x : El) : C (zs.set k x) = ((C zs).set (k) (.slice x.1 x.2.1 x.2.2)) := by
  apply List.ext_getElem?
  intro j
  by_cases hj : j / 1 = k
  · obtain ⟨q, hq, rfl⟩ : ∃ q, q < 1 ∧ j = k * 1 + q := ⟨j % 1, Nat.mod_lt _ (by decide), by omega⟩
    rw [C_at (zs.set k x) k x (List.getElem?_set_self hk) q hq]
    have hl : (C zs).length = zs.length * 1 := C_len zs
    have hq' : q = 0 := by omega
    rcases hq' with rfl <;> simp [List.getElem?_set, hl, enc] <;> omega
  · have e : (C (zs.set k x))[j]? = (C zs)[j]? := by
      rcases Nat.lt_or_ge (j / 1) zs.length with h | h
      · obtain ⟨z, hz⟩ : ∃ z, zs[j / 1]? = some z := ⟨_, List.getElem?_eq_getElem h⟩
        have hz' : (zs.set k x)[j / 1]? = some z := by rw [List.getElem?_set_ne (fun e => hj e.symm)]; exact hz
        have e0 : j = j / 1 * 1 + j % 1 := by omega
        rw [e0, C_at _ _ z hz' _ (Nat.mod_lt _ (by decide)), C_at _ _ z hz _ (Nat.mod_lt _ (by decide))]
      · rw [List.getElem?_eq_none (by rw [C_len, List.length_set]; omega), List.getElem?_eq_none (by rw [C_len]; omega)]
    rw [e]
    rw [List.getElem?_set_ne (by omega)]
def Own (w : World) (B : Nat) (v : Value) (zs : List El) : Prop := w.ownsRow B 50 1 v zs.length (C zs)
def Has (w : World) (v : Value) (zs : List El) : Prop := ∃ ao cap, v = .slice ao zs.length cap ∧ ∀ (j : Nat) (u : Value), (C zs)[j]? = some u → ∃ a, ao = some a ∧ w.cell? (a.add j) = some u
theorem Has.below {w w' : World} {v : Value} {zs : List El} (h : Has w v zs) (hb : Below w.heap.size w w') : Has w' v zs := by
  obtain ⟨ao, cap, h1, h2⟩ := h
  refine ⟨ao, cap, h1, fun i p hi => ?_⟩
  obtain ⟨a, ha, c0⟩ := h2 i p hi
  exact ⟨a, ha, (hb.cell (World.block_lt_of_cell? w _ c0)).trans c0⟩
theorem C_nil {zs : List El} (h : zs ≠ []) : ∃ u, (C zs)[0]? = some u := by
  cases zs with
  | nil => exact absurd rfl h
  | cons z r =>
    have h1 := C_at (z :: r) 0 z rfl 0 (by decide)
    have h2 : (enc z)[0]? = some ((enc z)[0]'(by rw [enc_len]; decide)) := List.getElem?_eq_getElem _
    exact ⟨_, h1.trans h2⟩
theorem Has.kept {w w' : World} {F : Nat → Prop} {v : Value} {zs : List El} (h : Has w v zs) (hk : Kept F w w') (hf : zs ≠ [] → ∀ i, v.ownBlock = some i → ¬ F i) : Has w' v zs := by
  obtain ⟨ao, cap, rfl, h2⟩ := h
  refine ⟨ao, cap, rfl, fun i z hi => ?_⟩
  obtain ⟨a, rfl, c⟩ := h2 i z hi
  exact ⟨a, rfl, cell_same (hk.block _ (block_lt3 c) (hf (by rintro rfl; simp [C] at hi) a.block rfl)) c⟩
theorem far {w : World} {v : Value} {zs : List El} (h : Has w v zs) (hz : zs ≠ []) {i : Nat} (hi : v.ownBlock = some i) : i < w.heap.size := by
  obtain ⟨ao, cap, rfl, h2⟩ := h
  obtain ⟨u, hu⟩ := C_nil hz
  obtain ⟨a, rfl, c⟩ := h2 0 u hu
  have := block_lt3 c
  simp only [Value.ownBlock, Option.some.injEq] at hi
  omega
theorem Own.at {w : World} {B g cap n : Nat} {zs : List El} (h : Own w B (.slice (some ⟨g, 0, none⟩) n cap) zs) {j : Nat} {u : Value} (hj : (C zs)[j]? = some u) : w.cell? ⟨g, j, none⟩ = some u := by
  obtain ⟨ao', cap', hv⟩ := row_shape h
  injection hv with _ e _
  subst e
  have h' : w.ownsRow B 50 1 (.slice (some ⟨g, 0, none⟩) zs.length cap) zs.length (C zs) := h
  rw [h'.cellAt j (by rw [← h'.1]; exact (List.getElem?_eq_some_iff.1 hj).1), hj]
theorem Own.has {w : World} {B : Nat} {v : Value} {zs : List El} (h : Own w B v zs) : Has w v zs := by
  obtain ⟨ao, cap, hv⟩ := row_shape h
  refine ⟨ao, cap, hv, fun j u hj => ?_⟩
  have hlt := (List.getElem?_eq_some_iff.1 hj).1
  rw [C_len] at hlt
  obtain ⟨g, c, hf, _, _⟩ := World.ownsRow.form h (by omega)
  rw [hv] at hf
  injection hf with e1 e2 e3
  subst e1; subst e3
  refine ⟨_, rfl, ?_⟩
  rw [addz]
  rw [hv] at h
  exact Own.at h hj
theorem copy_of {w : World} {ao : Option Addr} {n cap : Nat} {zs : List El} (h : Has w (.slice ao n cap) zs) : (ao = none → n = 0) ∧ ∀ ad, ao = some ad → ∀ j u, (C zs)[j]? = some u → w.cell? (ad.add j) = some u := by
  obtain ⟨ao', cap', hv, h2⟩ := h
  injection hv with e1 e2 e3
  subst e1
  refine ⟨fun e => ?_, fun ad e j u hj => ?_⟩
  · rw [e2]
    by_cases hz : zs = []
    · rw [hz]; rfl
    · obtain ⟨u, hu⟩ := C_nil hz
      obtain ⟨a, ha, _⟩ := h2 0 u hu
      rw [e] at ha; cases ha
  · obtain ⟨a, ha, hc⟩ := h2 j u hj
    rw [e] at ha
    cases ha
    exact hc
theorem same_in (va vb : Value) (zs : List Int) (w : World) (hn : zs.length ≤ 1000000000000000) (hA : HasI w va zs) (hB : HasI w vb zs) : Calls Tryz.prog 13 #[va, vb] w fun e w' => e = .returned (.bool true) ∧ Below w.heap.size w w' :=
  (sameInts_b va vb zs zs w hn hn hA hB).mono fun _ _ ⟨h1, h2⟩ => ⟨by rw [h1]; simp, h2⟩
def sl (z : El) : Value := .slice z.1 z.2.1 z.2.2
def Mk (w : World) (L i k : Nat) (z : El) : Prop := ∃ g, L ≤ g ∧ z = (some ⟨g, 0, none⟩, 2, 2) ∧ w.heap[g]? = some (.cells #[.int .i64 (-1 - (i : Int)), .int .i64 (k : Int)] 3 (0, 0))
def Mks (w : World) (L i f : Nat) (us : List El) : Prop := ∀ (j : Nat) (z : El), us[j]? = some z → Mk w L i (f + j) z
theorem Mk.has {w : World} {L i k : Nat} {z : El} (h : Mk w L i k z) : HasI w (sl z) [-1 - (i : Int), (k : Int)] := by
  obtain ⟨g, _, rfl, hb⟩ := h
  refine ⟨_, _, rfl, fun j u hj => ⟨_, rfl, ?_⟩⟩
  rw [addz]
  refine cell0_of hb ?_
  have e : (#[.int .i64 (-1 - (i : Int)), .int .i64 (k : Int)] : Array Value)[j]? = [.int .i64 (-1 - (i : Int)), .int .i64 (k : Int)][j]? := by simp
  rw [e]
  rcases j with _ | _ | j <;> simp at hj ⊢ <;> exact hj.symm ▸ rfl
theorem Mk.up {w w' : World} {F : Nat → Prop} {L i k : Nat} {z : El} (h : Mk w L i k z) (hk : Kept F w w') (hF : ∀ (g : Nat) (cs : Array Value), L ≤ g → w.heap[g]? = some (.cells cs 3 (0, 0)) → ¬ F g) : Mk w' L i k z := by
  obtain ⟨g, hg, hz, hb⟩ := h
  exact ⟨g, hg, hz, (hk.block g (t_lt hb) (hF g _ hg hb)).trans hb⟩
theorem Mks.up {w w' : World} {F : Nat → Prop} {L i k : Nat} {us : List El} (h : Mks w L i k us) (hk : Kept F w w') (hF : ∀ (g : Nat) (cs : Array Value), L ≤ g → w.heap[g]? = some (.cells cs 3 (0, 0)) → ¬ F g) : Mks w' L i k us := fun j z hj => (h j z hj).up hk hF
theorem Mks.below {w w' : World} {L i k : Nat} {us : List El} (h : Mks w L i k us) (hb : Below w.heap.size w w') : Mks w' L i k us := h.up (F := fun _ => False) (Kept.of_below hb) fun _ _ _ _ hf => hf
theorem Mks.base {w : World} {L L' i k : Nat} {us : List El} (h : Mks w L i k us) (hl : L' ≤ L) : Mks w L' i k us := fun j z hj => by
  obtain ⟨g, hg, hz⟩ := h j z hj
  exact ⟨g, by omega, hz⟩
theorem Mks.app {w : World} {L i f : Nat} {us vs : List El} (h : Mks w L i f us) (h2 : Mks w L i (f + us.length) vs) : Mks w L i f (us ++ vs) := fun j z hj => by
  rcases Nat.lt_or_ge j us.length with hl | hl
  · rw [List.getElem?_append_left hl] at hj; exact h j z hj
  · rw [List.getElem?_append_right hl] at hj
    have := h2 _ z hj
    rwa [show f + us.length + (j - us.length) = f + j by omega] at this
theorem Mks.nil (w : World) (L i f : Nat) : Mks w L i f [] := fun j z hj => by simp at hj
theorem Mks.row {w w' : World} {L i k : Nat} {us : List El} (h : Mks w L i k us) {B : Nat} {e : TypeId} {sz : Nat} {v : Value} {n : Nat} {xs : List Value} (ho : w.ownsRow B e sz v n xs) (hk : Kept (fun b => v.ownBlock = some b) w w') (hne : e ≠ 3) : Mks w' L i k us := h.up hk fun _ _ _ hg hf => own_bk ho hg hne hf
theorem Tryz.infoE : (Tryz.prog.info? 50).map (fun i => (i.zero, i.size, i.bytes)) = some (some (.slice none 0 0), 1, 24) := by kernel_rfl
theorem Tryz.infoR : (Tryz.prog.info? 34).map (fun i => (i.zero, i.size, i.bytes)) = some (some (.slice none 0 0), 1, 24) := by kernel_rfl
theorem C_snoc (zs : List El) (z : El) : C (zs ++ [z]) = C zs ++ enc z := by
  rw [C_app]
  show _ ++ (enc z ++ []) = _
  rw [List.append_nil]
theorem below_row {w w2 w4 : World} {x : Obj} {v : Value} {n : Nat} {us : List Value} (h1 : w2.ownsRow w.heap.size 50 1 v n us) (hb : Below w.heap.size w w2) (hg : (w2.alloc x).grownBy w4 v.ownBlock) : Below w.heap.size w w4 :=
  (hb.alloc hb.size x).grown hg (by have := hb.size; simp; omega) (fun k hk => (h1.lt k hk).1)
theorem mks_snoc {w wr w2 : World} {i f : Nat} {v : Value} {us : List El} {x y : Obj} (hO : wr.ownsRow w.heap.size 50 1 v us.length (C us)) (hb : Below w.heap.size w wr) (hM : Mks wr w.heap.size i f us) (k : Nat) (hk : k = f + us.length) (hx : x = .cells #[.int .i64 (-1 - (i : Int)), .int .i64 (k : Int)] 3) (hg : ((wr.alloc x).alloc y).grownBy w2 v.ownBlock) :
    Mks w2 w.heap.size i f (us ++ [(some ⟨wr.heap.size, 0, none⟩, 2, 2)]) := by
  subst hk
  have hb2 : Below wr.heap.size wr ((wr.alloc x).alloc y) := ((Below.refl _ _).alloc (Nat.le_refl _) _).alloc (by simp) _
  have hO2 := trow_at (w' := (wr.alloc x).alloc y) hO fun i hi => hb2.block i (hO.lt i hi).2
  have hKg : Kept (fun b => v.ownBlock = some b) ((wr.alloc x).alloc y) w2 := Kept.of_grown hg
  refine Mks.app ((hM.below hb2).row hO2 hKg (by decide)) fun j z hj => ?_
  cases j with
  | succ j => simp at hj
  | zero =>
    simp at hj
    subst hj
    refine ⟨wr.heap.size, hb.size, rfl, ?_⟩
    have h1 : ((wr.alloc x).alloc y).heap[wr.heap.size]? = some x := by
      rw [Below.heap_alloc (wr.alloc x) y wr.heap.size (by simp)]
      exact heap_alloc_new wr x
    rw [hKg.block wr.heap.size (by simp; omega) (fun e => by have := (hO.lt _ e).2; omega), h1, hx]
    rfl
set_option maxRecDepth 100000 in
set_option maxHeartbeats 4000000 in
theorem mark_any (i f n : Nat) (w : World) (hi : i ≤ 1000) (hf : f + n ≤ 1000000000) :
    Calls Tryz.prog 109 #[.int .i64 i, .int .i64 f, .int .i64 n] w fun r w' => ∃ v us, r = .returned v ∧ us.length = n ∧ Own w' w.heap.size v us ∧ Mks w' w.heap.size i f us ∧ Below w.heap.size w w' := by
  obtain ⟨i0, hi0, hz0, hz1, hz2⟩ := info_parts Tryz.infoE
  have e1 : IntKind.i64.wrap ((f : Int) + (n : Int)) = (f : Int) + (n : Int) := by rw [IntKind.wrap_i64]; omega
  have w1 : IntKind.i64.wrap (-1 - (i : Int)) = -1 - (i : Int) := by rw [IntKind.wrap_i64]; omega
  go_enter Tryz.func109, Tryz.ntmps109
  go_wp2_with fail
  go_loopg [7, 8] n (fun q lv kv wr => ∃ (k : Nat) (us : List El), q = n - k ∧ k ≤ n ∧ kv = .int .i64 ((f : Int) + (k : Int)) ∧ us.length = k ∧ Own wr w.heap.size lv us ∧ Mks wr w.heap.size i f us ∧ Below w.heap.size w wr)
  case atStart => exact ⟨0, [], rfl, Nat.zero_le _, by simp, rfl, World.ownsRow_nil _ _ _ _, Mks.nil _ _ _ _, Below.refl _ _⟩
  case round =>
    obtain ⟨k, us, rfl, hk, rfl, hul, hO, hM, hb⟩ := hrel
    by_cases hlt : k < n
    · have q1 : (f : Int) + (k : Int) < (f : Int) + (n : Int) := by omega
      obtain ⟨al, cl, rfl⟩ := row_shape hO
      have hO' : wr.ownsRow w.heap.size 50 1 (.slice al k cl) k (C us) := by have h1 := hO; unfold Own at h1; rw [hul] at h1; exact h1
      rw [hul]
      have hml : k + 1 ≤ maxLen := by unfold maxLen; omega
      have hby : (k + 1) * 24 ≤ 140737488355328 := by omega
      have hle : w.heap.size ≤ ((wr.alloc (.cells #[.int .i64 (-1 - (i : Int)), .int .i64 ((f : Int) + (k : Int))] 3)).alloc (.cells #[.slice (some ⟨wr.heap.size, 0, none⟩) 2 2] 50)).heap.size := by have := hb.size; simp; omega
      have HO : Hid _ := And.intro hO' (And.intro hb (And.intro hM hul))
      clear hO hO' hul hb hM
      go_wp2_with (at_builtin; refine wpList_append_own_at _ rfl _ _ 34 rfl w.heap.size 50 i0 (.slice none 0 0) 1 24 Tryz.underlying34 hi0 hz0 hz1 hz2 rfl (by decide) (.slice al k cl) k (C us) rfl ((HO.out.1.alloc _).alloc _) ⟨wr.heap.size + 1, 0, none⟩ 1 1 [.slice (some ⟨wr.heap.size, 0, none⟩) 2 2] rfl rfl (World.news_of_block (cs := #[.slice (some ⟨wr.heap.size, 0, none⟩) 2 2]) (t := 50) (fr := (0, 0)) (two_alloc wr _ _)) (one_list _ ⟨_, _, _, rfl⟩) hml hby hle ?_; intro v2 w2 hown2 hgrow2 hnil2 hat2; have H2 : Hid _ := And.intro hown2 hgrow2; clear hown2 hgrow2 hnil2 hat2)
      go_roundg (n - (k + 1))
      case measure => omega
      case rel => exact ⟨k + 1, us ++ [(some ⟨wr.heap.size, 0, none⟩, 2, 2)], rfl, by omega, by first | go_num | (congr 1; omega), by rw [List.length_append, HO.out.2.2.2]; rfl, by unfold Own; rw [C_snoc, List.length_append, HO.out.2.2.2]; exact H2.out.1, mks_snoc (by rw [HO.out.2.2.2]; exact HO.out.1) HO.out.2.1 HO.out.2.2.1 (f + k) (by rw [HO.out.2.2.2]) (by simp) H2.out.2, below_row (HO.out.1.alloc _) (HO.out.2.1.alloc HO.out.2.1.size _) H2.out.2⟩
    · obtain rfl : k = n := by omega
      have q1 : ¬ (f : Int) + (k : Int) < (f : Int) + (k : Int) := by omega
      have HO : Hid _ := And.intro hO (And.intro hM (And.intro hb hul))
      clear hO hb hM hul
      go_wp2_with fail
      go_ret
      exact ⟨_, rfl, us, HO.out.2.2.2, HO.out.1, HO.out.2.1, HO.out.2.2.1⟩
set_option maxRecDepth 100000 in
set_option maxHeartbeats 4000000 in
theorem same_b (va vb : Value) (us vs : List El) (w : World) (hn : us.length ≤ 1000000000000000) (he : us.length = vs.length) (hA : Has w va us) (hB : Has w vb vs) (hR : ∀ (j : Nat) (x y : El), us[j]? = some x → vs[j]? = some y → ∃ zs, zs.length ≤ 1000000 ∧ HasI w (sl x) zs ∧ HasI w (sl y) zs) :
    Calls Tryz.prog 98 #[va, vb] w fun e w' => e = .returned (.bool true) ∧ Below w.heap.size w w' := by
  obtain ⟨ao, cap, rfl, hcA⟩ := hA
  obtain ⟨ao', cap', rfl, hcB⟩ := hB
  obtain ⟨n, hN⟩ : ∃ n, n = us.length := ⟨_, rfl⟩
  have HH : Hid _ := And.intro hcA (And.intro hcB (And.intro hN (And.intro he hR)))
  rw [← he, ← hN]
  rw [← hN] at hn
  clear hcA hcB hN he hR
  have q : ((n : Int) != (n : Int)) = false := by simp
  go_enter Tryz.func98, Tryz.ntmps98
  go_wp2
  go_loopg [5] n (fun g i wr => ∃ j : Nat, g = n - j ∧ j ≤ n ∧ i = .int .i64 j ∧ Below w.heap.size w wr)
  case atStart => exact ⟨0, rfl, Nat.zero_le _, rfl, Below.refl _ _⟩
  case round =>
    obtain ⟨j, rfl, hj, rfl, hb⟩ := hrel
    by_cases hlt : j < n
    · obtain ⟨x, hx⟩ : ∃ x, us[j]? = some x := ⟨us[j]'(by have := HH.out.2.2.1; omega), List.getElem?_eq_getElem _⟩
      obtain ⟨y, hy⟩ : ∃ y, vs[j]? = some y := ⟨vs[j]'(by have := HH.out.2.2.1; have := HH.out.2.2.2.1; omega), List.getElem?_eq_getElem _⟩
      obtain ⟨a, rfl, c0'⟩ := HH.out.1 (j * 1 + 0) _ ((C_at us j x hx 0 (by decide)).trans rfl)
      obtain ⟨b, rfl, d0'⟩ := HH.out.2.1 (j * 1 + 0) _ ((C_at vs j y hy 0 (by decide)).trans rfl)
      obtain ⟨zs, hzl, hzA, hzB⟩ := HH.out.2.2.2.2 j x y hx hy
      have c0 : wr.cell? (a.add j) = some (.slice x.1 x.2.1 x.2.2) := by
        have h1 : w.cell? (a.add j) = some (.slice x.1 x.2.1 x.2.2) := by simpa using c0'
        exact (hb.cell (World.block_lt_of_cell? w _ h1)).trans h1
      have d0 : wr.cell? (b.add j) = some (.slice y.1 y.2.1 y.2.2) := by
        have h1 : w.cell? (b.add j) = some (.slice y.1 y.2.1 y.2.2) := by simpa using d0'
        exact (hb.cell (World.block_lt_of_cell? w _ h1)).trans h1
      have hSm := fun W (hw : Below wr.heap.size wr W) => same_in (sl x) (sl y) zs W (by omega) ((hzA.below hb).below hw) ((hzB.below hb).below hw)
      unfold sl at hSm
      have HS : Hid _ := hSm
      have HBl : Hid _ := hb
      clear c0' d0' hx hy hzA hzB hSm hb
      have q0 : (0 : Int) ≤ (j : Int) := by omega
      have q1 : (j : Int) < (n : Int) := by omega
      go_upto_region 6 with fail
      go_cut [26] (fun s26 wx => s26 = .bool false ∧ Below w.heap.size w wx)
      case first =>
        go_region_held3 (fun w' => w'.cell? (a.add j) = some (.slice x.1 x.2.1 x.2.2) ∧ w'.cell? (b.add j) = some (.slice y.1 y.2.1 y.2.2)) (go_keep)
          ((first
            | (go_at_call 13; refine (HS.out _ (by repeat (first | exact Below.refl _ _ | assumption | refine Below.drew ?_ | refine Below.setCell ?_ (by simp) _ | refine Below.alloc ?_ (by simp) _))).mono ?_; rintro r8 w8 ⟨rfl, hb8'⟩; have hb8 := below_of_drew3 hb8'; have c0 := (hb8.cell (World.block_lt_of_cell? _ _ c0)).trans c0; have d0 := (hb8.cell (World.block_lt_of_cell? _ _ d0)).trans d0; have H8 : Hid _ := HBl.out.trans (hb8.mono HBl.out.size); clear hb8 hb8' HS)
            | fail))
        all_goals (refine Met.intro ?_; apply_assumption; refine Met.intro ?_; apply_assumption; (repeat apply Exists.intro); refine ⟨?rel, rfl⟩; case rel => exact ⟨rfl, by first | exact H8.out | exact below_drewN H8.out _⟩)
      case rest =>
        obtain ⟨rfl, hb9⟩ := hcut
        have H9 : Hid _ := hb9
        clear hb9 HS c0 d0
        go_wp2_with fail
        go_roundg (n - (j + 1))
        case measure => omega
        case rel => exact ⟨j + 1, rfl, by omega, by go_num, H9.out⟩
    · obtain rfl : j = n := by omega
      have q1 : ¬ (j : Int) < (j : Int) := by omega
      have HBl : Hid _ := hb
      clear hb
      go_wp2
      go_ret
      exact ⟨rfl, HBl.out⟩
end BRows
end Go.Proofs.YtibdgefjpcebkaaGreatDoor
