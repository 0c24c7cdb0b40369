/- Texts of this claim, joined: BYwRows, BYaRows, BookApIR. -/
import Derived.Test.YtibdgefjpcebkaaGreatDoorPart11
import Derived.Deep.AppendLies
import Derived.Deep.RegionLaw
import Derived.Deep.DeepCutAuto
import Derived.Deep.RegionHeld3
import Derived.Test.YtibdgefjpcebkaaGreatDoorPart1
namespace Go.Proofs.YtibdgefjpcebkaaGreatDoor
namespace BRows
open Go.RowKit Go.Maps
attribute [local go_sem ↓] Go.wp_at_zero Go.wp_at_succ
structure Apt (bk : Nat) (vi : Value) (ls : List Value) : Prop where
  b : ∀ l ∈ ls, l.ownBlock ≠ some bk
  r : ∀ l ∈ ls, ∀ k, l.ownBlock = some k → vi.ownBlock ≠ some k
  rb : vi.ownBlock ≠ some bk
  p : ∀ (i j : Nat) (l m : Value), ls[i]? = some l → ls[j]? = some m → i ≠ j → ∀ k, l.ownBlock = some k → m.ownBlock ≠ some k
structure Bp (w : World) (bk : Nat) (vi : Value) (ls : List Value) (zss : List (List El)) : Prop where
  c0 : w.cell? ⟨bk, 16, none⟩ = some vi
  ri : w.ownsRow 0 34 1 vi zss.length ls
  li : ∀ (k : Nat) (l : Value) (zs : List El), ls[k]? = some l → zss[k]? = some zs → Own w 0 l zs
  ap : Apt bk vi ls
  len : zss.length ≤ 400
  sz : ∀ zs ∈ zss, zs.length ≤ 1000000
theorem Bp.ll {w : World} {bk : Nat} {vi : Value} {ls : List Value} {zss : List (List El)} (h : Bp w bk vi ls zss) : ls.length = zss.length := by
  have := h.ri.1
  rw [Nat.mul_one] at this
  exact this
theorem Bp.below {w w' : World} {bk : Nat} {vi : Value} {ls : List Value} {zss : List (List El)} (h : Bp w bk vi ls zss) (hb : Below w.heap.size w w') : Bp w' bk vi ls zss :=
  ⟨cell_up h.c0 hb, trow_at h.ri fun i hi => hb.block i (h.ri.lt i hi).2, fun k l zs h1 h2 => trow_at (h.li k l zs h1 h2) fun i hi => hb.block i ((h.li k l zs h1 h2).lt i hi).2, h.ap, h.len, h.sz⟩
theorem Bp.at {w : World} {bk : Nat} {vi : Value} {ls : List Value} {zss : List (List El)} (h : Bp w bk vi ls zss) {i : Nat} {zs : List El} (hi : zss[i]? = some zs) : ∃ gi ci l, vi = .slice (some ⟨gi, 0, none⟩) zss.length ci ∧ ls[i]? = some l ∧ w.cell? ⟨gi, i, none⟩ = some l ∧ Own w 0 l zs := by
  have hlt := (List.getElem?_eq_some_iff.1 hi).1
  obtain ⟨gi, ci, hv, _, _⟩ := h.ri.form (by omega)
  obtain ⟨l, hl⟩ : ∃ l, ls[i]? = some l := ⟨ls[i]'(by rw [h.ll]; exact hlt), List.getElem?_eq_getElem _⟩
  refine ⟨gi, ci, l, hv, hl, ?_, h.li i l zs hl hi⟩
  have hr := h.ri
  rw [hv] at hr
  rw [hr.cellAt i (by omega), hl]
theorem Bp.set {w : World} {bk : Nat} {vi : Value} {ls : List Value} {zss : List (List El)} (h : Bp w bk vi ls zss) {i : Nat} {zs : List El} {g n c : Nat} (hi : zss[i]? = some zs) (hl : ls[i]? = some (.slice (some ⟨g, 0, none⟩) n c)) (k : Nat) (hk : k < zs.length) (x : El) : Bp (w.setCell ⟨g, k, none⟩ (.slice x.1 x.2.1 x.2.2)) bk vi ls (zss.set i (zs.set k x)) := by
  have hlm := List.mem_of_getElem? hl
  have hbk : bk ≠ g := fun e => h.ap.b _ hlm (by rw [e]; rfl)
  have hoth : ∀ j, j ≠ g → (w.setCell ⟨g, k, none⟩ (.slice x.1 x.2.1 x.2.2)).heap[j]? = w.heap[j]? := fun j hj => by rw [set_other _ _ _ _ _ hj]
  have hcell : ∀ o, (w.setCell ⟨g, k, none⟩ (.slice x.1 x.2.1 x.2.2)).cell? ⟨bk, o, none⟩ = w.cell? ⟨bk, o, none⟩ := fun o => World.cell?_of_block (hoth bk hbk)
  have hO := h.li i _ zs hl hi
  refine ⟨by rw [hcell]; exact h.c0, ?_, fun q l ys h1 h2 => ?_, h.ap, by rw [List.length_set]; exact h.len, fun ys hy => ?_⟩
  · rw [List.length_set]
    exact trow_at h.ri fun j hj => hoth j fun e => h.ap.r _ hlm g rfl (by rw [← e]; exact hj)
  · by_cases hq : q = i
    · subst hq
      rw [hl] at h1
      have e1 := Option.some.inj h1
      rw [List.getElem?_set_self (List.getElem?_eq_some_iff.1 hi).1] at h2
      have e2 := Option.some.inj h2
      subst e1; subst e2
      rcases hO.2 with ⟨e, _⟩ | ⟨g', cap', cur, e, hg, hb, hc, hm, hs, htk⟩
      · cases e
      injection e with e1 e2 e3
      have e4 := Option.some.inj e1
      injection e4 with e5
      subst e5; subst e3
      refine ⟨C_len _, .inr ⟨g, c, (cur.setIfInBounds (k) (.slice x.1 x.2.1 x.2.2)), by rw [List.length_set, e2], hg, (heap_setCell_same _ g (k) _ _ _ hb), by rw [List.length_set]; exact hc, hm, by simpa using hs, ?_⟩⟩
      rw [Array.toList_setIfInBounds, List.length_set, List.take_set, htk, C_set zs hk x]
    · rw [List.getElem?_set_ne (fun e => hq e.symm)] at h2
      refine trow_at (h.li q l ys h1 h2) fun j hj => hoth j fun e => ?_
      exact h.ap.p i q _ l hl h1 (fun e' => hq e'.symm) g rfl (by rw [← e]; exact hj)
  · rcases List.mem_or_eq_of_mem_set hy with hm | rfl
    · exact h.sz ys hm
    · rw [List.length_set]; exact h.sz zs (List.mem_of_getElem? hi)
structure Bs (w : World) (bk : Nat) (vi vw : Value) (ls ws : List Value) (zss : List (List El)) : Prop where
  p : Bp w bk vi ls zss
  c1 : w.cell? ⟨bk, 17, none⟩ = some vw
  rw : w.ownsRow 0 34 1 vw zss.length ws
  lw : ∀ (k : Nat) (l : Value) (zs : List El), ws[k]? = some l → zss[k]? = some zs → Own w 0 l zs
  bt : ∃ cs, w.heap[bk]? = some (.cells cs 45 (0, 0)) ∧ cs.size = 22
  ne : ∀ k, vi.ownBlock = some k → vw.ownBlock ≠ some k
theorem Bs.below {w w' : World} {bk : Nat} {vi vw : Value} {ls ws : List Value} {zss : List (List El)} (h : Bs w bk vi vw ls ws zss) (hb : Below w.heap.size w w') : Bs w' bk vi vw ls ws zss :=
  ⟨h.p.below hb, cell_up h.c1 hb, trow_at h.rw fun i hi => hb.block i (h.rw.lt i hi).2, fun k l zs h1 h2 => trow_at (h.lw k l zs h1 h2) fun i hi => hb.block i ((h.lw k l zs h1 h2).lt i hi).2, h.bt.imp fun _ hx => ⟨(hb.block bk (t_lt hx.1)).trans hx.1, hx.2⟩, h.ne⟩
theorem Bs.at {w : World} {bk : Nat} {vi vw : Value} {ls ws : List Value} {zss : List (List El)} (h : Bs w bk vi vw ls ws zss) {i : Nat} {zs : List El} (hi : zss[i]? = some zs) : ∃ gw cw l, vw = .slice (some ⟨gw, 0, none⟩) zss.length cw ∧ w.cell? ⟨gw, i, none⟩ = some l ∧ Own w 0 l zs := by
  have hlt := (List.getElem?_eq_some_iff.1 hi).1
  obtain ⟨gw, cw, hv, _, _⟩ := h.rw.form (by omega)
  have hwl : ws.length = zss.length := by have := h.rw.1; rw [Nat.mul_one] at this; exact this
  obtain ⟨l, hl⟩ : ∃ l, ws[i]? = some l := ⟨ws[i]'(by rw [hwl]; exact hlt), List.getElem?_eq_getElem _⟩
  refine ⟨gw, cw, l, hv, ?_, h.lw i l zs hl hi⟩
  have hr := h.rw
  rw [hv] at hr
  rw [hr.cellAt i (by omega), hl]
def Rd (w : World) (zss : List (List El)) : Prop := ∀ us ∈ zss, ∀ z ∈ us, ∃ zs, zs.length ≤ 1000000 ∧ HasI w (sl z) zs
theorem Rd.below {w w' : World} {zss : List (List El)} (h : Rd w zss) (hb : Below w.heap.size w w') : Rd w' zss := fun us hu z hz => by
  obtain ⟨zs, h1, h2⟩ := h us hu z hz
  exact ⟨zs, h1, h2.below hb⟩
set_option maxRecDepth 100000 in
set_option maxHeartbeats 4000000 in
theorem still_any (bk : Nat) (vi vw : Value) (ls ws : List Value) (zss : List (List El)) (w : World) (h : Bs w bk vi vw ls ws zss) (hR : Rd w zss) :
    Calls Tryz.prog 44 #[.pointer (some ⟨bk, 0, none⟩)] w fun r w' => r = .returned (.bool true) ∧ Below w.heap.size w w' := by
  obtain ⟨ai, ci, rfl⟩ := row_shape h.p.ri
  obtain ⟨n, hn⟩ : ∃ n, n = zss.length := ⟨_, rfl⟩
  have HB : Hid _ := And.intro h (And.intro hn (And.intro h.p.len hR))
  have c0 := h.p.c0
  rw [← hn] at c0
  have hnl : n ≤ 400 := by rw [hn]; exact h.p.len
  clear h hn hR
  go_enter Tryz.func44, Tryz.ntmps44
  go_wp2_with fail
  go_loopg [3] n (fun q iv wr => ∃ (i : Nat), q = n - i ∧ i ≤ n ∧ iv = .int .i64 i ∧ Below w.heap.size w wr)
  case atStart => exact ⟨0, rfl, Nat.zero_le _, rfl, Below.refl _ _⟩
  case round =>
    obtain ⟨i, rfl, hi, rfl, hb⟩ := hrel
    have c0' := cell_up c0 hb
    by_cases hlt : i < n
    · obtain ⟨zs, hz⟩ : ∃ zs, zss[i]? = some zs := ⟨zss[i]'(by have := HB.out.2.1; omega), List.getElem?_eq_getElem _⟩
      have h1 := HB.out.1.below hb
      obtain ⟨gi, ci', l, hv, _, cl, hO⟩ := h1.p.at hz
      obtain ⟨gw, cw, l2, hv2, cl2, hO2⟩ := h1.at hz
      have c1 := h1.c1
      rw [hv2] at c1
      injection hv with e1 e2 e3
      subst e1
      rw [← HB.out.2.1] at c1
      have hzl := h1.p.sz zs (List.mem_of_getElem? hz)
      obtain ⟨a1, k1, rfl⟩ := row_shape hO
      obtain ⟨a2, k2, rfl⟩ := row_shape hO2
      have q0 : (0 : Int) ≤ (i : Int) := by omega
      have q1 : (i : Int) < (n : Int) := by omega
      have hSm := fun W (hw : Below wr.heap.size wr W) => same_b (.slice a1 zs.length k1) (.slice a2 zs.length k2) zs zs W (by omega) rfl ((Own.has hO).below hw) ((Own.has hO2).below hw) (fun j x y hx hy => by rw [hx] at hy; cases hy; obtain ⟨ys, hyl, hyh⟩ := HB.out.2.2.2 zs (List.mem_of_getElem? hz) x (List.mem_of_getElem? hx); exact ⟨ys, hyl, (hyh.below hb).below hw, (hyh.below hb).below hw⟩)
      have HS : Hid _ := hSm
      have HBl : Hid _ := hb
      clear hSm hO hO2 h1 hz hb hzl e2 e3 hv2
      go_upto_region 4 with fail
      go_cut [28] (fun s28 wx => s28 = .bool false ∧ Below w.heap.size w wx)
      case first =>
        go_region_held3 (fun w' => w'.cell? ⟨bk, 16, none⟩ = some (.slice (some ⟨gi, 0, none⟩) n ci) ∧ w'.cell? ⟨gi, i, none⟩ = some (.slice a1 zs.length k1) ∧ w'.cell? ⟨bk, 17, none⟩ = some (.slice (some ⟨gw, 0, none⟩) n cw) ∧ w'.cell? ⟨gw, i, none⟩ = some (.slice a2 zs.length k2)) (go_keep)
          ((first
            | (go_at_call 98; refine (HS.out _ (by repeat (first | exact Below.refl _ _ | assumption | refine Below.drew ?_ | refine Below.setCell ?_ (by simp) _ | refine Below.alloc ?_ (by simp) _))).mono ?_; rintro r8 w8 ⟨rfl, hb8'⟩; have hb8 := below_of_drew3 hb8'; have c0' := cell_up c0' hb8; have cl := cell_up cl hb8; have c1 := cell_up c1 hb8; have cl2 := cell_up cl2 hb8; have H8 : Hid _ := HBl.out.trans (hb8.mono HBl.out.size); clear hb8 hb8' HS)
            | fail))
        all_goals (refine Met.intro ?_; apply_assumption; refine Met.intro ?_; apply_assumption; (repeat apply Exists.intro); refine ⟨?rel, rfl⟩; case rel => exact ⟨rfl, by first | exact H8.out | exact below_drewN H8.out _⟩)
      case rest =>
        obtain ⟨rfl, hb9⟩ := hcut
        have H9 : Hid _ := hb9
        clear hb9 HS c0' cl c1 cl2
        go_wp2_with fail
        go_roundg (n - (i + 1))
        case measure => omega
        case rel => exact ⟨i + 1, rfl, by omega, by go_num, H9.out⟩
    · obtain rfl : i = n := by omega
      have q1 : ¬ (i : Int) < (i : Int) := by omega
      have HBl : Hid _ := hb
      clear hb
      go_wp2_with fail
      go_ret
      exact ⟨rfl, HBl.out⟩
def mid (ms zs : List El) (k : Nat) : List El := ms.take k ++ zs.drop k
theorem mid_len (ms zs : List El) {k : Nat} (hm : ms.length = zs.length) (hk : k ≤ zs.length) : (mid ms zs k).length = zs.length := by
  unfold mid
  rw [List.length_append, List.length_take, List.length_drop]
  omega
theorem mid_zero (ms zs : List El) : mid ms zs 0 = zs := by simp [mid]
theorem mid_full (ms zs : List El) (hm : ms.length = zs.length) : mid ms zs zs.length = ms := by
  unfold mid
  rw [List.drop_length, List.append_nil, List.take_of_length_le (by omega)]
theorem mid_succ (ms zs : List El) (hm : ms.length = zs.length) {k : Nat} (hk : k < zs.length) {x : El} (hx : ms[k]? = some x) : (mid ms zs k).set k x = mid ms zs (k + 1) := by
  unfold mid
  have e : (ms.take k).length = k := by rw [List.length_take]; omega
  rw [List.set_append_right _ _ (by omega), e, Nat.sub_self, take_succ_of hx, List.append_assoc]
  congr 1
  rw [List.drop_eq_getElem_cons hk]
  rfl
structure Mkd (w : World) (L : Nat) (zss yss : List (List El)) (i : Nat) : Prop where
  len : yss.length = zss.length
  lo : ∀ (k : Nat) (zs : List El), k < i → zss[k]? = some zs → ∃ ms, yss[k]? = some ms ∧ ms.length = zs.length ∧ Mks w L k 0 ms
  hi : ∀ (k : Nat) (zs : List El), i ≤ k → zss[k]? = some zs → yss[k]? = some zs
theorem Mkd.start (w : World) (L : Nat) (zss : List (List El)) : Mkd w L zss zss 0 := ⟨rfl, fun k zs h => by omega, fun k zs _ h => h⟩
theorem Mkd.up {w w' : World} {F : Nat → Prop} {L : Nat} {zss yss : List (List El)} {i : Nat} (h : Mkd w L zss yss i) (hk : Kept F w w') (hF : ∀ (g : Nat) (cs : Array Value), L ≤ g → w.heap[g]? = some (.cells cs 3 (0, 0)) → ¬ F g) : Mkd w' L zss yss i :=
  ⟨h.len, fun k zs h1 h2 => by obtain ⟨ms, a, b, c⟩ := h.lo k zs h1 h2; exact ⟨ms, a, b, c.up hk hF⟩, h.hi⟩
theorem Mkd.below {w w' : World} {L : Nat} {zss yss : List (List El)} {i : Nat} (h : Mkd w L zss yss i) (hb : Below w.heap.size w w') : Mkd w' L zss yss i := h.up (F := fun _ => False) (Kept.of_below hb) fun _ _ _ _ hf => hf
theorem Mkd.next {w : World} {L : Nat} {zss yss : List (List El)} {i : Nat} {zs ms : List El} (h : Mkd w L zss yss i) (hi : zss[i]? = some zs) (hm : ms.length = zs.length) (hM : Mks w L i 0 ms) : Mkd w L zss (yss.set i ms) (i + 1) := by
  have hlt := (List.getElem?_eq_some_iff.1 hi).1
  refine ⟨by rw [List.length_set]; exact h.len, fun k ys hk hy => ?_, fun k ys hk hy => ?_⟩
  · by_cases e : k = i
    · subst e
      rw [hi] at hy
      cases hy
      exact ⟨ms, List.getElem?_set_self (by rw [h.len]; exact hlt), hm, hM⟩
    · rw [List.getElem?_set_ne (fun e' => e e'.symm)]
      exact h.lo k ys (by omega) hy
  · rw [List.getElem?_set_ne (by omega)]
    exact h.hi k ys (by omega) hy
set_option maxRecDepth 100000 in
set_option maxHeartbeats 8000000 in
theorem putI_any (bk : Nat) (vi : Value) (ls : List Value) (zss : List (List El)) (w : World) (h : Bp w bk vi ls zss) :
    Calls Tryz.prog 55 #[.pointer (some ⟨bk, 0, none⟩)] w fun r w' => r = .returned (.tuple #[]) ∧ ∃ mss, Bp w' bk vi ls mss ∧ Mkd w' w.heap.size zss mss zss.length ∧ Kept (LsF ls) w w' := by
  obtain ⟨ai, ci, rfl⟩ := row_shape h.ri
  obtain ⟨n, hn⟩ : ∃ n, n = zss.length := ⟨_, rfl⟩
  have hnl : n ≤ 400 := by rw [hn]; exact h.len
  have HB : Hid _ := And.intro h hn
  have HZ : Hid (n = zss.length) := hn
  rw [← hn]
  clear h hn
  go_enter Tryz.func55, Tryz.ntmps55
  go_wp2_with fail
  go_loopg [2] n (fun q iv wr => ∃ (i : Nat) (yss : List (List El)), q = n - i ∧ i ≤ n ∧ iv = .int .i64 i ∧ Mkd wr w.heap.size zss yss i ∧ Bp wr bk (.slice ai n ci) ls yss ∧ Kept (LsF ls) w wr)
  case atStart => exact ⟨0, zss, rfl, Nat.zero_le _, rfl, Mkd.start _ _ _, by have h1 := HB.out.1; rw [← HZ.out] at h1; exact h1, Kept.refl _ _⟩
  case round =>
    obtain ⟨i, yss, rfl, hi, rfl, hM, hP, hK⟩ := hrel
    clear HB
    obtain ⟨wq, rfl⟩ : ∃ wq, wq = wr := ⟨_, rfl⟩
    have c0 := hP.c0
    by_cases hlt : i < n
    · obtain ⟨zs, hz⟩ : ∃ zs, zss[i]? = some zs := ⟨zss[i]'(by have := HZ.out; omega), List.getElem?_eq_getElem _⟩
      have hy : yss[i]? = some zs := hM.hi i zs (Nat.le_refl _) hz
      obtain ⟨gi, ci', l, hv, hl, cl, hO⟩ := hP.at hy
      injection hv with e1 e2 e3
      subst e1
      have hzl := hP.sz zs (List.mem_of_getElem? hy)
      obtain ⟨a1, k1, rfl⟩ := row_shape hO
      have q0 : (0 : Int) ≤ (i : Int) := by omega
      have q1 : (i : Int) < (n : Int) := by omega
      have HMk : Hid _ := mark_any i 0 zs.length wq (by omega) (by omega)
      have HI : Hid _ := And.intro hM (And.intro hP (And.intro hK (And.intro hz (And.intro hy hl))))
      clear hM hP hK hz hy hl hO e2 e3
      go_wp2_with fail
      refine Calls.mono HMk.out ?_
      rintro r w2 ⟨vm, ms, rfl, hml, hOm, hMm, hb2⟩
      obtain ⟨am, km, rfl⟩ := row_shape hOm
      rw [hml]
      have hOm' : w2.ownsRow wq.heap.size 50 1 (.slice am zs.length km) zs.length (C ms) := by have h1 := hOm; unfold Own at h1; rw [hml] at h1; exact h1
      have H2 : Hid _ := And.intro hOm' (And.intro hb2 (And.intro (HI.out.2.1.below hb2) (And.intro hml hMm)))
      obtain ⟨N, hN⟩ : ∃ N, N = zs.length := ⟨_, rfl⟩
      have HNz : Hid (N = zs.length) := hN
      rw [← hN] at hzl ⊢
      clear hOm hOm' hb2 hml hMm hN HMk c0 cl
      go_wp2_with fail
      go_loopg [4] N (fun q kv wr => ∃ (k : Nat), q = N - k ∧ k ≤ N ∧ kv = .int .i64 k ∧ Bp wr bk (.slice (some ⟨gi, 0, none⟩) n ci) ls (yss.set i (mid ms zs k)) ∧ Kept (fun b => (Value.slice a1 zs.length k1).ownBlock = some b) w2 wr)
      case atStart => exact ⟨0, rfl, Nat.zero_le _, rfl, by rw [mid_zero, set_same HI.out.2.2.2.2.1]; exact H2.out.2.2.1, Kept.refl _ _⟩
      case round =>
        obtain ⟨k, rfl, hk, rfl, hPk, hKk⟩ := hrel
        have hyl : i < yss.length := by have h1 := HI.out.1.len; have h2 := HZ.out; omega
        have hyk : (yss.set i (mid ms zs k))[i]? = some (mid ms zs k) := List.getElem?_set_self hyl
        have c0 := hPk.c0
        by_cases hkl : k < N
        · obtain ⟨gi', ci'', l', hv', hl', cl', hO'⟩ := hPk.at hyk
          injection hv' with e1 en1 en2
          clear en1 en2
          have e1 := Option.some.inj e1
          injection e1 with e1
          subst e1
          rw [HI.out.2.2.2.2.2] at hl'
          have e2 := Option.some.inj hl'
          subst e2
          have hmidl : (mid ms zs k).length = zs.length := mid_len ms zs H2.out.2.2.2.1 (by have := HNz.out; omega)
          obtain ⟨g, cg, hf, _, hgl⟩ := World.ownsRow.form hO' (by rw [hmidl]; have := HNz.out; omega)
          injection hf with e3 en3 e4
          clear en3
          subst e3; subst e4
          obtain ⟨gm, cm, hfm, hgm, _⟩ := World.ownsRow.form H2.out.1 (by have := HNz.out; omega)
          injection hfm with e5 en5 e6
          clear en5
          subst e5; subst e6
          have hgq : g < wq.heap.size := ((HI.out.2.1.li i _ zs HI.out.2.2.2.2.2 HI.out.2.2.2.2.1).lt g rfl).2
          obtain ⟨x, hx⟩ : ∃ x, ms[k]? = some x := ⟨ms[k]'(by have := HNz.out; have := H2.out.2.2.2.1; omega), List.getElem?_eq_getElem _⟩
          have cM0 : wr.cell? ⟨gm, k, none⟩ = some (.slice x.1 x.2.1 x.2.2) := by
            have h0 : (C ms)[k * 1 + 0]? = (enc x)[0]? := C_at ms k x hx 0 (by decide)
            have hgl2 := (H2.out.1.lt gm rfl).2
            rw [World.cell?_of_block (a := ⟨gm, k, none⟩) (hKk.block gm hgl2 (fun e => by have h9 := Option.some.inj e; simp at h9; omega))]
            have h2 := H2.out.1
            rw [h2.cellAt _ (by have := HNz.out; omega)]
            simpa [enc] using h0
          obtain ⟨z0, hz0⟩ : ∃ z0, (mid ms zs k)[k]? = some z0 := ⟨(mid ms zs k)[k]'(by rw [hmidl]; have := HNz.out; omega), List.getElem?_eq_getElem _⟩
          have cG0 : wr.cell? ⟨g, k, none⟩ = some (.slice z0.1 z0.2.1 z0.2.2) := by simpa [enc] using Own.at hO' (C_at _ k z0 hz0 0 (by decide))
          obtain ⟨cc, hcc⟩ := row_cells hO' (i := g) rfl
          have cF0 := blk_free hcc k
          have q2 : (0 : Int) ≤ (k : Int) := by omega
          have q3 : (k : Int) < (N : Int) := by omega
          have hset := hPk.set hyk HI.out.2.2.2.2.2 k (by rw [hmidl]; have := HNz.out; omega) x
          rw [List.set_set, mid_succ ms zs H2.out.2.2.2.1 (by have := HNz.out; omega) hx] at hset
          have HJ : Hid _ := And.intro hset (hKk.trans ((Kept.setCell wr g k (.slice x.1 x.2.1 x.2.2) : Kept (fun b => b = g) wr _).mono fun b _ hb => by subst hb; rfl))
          clear hset hPk hKk hyk hO' hl' hz0 hcc hmidl hgl hx
          rw [← HNz.out] at cl'
          go_upto_region 7 with fail
          go_region
          all_goals
            go_wp2_with fail
            go_roundg (N - (k + 1))
            case measure => omega
            case rel => exact ⟨k + 1, rfl, by omega, by go_num, by first | exact HJ.out.1 | exact HJ.out.1.below ((Below.refl _ _).drew), by first | exact HJ.out.2 | exact HJ.out.2.trans (.of_below ((Below.refl _ _).drew))⟩
        · obtain rfl : k = N := by omega
          have q3 : ¬ (k : Int) < (k : Int) := by omega
          have hfull : mid ms zs k = ms := by rw [HNz.out]; exact mid_full ms zs H2.out.2.2.2.1
          rw [hfull] at hPk
          have hKw : Kept (LsF ls) w wr := (HI.out.2.2.1.trans (.of_below H2.out.2.1)).trans (hKk.mono fun b _ hb => ⟨_, List.mem_of_getElem? HI.out.2.2.2.2.2, hb⟩)
          have hOl := HI.out.2.1.li i _ zs HI.out.2.2.2.2.2 HI.out.2.2.2.2.1
          have hOl2 := trow_at (w' := w2) hOl fun j hj => H2.out.2.1.block j (hOl.lt j hj).2
          have hne : ∀ (g : Nat) (cs : Array Value), w.heap.size ≤ g → w2.heap[g]? = some (.cells cs 3 (0, 0)) → ¬ (Value.slice a1 zs.length k1).ownBlock = some g := fun g cs _ hg => own_bk hOl2 hg (by decide)
          have hMn := ((HI.out.1.below H2.out.2.1).up hKk hne).next HI.out.2.2.2.1 H2.out.2.2.2.1 ((H2.out.2.2.2.2.base HI.out.2.2.1.size).up hKk hne)
          have HJ : Hid _ := And.intro hPk (And.intro hKw hMn)
          clear hPk hKk hyk hfull hKw hMn hne hOl hOl2
          go_wp2_with fail
          go_roundg (n - (i + 1))
          case measure => omega
          case rel => exact ⟨i + 1, _, rfl, by omega, by go_num, HJ.out.2.2, HJ.out.1, HJ.out.2.1⟩
    · obtain rfl : i = n := by omega
      have q1 : ¬ (i : Int) < (i : Int) := by omega
      have HJ : Hid _ := And.intro hP (And.intro hM hK)
      clear hP hK hM
      go_wp2_with fail
      go_end0
      exact ⟨rfl, yss, HJ.out.1, HJ.out.2.1, HJ.out.2.2⟩
structure Mr (w : World) (v : Value) (ns : List Nat) : Prop where
  ex : ∃ ao cap, v = .slice ao ns.length cap ∧ ∀ (k n : Nat), ns[k]? = some n → ∃ a l us, ao = some a ∧ w.cell? (a.add k) = some l ∧ Has w l us ∧ us.length = n ∧ Mks w 0 k 0 us
theorem Mr.below {w w' : World} {v : Value} {ns : List Nat} (h : Mr w v ns) (hb : Below w.heap.size w w') : Mr w' v ns := by
  obtain ⟨ao, cap, hv, h1⟩ := h.ex
  refine ⟨ao, cap, hv, fun k n hk => ?_⟩
  obtain ⟨a, l, us, ha, hc, hl, hn, hm⟩ := h1 k n hk
  exact ⟨a, l, us, ha, (hb.cell (World.block_lt_of_cell? w _ hc)).trans hc, hl.below hb, hn, hm.below hb⟩
set_option maxRecDepth 100000 in
set_option maxHeartbeats 4000000 in
theorem markedI_any (v : Value) (ns : List Nat) (w : World) (h : Mr w v ns) (hl : ns.length ≤ 400) (hs : ∀ n ∈ ns, n ≤ 2000000) :
    Calls Tryz.prog 77 #[v] w fun r w' => r = .returned (.bool true) ∧ Below w.heap.size w w' := by
  obtain ⟨ao, cap, rfl, _⟩ := h.ex
  obtain ⟨n, hn⟩ : ∃ n, n = ns.length := ⟨_, rfl⟩
  have HM : Hid _ := And.intro h (And.intro hs hn)
  rw [← hn] at hl ⊢
  clear h hs hn
  go_enter Tryz.func77, Tryz.ntmps77
  go_wp2_with fail
  go_loopg [3] n (fun q iv wr => ∃ (i : Nat), q = n - i ∧ i ≤ n ∧ iv = .int .i64 i ∧ Below w.heap.size w wr)
  case atStart => exact ⟨0, rfl, Nat.zero_le _, rfl, Below.refl _ _⟩
  case round =>
    obtain ⟨i, rfl, hi, rfl, hb⟩ := hrel
    by_cases hlt : i < n
    · obtain ⟨N, hN⟩ : ∃ N, ns[i]? = some N := ⟨ns[i]'(by have := HM.out.2.2; omega), List.getElem?_eq_getElem _⟩
      obtain ⟨ao', cap', hv, h1⟩ := (HM.out.1.below hb).ex
      injection hv with e1 e2 e3
      subst e1
      obtain ⟨a, l, us, rfl, cl, hL, hul, hMu⟩ := h1 i N hN
      have hN2 := HM.out.2.1 N (List.mem_of_getElem? hN)
      obtain ⟨al, kl, hlv, _⟩ := _root_.id hL
      rw [hul] at hlv
      subst hlv
      have q0 : (0 : Int) ≤ (i : Int) := by omega
      have q1 : (i : Int) < (n : Int) := by omega
      have hMk := fun W => mark_any i 0 N W (by omega) (by omega)
      have HK : Hid _ := And.intro hMk (And.intro hL (And.intro hb (And.intro hul hMu)))
      clear hMk hL hb hul hMu h1 hN e2 e3
      go_upto_region 4 with fail
      go_cut [22] (fun s22 wx => s22 = .bool false ∧ Below w.heap.size w wx)
      case first =>
        go_region_held3 (fun w' => w'.cell? (a.add i) = some (.slice al N kl)) (go_keep)
          ((first
            | (go_at_call 109; refine (HK.out.1 _).mono ?_; rintro r8 w8 ⟨v8, us8, rfl, hl8, hO8, hM8, hb8'⟩; have hb8 := below_of_drew3 hb8'; have cl := (hb8.cell (World.block_lt_of_cell? _ _ cl)).trans cl; have hL8 := HK.out.2.1.below hb8; have hS8 := same_b (.slice al N kl) v8 us us8 w8 (by rw [HK.out.2.2.2.1]; omega) (by rw [HK.out.2.2.2.1, hl8]) hL8 (Own.has hO8) (fun j x y hx hy => ⟨_, (by simp), ((HK.out.2.2.2.2.below hb8) j x hx).has, (hM8 j y hy).has⟩); have H8 : Hid _ := And.intro hS8 (HK.out.2.2.1.trans (hb8.mono HK.out.2.2.1.size)); clear hb8 hb8' hO8 hL8 hS8 hM8 hl8)
            | (go_at_call 98; refine (Calls.mono H8.out.1 ?_); rintro r9 w9 ⟨rfl, hb9⟩; have cl := (hb9.cell (World.block_lt_of_cell? _ _ cl)).trans cl; have H9 : Hid _ := H8.out.2.trans (hb9.mono H8.out.2.size); clear hb9)
            | fail))
        all_goals (refine Met.intro ?_; apply_assumption; refine Met.intro ?_; apply_assumption; (repeat apply Exists.intro); refine ⟨?rel, rfl⟩; case rel => exact ⟨rfl, by first | exact H9.out | exact below_drewN H9.out _⟩)
      case rest =>
        obtain ⟨rfl, hb9⟩ := hcut
        have H9 : Hid _ := hb9
        clear hb9 cl
        go_wp2_with fail
        go_roundg (n - (i + 1))
        case measure => omega
        case rel => exact ⟨i + 1, rfl, by omega, by go_num, H9.out⟩
    · obtain rfl : i = n := by omega
      have q1 : ¬ (i : Int) < (i : Int) := by omega
      have HBl : Hid _ := hb
      clear hb
      go_wp2_with fail
      go_ret
      exact ⟨rfl, HBl.out⟩
structure Gr (w wr : World) (bk : Nat) (vi : Value) (ls : List Value) (zss : List (List El)) (i : Nat) (vo : Value) (os : List Value) : Prop where
  c0 : wr.cell? ⟨bk, 16, none⟩ = some vi
  ri : wr.ownsRow 0 34 1 vi zss.length ls
  todo : ∀ (k : Nat) (l : Value) (zs : List El), i ≤ k → ls[k]? = some l → zss[k]? = some zs → Own wr 0 l zs
  done : ∀ (k : Nat) (l : Value) (zs : List El), k < i → ls[k]? = some l → zss[k]? = some zs → Has wr l zs ∧ ∃ o ms, os[k]? = some o ∧ ms.length = 96 ∧ Mks wr w.heap.size k zs.length ms ∧ Has wr o (zs ++ ms) ∧ (o.ownBlock = l.ownBlock ∨ ∀ b, o.ownBlock = some b → w.heap.size ≤ b) ∧ ∀ b, o.ownBlock = some b → vo.ownBlock ≠ some b
  row : wr.ownsRow w.heap.size 34 1 vo i os
  kp : Kept (LsF ls) w wr
structure Gs (w : World) (bk : Nat) (vi : Value) (ls : List Value) : Prop where
  ap : Apt bk vi ls
  bk : bk < w.heap.size
  vi : ∀ b, vi.ownBlock = some b → b < w.heap.size
  ls : ∀ l ∈ ls, ∀ b, l.ownBlock = some b → b < w.heap.size
theorem gr_start {w : World} {bk : Nat} {vi : Value} {ls : List Value} {zss : List (List El)} (h : Bp w bk vi ls zss) : Gr w w bk vi ls zss 0 (.slice none 0 0) [] ∧ Gs w bk vi ls := by
  refine ⟨⟨h.c0, h.ri, fun k l zs _ h1 h2 => h.li k l zs h1 h2, fun k l zs hk => by omega, World.ownsRow_nil _ _ _ _, Kept.refl _ _⟩, ⟨h.ap, World.block_lt_of_cell? w _ h.c0, fun b hb => (h.ri.lt b hb).2, fun l hl b hb => ?_⟩⟩
  obtain ⟨k, hk, rfl⟩ := List.getElem_of_mem hl
  have hz : zss[k]? = some (zss[k]'(by rw [← h.ll]; exact hk)) := List.getElem?_eq_getElem _
  exact ((h.li k _ _ (List.getElem?_eq_getElem hk) hz).lt b hb).2
structure Gm (wq wr : World) (l : Value) (zs : List El) (i : Nat) (lv : Value) (ms : List El) : Prop where
  kp : Kept (fun b => l.ownBlock = some b) wq wr
  has : Has wr l zs
  own : Own wr 0 lv (zs ++ ms)
  mrk : Mks wr wq.heap.size i zs.length ms
  at' : lv.ownBlock = l.ownBlock ∨ ∀ b, lv.ownBlock = some b → wq.heap.size ≤ b
theorem gm_start {wq : World} {l : Value} {zs : List El} (i : Nat) (h : Own wq 0 l zs) : Gm wq wq l zs i l [] :=
  ⟨Kept.refl _ _, Own.has h, by simpa using h, Mks.nil _ _ _ _, .inl rfl⟩
theorem Gm.below {wq wr w' : World} {l : Value} {zs : List El} {i : Nat} {lv : Value} {m : List El} (h : Gm wq wr l zs i lv m) (hb : Below wr.heap.size wr w') : Gm wq w' l zs i lv m :=
  ⟨h.kp.trans (.of_below hb), h.has.below hb, trow_at h.own fun k hk => hb.block k (h.own.lt k hk).2, h.mrk.below hb, h.at'⟩
theorem has_prefix {w : World} {l lv : Value} {zs ys : List El} (hl : ∃ c, l = .slice (match l with | .slice a _ _ => a | _ => none) zs.length c) (ho : Own w 0 lv (zs ++ ys)) (he : lv.ownBlock = l.ownBlock) (hlf : zs ≠ [] → ∃ g c, l = .slice (some ⟨g, 0, none⟩) zs.length c) (h0 : zs = [] → Has w l zs) : Has w l zs := by
  by_cases hz : zs = []
  · exact h0 hz
  obtain ⟨g, c, rfl⟩ := hlf hz
  refine ⟨_, c, rfl, fun j z hj => ⟨_, rfl, ?_⟩⟩
  have hlt := (List.getElem?_eq_some_iff.1 hj).1
  obtain ⟨g2, c2, rfl, _, _⟩ := World.ownsRow.form ho (by rw [List.length_append]; have := List.length_pos_iff.2 hz; omega)
  have hg : g2 = g := by have h1 := he; simp [Value.ownBlock] at h1; exact h1
  subst hg
  rw [addz]
  exact Own.at ho (by rw [C_app, List.getElem?_append_left hlt]; exact hj)
theorem Gm.app {wq wr w' : World} {l : Value} {zs : List El} {i : Nat} {lv lv' : Value} {ms ds : List El} (h : Gm wq wr l zs i lv ms) (hO : Own wq 0 l zs) (hd : Mks wr wq.heap.size i (zs.length + ms.length) ds) (hn : w'.ownsRow 0 50 1 lv' ((zs ++ ms).length + ds.length) (C (zs ++ ms) ++ C ds))
    (hk : (lv'.ownBlock = lv.ownBlock ∧ wr.grownBy w' lv.ownBlock) ∨ ((∀ k, lv'.ownBlock = some k → wr.heap.size ≤ k) ∧ wr.grownBy w' none)) : Gm wq w' l zs i lv' (ms ++ ds) := by
  have hown : Own w' 0 lv' (zs ++ (ms ++ ds)) := by
    unfold Own
    rw [← List.append_assoc, List.length_append, C_app]
    exact hn
  have hmk : Mks w' wq.heap.size i zs.length (ms ++ ds) := by
    have h0 := h.mrk.app hd
    rcases hk with ⟨_, h2⟩ | ⟨_, h2⟩
    · exact h0.row h.own (Kept.of_grown h2) (by decide)
    · exact h0.up (Kept.of_grown h2) fun _ _ _ _ hf => by cases hf
  rcases hk with ⟨h1, h2⟩ | ⟨h1, h2⟩
  · have hkk : Kept (fun b => l.ownBlock = some b) wq w' := by
      refine h.kp.trans2 (Kept.of_grown h2) fun b hb => ?_
      rcases h.at' with e | e
      · exact .inl (by rw [← e]; exact hb)
      · exact .inr (e b hb)
    refine ⟨hkk, ?_, hown, hmk, ?_⟩
    · rcases h.at' with e | e
      · obtain ⟨al, cl, hlv⟩ := row_shape hO
        refine has_prefix ⟨cl, by rw [hlv]⟩ hown (h1.trans e) (fun hz => ?_) (fun hz => ?_)
        · obtain ⟨g, c, hf, _, _⟩ := World.ownsRow.form hO (List.length_pos_iff.2 hz)
          exact ⟨g, c, hf⟩
        · subst hz; rw [hlv]; exact ⟨al, cl, rfl, fun j z hj => by simp [C] at hj⟩
      · exact h.has.kept (Kept.of_grown h2) fun hz b hb hf => by
          have h3 := e b hf
          have h4 := far (Own.has hO) hz hb
          omega
    · rcases h.at' with e | e
      · exact .inl (h1.trans e)
      · exact .inr fun b hb => e b (by rw [← h1]; exact hb)
  · refine ⟨h.kp.trans ((Kept.of_grown h2).mono fun b _ hb => by cases hb), h.has.kept (Kept.of_grown h2) fun _ b _ hf => (by cases hf), hown, hmk, .inr fun b hb => ?_⟩
    have := h1 b hb
    have := h.kp.size
    omega
theorem Gr.next {w wq wr w' : World} {bk : Nat} {vi : Value} {ls : List Value} {zss : List (List El)} {i : Nat} {vo vo' : Value} {os : List Value} {l lv : Value} {zs ms : List El} (h : Gr w wq bk vi ls zss i vo os) (hs : Gs w bk vi ls) (hl : ls[i]? = some l) (hz : zss[i]? = some zs) (hm : Gm wq wr l zs i lv ms) (h96 : ms.length = 96)
    (hr : w'.ownsRow w.heap.size 34 1 vo' (i + 1) (os ++ [lv])) (hg : wr.grownBy w' vo.ownBlock) (hat : vo'.ownBlock = vo.ownBlock ∨ ∀ b, vo'.ownBlock = some b → wr.heap.size ≤ b) : Gr w w' bk vi ls zss (i + 1) vo' (os ++ [lv]) := by
  have hlm := List.mem_of_getElem? hl
  have hO := h.todo i l zs (Nat.le_refl _) hl hz
  have hvo : ∀ b, vo.ownBlock = some b → w.heap.size ≤ b ∧ b < wq.heap.size := fun b hb => h.row.lt b hb
  -- a block below w that is not the list's own stands
  have hst : ∀ b, b < w.heap.size → l.ownBlock ≠ some b → w'.heap[b]? = wq.heap[b]? := fun b hb hn => by
    have h1 := h.kp.size
    have h2 := hm.kp.size
    rw [hg.block b (by omega) (fun e => by have := (hvo b e.symm).1; omega)]
    exact hm.kp.block b (by omega) hn
  have hst2 : ∀ b, b < wq.heap.size → l.ownBlock ≠ some b → vo.ownBlock ≠ some b → w'.heap[b]? = wq.heap[b]? := fun b hb hn hn2 => by
    have h2 := hm.kp.size
    rw [hg.block b (by omega) (fun e => hn2 e.symm)]
    exact hm.kp.block b hb hn
  have hKw : Kept (LsF ls) w w' := by
    refine (h.kp.trans (hm.kp.mono fun b _ hb => ⟨l, hlm, hb⟩)).trans2 (Kept.of_grown hg) fun b hb => .inr (hvo b hb).1
  have hK2 : Kept (fun b => l.ownBlock = some b ∨ vo.ownBlock = some b) wq w' := (hm.kp.mono fun b _ hb => .inl hb).trans ((Kept.of_grown hg).mono fun b _ hb => .inr hb)
  have hlen : os.length = i := by have := h.row.1; rw [Nat.mul_one] at this; exact this
  refine ⟨?_, trow_at h.ri fun b hb => hst b (hs.vi b hb) (fun e => hs.ap.r l hlm b e hb), fun k l2 zs2 hk h1 h2 => ?_, fun k l2 zs2 hk h1 h2 => ?_, hr, hKw⟩
  · rw [World.cell?_of_block (a := ⟨bk, 16, none⟩) (hst bk hs.bk (hs.ap.b l hlm))]; exact h.c0
  · exact trow_at (h.todo k l2 zs2 (by omega) h1 h2) fun b hb => hst b (hs.ls l2 (List.mem_of_getElem? h1) b hb) fun e => hs.ap.p i k l l2 hl h1 (by omega) b e hb
  · by_cases e : k = i
    · subst e
      rw [hl] at h1; rw [hz] at h2
      cases h1; cases h2
      have hvn : ∀ b, lv.ownBlock = some b → vo.ownBlock ≠ some b := fun b hb hv => by
        have h3 := hvo b hv
        rcases hm.at' with e | e
        · rw [e] at hb; have := hs.ls l hlm b hb; omega
        · have := e b hb; omega
      have hrw := own_up h.row hm.kp fun b hb e => by have := hs.ls l hlm b e; have := (hvo b hb).1; omega
      have hO' := trow_at (w' := w') hm.own fun b hb => hg.block b (hm.own.lt b hb).2 fun e => hvn b hb e.symm
      refine ⟨hm.has.kept (Kept.of_grown hg) fun hz b hb hf => ?_, lv, ms, ?_, h96, (hm.mrk.base h.kp.size).row hrw (Kept.of_grown hg) (by decide), Own.has hO', ?_, fun b hb hv => ?_⟩
      · have := hs.ls l hlm b hb; have := (hvo b hf).1; omega
      · rw [List.getElem?_append_right (by omega), hlen, Nat.sub_self]; rfl
      · rcases hm.at' with e | e
        · exact .inl e
        · exact .inr fun b hb => by have := e b hb; have := h.kp.size; omega
      · rcases hat with e | e
        · rw [e] at hv; exact hvn b hb hv
        · have h3 := e b hv
          have := (hm.own.lt b hb).2
          omega
    · obtain ⟨d1, o, ms2, d2, e96, eM, d3, d4, d5⟩ := h.done k l2 zs2 (by omega) h1 h2
      have hne : ∀ b, l2.ownBlock = some b → l.ownBlock ≠ some b := fun b hb e' => hs.ap.p i k l l2 hl h1 (fun e9 => e e9.symm) b e' hb
      refine ⟨?_, o, ms2, by rw [List.getElem?_append_left (by omega)]; exact d2, e96, eM.up hK2 (fun _ _ _ hg hf => hf.elim (own_bk hO hg (by decide)) (own_bk h.row hg (by decide))), ?_, d4, fun b hb hv => ?_⟩
      · exact d1.kept hK2 fun _ b hb hf => hf.elim (hne b hb) fun hv => by
          have h3 := hs.ls l2 (List.mem_of_getElem? h1) b hb
          have h4 := (hvo b hv).1
          omega
      · exact d3.kept hK2 fun _ b hb hf => hf.elim (fun hv => by
          rcases d4 with e9 | e9
          · rw [e9] at hb; exact hne b hb hv
          · have h3 := e9 b hb
            have h4 := hs.ls l hlm b hv
            omega) (d5 b hb)
      · rcases hat with e9 | e9
        · rw [e9] at hv; exact d5 b hb hv
        · have h3 := e9 b hv
          have h4 := far d3 (fun e8 => by have h5 := congrArg List.length e8; rw [List.length_append, e96] at h5; simp at h5) hb
          have h5 := hm.kp.size
          omega
set_option maxRecDepth 100000 in
set_option maxHeartbeats 8000000 in
theorem growI_any (bk : Nat) (vi : Value) (ls : List Value) (zss : List (List El)) (w : World) (h : Bp w bk vi ls zss) :
    Calls Tryz.prog 66 #[.pointer (some ⟨bk, 0, none⟩)] w fun r w' => ∃ vo os, r = .returned vo ∧ Gr w w' bk vi ls zss zss.length vo os := by
  obtain ⟨i0, hi0, hz0, hz1, hz2⟩ := info_parts Tryz.infoE
  obtain ⟨j0, hj0, hy0, hy1, hy2⟩ := info_parts Tryz.infoR
  obtain ⟨ai, ci, rfl⟩ := row_shape h.ri
  obtain ⟨n, hn⟩ : ∃ n, n = zss.length := ⟨_, rfl⟩
  have hnl : n ≤ 400 := by rw [hn]; exact h.len
  have h2 := gr_start h
  rw [← hn] at h2 ⊢
  have HS : Hid _ := And.intro h2.2 (And.intro hn h.sz)
  have HR : Hid _ := h2.1
  clear h hn h2
  go_enter Tryz.func66, Tryz.ntmps66
  go_wp2_with fail
  go_loopg [3, 4] n (fun q ov iv wr => ∃ (i : Nat) (os : List Value), q = n - i ∧ i ≤ n ∧ iv = .int .i64 i ∧ Gr w wr bk (.slice ai n ci) ls zss i ov os)
  case atStart => exact ⟨0, [], rfl, Nat.zero_le _, rfl, HR.out⟩
  case round =>
    obtain ⟨i, os, rfl, hi, rfl, hG⟩ := hrel
    clear HR
    obtain ⟨wq, rfl⟩ : ∃ wq, wq = wr := ⟨_, rfl⟩
    have c0 := hG.c0
    by_cases hlt : i < n
    · obtain ⟨zs, hz⟩ : ∃ zs, zss[i]? = some zs := ⟨zss[i]'(by have := HS.out.2.1; omega), List.getElem?_eq_getElem _⟩
      have hri := hG.ri
      rw [← HS.out.2.1] at hri
      have hll : ls.length = n := by have := hri.1; rw [Nat.mul_one] at this; exact this
      obtain ⟨l, hl⟩ : ∃ l, ls[i]? = some l := ⟨ls[i]'(by omega), List.getElem?_eq_getElem _⟩
      obtain ⟨gi, cgi, hv, _, _⟩ := World.ownsRow.form hri (by omega)
      injection hv with e1 e2 e3
      subst e1; subst e3
      clear e2
      have cl : wq.cell? ⟨gi, i, none⟩ = some l := by rw [hri.cellAt i (by omega), hl]
      have hO := hG.todo i l zs (Nat.le_refl _) hl hz
      have hzl := HS.out.2.2 zs (List.mem_of_getElem? hz)
      obtain ⟨al, kl, rfl⟩ := row_shape hO
      obtain ⟨ao, ko, rfl⟩ := row_shape hG.row
      have q0 : (0 : Int) ≤ (i : Int) := by omega
      have q1 : (i : Int) < (n : Int) := by omega
      have HG : Hid _ := And.intro hG (And.intro hO (And.intro hl hz))
      clear hG hO hl hz hri
      go_wp2_with fail
      go_loopg [5, 6] 16 (fun q lv nv wr => ∃ (m : Nat) (ms : List El), q = 16 - m ∧ m ≤ 16 ∧ nv = .int .i64 m ∧ ms.length = m ∧ Gm wq wr (.slice al zs.length kl) zs i lv ms)
      case atStart => exact ⟨0, [], rfl, Nat.zero_le _, rfl, rfl, gm_start i HG.out.2.1⟩
      case round =>
        obtain ⟨m, ms, rfl, hm, rfl, hms, hM⟩ := hrel
        obtain ⟨ay, ky, hys⟩ := row_shape hM.own
        have hyl : (zs ++ ms).length = zs.length + m := by rw [List.length_append, hms]
        rw [hyl] at hys
        subst hys
        obtain ⟨N, hN⟩ : ∃ N, N = zs.length + m := ⟨_, rfl⟩
        by_cases hmt : m < 16
        · have p1 : (m : Int) < 16 := by omega
          have hMk := fun W => mark_any i N 1 W (by omega) (by omega)
          rw [← hN] at hM
          have HM : Hid _ := And.intro hM (And.intro hMk (And.intro hyl (And.intro hN hms)))
          rw [← hN]
          have hN1 : N + 1 ≤ maxLen := by unfold maxLen; omega
          have hN8 : (N + 1) * 24 ≤ 140737488355328 := by omega
          clear hM hMk hyl hN hms
          go_wp2_with (first
            | (go_at_call 109; refine (HM.out.2.1 _).mono ?_; rintro r8 w8 ⟨v8, ds, rfl, hl8, hO8, hM8', hb8⟩; obtain ⟨g8, c8, rfl, _, _⟩ := World.ownsRow.form hO8 (by rw [hl8]; omega); rw [hl8]; have hM8 := HM.out.1.below hb8; have hown8 : w8.ownsRow 0 50 1 (.slice ay N ky) N (C (zs ++ ms)) := (by have h9 := hM8.own; unfold Own at h9; rw [HM.out.2.2.1, ← HM.out.2.2.2.1] at h9; exact h9); have hds : Mks w8 wq.heap.size i (zs.length + ms.length) ds := (by have h9 := hM8'.base HM.out.1.kp.size; rw [HM.out.2.2.2.1, ← HM.out.2.2.2.2] at h9; exact h9); have H8 : Hid _ := And.intro hown8 (And.intro hO8 (And.intro hM8 (And.intro hds hl8))); clear hb8 hO8 hM8 hown8 hM8' hds hl8)
            | (at_builtin; refine wpList_append_keep _ rfl _ _ 34 rfl 0 50 i0 (.slice none 0 0) 1 24 Tryz.underlying34 hi0 hz0 hz1 hz2 rfl (by decide) (.slice ay N ky) N (C (zs ++ ms)) rfl H8.out.1 ⟨g8, 0, none⟩ 1 c8 (C ds) rfl (by rw [C_len, H8.out.2.2.2.2]) (fun j u hj => by rw [addz, World.ownsRow.cellAt H8.out.2.1 j (by rw [← H8.out.2.1.1]; exact (List.getElem?_eq_some_iff.1 hj).1)]; exact hj) (C_one _) hN1 hN8 (Nat.zero_le _) ?_; intro v2 w2 hown2 hk2; have H2 : Hid _ := And.intro hown2 hk2; clear hown2 hk2)
            | fail)
          have hgm : Gm wq w2 (.slice al zs.length kl) zs i v2 (ms ++ ds) := Gm.app H8.out.2.2.1 HG.out.2.1 H8.out.2.2.2.1 (by rw [H8.out.2.2.2.2, HM.out.2.2.1, ← HM.out.2.2.2.1]; exact H2.out.1) H2.out.2
          have H3 : Hid _ := hgm
          clear hgm
          go_roundg (16 - (m + 1))
          case measure => omega
          case rel => exact ⟨m + 1, ms ++ ds, rfl, by omega, by go_num, by rw [List.length_append, HM.out.2.2.2.2, H8.out.2.2.2.2], H3.out⟩
        · obtain rfl : m = 16 := by omega
          have p1 : ¬ (16 : Int) < 16 := by omega
          have hMk := fun W => mark_any i N 80 W (by omega) (by omega)
          rw [← hN] at hM
          have HM : Hid _ := And.intro hM (And.intro hMk (And.intro hyl (And.intro hN hms)))
          rw [← hN]
          have hN1 : N + 80 ≤ maxLen := by unfold maxLen; omega
          have hN8 : (N + 80) * 24 ≤ 140737488355328 := by omega
          have hR1 : i + 1 ≤ maxLen := by unfold maxLen; omega
          have hR8 : (i + 1) * 24 ≤ 140737488355328 := by omega
          clear hM hMk hyl hN hms
          go_wp2_with (first
            | (go_at_call 109; refine (HM.out.2.1 _).mono ?_; rintro r8 w8 ⟨v8, ds, rfl, hl8, hO8, hM8', hb8⟩; obtain ⟨g8, c8, rfl, _, _⟩ := World.ownsRow.form hO8 (by rw [hl8]; omega); rw [hl8]; have hM8 := HM.out.1.below hb8; have hown8 : w8.ownsRow 0 50 1 (.slice ay N ky) N (C (zs ++ ms)) := (by have h9 := hM8.own; unfold Own at h9; rw [HM.out.2.2.1, ← HM.out.2.2.2.1] at h9; exact h9); have hds : Mks w8 wq.heap.size i (zs.length + ms.length) ds := (by have h9 := hM8'.base HM.out.1.kp.size; rw [HM.out.2.2.2.1, ← HM.out.2.2.2.2] at h9; exact h9); have H8 : Hid _ := And.intro hown8 (And.intro hO8 (And.intro hM8 (And.intro hds hl8))); clear hb8 hO8 hM8 hown8 hM8' hds hl8)
            | (at_builtin; refine wpList_append_keep _ rfl _ _ 34 rfl 0 50 i0 (.slice none 0 0) 1 24 Tryz.underlying34 hi0 hz0 hz1 hz2 rfl (by decide) (.slice ay N ky) N (C (zs ++ ms)) rfl H8.out.1 ⟨g8, 0, none⟩ 80 c8 (C ds) rfl (by rw [C_len, H8.out.2.2.2.2]) (fun j u hj => by rw [addz, World.ownsRow.cellAt H8.out.2.1 j (by rw [← H8.out.2.1.1]; exact (List.getElem?_eq_some_iff.1 hj).1)]; exact hj) (C_one _) hN1 hN8 (Nat.zero_le _) ?_; intro v2 w2 hown2 hk2; obtain ⟨a2, k2, rfl⟩ := row_shape hown2; have hgm : Gm wq w2 (.slice al zs.length kl) zs i (.slice a2 (N + 80) k2) (ms ++ ds) := Gm.app H8.out.2.2.1 HG.out.2.1 H8.out.2.2.2.1 (by rw [H8.out.2.2.2.2, HM.out.2.2.1, ← HM.out.2.2.2.1]; exact hown2) hk2; have H2 : Hid _ := hgm.below (w' := w2.alloc (.cells #[.slice a2 (N + 80) k2] 34)) ((Below.refl _ _).alloc (Nat.le_refl _) _); have hle2 : w.heap.size ≤ (w2.alloc (.cells #[.slice a2 (N + 80) k2] 34)).heap.size := (by have h1 := HG.out.1.kp.size; have h2 := hgm.kp.size; simp; omega); have hrow2 : (w2.alloc (.cells #[.slice a2 (N + 80) k2] 34)).ownsRow w.heap.size 34 1 (.slice ao i ko) i os := trow_at HG.out.1.row (fun b hb => (by have h3 := (HG.out.1.row.lt b hb); have h4 := H2.out.kp; refine h4.block b h3.2 fun e => ?_; have h5 := HS.out.1.ls _ (List.mem_of_getElem? HG.out.2.2.1) b e; omega)); have HR2 : Hid _ := hrow2; clear hown2 hk2 hgm hrow2)
            | (at_builtin; refine wpList_append_own_at _ rfl _ _ 41 rfl w.heap.size 34 j0 (.slice none 0 0) 1 24 Tryz.underlying41 hj0 hy0 hy1 hy2 rfl (by decide) (.slice ao i ko) i os rfl HR2.out ⟨w2.heap.size, 0, none⟩ 1 1 [.slice a2 (N + 80) k2] rfl rfl (World.news_of_block (cs := #[.slice a2 (N + 80) k2]) (t := 34) (fr := (0, 0)) (heap_alloc_new w2 _)) (one_list _ ⟨_, _, _, rfl⟩) hR1 hR8 hle2 ?_; intro v3 w3 hown3 hgrow3 hnil3 hat3; have H3 : Hid _ := And.intro hown3 (And.intro hgrow3 hat3); clear hown3 hgrow3 hnil3 hat3)
            | fail)
          have hnx : Gr w w3 bk (.slice (some ⟨gi, 0, none⟩) n ci) ls zss (i + 1) v3 (os ++ [.slice a2 (N + 80) k2]) := HG.out.1.next HS.out.1 HG.out.2.2.1 HG.out.2.2.2 H2.out (by rw [List.length_append, HM.out.2.2.2.2, H8.out.2.2.2.2]) H3.out.1 H3.out.2.1 (H3.out.2.2.imp_right fun e b hb => by rw [e] at hb; have := Option.some.inj hb; omega)
          have H4 : Hid _ := hnx
          clear hnx
          go_roundg (n - (i + 1))
          case measure => omega
          case rel => exact ⟨i + 1, _, rfl, by omega, by go_num, H4.out⟩
    · obtain rfl : i = n := by omega
      have q1 : ¬ (i : Int) < (i : Int) := by omega
      have HJ : Hid _ := hG
      clear hG
      go_wp2_with fail
      go_ret
      exact ⟨_, rfl, os, HJ.out⟩
theorem Bs.far {w w' : World} {F : Nat → Prop} {bk : Nat} {vi vw : Value} {ls ws : List Value} {zss : List (List El)} (h : Bs w bk vi vw ls ws zss) (hk : Kept F w w') (c0 : w'.cell? ⟨bk, 16, none⟩ = w.cell? ⟨bk, 16, none⟩) (c1 : w'.cell? ⟨bk, 17, none⟩ = w.cell? ⟨bk, 17, none⟩) (hbt : ∃ cs, w'.heap[bk]? = some (.cells cs 45 (0, 0)) ∧ cs.size = 22)
    (hv : ∀ b, vi.ownBlock = some b → ¬ F b) (hw : ∀ b, vw.ownBlock = some b → ¬ F b) (hl : ∀ l ∈ ls, ∀ b, l.ownBlock = some b → ¬ F b) (hm : ∀ l ∈ ws, ∀ b, l.ownBlock = some b → ¬ F b) : Bs w' bk vi vw ls ws zss :=
  ⟨⟨c0.trans h.p.c0, own_up h.p.ri hk hv, fun k l zs h1 h2 => own_up (h.p.li k l zs h1 h2) hk (hl l (List.mem_of_getElem? h1)), h.p.ap, h.p.len, h.p.sz⟩, c1.trans h.c1, own_up h.rw hk hw, fun k l zs h1 h2 => own_up (h.lw k l zs h1 h2) hk (hm l (List.mem_of_getElem? h1)), hbt, h.ne⟩
structure Bsn (w w' : World) (bk : Nat) (vi vw : Value) (v : Value) (ls ws : List Value) (zss : List (List El)) (zs : List El) (vi' vw' v1 : Value) : Prop where
  b : Bs w' bk vi' vw' (ls ++ [v]) (ws ++ [v1]) (zss ++ [zs])
  k : Kept (fun b => b = bk ∨ vi.ownBlock = some b ∨ vw.ownBlock = some b) w w'
  o : ∀ o, o ≠ 16 → o ≠ 17 → w'.cell? ⟨bk, o, none⟩ = w.cell? ⟨bk, o, none⟩
  f : ∀ b, (vi'.ownBlock = some b ∨ vw'.ownBlock = some b) → (vi.ownBlock = some b ∨ vw.ownBlock = some b) ∨ w.heap.size ≤ b
  n : ∀ b, v1.ownBlock = some b → w.heap.size ≤ b
theorem Bs.snoc {w w1 w2 w3 : World} {bk : Nat} {vi vw : Value} {ls ws : List Value} {zss : List (List El)} (h : Bs w bk vi vw ls ws zss) {v : Value} {zs : List El} (hO : Own w 0 v zs) (hap : ∀ l ∈ ls, ∀ k, l.ownBlock = some k → v.ownBlock ≠ some k) (hlen : zss.length < 400) (hsz : zs.length ≤ 1000000) {vi' vw' v1 : Value}
    (r1 : w1.ownsRow 0 34 1 vi' (zss.length + 1) (ls ++ [v])) (g1 : (w.alloc (.cells #[v] 34)).grownBy w1 vi.ownBlock) (a1 : vi'.ownBlock = vi.ownBlock ∨ vi'.ownBlock = some (w.heap.size + 1))
    (r2 : w2.ownsRow ((w1.setCell ⟨bk, 16, none⟩ vi').drew.heap.size) 50 1 v1 zs.length (C zs)) (g2 : Below (w1.setCell ⟨bk, 16, none⟩ vi').drew.heap.size (w1.setCell ⟨bk, 16, none⟩ vi').drew w2)
    (r3 : w3.ownsRow 0 34 1 vw' (zss.length + 1) (ws ++ [v1])) (g3 : (w2.alloc (.cells #[v1] 34)).grownBy w3 vw.ownBlock) (a3 : vw'.ownBlock = vw.ownBlock ∨ vw'.ownBlock = some (w2.heap.size + 1)) :
    Bsn w (w3.setCell ⟨bk, 17, none⟩ vw') bk vi vw v ls ws zss zs vi' vw' v1 := by
  obtain ⟨cs, hcs, hcz⟩ := h.bt
  have hbk : bk < w.heap.size := t_lt hcs
  have nbi : vi.ownBlock ≠ some bk := own_bk h.p.ri hcs (by decide)
  have nbw : vw.ownBlock ≠ some bk := own_bk h.rw hcs (by decide)
  have kA : Kept (fun b => vi.ownBlock = some b) w w1 := (Kept.of_below ((Below.refl _ _).alloc (Nat.le_refl _) _)).trans (Kept.of_grown g1)
  have s1 : w.heap.size + 1 ≤ w1.heap.size := by have := g1.size; simp at this; omega
  have kB : Kept (fun b => b = bk) w1 (w1.setCell ⟨bk, 16, none⟩ vi').drew := (Kept.setCell w1 bk 16 vi').trans (Kept.of_below ((Below.refl _ _).drew))
  have sB : (w1.setCell ⟨bk, 16, none⟩ vi').drew.heap.size = w1.heap.size := by simp
  have kC : Kept (fun b => b = bk) w1 w2 := kB.trans (Kept.of_below g2)
  have s2 : w1.heap.size ≤ w2.heap.size := by have := g2.size; omega
  have kD : Kept (fun b => vw.ownBlock = some b) w2 w3 := (Kept.of_below ((Below.refl _ _).alloc (Nat.le_refl _) _)).trans (Kept.of_grown g3)
  have s3 : w2.heap.size + 1 ≤ w3.heap.size := by have := g3.size; simp at this; omega
  have kE : Kept (fun b => b = bk) w3 (w3.setCell ⟨bk, 17, none⟩ vw') := Kept.setCell w3 bk 17 vw'
  have kW : Kept (fun b => b = bk ∨ vi.ownBlock = some b ∨ vw.ownBlock = some b) w (w3.setCell ⟨bk, 17, none⟩ vw') :=
    (((kA.mono fun b _ hb => .inr (.inl hb)).trans (kC.mono fun b _ hb => .inl hb)).trans (kD.mono fun b _ hb => .inr (.inr hb))).trans (kE.mono fun b _ hb => .inl hb)
  -- the book's own block
  have b1 : w1.heap[bk]? = some (.cells cs 45 (0, 0)) := (kA.block bk hbk nbi).trans hcs
  have b2 : (w1.setCell ⟨bk, 16, none⟩ vi').drew.heap[bk]? = some (.cells (cs.setIfInBounds 16 vi') 45 (0, 0)) := heap_setCell_same w1 bk 16 cs _ _ b1
  have b3 : w2.heap[bk]? = some (.cells (cs.setIfInBounds 16 vi') 45 (0, 0)) := (g2.block bk (by omega)).trans b2
  have b4 : w3.heap[bk]? = some (.cells (cs.setIfInBounds 16 vi') 45 (0, 0)) := (kD.block bk (by omega) nbw).trans b3
  have b5 : (w3.setCell ⟨bk, 17, none⟩ vw').heap[bk]? = some (.cells ((cs.setIfInBounds 16 vi').setIfInBounds 17 vw') 45 (0, 0)) := heap_setCell_same w3 bk 17 _ _ _ b4
  have hcell : ∀ o, (w3.setCell ⟨bk, 17, none⟩ vw').cell? ⟨bk, o, none⟩ = ((cs.setIfInBounds 16 vi').setIfInBounds 17 vw')[o]? := fun o => by simp [World.cell?, b5]
  have hcell0 : ∀ o, w.cell? ⟨bk, o, none⟩ = cs[o]? := fun o => by simp [World.cell?, hcs]
  -- what else stands
  have hint : ∀ (x : Value) (ys : List El), Own w 0 x ys → Own (w3.setCell ⟨bk, 17, none⟩ vw') 0 x ys := fun x ys hx => own_up hx kW fun b hb hf => by
    rcases hf with rfl | hf | hf
    · exact own_bk hx hcs (by decide) hb
    · exact own_ne hx h.p.ri (by decide) b hb hf
    · exact own_ne hx h.rw (by decide) b hb hf
  have nvi' : vi'.ownBlock ≠ some bk := fun e => by
    rcases a1 with a | a
    · rw [a] at e; exact nbi e
    · rw [a] at e; have := Option.some.inj e; omega
  have nvw' : vw'.ownBlock ≠ some bk := fun e => by
    rcases a3 with a | a
    · rw [a] at e; exact nbw e
    · rw [a] at e; have := Option.some.inj e; omega
  have nvv : ∀ k, vi'.ownBlock = some k → vw.ownBlock ≠ some k := fun k hk e => by
    rcases a1 with a | a
    · rw [a] at hk; exact h.ne k hk e
    · rw [a] at hk; have := Option.some.inj hk; have := (h.rw.lt k e).2; omega
  have hvi3 : w3.ownsRow 0 34 1 vi' (zss.length + 1) (ls ++ [v]) := own_up (own_up r1 kC fun b hb e => nvi' (by rw [hb, e])) kD nvv
  have hvif := own_up hvi3 kE fun b hb e => nvi' (by rw [hb, e])
  have hvwf := own_up r3 kE fun b hb e => nvw' (by rw [hb, e])
  have hv1 : Own (w3.setCell ⟨bk, 17, none⟩ vw') 0 v1 zs := by
    have x2 : w2.ownsRow 0 50 1 v1 zs.length (C zs) := row_base r2 (Nat.zero_le _)
    have hlow : ∀ b, v1.ownBlock = some b → w1.heap.size ≤ b := fun b hb => by have := (r2.lt b hb).1; omega
    exact own_up (own_up x2 kD fun b hb e => by have := hlow b hb; have := (h.rw.lt b e).2; omega) kE fun b hb e => by have := hlow b hb; omega
  have hlls : ls.length = zss.length := h.p.ll
  have hlws : ws.length = zss.length := by have := h.rw.1; rw [Nat.mul_one] at this; exact this
  refine ⟨⟨⟨?_, ?_, fun k l ys h1 h2 => ?_, ⟨fun l hl => ?_, fun l hl k hk => ?_, nvi', fun i j l m hl hm hij k hk => ?_⟩, by rw [List.length_append]; simp; omega, fun ys hy => ?_⟩, ?_, ?_, fun k l ys h1 h2 => ?_, ⟨_, b5, by simpa using hcz⟩, fun k hk e => ?_⟩, kW, fun o ho ho1 => ?_, fun b hb => ?_, fun b hb => by have := (r2.lt b hb).1; omega⟩
  · rw [hcell, Array.getElem?_setIfInBounds_ne (by decide)]; simp [show 16 < cs.size from by omega]
  · rw [List.length_append]; exact hvif
  · rcases Nat.lt_or_ge k zss.length with hk | hk
    · rw [List.getElem?_append_left (by omega)] at h1
      rw [List.getElem?_append_left hk] at h2
      exact hint l ys (h.p.li k l ys h1 h2)
    · have hk' := (List.getElem?_eq_some_iff.1 h2).1
      simp at hk'
      obtain rfl : k = zss.length := by omega
      rw [List.getElem?_append_right (by omega), hlls] at h1
      rw [List.getElem?_append_right (by omega)] at h2
      simp at h1 h2
      subst h1; subst h2
      exact hint v zs hO
  · rcases List.mem_append.1 hl with hl | hl
    · exact h.p.ap.b l hl
    · rw [List.mem_singleton.1 hl]; exact own_bk hO hcs (by decide)
  · have hlI : ∃ ys, Own w 0 l ys := by
      rcases List.mem_append.1 hl with hl | hl
      · obtain ⟨q, hq, rfl⟩ := List.getElem_of_mem hl
        exact ⟨_, h.p.li q _ _ (List.getElem?_eq_getElem hq) (List.getElem?_eq_getElem (by omega))⟩
      · rw [List.mem_singleton.1 hl]; exact ⟨_, hO⟩
    obtain ⟨ys, hl'⟩ := hlI
    exact own_ne (hint l ys hl') hvif (by decide) k hk
  · rcases Nat.lt_or_ge i zss.length with hi | hi
    · rw [List.getElem?_append_left (by omega)] at hl
      rcases Nat.lt_or_ge j zss.length with hj | hj
      · rw [List.getElem?_append_left (by omega)] at hm
        exact h.p.ap.p i j l m hl hm hij k hk
      · have hj' := (List.getElem?_eq_some_iff.1 hm).1
        simp at hj'
        obtain rfl : j = ls.length := by omega
        rw [List.getElem?_append_right (Nat.le_refl _), Nat.sub_self] at hm
        have e : v = m := by simpa using hm
        subst e
        exact hap l (List.mem_of_getElem? hl) k hk
    · have hi' := (List.getElem?_eq_some_iff.1 hl).1
      simp at hi'
      obtain rfl : i = ls.length := by omega
      rw [List.getElem?_append_right (Nat.le_refl _), Nat.sub_self] at hl
      have e : v = l := by simpa using hl
      subst e
      have hj' := (List.getElem?_eq_some_iff.1 hm).1
      simp at hj'
      rw [List.getElem?_append_left (by omega)] at hm
      exact fun e => hap m (List.mem_of_getElem? hm) k e hk
  · rcases List.mem_append.1 hy with hy | hy
    · exact h.p.sz ys hy
    · rw [List.mem_singleton.1 hy]; exact hsz
  · rw [hcell]; simp [hcz]
  · rw [List.length_append]; exact hvwf
  · rcases Nat.lt_or_ge k zss.length with hk | hk
    · rw [List.getElem?_append_left (by omega)] at h1
      rw [List.getElem?_append_left hk] at h2
      exact hint l ys (h.lw k l ys h1 h2)
    · have hk' := (List.getElem?_eq_some_iff.1 h2).1
      simp at hk'
      obtain rfl : k = zss.length := by omega
      rw [List.getElem?_append_right (by omega), hlws] at h1
      rw [List.getElem?_append_right (by omega)] at h2
      simp at h1 h2
      subst h1; subst h2
      exact hv1
  · rcases a3 with a | a
    · rw [a] at e; exact nvv k hk e
    · rw [a] at e
      have h9 := Option.some.inj e
      have := (r1.lt k hk).2
      omega
  · rw [hcell, hcell0]
    rw [Array.getElem?_setIfInBounds_ne (by omega), Array.getElem?_setIfInBounds_ne (by omega)]
  · rcases hb with hb | hb
    · rcases a1 with a | a
      · rw [a] at hb; exact .inl (.inl hb)
      · rw [a] at hb; have := Option.some.inj hb; exact .inr (by omega)
    · rcases a3 with a | a
      · rw [a] at hb; exact .inl (.inr hb)
      · rw [a] at hb; have := Option.some.inj hb; exact .inr (by omega)
set_option maxRecDepth 100000 in
set_option maxHeartbeats 4000000 in
theorem ints_any (bk : Nat) (vi vw v : Value) (ls ws : List Value) (zss : List (List El)) (zs : List El) (w : World) (h : Bs w bk vi vw ls ws zss) (hO : Own w 0 v zs) (hap : ∀ l ∈ ls, ∀ k, l.ownBlock = some k → v.ownBlock ≠ some k) (hlen : zss.length < 400) (hsz : zs.length ≤ 1000000) :
    Calls Tryz.prog 34 #[.pointer (some ⟨bk, 0, none⟩), v] w fun r w' => r = .returned (.tuple #[]) ∧ ∃ vi' vw' v1, Bsn w w' bk vi vw v ls ws zss zs vi' vw' v1 := by
  obtain ⟨i0, hi0, hz0, hz1, hz2⟩ := info_parts Tryz.infoE
  obtain ⟨j0, hj0, hy0, hy1, hy2⟩ := info_parts Tryz.infoR
  obtain ⟨ai, ci, rfl⟩ := row_shape h.p.ri
  obtain ⟨aw, cw, rfl⟩ := row_shape h.rw
  obtain ⟨al, cl, rfl⟩ := row_shape hO
  obtain ⟨n, hn⟩ : ∃ n, n = zss.length := ⟨_, rfl⟩
  obtain ⟨cs, hcs, hcz⟩ := h.bt
  have hbk : bk < w.heap.size := t_lt hcs
  have c0 := h.p.c0
  have q1 : (n : Int) < 400 := by omega
  have hR1 : n + 1 ≤ maxLen := by unfold maxLen; omega
  have hR8 : (n + 1) * 24 ≤ 140737488355328 := by omega
  have hL1 : zs.length ≤ maxLen := by unfold maxLen; omega
  have hL8 : zs.length * 24 ≤ 140737488355328 := by omega
  have hr := h.p.ri
  have hrw := h.rw
  rw [← hn] at c0 hr hrw ⊢
  have nbi := own_bk hr hcs (by decide)
  have nbw := own_bk hrw hcs (by decide)
  have HB : Hid _ := And.intro h (And.intro hO (And.intro hap (And.intro hr (And.intro hrw (And.intro hcs (And.intro hn (And.intro hsz (And.intro nbi nbw))))))))
  clear h hO hap hr hrw hcs hn nbi nbw
  go_enter Tryz.func34, Tryz.ntmps34
  go_wp2_with (at_builtin; (refine wpList_append_own_at _ rfl _ _ 41 rfl 0 34 j0 (.slice none 0 0) 1 24 Tryz.underlying41 hj0 hy0 hy1 hy2 rfl (by decide) (.slice ai n ci) n ls rfl (HB.out.2.2.2.1.alloc _) ⟨w.heap.size, 0, none⟩ 1 1 [.slice al zs.length cl] rfl rfl (World.news_of_block (cs := #[.slice al zs.length cl]) (t := 34) (fr := (0, 0)) (heap_alloc_new w _)) (one_list _ ⟨_, _, _, rfl⟩) hR1 hR8 (Nat.zero_le _) ?_; intro v2 w2 hown2 hgrow2 hnil2 hat2; obtain ⟨a2, k2, rfl⟩ := row_shape hown2; have hB2 : w2.heap[bk]? = some (.cells cs 45 (0, 0)) := ((grown_alloc hgrow2).block bk hbk HB.out.2.2.2.2.2.2.2.2.1).trans HB.out.2.2.2.2.2.1; have f2 := blk_free hB2 16; have g2 : w2.cell? ⟨bk, 16, none⟩ = some (.slice ai n ci) := (by rw [← c0]; simp [World.cell?, hB2, HB.out.2.2.2.2.2.1]); have H2 : Hid _ := And.intro hown2 (And.intro hgrow2 (And.intro hat2 hB2)); clear hown2 hgrow2 hnil2 hat2 hB2))
  have S1 : (w2.setCell ⟨bk, 16, none⟩ (.slice a2 (n + 1) k2)).heap[bk]? = some (.cells (cs.setIfInBounds 16 (.slice a2 (n + 1) k2)) 45 (0, 0)) := heap_setCell_same w2 bk 16 cs _ _ H2.out.2.2.2
  have kS : Kept (fun b => b = bk ∨ (Value.slice ai n ci).ownBlock = some b) w (w2.setCell ⟨bk, 16, none⟩ (.slice a2 (n + 1) k2)) := ((grown_alloc H2.out.2.1).mono fun b _ hb => .inr hb).trans ((Kept.setCell w2 bk 16 _).mono fun b _ hb => .inl hb)
  obtain ⟨wS, hwS⟩ : ∃ W, W = w2.setCell ⟨bk, 16, none⟩ (.slice a2 (n + 1) k2) := ⟨_, rfl⟩
  rw [← hwS] at S1 kS ⊢
  have e1 : wS.cell? ⟨bk, 17, none⟩ = some (.slice aw n cw) := by
    have h1 := HB.out.1.c1
    rw [← HB.out.2.2.2.2.2.2.1] at h1
    rw [← h1]
    simp [World.cell?, S1, HB.out.2.2.2.2.2.1]
  have hOS : Own wS 0 (.slice al zs.length cl) zs := own_up HB.out.2.1 kS fun b hb hf => by
    rcases hf with rfl | hf
    · exact own_bk HB.out.2.1 HB.out.2.2.2.2.2.1 (by decide) hb
    · exact own_ne HB.out.2.1 HB.out.2.2.2.1 (by decide) b hb hf
  have hC := copy_of (hOS.has.below ((Below.refl _ wS).drew))
  have hRS : wS.ownsRow 0 34 1 (.slice aw n cw) n ws := own_up HB.out.2.2.2.2.1 kS fun b hb hf => by
    rcases hf with rfl | hf
    · exact HB.out.2.2.2.2.2.2.2.2.2 hb
    · have h1 := HB.out.1.ne b
      rw [← HB.out.2.2.2.2.2.2.1] at h1
      exact h1 hf hb
  have HS : Hid _ := And.intro hC (And.intro hRS (And.intro S1 hwS))
  clear hC hRS S1 hwS hOS kS g2 f2 c0
  go_region_law
    ((first
      | (refine step_copy_at _ (by rfl) _ _ _ (by rfl) wS.drew.heap.size 50 i0 (.slice none 0 0) 1 24 Tryz.underlying34 hi0 hz0 hz1 hz2 rfl (by decide) (by rfl) al zs.length cl (C zs) (by rfl) HS.out.1.1 (C_len _) HS.out.1.2 (C_one _) hL1 hL8 (Nat.le_refl _) ?_; intro v3 w3 hown3 hgrow3; obtain ⟨a3, k3, rfl⟩ := row_shape hown3; have hb3 : Below wS.drew.heap.size wS.drew w3 := tgrown0 hgrow3; have hb4 : Below wS.heap.size wS w3 := (Below.refl _ wS).drew.trans hb3; clear hgrow3; have e1 := cell_up e1 hb4; have hR3 : (w3.alloc (.cells #[.slice a3 zs.length k3] 34)).ownsRow 0 34 1 (.slice aw n cw) n ws := trow_at HS.out.2.1 (fun i hi => (hb4.alloc hb4.size _).block i (HS.out.2.1.lt i hi).2); have hB3 := (hb4.block bk (t_lt HS.out.2.2.1)).trans HS.out.2.2.1; have hbk3 := t_lt hB3; have H3 : Hid _ := And.intro hown3 (And.intro hb3 (And.intro hR3 hB3)); clear hown3 hb3 hb4 hR3 hB3)
      | (refine step_append_lies _ (by rfl) _ _ _ (by rfl) 0 34 j0 _ 1 24 Tryz.underlying41 hj0 hy0 hy1 hy2 rfl (Nat.succ_pos 0) (.slice aw n cw) n ws (by rfl) H3.out.2.2.1 ⟨w3.heap.size, 0, none⟩ 1 1 [.slice a3 zs.length k3] (by rfl) (by rfl) (World.news_of_block (cs := #[.slice a3 zs.length k3]) (t := 34) (fr := (0, 0)) (heap_alloc_new w3 _)) (one_list _ ⟨_, _, _, rfl⟩) Nat.one_pos hR1 hR8 (Nat.zero_le _) (w3.heap.size + 1) (by simp) ?_; intro g4 k4 w4 hown4 hgrow4 hat4 hlt4; have hB4 := ((grown_alloc hgrow4).block bk (t_lt H3.out.2.2.2) HB.out.2.2.2.2.2.2.2.2.2).trans H3.out.2.2.2; have f4 := blk_free hB4 17; have e4 : w4.cell? ⟨bk, 17, none⟩ = some (.slice aw n cw) := (by rw [← e1]; simp [World.cell?, hB4, H3.out.2.2.2]); have H4 : Hid _ := And.intro hown4 (And.intro hgrow4 hat4); clear hown4 hgrow4 hat4 hlt4 hB4 e1)
      | fail))
  all_goals
    go_wp2_with fail
    go_end0
    obtain rfl : n = zss.length := HB.out.2.2.2.2.2.2.1
    obtain rfl : wS = _ := HS.out.2.2.2
    exact ⟨rfl, _, _, _, Bs.snoc (w1 := w2) (w2 := w3) (v1 := .slice a3 zs.length k3) HB.out.1 HB.out.2.1 HB.out.2.2.1 hlen hsz H2.out.1 H2.out.2.1 (H2.out.2.2.1.imp_right fun e => by rw [e]; simp) H3.out.1 H3.out.2.1 H4.out.1 H4.out.2.1 (H4.out.2.2.imp (fun e => e.symm) (fun e => by rw [e]; rfl))⟩
set_option maxRecDepth 100000 in
set_option maxHeartbeats 4000000 in
theorem ints_full (bk : Nat) (vi vw v : Value) (ls ws : List Value) (zss : List (List El)) (w : World) (h : Bs w bk vi vw ls ws zss) (hlen : ¬ zss.length < 400) :
    Calls Tryz.prog 34 #[.pointer (some ⟨bk, 0, none⟩), v] w fun r w' => r = .returned (.tuple #[]) ∧ w' = w := by
  obtain ⟨ai, ci, rfl⟩ := row_shape h.p.ri
  have c0 := h.p.c0
  have hl := h.p.len
  have e : zss.length = 400 := by omega
  rw [e] at c0
  clear h hl e hlen
  go_enter Tryz.func34, Tryz.ntmps34
  go_wp2_with fail
  go_end0
  exact ⟨rfl, rfl⟩
end BRows
namespace BRows
open Go.RowKit Go.Maps
theorem Bp.lsf_lt {w : World} {bk : Nat} {vi : Value} {ls : List Value} {zss : List (List El)} (h : Bp w bk vi ls zss) {b : Nat} (hb : LsF ls b) : b < w.heap.size := by
  obtain ⟨l, hl, hb⟩ := hb
  obtain ⟨k, hk, rfl⟩ := List.getElem_of_mem hl
  have hz : zss[k]? = some (zss[k]'(by rw [← h.ll]; exact hk)) := List.getElem?_eq_getElem _
  exact ((h.li k _ _ (List.getElem?_eq_getElem hk) hz).lt b hb).2
theorem Bp.keep {w w' : World} {F : Nat → Prop} {bk : Nat} {vi : Value} {ls : List Value} {zss : List (List El)} (h : Bp w bk vi ls zss) (hk : Kept F w w') (hb : ¬ F bk) (hr : ∀ b, vi.ownBlock = some b → ¬ F b) (hl : ∀ b, LsF ls b → ¬ F b) : Bp w' bk vi ls zss :=
  ⟨(World.cell?_of_block (a := ⟨bk, 16, none⟩) (hk.block bk (World.block_lt_of_cell? w _ h.c0) hb)).trans h.c0, trow_at h.ri fun i hi => hk.block i (h.ri.lt i hi).2 (hr i hi), fun k l zs h1 h2 => trow_at (h.li k l zs h1 h2) fun i hi => hk.block i ((h.li k l zs h1 h2).lt i hi).2 (hl i ⟨l, List.mem_of_getElem? h1, hi⟩), h.ap, h.len, h.sz⟩
structure Mq (w : World) (L : Nat) (v : Value) (ns : List Nat) (F : Nat → Prop) : Prop where
  ex : ∃ ao cap, v = .slice ao ns.length cap ∧ ∀ (k n : Nat), ns[k]? = some n → ∃ g l us, ao = some ⟨g, 0, none⟩ ∧ w.cell? ⟨g, k, none⟩ = some l ∧ Has w l us ∧ us.length = n ∧ Mks w L k 0 us ∧ (n ≠ 0 → ∀ b, l.ownBlock = some b → F b)
  row : ∀ b, v.ownBlock = some b → F b
theorem Mq.mr {w : World} {L : Nat} {v : Value} {ns : List Nat} {F : Nat → Prop} (h : Mq w L v ns F) : Mr w v ns := by
  obtain ⟨ao, cap, hv, h1⟩ := h.ex
  refine ⟨ao, cap, hv, fun k n hk => ?_⟩
  obtain ⟨g, l, us, ha, hc, hl, hn, hm, _⟩ := h1 k n hk
  exact ⟨_, l, us, ha, by rw [addz]; exact hc, hl, hn, hm.base (Nat.zero_le _)⟩
theorem Mq.kept {w w' : World} {L : Nat} {v : Value} {ns : List Nat} {F G : Nat → Prop} (h : Mq w L v ns F) (hk : Kept G w w') (hd : ∀ b, F b → ¬ G b) (hm : ∀ (g : Nat) (cs : Array Value), L ≤ g → w.heap[g]? = some (.cells cs 3 (0, 0)) → ¬ G g) : Mq w' L v ns F := by
  obtain ⟨ao, cap, hv, h1⟩ := h.ex
  refine ⟨⟨ao, cap, hv, fun k n hn => ?_⟩, h.row⟩
  obtain ⟨g, l, us, ha, hc, hl, hn2, hM, hF⟩ := h1 k n hn
  refine ⟨g, l, us, ha, (World.cell?_of_block (a := ⟨g, k, none⟩) (hk.block g (World.block_lt_of_cell? w _ hc) (hd g (h.row g (by rw [hv, ha]; rfl))))).trans hc, hl.kept hk fun hz b hb => hd b (hF (fun e => hz (List.eq_nil_of_length_eq_zero (hn2.trans e))) b hb), hn2, hM.up hk hm, hF⟩
theorem Mq.below {w w' : World} {L : Nat} {v : Value} {ns : List Nat} {F : Nat → Prop} (h : Mq w L v ns F) (hb : Below w.heap.size w w') : Mq w' L v ns F := h.kept (G := fun _ => False) (Kept.of_below hb) (fun _ _ hg => hg) (fun _ _ _ _ hg => hg)
theorem Mkd.base {w : World} {L L' : Nat} {zss yss : List (List El)} {i : Nat} (h : Mkd w L zss yss i) (hl : L' ≤ L) : Mkd w L' zss yss i :=
  ⟨h.len, fun k zs h1 h2 => by obtain ⟨ms, a, b, c⟩ := h.lo k zs h1 h2; exact ⟨ms, a, b, c.base hl⟩, h.hi⟩
theorem Bp.no_inner {w : World} {bk : Nat} {vi : Value} {ls : List Value} {zss : List (List El)} (h : Bp w bk vi ls zss) {L : Nat} : ∀ (g : Nat) (cs : Array Value), L ≤ g → w.heap[g]? = some (.cells cs 3 (0, 0)) → ¬ LsF ls g := fun g cs _ hg ⟨l, hl, hb⟩ => by
  obtain ⟨k, hk, rfl⟩ := List.getElem_of_mem hl
  have hz : zss[k]? = some (zss[k]'(by rw [← h.ll]; exact hk)) := List.getElem?_eq_getElem _
  exact own_bk (h.li k _ _ (List.getElem?_eq_getElem hk) hz) hg (by decide) hb
theorem gr_marked {w wr : World} {bk : Nat} {vi : Value} {ls : List Value} {zss mss : List (List El)} {vo : Value} {os : List Value} (h : Gr w wr bk vi ls mss mss.length vo os) (hB : Bp w bk vi ls mss) {L : Nat} (hM : Mkd w L zss mss zss.length) (hL : L ≤ w.heap.size) : Mq wr L vo (zss.map fun z => z.length + 96) (fun b => LsF ls b ∨ vi.ownBlock = some b ∨ w.heap.size ≤ b) ∧ Mq wr L vi (zss.map List.length) (fun b => LsF ls b ∨ vi.ownBlock = some b ∨ w.heap.size ≤ b) := by
  have hal : mss.length = zss.length := hM.len
  have hlo : os.length = zss.length := by have := h.row.1; rw [Nat.mul_one, hal] at this; exact this
  have hll : ls.length = zss.length := by have := h.ri.1; rw [Nat.mul_one, hal] at this; exact this
  have hD : ∀ (k n : Nat), (zss.map List.length)[k]? = some n → ∃ l o us os1, ls[k]? = some l ∧ os[k]? = some o ∧ Has wr l us ∧ us.length = n ∧ Mks wr L k 0 us ∧ Has wr o os1 ∧ os1.length = n + 96 ∧ Mks wr L k 0 os1 ∧ ∀ b, o.ownBlock = some b → LsF ls b ∨ w.heap.size ≤ b := fun k n hk => by
    rw [List.getElem?_map] at hk
    obtain ⟨zs, hz, rfl⟩ := Option.map_eq_some_iff.1 hk
    have hkl := (List.getElem?_eq_some_iff.1 hz).1
    have hl : ls[k]? = some (ls[k]'(by omega)) := List.getElem?_eq_getElem _
    obtain ⟨us, ha, hul, hMu⟩ := hM.lo k zs hkl hz
    obtain ⟨d1, o, ms, d2, d96, dM, d3, d4, _⟩ := h.done k _ _ (by omega) hl ha
    have hMr : Mks wr L k 0 us := hMu.up h.kp hB.no_inner
    refine ⟨_, o, us, us ++ ms, hl, d2, d1, hul, hMr, d3, by rw [List.length_append, hul, d96], hMr.app (by rw [Nat.zero_add]; exact dM.base hL), fun b hb => ?_⟩
    rcases d4 with e | e
    · exact .inl ⟨_, List.mem_of_getElem? hl, by rw [← e]; exact hb⟩
    · exact .inr (e b hb)
  constructor
  · obtain ⟨ao, co, hv⟩ := row_shape h.row
    refine ⟨⟨ao, co, by rw [List.length_map, hv, hal], fun k n hk => ?_⟩, fun b hb => .inr (.inr (h.row.lt b hb).1)⟩
    rw [List.getElem?_map] at hk
    obtain ⟨zs, hz, rfl⟩ := Option.map_eq_some_iff.1 hk
    have hkl := (List.getElem?_eq_some_iff.1 hz).1
    obtain ⟨l, o, us, os1, _, ho, _, _, _, hO, hOl, hOM, hF⟩ := hD k zs.length (by rw [List.getElem?_map, hz]; rfl)
    obtain ⟨g, c, hf, _, _⟩ := h.row.form (by omega)
    rw [hv] at hf
    injection hf with e1 e2 e3
    subst e1; subst e3
    have hr := h.row
    rw [hv] at hr
    exact ⟨_, o, os1, rfl, by rw [hr.cellAt k (by omega), ho], hO, hOl, hOM, fun _ b hb => (hF b hb).imp_right .inr⟩
  · obtain ⟨ao, co, hv⟩ := row_shape h.ri
    refine ⟨⟨ao, co, by rw [List.length_map, hv, hal], fun k n hk => ?_⟩, fun b hb => .inr (.inl hb)⟩
    obtain ⟨l, o, us, os1, hl, _, hL1, hLl, hLM, _⟩ := hD k n hk
    rw [List.getElem?_map] at hk
    obtain ⟨zs, hz, rfl⟩ := Option.map_eq_some_iff.1 hk
    have hkl := (List.getElem?_eq_some_iff.1 hz).1
    obtain ⟨g, c, hf, _, _⟩ := h.ri.form (by omega)
    rw [hv] at hf
    injection hf with e1 e2 e3
    subst e1; subst e3
    have hr := h.ri
    rw [hv] at hr
    exact ⟨_, l, us, rfl, by rw [hr.cellAt k (by omega), hl], hL1, hLl, hLM, fun _ b hb => .inl ⟨l, List.mem_of_getElem? hl, hb⟩⟩
theorem Bp.far_of {w : World} {bk : Nat} {vi : Value} {ls : List Value} {zss : List (List El)} (h : Bp w bk vi ls zss) {B : Nat} {e : TypeId} {sz : Nat} {v : Value} {n : Nat} {xs : List Value} (ho : w.ownsRow B e sz v n xs) (hne : e ≠ 50) {b : Nat} (hb : v.ownBlock = some b) : ¬ LsF ls b := fun ⟨l, hl, hlb⟩ => by
  obtain ⟨k, hk, rfl⟩ := List.getElem_of_mem hl
  have hz : zss[k]? = some (zss[k]'(by rw [← h.ll]; exact hk)) := List.getElem?_eq_getElem _
  exact own_ne ho (h.li k _ _ (List.getElem?_eq_getElem hk) hz) hne b hb hlb
theorem Bp.far_bk {w : World} {bk : Nat} {vi : Value} {ls : List Value} {zss : List (List El)} (h : Bp w bk vi ls zss) : ¬ LsF ls bk := fun ⟨l, hl, hlb⟩ => h.ap.b l hl hlb
theorem Bp.typed {w : World} {bk : Nat} {vi : Value} {ls : List Value} {zss : List (List El)} (h : Bp w bk vi ls zss) {b : Nat} (hb : LsF ls b) : ∃ B n xs v, w.ownsRow B 50 1 v n xs ∧ v.ownBlock = some b := by
  obtain ⟨l, hl, hlb⟩ := hb
  obtain ⟨k, hk, rfl⟩ := List.getElem_of_mem hl
  have hz : zss[k]? = some (zss[k]'(by rw [← h.ll]; exact hk)) := List.getElem?_eq_getElem _
  exact ⟨_, _, _, _, h.li k _ _ (List.getElem?_eq_getElem hk) hz, hlb⟩
end BRows
namespace ApIR
open Go.RowKit Go.Maps
attribute [local go_sem ↓] Go.wp_at_zero Go.wp_at_succ
structure Oth (w : World) (bk : Nat) : Prop where
  dTokens : w.cell? ⟨bk, 2, none⟩ = some (.slice none 0 0)
  dTexts : w.cell? ⟨bk, 4, none⟩ = some (.slice none 0 0)
  dBools : w.cell? ⟨bk, 6, none⟩ = some (.slice none 0 0)
  dSteps : w.cell? ⟨bk, 8, none⟩ = some (.slice none 0 0)
  dEdges : w.cell? ⟨bk, 10, none⟩ = some (.slice none 0 0)
  dNodes : w.cell? ⟨bk, 12, none⟩ = some (.slice none 0 0)
  dPairs : w.cell? ⟨bk, 14, none⟩ = some (.slice none 0 0)
  dLines : w.cell? ⟨bk, 18, none⟩ = some (.slice none 0 0)
  dWalks : w.cell? ⟨bk, 20, none⟩ = some (.slice none 0 0)
theorem Oth.block {w w' : World} {bk : Nat} (h : Oth w bk) (hb : w'.heap[bk]? = w.heap[bk]?) : Oth w' bk :=
  ⟨(World.cell?_of_block (a := ⟨bk, 2, none⟩) hb).trans h.dTokens, (World.cell?_of_block (a := ⟨bk, 4, none⟩) hb).trans h.dTexts, (World.cell?_of_block (a := ⟨bk, 6, none⟩) hb).trans h.dBools, (World.cell?_of_block (a := ⟨bk, 8, none⟩) hb).trans h.dSteps, (World.cell?_of_block (a := ⟨bk, 10, none⟩) hb).trans h.dEdges, (World.cell?_of_block (a := ⟨bk, 12, none⟩) hb).trans h.dNodes, (World.cell?_of_block (a := ⟨bk, 14, none⟩) hb).trans h.dPairs, (World.cell?_of_block (a := ⟨bk, 18, none⟩) hb).trans h.dLines, (World.cell?_of_block (a := ⟨bk, 20, none⟩) hb).trans h.dWalks⟩
theorem Oth.lt {w : World} {bk : Nat} (h : Oth w bk) : bk < w.heap.size := World.block_lt_of_cell? w _ h.dTokens
theorem Oth.below {w w' : World} {bk : Nat} (h : Oth w bk) (hb : Below w.heap.size w w') : Oth w' bk := h.block (hb.block bk h.lt)
theorem Oth.kept {F : Nat → Prop} {w w' : World} {bk : Nat} (h : Oth w bk) (hk : Kept F w w') (hF : ¬ F bk) : Oth w' bk := h.block (hk.block bk h.lt hF)
structure Dis (w : World) (bk : Nat) (viInts : Value) (lsInts : List Value) (viRows : Value) (lsRows : List Value) : Prop where
  ltInts : ∀ b, LsF lsInts b → b < w.heap.size
  bkInts : ¬ LsF lsInts bk
  ltRows : ∀ b, LsF lsRows b → b < w.heap.size
  bkRows : ¬ LsF lsRows bk
  rIntsRows : ∀ b, viRows.ownBlock = some b → ¬ LsF lsInts b
  lIntsRows : ∀ b, LsF lsRows b → ¬ LsF lsInts b
  rRowsInts : ∀ b, viInts.ownBlock = some b → ¬ LsF lsRows b
  lRowsInts : ∀ b, LsF lsInts b → ¬ LsF lsRows b
theorem dis_of {w : World} {bk : Nat} {viInts vwInts : Value} {lsInts wsInts : List Value} {zssInts : List (List Int)} {viRows vwRows : Value} {lsRows wsRows : List Value} {zssRows : List (List BRows.El)} (hInts : Bs w bk viInts vwInts lsInts wsInts zssInts) (hRows : BRows.Bs w bk viRows vwRows lsRows wsRows zssRows) (hXRows : ∀ b, viInts.ownBlock = some b → ¬ LsF lsRows b) : Dis w bk viInts lsInts viRows lsRows :=
  ⟨fun _ hb => BInts.Bp.lsf_lt hInts.p hb, BInts.Bp.far_bk hInts.p, fun _ hb => BRows.Bp.lsf_lt hRows.p hb, BRows.Bp.far_bk hRows.p, fun _ hb => BInts.Bp.far_of hInts.p hRows.p.ri (by decide) hb, fun _ hb => by obtain ⟨_, _, _, _, ho, hob⟩ := BRows.Bp.typed hRows.p hb; exact BInts.Bp.far_of hInts.p ho (by decide) hob, hXRows, fun _ hb => by obtain ⟨_, _, _, _, ho, hob⟩ := BInts.Bp.typed hInts.p hb; exact BRows.Bp.far_of hRows.p ho (by decide) hob⟩
set_option maxRecDepth 100000 in
set_option maxHeartbeats 16000000 in
theorem apart_any (bk : Nat) (viInts vwInts : Value) (lsInts wsInts : List Value) (zssInts : List (List Int)) (viRows vwRows : Value) (lsRows wsRows : List Value) (zssRows : List (List BRows.El)) (w : World) (hInts : Bs w bk viInts vwInts lsInts wsInts zssInts) (hRows : BRows.Bs w bk viRows vwRows lsRows wsRows zssRows) (hXRows : ∀ b, viInts.ownBlock = some b → ¬ LsF lsRows b) (hRRows : BRows.Rd w zssRows) (ho : Oth w bk) :
    Calls Tryz.prog 20 #[.pointer (some ⟨bk, 0, none⟩)] w fun r w' => r = .returned (.bool true) ∧ Kept (fun b => LsF lsInts b ∨ LsF lsRows b) w w' := by
  have HD : Hid _ := And.intro (dis_of hInts hRows hXRows) (And.intro (And.intro hInts.p.len hInts.p.sz) (And.intro hRows.p.len hRows.p.sz))
  have S0 : Hid _ := And.intro (hInts) (And.intro (And.intro hRows hRRows) (And.intro (ho) (Kept.refl (fun b => LsF lsInts b ∨ LsF lsRows b) w)))
  clear hInts hRows hRRows hXRows ho
  go_enter Tryz.func20, Tryz.ntmps20
  go_wp2_with (first
    | (go_at_call 36; refine (still_any bk viInts vwInts lsInts wsInts zssInts _ (S0.out.1)).mono ?_; rintro r1 ws1 ⟨rfl, hb⟩; have S1 : Hid _ := And.intro ((S0.out.1).below hb) (And.intro (And.intro ((S0.out.2.1).1.below hb) ((S0.out.2.1).2.below hb)) (And.intro ((S0.out.2.2.1).below hb) ((S0.out.2.2.2).trans (Kept.of_below hb)))); clear hb S0)
    | (go_at_call 37; refine (stillTokens_nil bk _ (S1.out.2.2.1).dTokens).mono ?_; rintro r9 w9 ⟨rfl, hw⟩; obtain rfl := hw.symm; clear hw)
    | (go_at_call 38; refine (stillTexts_nil bk _ (S1.out.2.2.1).dTexts).mono ?_; rintro r9 w9 ⟨rfl, hw⟩; obtain rfl := hw.symm; clear hw)
    | (go_at_call 39; refine (stillBools_nil bk _ (S1.out.2.2.1).dBools).mono ?_; rintro r9 w9 ⟨rfl, hw⟩; obtain rfl := hw.symm; clear hw)
    | (go_at_call 40; refine (stillSteps_nil bk _ (S1.out.2.2.1).dSteps).mono ?_; rintro r9 w9 ⟨rfl, hw⟩; obtain rfl := hw.symm; clear hw)
    | (go_at_call 41; refine (stillEdges_nil bk _ (S1.out.2.2.1).dEdges).mono ?_; rintro r9 w9 ⟨rfl, hw⟩; obtain rfl := hw.symm; clear hw)
    | (go_at_call 42; refine (stillNodes_nil bk _ (S1.out.2.2.1).dNodes).mono ?_; rintro r9 w9 ⟨rfl, hw⟩; obtain rfl := hw.symm; clear hw)
    | (go_at_call 43; refine (stillPairs_nil bk _ (S1.out.2.2.1).dPairs).mono ?_; rintro r9 w9 ⟨rfl, hw⟩; obtain rfl := hw.symm; clear hw)
    | (go_at_call 44; refine (BRows.still_any bk viRows vwRows lsRows wsRows zssRows _ (S1.out.2.1).1 (S1.out.2.1).2).mono ?_; rintro r1 ws2 ⟨rfl, hb⟩; have S2 : Hid _ := And.intro ((S1.out.1).below hb) (And.intro (And.intro ((S1.out.2.1).1.below hb) ((S1.out.2.1).2.below hb)) (And.intro ((S1.out.2.2.1).below hb) ((S1.out.2.2.2).trans (Kept.of_below hb)))); clear hb S1)
    | (go_at_call 45; refine (stillLines_nil bk _ (S2.out.2.2.1).dLines).mono ?_; rintro r9 w9 ⟨rfl, hw⟩; obtain rfl := hw.symm; clear hw)
    | (go_at_call 46; refine (stillWalks_nil bk _ (S2.out.2.2.1).dWalks).mono ?_; rintro r9 w9 ⟨rfl, hw⟩; obtain rfl := hw.symm; clear hw)
    | (go_at_call 47; refine (putI_any bk viInts lsInts zssInts _ (S2.out.1.p)).mono ?_; rintro r2 wp1 ⟨rfl, hp, hk⟩; have P1 : Hid _ := And.intro (hp) (And.intro (And.intro (BRows.Bp.keep (S2.out.2.1.1.p) hk HD.out.1.bkInts HD.out.1.rIntsRows HD.out.1.lIntsRows) True.intro) (And.intro ((S2.out.2.2.1).kept hk HD.out.1.bkInts) ((S2.out.2.2.2).trans (hk.mono fun _ _ hb => (.inl hb))))); clear hp hk S2)
    | (go_at_call 48; refine (putTokens_nil bk _ (P1.out.2.2.1).dTokens).mono ?_; rintro r9 w9 ⟨rfl, hw⟩; obtain rfl := hw.symm; clear hw)
    | (go_at_call 49; refine (putTexts_nil bk _ (P1.out.2.2.1).dTexts).mono ?_; rintro r9 w9 ⟨rfl, hw⟩; obtain rfl := hw.symm; clear hw)
    | (go_at_call 50; refine (putBools_nil bk _ (P1.out.2.2.1).dBools).mono ?_; rintro r9 w9 ⟨rfl, hw⟩; obtain rfl := hw.symm; clear hw)
    | (go_at_call 51; refine (putSteps_nil bk _ (P1.out.2.2.1).dSteps).mono ?_; rintro r9 w9 ⟨rfl, hw⟩; obtain rfl := hw.symm; clear hw)
    | (go_at_call 52; refine (putEdges_nil bk _ (P1.out.2.2.1).dEdges).mono ?_; rintro r9 w9 ⟨rfl, hw⟩; obtain rfl := hw.symm; clear hw)
    | (go_at_call 53; refine (putNodes_nil bk _ (P1.out.2.2.1).dNodes).mono ?_; rintro r9 w9 ⟨rfl, hw⟩; obtain rfl := hw.symm; clear hw)
    | (go_at_call 54; refine (putPairs_nil bk _ (P1.out.2.2.1).dPairs).mono ?_; rintro r9 w9 ⟨rfl, hw⟩; obtain rfl := hw.symm; clear hw)
    | (go_at_call 55; refine (BRows.putI_any bk viRows lsRows zssRows _ (P1.out.2.1.1)).mono ?_; rintro r2 wp2 ⟨rfl, mssRows, hp, hmk, hk⟩; have P2 : Hid _ := And.intro (BInts.Bp.keep (P1.out.1) hk HD.out.1.bkRows HD.out.1.rRowsInts HD.out.1.lRowsInts) (And.intro (And.intro hp (hmk.base (P1.out.2.2.2).size)) (And.intro ((P1.out.2.2.1).kept hk HD.out.1.bkRows) ((P1.out.2.2.2).trans (hk.mono fun _ _ hb => (.inr (hb)))))); clear hp hk hmk P1)
    | (go_at_call 56; refine (putLines_nil bk _ (P2.out.2.2.1).dLines).mono ?_; rintro r9 w9 ⟨rfl, hw⟩; obtain rfl := hw.symm; clear hw)
    | (go_at_call 57; refine (putWalks_nil bk _ (P2.out.2.2.1).dWalks).mono ?_; rintro r9 w9 ⟨rfl, hw⟩; obtain rfl := hw.symm; clear hw)
    | (go_at_call 58; refine (growI_any bk viInts lsInts (allM zssInts) _ (P2.out.1)).mono ?_; rintro r3 wg1 ⟨voInts, osInts, rfl, hG⟩; have hM := And.intro (BInts.gr_marked hG) (And.intro hG.c0 (P2.out.2.2.2).size); have G1 : Hid _ := And.intro (hM) (And.intro (And.intro (BRows.Bp.keep (P2.out.2.1).1 hG.kp HD.out.1.bkInts HD.out.1.rIntsRows HD.out.1.lIntsRows) ((P2.out.2.1).2.up hG.kp (fun g _ hg _ hf => by have := HD.out.1.ltInts g hf; omega))) (And.intro ((P2.out.2.2.1).kept hG.kp HD.out.1.bkInts) ((P2.out.2.2.2).trans (hG.kp.mono fun _ _ hb => (.inl hb))))); clear hM hG P2)
    | (go_at_call 59; refine (growTokens_nil bk _ (G1.out.2.2.1).dTokens).mono ?_; rintro r9 w9 ⟨rfl, hw⟩; obtain rfl := hw.symm; clear hw)
    | (go_at_call 60; refine (growTexts_nil bk _ (G1.out.2.2.1).dTexts).mono ?_; rintro r9 w9 ⟨rfl, hw⟩; obtain rfl := hw.symm; clear hw)
    | (go_at_call 61; refine (growBools_nil bk _ (G1.out.2.2.1).dBools).mono ?_; rintro r9 w9 ⟨rfl, hw⟩; obtain rfl := hw.symm; clear hw)
    | (go_at_call 62; refine (growSteps_nil bk _ (G1.out.2.2.1).dSteps).mono ?_; rintro r9 w9 ⟨rfl, hw⟩; obtain rfl := hw.symm; clear hw)
    | (go_at_call 63; refine (growEdges_nil bk _ (G1.out.2.2.1).dEdges).mono ?_; rintro r9 w9 ⟨rfl, hw⟩; obtain rfl := hw.symm; clear hw)
    | (go_at_call 64; refine (growNodes_nil bk _ (G1.out.2.2.1).dNodes).mono ?_; rintro r9 w9 ⟨rfl, hw⟩; obtain rfl := hw.symm; clear hw)
    | (go_at_call 65; refine (growPairs_nil bk _ (G1.out.2.2.1).dPairs).mono ?_; rintro r9 w9 ⟨rfl, hw⟩; obtain rfl := hw.symm; clear hw)
    | (go_at_call 66; refine (BRows.growI_any bk viRows lsRows mssRows _ (G1.out.2.1).1).mono ?_; rintro r3 wg2 ⟨voRows, osRows, rfl, hG⟩; have hM := And.intro (BRows.gr_marked hG (G1.out.2.1).1 (G1.out.2.1).2 (G1.out.2.2.2).size) (And.intro hG.c0 (G1.out.2.2.2).size); have G2 : Hid _ := And.intro (And.intro (And.intro ((G1.out.1).1.1.kept hG.kp (fun b hb hg => hb.elim (fun e => HD.out.1.lRowsInts b e hg) (fun e => e.elim (fun e => HD.out.1.rRowsInts b e hg) (fun e => by have := HD.out.1.ltRows b hg; have := (G1.out.1).2.2; omega)))) ((G1.out.1).1.2.kept hG.kp (fun b hb hg => hb.elim (fun e => HD.out.1.lRowsInts b e hg) (fun e => e.elim (fun e => HD.out.1.rRowsInts b e hg) (fun e => by have := HD.out.1.ltRows b hg; have := (G1.out.1).2.2; omega))))) (And.intro ((World.cell?_of_block (a := ⟨bk, 0, none⟩) (hG.kp.block bk (G1.out.2.2.1).lt HD.out.1.bkRows)).trans (G1.out.1).2.1) (G1.out.1).2.2)) (And.intro (hM) (And.intro ((G1.out.2.2.1).kept hG.kp HD.out.1.bkRows) ((G1.out.2.2.2).trans (hG.kp.mono fun _ _ hb => (.inr (hb)))))); clear hM hG G1)
    | (go_at_call 67; refine (growLines_nil bk _ (G2.out.2.2.1).dLines).mono ?_; rintro r9 w9 ⟨rfl, hw⟩; obtain rfl := hw.symm; clear hw)
    | (go_at_call 68; refine (growWalks_nil bk _ (G2.out.2.2.1).dWalks).mono ?_; rintro r9 w9 ⟨rfl, hw⟩; obtain rfl := hw.symm; clear hw)
    | fail)
  refine (markedI_any voInts (zssInts.map fun z => z.length + 96) _ (G2.out.1).1.1.mr (by rw [List.length_map]; exact HD.out.2.1.1) (fun n hn => by obtain ⟨z, hz, rfl⟩ := List.mem_map.1 hn; have := HD.out.2.1.2 z hz; omega)).mono ?_
  rintro r4 wm1 ⟨rfl, hb⟩
  have M1 : Hid _ := And.intro (And.intro (And.intro ((G2.out.1).1.1.below hb) ((G2.out.1).1.2.below hb)) (And.intro (cell_up (G2.out.1).2.1 hb) (G2.out.1).2.2)) (And.intro (And.intro (And.intro ((G2.out.2.1).1.1.below hb) ((G2.out.2.1).1.2.below hb)) (And.intro (cell_up (G2.out.2.1).2.1 hb) (G2.out.2.1).2.2)) (And.intro ((G2.out.2.2.1).below hb) ((G2.out.2.2.2).trans (Kept.of_below hb))))
  clear hb G2
  have cInts := (M1.out.1).2.1
  go_wp2_with fail
  clear cInts
  refine (markedI_any viInts (zssInts.map List.length) _ (M1.out.1).1.2.mr (by rw [List.length_map]; exact HD.out.2.1.1) (fun n hn => by obtain ⟨z, hz, rfl⟩ := List.mem_map.1 hn; have := HD.out.2.1.2 z hz; omega)).mono ?_
  rintro r4 wm2 ⟨rfl, hb⟩
  have M2 : Hid _ := And.intro (And.intro (And.intro ((M1.out.1).1.1.below hb) ((M1.out.1).1.2.below hb)) (And.intro (cell_up (M1.out.1).2.1 hb) (M1.out.1).2.2)) (And.intro (And.intro (And.intro ((M1.out.2.1).1.1.below hb) ((M1.out.2.1).1.2.below hb)) (And.intro (cell_up (M1.out.2.1).2.1 hb) (M1.out.2.1).2.2)) (And.intro ((M1.out.2.2.1).below hb) ((M1.out.2.2.2).trans (Kept.of_below hb))))
  clear hb M1
  obtain ⟨dTokens, dTexts, dBools, dSteps, dEdges, dNodes, dPairs, dLines, dWalks⟩ := M2.out.2.2.1
  go_wp2_with (first
    | (go_at_call 70; refine (markedTokens_nil _).mono ?_; rintro r9 w9 ⟨rfl, hw⟩; obtain rfl := hw.symm; clear hw)
    | (go_at_call 71; refine (markedTexts_nil _).mono ?_; rintro r9 w9 ⟨rfl, hw⟩; obtain rfl := hw.symm; clear hw)
    | (go_at_call 72; refine (markedBools_nil _).mono ?_; rintro r9 w9 ⟨rfl, hw⟩; obtain rfl := hw.symm; clear hw)
    | (go_at_call 73; refine (markedSteps_nil _).mono ?_; rintro r9 w9 ⟨rfl, hw⟩; obtain rfl := hw.symm; clear hw)
    | (go_at_call 74; refine (markedEdges_nil _).mono ?_; rintro r9 w9 ⟨rfl, hw⟩; obtain rfl := hw.symm; clear hw)
    | (go_at_call 75; refine (markedNodes_nil _).mono ?_; rintro r9 w9 ⟨rfl, hw⟩; obtain rfl := hw.symm; clear hw)
    | (go_at_call 76; refine (markedPairs_nil _).mono ?_; rintro r9 w9 ⟨rfl, hw⟩; obtain rfl := hw.symm; clear hw)
    | (go_at_call 78; refine (markedLines_nil _).mono ?_; rintro r9 w9 ⟨rfl, hw⟩; obtain rfl := hw.symm; clear hw)
    | (go_at_call 79; refine (markedWalks_nil _).mono ?_; rintro r9 w9 ⟨rfl, hw⟩; obtain rfl := hw.symm; clear hw)
    | fail)
  clear dTokens dTexts dBools dSteps dEdges dNodes dPairs dLines dWalks
  refine (BRows.markedI_any voRows (zssRows.map fun z => z.length + 96) _ (M2.out.2.1).1.1.mr (by rw [List.length_map]; exact HD.out.2.2.1) (fun n hn => by obtain ⟨z, hz, rfl⟩ := List.mem_map.1 hn; have := HD.out.2.2.2 z hz; omega)).mono ?_
  rintro r4 wm3 ⟨rfl, hb⟩
  have M3 : Hid _ := And.intro (And.intro (And.intro ((M2.out.1).1.1.below hb) ((M2.out.1).1.2.below hb)) (And.intro (cell_up (M2.out.1).2.1 hb) (M2.out.1).2.2)) (And.intro (And.intro (And.intro ((M2.out.2.1).1.1.below hb) ((M2.out.2.1).1.2.below hb)) (And.intro (cell_up (M2.out.2.1).2.1 hb) (M2.out.2.1).2.2)) (And.intro ((M2.out.2.2.1).below hb) ((M2.out.2.2.2).trans (Kept.of_below hb))))
  clear hb M2
  have cRows := (M3.out.2.1).2.1
  go_wp2_with fail
  clear cRows
  refine (BRows.markedI_any viRows (zssRows.map List.length) _ (M3.out.2.1).1.2.mr (by rw [List.length_map]; exact HD.out.2.2.1) (fun n hn => by obtain ⟨z, hz, rfl⟩ := List.mem_map.1 hn; have := HD.out.2.2.2 z hz; omega)).mono ?_
  rintro r4 wm4 ⟨rfl, hb⟩
  have M4 : Hid _ := And.intro (And.intro (And.intro ((M3.out.1).1.1.below hb) ((M3.out.1).1.2.below hb)) (And.intro (cell_up (M3.out.1).2.1 hb) (M3.out.1).2.2)) (And.intro (And.intro (And.intro ((M3.out.2.1).1.1.below hb) ((M3.out.2.1).1.2.below hb)) (And.intro (cell_up (M3.out.2.1).2.1 hb) (M3.out.2.1).2.2)) (And.intro ((M3.out.2.2.1).below hb) ((M3.out.2.2.2).trans (Kept.of_below hb))))
  clear hb M3
  obtain ⟨dTokens, dTexts, dBools, dSteps, dEdges, dNodes, dPairs, dLines, dWalks⟩ := M4.out.2.2.1
  go_wp2_with (first
    | (go_at_call 70; refine (markedTokens_nil _).mono ?_; rintro r9 w9 ⟨rfl, hw⟩; obtain rfl := hw.symm; clear hw)
    | (go_at_call 71; refine (markedTexts_nil _).mono ?_; rintro r9 w9 ⟨rfl, hw⟩; obtain rfl := hw.symm; clear hw)
    | (go_at_call 72; refine (markedBools_nil _).mono ?_; rintro r9 w9 ⟨rfl, hw⟩; obtain rfl := hw.symm; clear hw)
    | (go_at_call 73; refine (markedSteps_nil _).mono ?_; rintro r9 w9 ⟨rfl, hw⟩; obtain rfl := hw.symm; clear hw)
    | (go_at_call 74; refine (markedEdges_nil _).mono ?_; rintro r9 w9 ⟨rfl, hw⟩; obtain rfl := hw.symm; clear hw)
    | (go_at_call 75; refine (markedNodes_nil _).mono ?_; rintro r9 w9 ⟨rfl, hw⟩; obtain rfl := hw.symm; clear hw)
    | (go_at_call 76; refine (markedPairs_nil _).mono ?_; rintro r9 w9 ⟨rfl, hw⟩; obtain rfl := hw.symm; clear hw)
    | (go_at_call 78; refine (markedLines_nil _).mono ?_; rintro r9 w9 ⟨rfl, hw⟩; obtain rfl := hw.symm; clear hw)
    | (go_at_call 79; refine (markedWalks_nil _).mono ?_; rintro r9 w9 ⟨rfl, hw⟩; obtain rfl := hw.symm; clear hw)
    | fail)
  go_ret
  exact ⟨rfl, M4.out.2.2.2⟩
end ApIR
end Go.Proofs.YtibdgefjpcebkaaGreatDoor
