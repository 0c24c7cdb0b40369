/- Texts of this claim, joined: BookI2, BookI3, BookI4, BookI5. -/
import Derived.Test.YthnenpncajpibaaGreatDoorPart11
import Derived.Test.YthnenpncajpibaaGreatDoorPart8
/- Contract of the book's putInts. -/
namespace Go.Proofs.YthnenpncajpibaaGreatDoor
open Go.RowKit Go.Maps
attribute [local go_sem ↓] Go.wp_at_zero Go.wp_at_succ
/-- The blocks of the lists. -/
def LsF (ls : List Value) (b : Nat) : Prop := ∃ l ∈ ls, l.ownBlock = some b
/-- A list of which the first k places are marked. -/
def mid (i : Nat) (zs : List Int) (k : Nat) : List Int := marks i 0 k ++ zs.drop k
theorem mid_len (i : Nat) (zs : List Int) {k : Nat} (hk : k ≤ zs.length) : (mid i zs k).length = zs.length := by
  unfold mid
  rw [List.length_append, marks_len, List.length_drop]
  omega
theorem mid_zero (i : Nat) (zs : List Int) : mid i zs 0 = zs := by simp [mid, marks]
theorem mid_full (i : Nat) (zs : List Int) : mid i zs zs.length = marks i 0 zs.length := by simp [mid]
theorem mid_succ (i : Nat) (zs : List Int) {k : Nat} (hk : k < zs.length) : (mid i zs k).set k (mk1 i k) = mid i zs (k + 1) := by
  unfold mid
  rw [List.set_append_right _ _ (by rw [marks_len]; exact Nat.le_refl _), marks_len, Nat.sub_self, marks_succ, List.append_assoc, Nat.zero_add]
  congr 1
  rw [List.drop_eq_getElem_cons hk]
  rfl
theorem set_same {α : Type} {l : List α} {i : Nat} {x : α} (h : l[i]? = some x) : l.set i x = l := by
  apply List.ext_getElem?
  intro k
  by_cases e : k = i
  · subst e; rw [List.getElem?_set_self (List.getElem?_eq_some_iff.1 h).1, h]
  · rw [List.getElem?_set_ne (fun e' => e e'.symm)]
/-- All lists ahead of i are marked. -/
structure Mkd (zss yss : List (List Int)) (i : Nat) : Prop where
  len : yss.length = zss.length
  at' : ∀ (k : Nat) (zs : List Int), zss[k]? = some zs → yss[k]? = some (if k < i then marks k 0 zs.length else zs)
theorem Mkd.start (zss : List (List Int)) : Mkd zss zss 0 := ⟨rfl, fun k zs h => by rw [if_neg (by omega)]; exact h⟩
theorem Mkd.next {zss yss : List (List Int)} {i : Nat} {zs : List Int} (h : Mkd zss yss i) (hi : zss[i]? = some zs) : Mkd zss (yss.set i (marks i 0 zs.length)) (i + 1) := by
  refine ⟨by rw [List.length_set]; exact h.len, fun k ys hk => ?_⟩
  have hlt := (List.getElem?_eq_some_iff.1 hi).1
  by_cases e : k = i
  · subst e
    rw [List.getElem?_set_self (by rw [h.len]; exact hlt), if_pos (by omega)]
    rw [hi] at hk
    cases hk
    rfl
  · rw [List.getElem?_set_ne (fun e' => e e'.symm), h.at' k ys hk]
    by_cases h2 : k < i
    · rw [if_pos h2, if_pos (by omega)]
    · rw [if_neg h2, if_neg (by omega)]
/-- The lists' marks. -/
def allM (zss : List (List Int)) : List (List Int) := zss.mapIdx fun k zs => marks k 0 zs.length
theorem Mkd.fin {zss yss : List (List Int)} (h : Mkd zss yss zss.length) : yss = allM zss := by
  apply List.ext_getElem?
  intro k
  unfold allM
  rw [List.getElem?_mapIdx]
  cases e : zss[k]? with
  | none =>
    rw [List.getElem?_eq_none_iff] at e
    rw [List.getElem?_eq_none_iff.2 (by rw [h.len]; exact e)]
    rfl
  | some zs =>
    have hlt := (List.getElem?_eq_some_iff.1 e).1
    rw [h.at' k zs e, if_pos hlt]
    rfl
set_option maxRecDepth 100000 in
set_option maxHeartbeats 8000000 in
theorem putI_any (bk : Nat) (vi : Value) (ls : List Value) (zss : List (List Int)) (w : World) (h : Bp w bk vi ls zss) :
    Calls Tryz.prog 45 #[.pointer (some ⟨bk, 0, none⟩)] w fun r w' => r = .returned (.tuple #[]) ∧ Bp w' bk vi ls (allM zss) ∧ Kept (LsF ls) w w' := by
  obtain ⟨ai, ci, rfl⟩ := row_shape h.ri
  obtain ⟨n, hn⟩ : ∃ n, n = zss.length := ⟨_, rfl⟩
  have hnl : n ≤ 400 := by rw [hn]; exact h.len
  have HB : Hid _ := And.intro h hn
  have HZ : Hid (n = zss.length) := hn
  rw [← hn]
  clear h hn
  go_enter Tryz.func45, Tryz.ntmps45
  go_wp2_with fail
  go_loopg [2] n (fun q iv wr => ∃ (i : Nat) (yss : List (List Int)), q = n - i ∧ i ≤ n ∧ iv = .int .i64 i ∧ Mkd zss yss i ∧ Bp wr bk (.slice ai n ci) ls yss ∧ Kept (LsF ls) w wr)
  case atStart => exact ⟨0, zss, rfl, Nat.zero_le _, rfl, Mkd.start _, by have h1 := HB.out.1; rw [← HZ.out] at h1; exact h1, Kept.refl _ _⟩
  case round =>
    obtain ⟨i, yss, rfl, hi, rfl, hM, hP, hK⟩ := hrel
    clear HB
    obtain ⟨wq, rfl⟩ : ∃ wq, wq = wr := ⟨_, rfl⟩
    have c0 := hP.c0
    by_cases hlt : i < n
    · obtain ⟨zs, hz⟩ : ∃ zs, zss[i]? = some zs := ⟨zss[i]'(by have := HZ.out; omega), List.getElem?_eq_getElem _⟩
      have hy : yss[i]? = some zs := by rw [hM.at' i zs hz, if_neg (by omega)]
      obtain ⟨gi, ci', l, hv, hl, cl, hO⟩ := hP.at hy
      injection hv with e1 e2 e3
      subst e1
      have hzl := hP.sz zs (List.mem_of_getElem? hy)
      obtain ⟨a1, k1, rfl⟩ := row_shape hO
      have q0 : (0 : Int) ≤ (i : Int) := by omega
      have q1 : (i : Int) < (n : Int) := by omega
      have HMk : Hid _ := mark_any i 0 zs.length wq (by omega) (by omega)
      have HI : Hid _ := And.intro hM (And.intro hP (And.intro hK (And.intro hz (And.intro hy hl))))
      clear hM hP hK hz hy hl hO e2 e3
      go_wp2_with fail
      refine Calls.mono HMk.out ?_
      rintro r w2 ⟨vm, rfl, hOm, hb2⟩
      obtain ⟨am, km, rfl⟩ := row_shape hOm
      have hml : (marks i 0 zs.length).length = zs.length := marks_len _ _ _
      rw [hml]
      have hOm' : w2.ownsRow wq.heap.size 3 1 (.slice am zs.length km) zs.length (iC (marks i 0 zs.length)) := by have h1 := hOm; unfold OwnI at h1; rw [hml] at h1; exact h1
      have H2 : Hid _ := And.intro hOm' (And.intro hb2 (HI.out.2.1.below hb2))
      obtain ⟨N, hN⟩ : ∃ N, N = zs.length := ⟨_, rfl⟩
      have HNz : Hid (N = zs.length) := hN
      rw [← hN] at hzl ⊢
      clear hOm hOm' hb2 hml hN HMk c0 cl
      go_wp2_with fail
      go_loopg [4] N (fun q kv wr => ∃ (k : Nat), q = N - k ∧ k ≤ N ∧ kv = .int .i64 k ∧ Bp wr bk (.slice (some ⟨gi, 0, none⟩) n ci) ls (yss.set i (mid i zs k)) ∧ Kept (fun b => (Value.slice a1 zs.length k1).ownBlock = some b) w2 wr)
      case atStart => exact ⟨0, rfl, Nat.zero_le _, rfl, by rw [mid_zero, set_same HI.out.2.2.2.2.1]; exact H2.out.2.2, Kept.refl _ _⟩
      case round =>
        obtain ⟨k, rfl, hk, rfl, hPk, hKk⟩ := hrel
        have hyl : i < yss.length := by have h1 := HI.out.1.len; have h2 := HZ.out; omega
        have hyk : (yss.set i (mid i zs k))[i]? = some (mid i zs k) := List.getElem?_set_self hyl
        have c0 := hPk.c0
        by_cases hkl : k < N
        · obtain ⟨gi', ci'', l', hv', hl', cl', hO'⟩ := hPk.at hyk
          injection hv' with e1 en1 en2
          clear en1 en2
          have e1 := Option.some.inj e1
          injection e1 with e1
          subst e1
          rw [HI.out.2.2.2.2.2] at hl'
          have e2 := Option.some.inj hl'
          subst e2
          have hmidl : (mid i zs k).length = zs.length := mid_len i zs (by have := HNz.out; omega)
          obtain ⟨g, cg, hf, _, hgl⟩ := World.ownsRow.form hO' (by rw [hmidl]; have := HNz.out; omega)
          injection hf with e3 en3 e4
          clear en3
          subst e3; subst e4
          obtain ⟨gm, cm, hfm, hgm, _⟩ := World.ownsRow.form H2.out.1 (by have := HNz.out; omega)
          injection hfm with e5 en5 e6
          clear en5
          subst e5; subst e6
          have hgq : g < wq.heap.size := ((HI.out.2.1.li i _ zs HI.out.2.2.2.2.2 HI.out.2.2.2.2.1).lt g rfl).2
          have cM : wr.cell? ⟨gm, k, none⟩ = some (.int .i64 (mk1 i k)) := by
            have h1 : w2.cell? ⟨gm, k, none⟩ = some (.int .i64 (mk1 i k)) := by
              rw [World.ownsRow.cellAt H2.out.1 k (by have := HNz.out; omega)]
              unfold iC
              rw [List.getElem?_map, marks_at (by have := HNz.out; omega), Nat.zero_add]
              rfl
            rw [World.cell?_of_block (a := ⟨gm, k, none⟩) (hKk.block gm (World.block_lt_of_cell? w2 _ h1) (fun e => by have h9 := Option.some.inj e; simp at h9; omega))]
            exact h1
          obtain ⟨z0, hz0⟩ : ∃ z0, (mid i zs k)[k]? = some z0 := ⟨(mid i zs k)[k]'(by rw [hmidl]; have := HNz.out; omega), List.getElem?_eq_getElem _⟩
          have cG := OwnI.cell hO' hz0
          obtain ⟨cc, hcc⟩ := row_cells hO' (i := g) rfl
          have cF := blk_free hcc k
          have q2 : (0 : Int) ≤ (k : Int) := by omega
          have q3 : (k : Int) < (N : Int) := by omega
          have hset := hPk.set hyk HI.out.2.2.2.2.2 k (mk1 i k)
          rw [List.set_set, mid_succ i zs (by have := HNz.out; omega)] at hset
          have HJ : Hid _ := And.intro hset (hKk.trans ((Kept.setCell wr g k (.int .i64 (mk1 i k))).mono fun b _ hb => by subst hb; rfl))
          clear hset hPk hKk hyk hO' hl' hz0 hcc hmidl hgl
          rw [← HNz.out] at cl'
          go_upto_region 7 with fail
          go_region
          all_goals
            go_wp2_with fail
            go_roundg (N - (k + 1))
            case measure => omega
            case rel => exact ⟨k + 1, rfl, by omega, by go_num, by first | exact HJ.out.1 | exact HJ.out.1.below ((Below.refl _ _).drew), by first | exact HJ.out.2 | exact HJ.out.2.trans (.of_below ((Below.refl _ _).drew))⟩
        · obtain rfl : k = N := by omega
          have q3 : ¬ (k : Int) < (k : Int) := by omega
          have hfull : mid i zs k = marks i 0 zs.length := by rw [HNz.out]; exact mid_full i zs
          rw [hfull] at hPk
          have hKw : Kept (LsF ls) w wr := (HI.out.2.2.1.trans (.of_below H2.out.2.1)).trans (hKk.mono fun b _ hb => ⟨_, List.mem_of_getElem? HI.out.2.2.2.2.2, hb⟩)
          have HJ : Hid _ := And.intro hPk (And.intro hKw (HI.out.1.next HI.out.2.2.2.1))
          clear hPk hKk hyk hfull hKw
          go_wp2_with fail
          go_roundg (n - (i + 1))
          case measure => omega
          case rel => exact ⟨i + 1, _, rfl, by omega, by go_num, HJ.out.2.2, HJ.out.1, HJ.out.2.1⟩
    · obtain rfl : i = n := by omega
      have q1 : ¬ (i : Int) < (i : Int) := by omega
      have hMf : Mkd zss yss zss.length := by rw [← HZ.out]; exact hM
      have hP' := hP
      rw [hMf.fin] at hP'
      have HJ : Hid _ := And.intro hP' hK
      clear hP' hP hK hM hMf
      go_wp2_with fail
      go_end0
      exact ⟨rfl, HJ.out.1, HJ.out.2⟩
end Go.Proofs.YthnenpncajpibaaGreatDoor
/- Contract of the book's markedInts. -/
namespace Go.Proofs.YthnenpncajpibaaGreatDoor
open Go.RowKit Go.Maps
attribute [local go_sem ↓] Go.wp_at_zero Go.wp_at_succ
/-- A row of lists, each with its marks. -/
structure Mr (w : World) (v : Value) (ns : List Nat) : Prop where
  ex : ∃ ao cap, v = .slice ao ns.length cap ∧ ∀ (k n : Nat), ns[k]? = some n → ∃ a l, ao = some a ∧ w.cell? (a.add k) = some l ∧ HasI w l (marks k 0 n)
theorem Mr.below {w w' : World} {v : Value} {ns : List Nat} (h : Mr w v ns) (hb : Below w.heap.size w w') : Mr w' v ns := by
  obtain ⟨ao, cap, hv, h1⟩ := h.ex
  refine ⟨ao, cap, hv, fun k n hk => ?_⟩
  obtain ⟨a, l, ha, hc, hl⟩ := h1 k n hk
  exact ⟨a, l, ha, (hb.cell (World.block_lt_of_cell? w _ hc)).trans hc, hl.below hb⟩
set_option maxRecDepth 100000 in
set_option maxHeartbeats 4000000 in
theorem markedI_any (v : Value) (ns : List Nat) (w : World) (h : Mr w v ns) (hl : ns.length ≤ 400) (hs : ∀ n ∈ ns, n ≤ 2000000) :
    Calls Tryz.prog 67 #[v] w fun r w' => r = .returned (.bool true) ∧ Below w.heap.size w w' := by
  obtain ⟨ao, cap, rfl, _⟩ := h.ex
  obtain ⟨n, hn⟩ : ∃ n, n = ns.length := ⟨_, rfl⟩
  have HM : Hid _ := And.intro h (And.intro hs hn)
  rw [← hn] at hl ⊢
  clear h hs hn
  go_enter Tryz.func67, Tryz.ntmps67
  go_wp2_with fail
  go_loopg [3] n (fun q iv wr => ∃ (i : Nat), q = n - i ∧ i ≤ n ∧ iv = .int .i64 i ∧ Below w.heap.size w wr)
  case atStart => exact ⟨0, rfl, Nat.zero_le _, rfl, Below.refl _ _⟩
  case round =>
    obtain ⟨i, rfl, hi, rfl, hb⟩ := hrel
    by_cases hlt : i < n
    · obtain ⟨N, hN⟩ : ∃ N, ns[i]? = some N := ⟨ns[i]'(by have := HM.out.2.2; omega), List.getElem?_eq_getElem _⟩
      obtain ⟨ao', cap', hv, h1⟩ := (HM.out.1.below hb).ex
      injection hv with e1 e2 e3
      subst e1
      obtain ⟨a, l, rfl, cl, hL⟩ := h1 i N hN
      have hN2 := HM.out.2.1 N (List.mem_of_getElem? hN)
      obtain ⟨al, kl, hlv, _⟩ := _root_.id hL
      rw [marks_len] at hlv
      subst hlv
      have q0 : (0 : Int) ≤ (i : Int) := by omega
      have q1 : (i : Int) < (n : Int) := by omega
      have hMk := fun W => mark_any i 0 N W (by omega) (by omega)
      have HK : Hid _ := And.intro hMk (And.intro hL hb)
      clear hMk hL hb h1 hN e2 e3
      go_upto_region 4 with fail
      go_cut [22] (fun s22 wx => s22 = .bool false ∧ Below w.heap.size w wx)
      case first =>
        go_region_held3 (fun w' => w'.cell? (a.add i) = some (.slice al N kl)) (go_keep)
          ((first
            | (go_at_call 99; refine (HK.out.1 _).mono ?_; rintro r8 w8 ⟨v8, rfl, hO8, hb8'⟩; have hb8 := below_of_drew3 hb8'; have cl := (hb8.cell (World.block_lt_of_cell? _ _ cl)).trans cl; have hL8 := HK.out.2.1.below hb8; have hS8 := sameInts_b (.slice al N kl) v8 (marks i 0 N) (marks i 0 N) w8 (by rw [marks_len]; omega) (by rw [marks_len]; omega) hL8 hO8.has; rw [beq_self_eq_true] at hS8; have H8 : Hid _ := And.intro hS8 (HK.out.2.2.trans (hb8.mono HK.out.2.2.size)); clear hb8 hb8' hO8 hL8 hS8)
            | (go_at_call 14; refine (Calls.mono H8.out.1 ?_); rintro r9 w9 ⟨rfl, hb9⟩; have cl := (hb9.cell (World.block_lt_of_cell? _ _ cl)).trans cl; have H9 : Hid _ := H8.out.2.trans (hb9.mono H8.out.2.size); clear hb9)
            | fail))
        all_goals (refine Met.intro ?_; apply_assumption; refine Met.intro ?_; apply_assumption; (repeat apply Exists.intro); refine ⟨?rel, rfl⟩; case rel => exact ⟨rfl, by first | exact H9.out | exact below_drewN H9.out _⟩)
      case rest =>
        obtain ⟨rfl, hb9⟩ := hcut
        have H9 : Hid _ := hb9
        clear hb9 cl
        go_wp2_with fail
        go_roundg (n - (i + 1))
        case measure => omega
        case rel => exact ⟨i + 1, rfl, by omega, by go_num, H9.out⟩
    · obtain rfl : i = n := by omega
      have q1 : ¬ (i : Int) < (i : Int) := by omega
      have HBl : Hid _ := hb
      clear hb
      go_wp2_with fail
      go_ret
      exact ⟨rfl, HBl.out⟩
end Go.Proofs.YthnenpncajpibaaGreatDoor
/- What stands while the book's growInts goes on. -/
namespace Go.Proofs.YthnenpncajpibaaGreatDoor
open Go.RowKit Go.Maps
/-- The lists, those that have grown and those that have not. -/
structure Gr (w wr : World) (bk : Nat) (vi : Value) (ls : List Value) (zss : List (List Int)) (i : Nat) (vo : Value) (os : List Value) : Prop where
  c0 : wr.cell? ⟨bk, 0, none⟩ = some vi
  ri : wr.ownsRow 0 29 1 vi zss.length ls
  todo : ∀ (k : Nat) (l : Value) (zs : List Int), i ≤ k → ls[k]? = some l → zss[k]? = some zs → OwnI wr 0 l zs
  done : ∀ (k : Nat) (l : Value) (zs : List Int), k < i → ls[k]? = some l → zss[k]? = some zs → HasI wr l zs ∧ ∃ o, os[k]? = some o ∧ HasI wr o (zs ++ marks k zs.length 96) ∧ (o.ownBlock = l.ownBlock ∨ ∀ b, o.ownBlock = some b → w.heap.size ≤ b) ∧ ∀ b, o.ownBlock = some b → vo.ownBlock ≠ some b
  row : wr.ownsRow w.heap.size 29 1 vo i os
  kp : Kept (LsF ls) w wr
/-- What does not turn meanwhile. -/
structure Gs (w : World) (bk : Nat) (vi : Value) (ls : List Value) : Prop where
  ap : Apt bk vi ls
  bk : bk < w.heap.size
  vi : ∀ b, vi.ownBlock = some b → b < w.heap.size
  ls : ∀ l ∈ ls, ∀ b, l.ownBlock = some b → b < w.heap.size
theorem gr_start {w : World} {bk : Nat} {vi : Value} {ls : List Value} {zss : List (List Int)} (h : Bp w bk vi ls zss) : Gr w w bk vi ls zss 0 (.slice none 0 0) [] ∧ Gs w bk vi ls := by
  refine ⟨⟨h.c0, h.ri, fun k l zs _ h1 h2 => h.li k l zs h1 h2, fun k l zs hk => by omega, World.ownsRow_nil _ _ _ _, Kept.refl _ _⟩, ⟨h.ap, World.block_lt_of_cell? w _ h.c0, fun b hb => (h.ri.lt b hb).2, fun l hl b hb => ?_⟩⟩
  obtain ⟨k, hk, rfl⟩ := List.getElem_of_mem hl
  have hz : zss[k]? = some (zss[k]'(by rw [← h.ll]; exact hk)) := List.getElem?_eq_getElem _
  exact ((h.li k _ _ (List.getElem?_eq_getElem hk) hz).lt b hb).2
/-- Inside a round: the list's own block alone may have turned, and what is new. -/
structure Gm (wq wr : World) (l : Value) (zs : List Int) (i : Nat) (lv : Value) (m : Nat) : Prop where
  kp : Kept (fun b => l.ownBlock = some b) wq wr
  has : HasI wr l zs
  own : OwnI wr 0 lv (zs ++ marks i zs.length m)
  at' : lv.ownBlock = l.ownBlock ∨ ∀ b, lv.ownBlock = some b → wq.heap.size ≤ b
theorem gm_start {wq : World} {l : Value} {zs : List Int} (i : Nat) (h : OwnI wq 0 l zs) : Gm wq wq l zs i l 0 :=
  ⟨Kept.refl _ _, h.has, by simpa [marks] using h, .inl rfl⟩
theorem Gm.below {wq wr w' : World} {l : Value} {zs : List Int} {i : Nat} {lv : Value} {m : Nat} (h : Gm wq wr l zs i lv m) (hb : Below wr.heap.size wr w') : Gm wq w' l zs i lv m :=
  ⟨h.kp.trans (.of_below hb), h.has.below hb, trow_at h.own fun k hk => hb.block k (h.own.lt k hk).2, h.at'⟩
/-- A list with a prefix, read at the prefix's own length. -/
theorem has_prefix {w : World} {l lv : Value} {zs ys : List Int} (hl : ∃ c, l = .slice (match l with | .slice a _ _ => a | _ => none) zs.length c) (ho : OwnI w 0 lv (zs ++ ys)) (he : lv.ownBlock = l.ownBlock) (hlf : zs ≠ [] → ∃ g c, l = .slice (some ⟨g, 0, none⟩) zs.length c) (h0 : zs = [] → HasI w l zs) : HasI w l zs := by
  by_cases hz : zs = []
  · exact h0 hz
  obtain ⟨g, c, rfl⟩ := hlf hz
  refine ⟨_, c, rfl, fun j z hj => ⟨_, rfl, ?_⟩⟩
  have hlt := (List.getElem?_eq_some_iff.1 hj).1
  obtain ⟨g2, c2, rfl, _, _⟩ := World.ownsRow.form ho (by rw [List.length_append]; omega)
  have hg : g2 = g := by have h1 := he; simp [Value.ownBlock] at h1; exact h1
  subst hg
  rw [addz]
  exact OwnI.cell ho (by rw [List.getElem?_append_left hlt]; exact hj)
/-- The next marks are appended. -/
theorem Gm.app {wq wr w' : World} {l : Value} {zs : List Int} {i : Nat} {lv lv' : Value} {m d : Nat} (h : Gm wq wr l zs i lv m) (hO : OwnI wq 0 l zs) (hn : w'.ownsRow 0 3 1 lv' ((zs ++ marks i zs.length m).length + d) (iC (zs ++ marks i zs.length m) ++ iC (marks i (zs.length + m) d)))
    (hk : (lv'.ownBlock = lv.ownBlock ∧ wr.grownBy w' lv.ownBlock) ∨ ((∀ k, lv'.ownBlock = some k → wr.heap.size ≤ k) ∧ wr.grownBy w' none)) : Gm wq w' l zs i lv' (m + d) := by
  have e1 : zs ++ marks i zs.length (m + d) = (zs ++ marks i zs.length m) ++ marks i (zs.length + m) d := by rw [List.append_assoc, marks_add]
  have hown : OwnI w' 0 lv' (zs ++ marks i zs.length (m + d)) := by
    have e2 : ((zs ++ marks i zs.length m) ++ marks i (zs.length + m) d).length = (zs ++ marks i zs.length m).length + d := by rw [List.length_append, marks_len i (zs.length + m) d]
    have e3 : iC ((zs ++ marks i zs.length m) ++ marks i (zs.length + m) d) = iC (zs ++ marks i zs.length m) ++ iC (marks i (zs.length + m) d) := by unfold iC; rw [List.map_append]
    unfold OwnI
    rw [e1, e2, e3]
    exact hn
  rcases hk with ⟨h1, h2⟩ | ⟨h1, h2⟩
  · have hkk : Kept (fun b => l.ownBlock = some b) wq w' := by
      refine h.kp.trans2 (Kept.of_grown h2) fun b hb => ?_
      rcases h.at' with e | e
      · exact .inl (by rw [← e]; exact hb)
      · exact .inr (e b hb)
    refine ⟨hkk, ?_, hown, ?_⟩
    · rcases h.at' with e | e
      · obtain ⟨al, cl, hlv⟩ := row_shape hO
        refine has_prefix ⟨cl, by rw [hlv]⟩ hown (h1.trans e) (fun hz => ?_) (fun hz => ?_)
        · obtain ⟨g, c, hf, _, _⟩ := World.ownsRow.form hO (List.length_pos_iff.2 hz)
          exact ⟨g, c, hf⟩
        · subst hz; rw [hlv]; exact ⟨al, cl, rfl, fun j z hj => by simp at hj⟩
      · exact h.has.kept (Kept.of_grown h2) fun hz b hb hf => by
          have h3 := e b hf
          have h4 := made_far hO.has hz hb
          omega
    · rcases h.at' with e | e
      · exact .inl (h1.trans e)
      · exact .inr fun b hb => e b (by rw [← h1]; exact hb)
  · refine ⟨h.kp.trans ((Kept.of_grown h2).mono fun b _ hb => by cases hb), h.has.kept (Kept.of_grown h2) fun _ b _ hf => (by cases hf), hown, .inr fun b hb => ?_⟩
    have := h1 b hb
    have := h.kp.size
    omega
/-- The round's end: the list has grown, and stands in the row of those that have. -/
theorem Gr.next {w wq wr w' : World} {bk : Nat} {vi : Value} {ls : List Value} {zss : List (List Int)} {i : Nat} {vo vo' : Value} {os : List Value} {l lv : Value} {zs : List Int} (h : Gr w wq bk vi ls zss i vo os) (hs : Gs w bk vi ls) (hl : ls[i]? = some l) (hz : zss[i]? = some zs) (hm : Gm wq wr l zs i lv 96)
    (hr : w'.ownsRow w.heap.size 29 1 vo' (i + 1) (os ++ [lv])) (hg : wr.grownBy w' vo.ownBlock) (hat : vo'.ownBlock = vo.ownBlock ∨ ∀ b, vo'.ownBlock = some b → wr.heap.size ≤ b) : Gr w w' bk vi ls zss (i + 1) vo' (os ++ [lv]) := by
  have hlm := List.mem_of_getElem? hl
  have hO := h.todo i l zs (Nat.le_refl _) hl hz
  have hvo : ∀ b, vo.ownBlock = some b → w.heap.size ≤ b ∧ b < wq.heap.size := fun b hb => h.row.lt b hb
  -- a block below w that is not the list's own stands
  have hst : ∀ b, b < w.heap.size → l.ownBlock ≠ some b → w'.heap[b]? = wq.heap[b]? := fun b hb hn => by
    have h1 := h.kp.size
    have h2 := hm.kp.size
    rw [hg.block b (by omega) (fun e => by have := (hvo b e.symm).1; omega)]
    exact hm.kp.block b (by omega) hn
  have hst2 : ∀ b, b < wq.heap.size → l.ownBlock ≠ some b → vo.ownBlock ≠ some b → w'.heap[b]? = wq.heap[b]? := fun b hb hn hn2 => by
    have h2 := hm.kp.size
    rw [hg.block b (by omega) (fun e => hn2 e.symm)]
    exact hm.kp.block b hb hn
  have hKw : Kept (LsF ls) w w' := by
    refine (h.kp.trans (hm.kp.mono fun b _ hb => ⟨l, hlm, hb⟩)).trans2 (Kept.of_grown hg) fun b hb => .inr (hvo b hb).1
  have hK2 : Kept (fun b => l.ownBlock = some b ∨ vo.ownBlock = some b) wq w' := (hm.kp.mono fun b _ hb => .inl hb).trans ((Kept.of_grown hg).mono fun b _ hb => .inr hb)
  have hlen : os.length = i := by have := h.row.1; rw [Nat.mul_one] at this; exact this
  refine ⟨?_, trow_at h.ri fun b hb => hst b (hs.vi b hb) (fun e => hs.ap.r l hlm b e hb), fun k l2 zs2 hk h1 h2 => ?_, fun k l2 zs2 hk h1 h2 => ?_, hr, hKw⟩
  · rw [World.cell?_of_block (a := ⟨bk, 0, none⟩) (hst bk hs.bk (hs.ap.b l hlm))]; exact h.c0
  · exact trow_at (h.todo k l2 zs2 (by omega) h1 h2) fun b hb => hst b (hs.ls l2 (List.mem_of_getElem? h1) b hb) fun e => hs.ap.p i k l l2 hl h1 (by omega) b e hb
  · by_cases e : k = i
    · subst e
      rw [hl] at h1; rw [hz] at h2
      cases h1; cases h2
      have hvn : ∀ b, lv.ownBlock = some b → vo.ownBlock ≠ some b := fun b hb hv => by
        have h3 := hvo b hv
        rcases hm.at' with e | e
        · rw [e] at hb; have := hs.ls l hlm b hb; omega
        · have := e b hb; omega
      have hO' := trow_at (w' := w') hm.own fun b hb => hg.block b (hm.own.lt b hb).2 fun e => hvn b hb e.symm
      refine ⟨hm.has.kept (Kept.of_grown hg) fun hz b hb hf => ?_, lv, ?_, OwnI.has hO', ?_, fun b hb hv => ?_⟩
      · have := hs.ls l hlm b hb; have := (hvo b hf).1; omega
      · rw [List.getElem?_append_right (by omega), hlen, Nat.sub_self]; rfl
      · rcases hm.at' with e | e
        · exact .inl e
        · exact .inr fun b hb => by have := e b hb; have := h.kp.size; omega
      · rcases hat with e | e
        · rw [e] at hv; exact hvn b hb hv
        · have h3 := e b hv
          have := (hm.own.lt b hb).2
          omega
    · obtain ⟨d1, o, d2, d3, d4, d5⟩ := h.done k l2 zs2 (by omega) h1 h2
      have hne : ∀ b, l2.ownBlock = some b → l.ownBlock ≠ some b := fun b hb e' => hs.ap.p i k l l2 hl h1 (fun e9 => e e9.symm) b e' hb
      refine ⟨?_, o, by rw [List.getElem?_append_left (by omega)]; exact d2, ?_, d4, fun b hb hv => ?_⟩
      · exact d1.kept hK2 fun _ b hb hf => hf.elim (hne b hb) fun hv => by
          have h3 := hs.ls l2 (List.mem_of_getElem? h1) b hb
          have h4 := (hvo b hv).1
          omega
      · exact d3.kept hK2 fun _ b hb hf => hf.elim (fun hv => by
          rcases d4 with e9 | e9
          · rw [e9] at hb; exact hne b hb hv
          · have h3 := e9 b hb
            have h4 := hs.ls l hlm b hv
            omega) (d5 b hb)
      · rcases hat with e9 | e9
        · rw [e9] at hv; exact d5 b hb hv
        · have h3 := e9 b hv
          have h4 := made_far d3 (fun e8 => by have h5 := congrArg List.length e8; rw [List.length_append, marks_len] at h5; simp at h5) hb
          have h5 := hm.kp.size
          omega
end Go.Proofs.YthnenpncajpibaaGreatDoor
/- Contract of the book's growInts. -/
namespace Go.Proofs.YthnenpncajpibaaGreatDoor
open Go.RowKit Go.Maps
attribute [local go_sem ↓] Go.wp_at_zero Go.wp_at_succ
theorem Tryz.infoRowI : (Tryz.prog.info? 29).map (fun i => (i.zero, i.size, i.bytes)) = some (some (.slice none 0 0), 1, 24) := by kernel_rfl
theorem one_list (v : Value) (h : ∃ a n c, v = .slice a n c) : ∀ x ∈ [v], x.oneCell' = true := fun x hx => by
  rw [List.mem_singleton.1 hx]
  obtain ⟨a, n, c, rfl⟩ := h
  rfl
set_option maxRecDepth 100000 in
set_option maxHeartbeats 8000000 in
theorem growI_any (bk : Nat) (vi : Value) (ls : List Value) (zss : List (List Int)) (w : World) (h : Bp w bk vi ls zss) :
    Calls Tryz.prog 56 #[.pointer (some ⟨bk, 0, none⟩)] w fun r w' => ∃ vo os, r = .returned vo ∧ Gr w w' bk vi ls zss zss.length vo os := by
  obtain ⟨i0, hi0, hz0, hz1, hz2⟩ := info_parts Tryz.infoI3
  obtain ⟨j0, hj0, hy0, hy1, hy2⟩ := info_parts Tryz.infoRowI
  obtain ⟨ai, ci, rfl⟩ := row_shape h.ri
  obtain ⟨n, hn⟩ : ∃ n, n = zss.length := ⟨_, rfl⟩
  have hnl : n ≤ 400 := by rw [hn]; exact h.len
  have h2 := gr_start h
  rw [← hn] at h2 ⊢
  have HS : Hid _ := And.intro h2.2 (And.intro hn h.sz)
  have HR : Hid _ := h2.1
  clear h hn h2
  go_enter Tryz.func56, Tryz.ntmps56
  go_wp2_with fail
  go_loopg [3, 4] n (fun q ov iv wr => ∃ (i : Nat) (os : List Value), q = n - i ∧ i ≤ n ∧ iv = .int .i64 i ∧ Gr w wr bk (.slice ai n ci) ls zss i ov os)
  case atStart => exact ⟨0, [], rfl, Nat.zero_le _, rfl, HR.out⟩
  case round =>
    obtain ⟨i, os, rfl, hi, rfl, hG⟩ := hrel
    clear HR
    obtain ⟨wq, rfl⟩ : ∃ wq, wq = wr := ⟨_, rfl⟩
    have c0 := hG.c0
    by_cases hlt : i < n
    · obtain ⟨zs, hz⟩ : ∃ zs, zss[i]? = some zs := ⟨zss[i]'(by have := HS.out.2.1; omega), List.getElem?_eq_getElem _⟩
      have hri := hG.ri
      rw [← HS.out.2.1] at hri
      have hll : ls.length = n := by have := hri.1; rw [Nat.mul_one] at this; exact this
      obtain ⟨l, hl⟩ : ∃ l, ls[i]? = some l := ⟨ls[i]'(by omega), List.getElem?_eq_getElem _⟩
      obtain ⟨gi, cgi, hv, _, _⟩ := World.ownsRow.form hri (by omega)
      injection hv with e1 e2 e3
      subst e1; subst e3
      clear e2
      have cl : wq.cell? ⟨gi, i, none⟩ = some l := by rw [hri.cellAt i (by omega), hl]
      have hO := hG.todo i l zs (Nat.le_refl _) hl hz
      have hzl := HS.out.2.2 zs (List.mem_of_getElem? hz)
      obtain ⟨al, kl, rfl⟩ := row_shape hO
      obtain ⟨ao, ko, rfl⟩ := row_shape hG.row
      have q0 : (0 : Int) ≤ (i : Int) := by omega
      have q1 : (i : Int) < (n : Int) := by omega
      have HG : Hid _ := And.intro hG (And.intro hO (And.intro hl hz))
      clear hG hO hl hz hri
      go_wp2_with fail
      go_loopg [5, 6] 16 (fun q lv nv wr => ∃ (m : Nat), q = 16 - m ∧ m ≤ 16 ∧ nv = .int .i64 m ∧ Gm wq wr (.slice al zs.length kl) zs i lv m)
      case atStart => exact ⟨0, rfl, Nat.zero_le _, rfl, gm_start i HG.out.2.1⟩
      case round =>
        obtain ⟨m, rfl, hm, rfl, hM⟩ := hrel
        obtain ⟨ay, ky, hys⟩ := row_shape hM.own
        have hyl : (zs ++ marks i zs.length m).length = zs.length + m := by rw [List.length_append, marks_len]
        rw [hyl] at hys
        subst hys
        obtain ⟨N, hN⟩ : ∃ N, N = zs.length + m := ⟨_, rfl⟩
        by_cases hmt : m < 16
        · have p1 : (m : Int) < 16 := by omega
          have hMk := fun W => mark_any i N 1 W (by omega) (by omega)
          rw [← hN] at hM
          have HM : Hid _ := And.intro hM (And.intro hMk (And.intro hyl hN))
          rw [← hN]
          have hN1 : N + 1 ≤ maxLen := by unfold maxLen; omega
          have hN8 : (N + 1) * 8 ≤ 140737488355328 := by omega
          clear hM hMk hyl hN
          go_wp2_with (first
            | (go_at_call 99; refine (HM.out.2.1 _).mono ?_; rintro r8 w8 ⟨v8, rfl, hO8, hb8⟩; obtain ⟨g8, c8, rfl, _, _⟩ := World.ownsRow.form hO8 (by rw [marks_len]; omega); rw [marks_len]; have hM8 := HM.out.1.below hb8; have hown8 : w8.ownsRow 0 3 1 (.slice ay N ky) N (iC (zs ++ marks i zs.length m)) := (by have h9 := hM8.own; unfold OwnI at h9; rw [HM.out.2.2.1, ← HM.out.2.2.2] at h9; exact h9); have H8 : Hid _ := And.intro hown8 (And.intro hO8 hM8); clear hb8 hO8 hM8 hown8)
            | (at_builtin; refine wpList_append_keep _ rfl _ _ 29 rfl 0 3 i0 (.int .i64 0) 1 8 Tryz.underlying29 hi0 hz0 hz1 hz2 rfl (by decide) (.slice ay N ky) N (iC (zs ++ marks i zs.length m)) rfl H8.out.1 ⟨g8, 0, none⟩ 1 c8 (iC (marks i N 1)) rfl (by rw [iC_length, marks_len]) (fun j u hj => by rw [addz, World.ownsRow.cellAt H8.out.2.1 j (by rw [← H8.out.2.1.1]; exact (List.getElem?_eq_some_iff.1 hj).1)]; exact hj) (iC_one _) hN1 hN8 (Nat.zero_le _) ?_; intro v2 w2 hown2 hk2; have H2 : Hid _ := And.intro hown2 hk2; clear hown2 hk2)
            | fail)
          have hgm : Gm wq w2 (.slice al zs.length kl) zs i v2 (m + 1) := Gm.app H8.out.2.2 HG.out.2.1 (by rw [HM.out.2.2.1, ← HM.out.2.2.2]; exact H2.out.1) H2.out.2
          have H3 : Hid _ := hgm
          clear hgm
          go_roundg (16 - (m + 1))
          case measure => omega
          case rel => exact ⟨m + 1, rfl, by omega, by go_num, H3.out⟩
        · obtain rfl : m = 16 := by omega
          have p1 : ¬ (16 : Int) < 16 := by omega
          have hMk := fun W => mark_any i N 80 W (by omega) (by omega)
          rw [← hN] at hM
          have HM : Hid _ := And.intro hM (And.intro hMk (And.intro hyl hN))
          rw [← hN]
          have hN1 : N + 80 ≤ maxLen := by unfold maxLen; omega
          have hN8 : (N + 80) * 8 ≤ 140737488355328 := by omega
          have hR1 : i + 1 ≤ maxLen := by unfold maxLen; omega
          have hR8 : (i + 1) * 24 ≤ 140737488355328 := by omega
          clear hM hMk hyl hN
          go_wp2_with (first
            | (go_at_call 99; refine (HM.out.2.1 _).mono ?_; rintro r8 w8 ⟨v8, rfl, hO8, hb8⟩; obtain ⟨g8, c8, rfl, _, _⟩ := World.ownsRow.form hO8 (by rw [marks_len]; omega); rw [marks_len]; have hM8 := HM.out.1.below hb8; have hown8 : w8.ownsRow 0 3 1 (.slice ay N ky) N (iC (zs ++ marks i zs.length 16)) := (by have h9 := hM8.own; unfold OwnI at h9; rw [HM.out.2.2.1, ← HM.out.2.2.2] at h9; exact h9); have H8 : Hid _ := And.intro hown8 (And.intro hO8 hM8); clear hb8 hO8 hM8 hown8)
            | (at_builtin; refine wpList_append_keep _ rfl _ _ 29 rfl 0 3 i0 (.int .i64 0) 1 8 Tryz.underlying29 hi0 hz0 hz1 hz2 rfl (by decide) (.slice ay N ky) N (iC (zs ++ marks i zs.length 16)) rfl H8.out.1 ⟨g8, 0, none⟩ 80 c8 (iC (marks i N 80)) rfl (by rw [iC_length, marks_len]) (fun j u hj => by rw [addz, World.ownsRow.cellAt H8.out.2.1 j (by rw [← H8.out.2.1.1]; exact (List.getElem?_eq_some_iff.1 hj).1)]; exact hj) (iC_one _) hN1 hN8 (Nat.zero_le _) ?_; intro v2 w2 hown2 hk2; obtain ⟨a2, k2, rfl⟩ := row_shape hown2; have hgm : Gm wq w2 (.slice al zs.length kl) zs i (.slice a2 (N + 80) k2) 96 := Gm.app H8.out.2.2 HG.out.2.1 (by rw [HM.out.2.2.1, ← HM.out.2.2.2]; exact hown2) hk2; have H2 : Hid _ := hgm.below (w' := w2.alloc (.cells #[.slice a2 (N + 80) k2] 29)) ((Below.refl _ _).alloc (Nat.le_refl _) _); have hle2 : w.heap.size ≤ (w2.alloc (.cells #[.slice a2 (N + 80) k2] 29)).heap.size := (by have h1 := HG.out.1.kp.size; have h2 := hgm.kp.size; simp; omega); have hrow2 : (w2.alloc (.cells #[.slice a2 (N + 80) k2] 29)).ownsRow w.heap.size 29 1 (.slice ao i ko) i os := trow_at HG.out.1.row (fun b hb => (by have h3 := (HG.out.1.row.lt b hb); have h4 := H2.out.kp; refine h4.block b h3.2 fun e => ?_; have h5 := HS.out.1.ls _ (List.mem_of_getElem? HG.out.2.2.1) b e; omega)); have HR2 : Hid _ := hrow2; clear hown2 hk2 hgm hrow2)
            | (at_builtin; refine wpList_append_own_at _ rfl _ _ 37 rfl w.heap.size 29 j0 (.slice none 0 0) 1 24 Tryz.underlying37 hj0 hy0 hy1 hy2 rfl (by decide) (.slice ao i ko) i os rfl HR2.out ⟨w2.heap.size, 0, none⟩ 1 1 [.slice a2 (N + 80) k2] rfl rfl (World.news_of_block (cs := #[.slice a2 (N + 80) k2]) (t := 29) (fr := (0, 0)) (heap_alloc_new w2 _)) (one_list _ ⟨_, _, _, rfl⟩) hR1 hR8 hle2 ?_; intro v3 w3 hown3 hgrow3 hnil3 hat3; have H3 : Hid _ := And.intro hown3 (And.intro hgrow3 hat3); clear hown3 hgrow3 hnil3 hat3)
            | fail)
          have hnx : Gr w w3 bk (.slice (some ⟨gi, 0, none⟩) n ci) ls zss (i + 1) v3 (os ++ [.slice a2 (N + 80) k2]) := HG.out.1.next HS.out.1 HG.out.2.2.1 HG.out.2.2.2 H2.out H3.out.1 H3.out.2.1 (H3.out.2.2.imp_right fun e b hb => by rw [e] at hb; have := Option.some.inj hb; omega)
          have H4 : Hid _ := hnx
          clear hnx
          go_roundg (n - (i + 1))
          case measure => omega
          case rel => exact ⟨i + 1, _, rfl, by omega, by go_num, H4.out⟩
    · obtain rfl : i = n := by omega
      have q1 : ¬ (i : Int) < (i : Int) := by omega
      have HJ : Hid _ := hG
      clear hG
      go_wp2_with fail
      go_ret
      exact ⟨_, rfl, os, HJ.out⟩
end Go.Proofs.YthnenpncajpibaaGreatDoor
