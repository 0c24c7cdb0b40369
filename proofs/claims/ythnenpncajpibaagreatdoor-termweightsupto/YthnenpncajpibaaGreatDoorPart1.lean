/- Texts of this claim, joined: TmKey, TmTwin. -/
import Derived.Test.YthnenpncajpibaaGreatDoorPart0
import Derived.Laws.IdiomStrings
import Derived.Laws.BytesArg
/- Contract of term.keyOf. -/
namespace Go.Proofs.YthnenpncajpibaaGreatDoor
open Go.RowKit Go.Maps
theorem Tryz.infoB : (Tryz.prog.info? 5).map (fun i => (i.zero, i.size, i.bytes)) = some (some (.int .u8 0), 1, 1) := by kernel_rfl
def bC (l : List UInt8) : List Value := l.map fun b => .int .u8 b.toNat
theorem bC_length (l : List UInt8) : (bC l).length = l.length := by simp [bC]
theorem bC_append (l m : List UInt8) : bC (l ++ m) = bC l ++ bC m := by simp [bC]
theorem u8_one (z : Int) : ∀ u ∈ [Value.int .u8 z], u.oneCell' = true := fun u hu => by
  rw [List.mem_singleton.1 hu]; rfl
theorem u8_two (y z : Int) : ∀ u ∈ [Value.int .u8 y, Value.int .u8 z], u.oneCell' = true := fun u hu => by
  rcases List.mem_cons.1 hu with rfl | hu
  · rfl
  · rw [List.mem_singleton.1 hu]; rfl
theorem byteOf_toNat {z : Int} (h0 : 0 ≤ z) (h1 : z ≤ 255) : ((Tm.byteOf z).toNat : Int) = z := by
  unfold Tm.byteOf
  have : (UInt8.ofNat z.toNat).toNat = z.toNat := by
    rw [UInt8.toNat_ofNat']; omega
  omega
theorem bC_byte {z : Int} (h0 : 0 ≤ z) (h1 : z ≤ 255) : bC [Tm.byteOf z] = [.int .u8 z] := by
  simp only [bC, List.map_cons, List.map_nil, byteOf_toNat h0 h1]
theorem bC_bytes {y z : Int} (h0 : 0 ≤ y) (h1 : y ≤ 255) (h2 : 0 ≤ z) (h3 : z ≤ 255) : bC [Tm.byteOf y, Tm.byteOf z] = [.int .u8 y, .int .u8 z] := by
  simp only [bC, List.map_cons, List.map_nil, byteOf_toNat h0 h1, byteOf_toNat h2 h3]
theorem two_new2 (w : World) (o : Obj) (x y : Value) (t : TypeId) : ∀ j u, [x, y][j]? = some u → ((w.alloc o).alloc (.cells #[x, y] t)).cell? ((⟨w.heap.size + 1, 0, none⟩ : Addr).add j) = some u := by
  intro j u h
  have hb := (MapKept.heap_alloc (w.alloc o) (.cells #[x, y] t)).1
  have e : (⟨w.heap.size + 1, 0, none⟩ : Addr).add j = ⟨w.heap.size + 1, j, none⟩ := by unfold Addr.add; split <;> simp_all
  have hs : (w.alloc o).heap.size = w.heap.size + 1 := by simp
  rw [hs] at hb
  rw [e, ← h]
  simp only [World.cell?, hb]
  rcases j with _ | _ | j <;> rfl
theorem conv_row {W : World} {base : Nat} {v : Value} {l : List UInt8} (h : W.ownsRow base 5 1 v l.length (bC l)) : (convert 163 9 v).run Tryz.prog W = .ok (.string ⟨l.toArray⟩) W := by
  rcases h.2 with ⟨rfl, h0⟩ | ⟨g, cap, cur, rfl, _⟩
  · obtain rfl : l = [] := List.eq_nil_of_length_eq_zero h0
    rw [run_convert_bytes_nil W _ _ Tryz.underlying163 Tryz.underlying5 _ _ _ Tryz.underlying9]
    rfl
  · refine run_convert_bytes_back W _ _ _ ⟨g, 0, none⟩ cap l Tryz.underlying163 Tryz.underlying5 Tryz.underlying9 fun j hj => ?_
    have e : (⟨g, 0, none⟩ : Addr).add j = ⟨g, j, none⟩ := by unfold Addr.add; split <;> simp_all
    rw [e, h.cellAt j (by simpa using hj)]
    simp [bC, hj]
theorem take_succ_of {α : Type} {l : List α} {j : Nat} {x : α} (h : l[j]? = some x) : l.take (j + 1) = l.take j ++ [x] := by
  obtain ⟨hlt, rfl⟩ := List.getElem?_eq_some_iff.1 h
  exact List.take_succ_eq_append_getElem hlt
namespace Tm
def nB (ns : List Int) : List UInt8 := ns.map byteOf
def pB (ps : List (Int × Int)) : List UInt8 := (ps.map fun p => [byteOf p.1, byteOf p.2]).flatten
theorem nB_length (ns : List Int) : (nB ns).length = ns.length := by simp [nB]
theorem pB_length (ps : List (Int × Int)) : (pB ps).length = ps.length * 2 := by
  induction ps with
  | nil => rfl
  | cons p r ih =>
    have : pB (p :: r) = [byteOf p.1, byteOf p.2] ++ pB r := by simp [pB]
    rw [this, List.length_append, ih]; simp; omega
theorem nB_snoc (ns : List Int) (z : Int) : nB (ns ++ [z]) = nB ns ++ [byteOf z] := by simp [nB]
theorem pB_snoc (ps : List (Int × Int)) (p : Int × Int) : pB (ps ++ [p]) = pB ps ++ [byteOf p.1, byteOf p.2] := by simp [pB]
theorem lists_eq (t : Tm) : t.lists = nB t.names ++ pB t.pairs := rfl
end Tm
/-- The bytes so far, in a row of their own above what was there. -/
structure KeyIn (W0 wr : World) (v : Value) (l : List UInt8) : Prop where
  row : wr.ownsRow W0.heap.size 5 1 v l.length (bC l)
  bl : Below W0.heap.size W0 wr
theorem KeyIn.next {W0 wr w2 : World} {v v' : Value} {l m : List UInt8} {o : Obj} (h : KeyIn W0 wr v l) (hown : w2.ownsRow W0.heap.size 5 1 v' (l.length + m.length) (bC l ++ bC m)) (hg : (wr.alloc o).grownBy w2 v.ownBlock) : KeyIn W0 w2 v' (l ++ m) :=
  ⟨by rw [List.length_append, bC_append]; exact hown, (h.bl.alloc h.bl.size o).grown hg (by have := h.bl.size; simp; omega) (fun k hk => (h.row.lt k hk).1)⟩
theorem KeyIn.alloc {W0 wr : World} {v : Value} {l : List UInt8} (h : KeyIn W0 wr v l) (o : Obj) : KeyIn W0 (wr.alloc o) v l := ⟨h.row.alloc o, h.bl.alloc h.bl.size o⟩
/-- The two boxes of the call. -/
def keyW (t : Tm) (vn vp : Value) (w : World) : World := (w.alloc (.cells #[.int .i64 t.kind, .int .i64 t.label, .int .i64 t.a, .int .i64 t.b, vn, vp] 35)).alloc (.cells #[.int .i64 0, .int .i64 0, .int .i64 0, .int .i64 0, .string ⟨#[]⟩] 115)
theorem keyW_size (t : Tm) (vn vp : Value) (w : World) : (keyW t vn vp w).heap.size = w.heap.size + 2 := by simp [keyW]
theorem keyW_below (t : Tm) (vn vp : Value) (w : World) : Below w.heap.size w (keyW t vn vp w) := by unfold keyW; exact (by repeat (first | exact Below.refl _ _ | assumption | refine Below.drew ?_ | refine Below.setCell ?_ (by simp) _ | refine Below.alloc ?_ (by simp) _))
theorem keyW_box (t : Tm) (vn vp : Value) (w : World) : (keyW t vn vp w).heap[w.heap.size]? = some (.cells #[.int .i64 t.kind, .int .i64 t.label, .int .i64 t.a, .int .i64 t.b, vn, vp] 35 (0, 0)) := by
  unfold keyW
  rw [Below.heap_alloc _ _ _ (by simp)]
  exact (MapKept.heap_alloc w _).1
theorem keyW_res (t : Tm) (vn vp : Value) (w : World) : (keyW t vn vp w).heap[w.heap.size + 1]? = some (.cells #[.int .i64 0, .int .i64 0, .int .i64 0, .int .i64 0, .string ⟨#[]⟩] 115 (0, 0)) := by
  unfold keyW
  have h := (MapKept.heap_alloc (w.alloc (.cells #[.int .i64 t.kind, .int .i64 t.label, .int .i64 t.a, .int .i64 t.b, vn, vp] 35)) (.cells #[.int .i64 0, .int .i64 0, .int .i64 0, .int .i64 0, .string ⟨#[]⟩] 115)).1
  simpa using h
theorem tb_cell {w : World} {B : Nat} {cs : Array Value} {t : TypeId} {f : Nat × Nat} (h : w.heap[B]? = some (.cells cs t f)) (k : Nat) : w.cell? ⟨B, k, none⟩ = cs[k]? := by
  simp [World.cell?, h]
theorem blk_free {w : World} {b : Nat} {cs : Array Value} {t : TypeId} (h : w.heap[b]? = some (.cells cs t (0, 0))) (k : Nat) : w.frozen? ⟨b, k, none⟩ = false := by simp [World.frozen?, h]
set_option maxRecDepth 100000 in
set_option maxHeartbeats 1000000 in
theorem keyOf_any (t : Tm) (vn vp : Value) (w : World) (hn : HasI w vn t.names) (hp : HasP w vp t.pairs) (ln : t.names.length ≤ 1000) (lp : t.pairs.length ≤ 1000) (hr : ∀ z ∈ t.names, 0 ≤ z ∧ z ≤ 255) (hq : ∀ p ∈ t.pairs, (0 ≤ p.1 ∧ p.1 ≤ 255) ∧ (0 ≤ p.2 ∧ p.2 ≤ 255)) :
    Calls Tryz.prog 82 #[tmV t vn vp] w fun r w' => r = .returned (keyV t) ∧ Below w.heap.size w w' := by
  obtain ⟨an, cn, rfl, hcn⟩ := hn
  obtain ⟨ap, cp, rfl, hcp⟩ := hp
  obtain ⟨i0, hi0, hz0, hz1, hz2⟩ := info_parts Tryz.infoB
  unfold tmV
  obtain ⟨n, hN⟩ : ∃ n, n = t.names.length := ⟨_, rfl⟩
  obtain ⟨m, hM⟩ : ∃ m, m = t.pairs.length := ⟨_, rfl⟩
  rw [← hN, ← hM]
  have HN : Hid _ := And.intro hcn (And.intro hN hr)
  have HP : Hid _ := And.intro hcp (And.intro hM hq)
  rw [← hN] at ln
  rw [← hM] at lp
  clear hcn hcp hN hM hr hq
  obtain ⟨W0, hW0⟩ : ∃ W0, W0 = keyW t (.slice an n cn) (.slice ap m cp) w := ⟨_, rfl⟩
  have HS : Hid (W0.heap.size = w.heap.size + 2) := (by rw [hW0]; exact keyW_size _ _ _ _ : W0.heap.size = w.heap.size + 2)
  have HB0 : Hid (Below w.heap.size w W0) := (by rw [hW0]; exact keyW_below _ _ _ _ : Below w.heap.size w W0)
  have HX : Hid _ := keyW_box t (.slice an n cn) (.slice ap m cp) w
  have HY : Hid _ := keyW_res t (.slice an n cn) (.slice ap m cp) w
  rw [← hW0] at HX HY
  have HW : Hid (W0 = keyW t (.slice an n cn) (.slice ap m cp) w) := hW0
  clear hW0
  go_enter Tryz.func82, Tryz.ntmps82
  go_wp2_with fail
  go_loopg [3, 11] n (fun g v i wr => ∃ j : Nat, g = n - j ∧ j ≤ n ∧ i = .int .i64 j ∧ KeyIn W0 wr v (Tm.nB (t.names.take j)))
  case atStart => exact ⟨0, rfl, Nat.zero_le _, rfl, by rw [HW.out]; exact ⟨World.ownsRow_nil _ _ _ _, Below.refl _ _⟩⟩
  case round =>
    obtain ⟨j, rfl, hj, rfl, hK⟩ := hrel
    have HK : Hid _ := hK
    have hwl := hK.bl.size
    by_cases hlt : j < n
    · obtain ⟨z, hz⟩ : ∃ z, t.names[j]? = some z := ⟨t.names[j]'(by have := HN.out.2.1; omega), List.getElem?_eq_getElem _⟩
      obtain ⟨a, rfl, c0⟩ := HN.out.1 j z hz
      obtain ⟨z0, z1⟩ := HN.out.2.2 z (List.mem_of_getElem? hz)
      have d0 : wr.cell? (a.add j) = some (.int .i64 z) := (hK.bl.cell (by have := World.block_lt_of_cell? w _ c0; have := HS.out; omega)).trans ((HB0.out.cell (World.block_lt_of_cell? w _ c0)).trans c0)
      have HT : Hid (Tm.nB (t.names.take (j + 1)) = Tm.nB (t.names.take j) ++ [Tm.byteOf z]) := (by rw [take_succ_of hz, Tm.nB_snoc] : _ = _)
      have hlen : (Tm.nB (t.names.take j)).length = j := by rw [Tm.nB_length, List.length_take, ← HN.out.2.1]; omega
      have hml : (Tm.nB (t.names.take j)).length + 1 ≤ maxLen := by unfold maxLen; omega
      have hby : ((Tm.nB (t.names.take j)).length + 1) * 1 ≤ 140737488355328 := by omega
      have hbs : W0.heap.size ≤ (wr.alloc (.cells #[.int .u8 z] 5)).heap.size := by simp; omega
      have q0 : (0 : Int) ≤ (j : Int) := by omega
      have q1 : (j : Int) < (n : Int) := by omega
      clear hz c0 hK hlen
      go_wp2_with (at_builtin; refine wpList_append_own_at _ rfl _ _ 163 rfl W0.heap.size 5 i0 (.int .u8 0) 1 1 Tryz.underlying163 hi0 hz0 hz1 hz2 rfl (by decide) _ _ _ rfl (HK.out.row.alloc _) ⟨wr.heap.size, 0, none⟩ 1 1 [.int .u8 z] rfl rfl (cell_one_new _ _ _) (u8_one z) hml hby hbs ?_; intro v' w2 hown' hgrow hnil hat; have H2 : Hid _ := And.intro hown' hgrow; clear hown' hgrow hat hnil)
      go_roundg (n - (j + 1))
      case measure => omega
      case rel => exact ⟨j + 1, rfl, by omega, by go_num, by rw [HT.out]; exact HK.out.next (m := [Tm.byteOf z]) (by rw [bC_byte z0 z1]; exact H2.out.1) H2.out.2⟩
    · obtain rfl : j = n := by omega
      have q1 : ¬ (j : Int) < (j : Int) := by omega
      have X := (hK.bl.block _ (by have := HS.out; omega)).trans HX.out
      have Y := (hK.bl.block _ (by have := HS.out; omega)).trans HY.out
      have x5 : wr.cell? ⟨w.heap.size, 5, none⟩ = some (.slice ap m cp) := tb_cell X 5
      have HK0 : Hid (KeyIn W0 wr u3 (Tm.nB t.names)) := (by rw [show t.names = t.names.take j from (List.take_of_length_le (by rw [← HN.out.2.1]; exact Nat.le_refl _)).symm]; exact hK : KeyIn W0 wr u3 (Tm.nB t.names))
      clear hK HK X Y
      go_wp2_with fail
      clear hwl
      go_loopg [3, 24] m (fun g v i wr => ∃ k : Nat, g = m - k ∧ k ≤ m ∧ i = .int .i64 k ∧ KeyIn W0 wr v (Tm.nB t.names ++ Tm.pB (t.pairs.take k)))
      case atStart => exact ⟨0, rfl, Nat.zero_le _, rfl, by simpa [Tm.pB] using HK0.out⟩
      case round =>
        obtain ⟨k, rfl, hk, rfl, hK⟩ := hrel
        have HK : Hid _ := hK
        have hwl := hK.bl.size
        clear HK0 x5
        by_cases hlt : k < m
        · obtain ⟨p, hp⟩ : ∃ p, t.pairs[k]? = some p := ⟨t.pairs[k]'(by have := HP.out.2.1; omega), List.getElem?_eq_getElem _⟩
          obtain ⟨a, rfl, c0, c1⟩ := HP.out.1 k p hp
          obtain ⟨⟨z0, z1⟩, z2, z3⟩ := HP.out.2.2 p (List.mem_of_getElem? hp)
          have up : ∀ {i : Nat} {v : Value}, w.cell? (a.add i) = some v → wr.cell? (a.add i) = some v := fun h => (hK.bl.cell (by have := World.block_lt_of_cell? w _ h; have := HS.out; omega)).trans ((HB0.out.cell (World.block_lt_of_cell? w _ h)).trans h)
          have d0 := up c0
          have d1 := up c1
          clear up c0 c1
          have HT : Hid (Tm.nB t.names ++ Tm.pB (t.pairs.take (k + 1)) = (Tm.nB t.names ++ Tm.pB (t.pairs.take k)) ++ [Tm.byteOf p.1, Tm.byteOf p.2]) := (by rw [take_succ_of hp, Tm.pB_snoc, List.append_assoc] : _ = _)
          obtain ⟨x, y⟩ := p
          have hlen : (Tm.nB t.names ++ Tm.pB (t.pairs.take k)).length = j + k * 2 := by rw [List.length_append, Tm.nB_length, Tm.pB_length, List.length_take, ← HN.out.2.1, ← HP.out.2.1, Nat.min_eq_left hk]
          have hml : (Tm.nB t.names ++ Tm.pB (t.pairs.take k)).length + 2 ≤ maxLen := by unfold maxLen; omega
          have hby : ((Tm.nB t.names ++ Tm.pB (t.pairs.take k)).length + 2) * 1 ≤ 140737488355328 := by omega
          have hbs : W0.heap.size ≤ ((wr.alloc (.cells #[.int .i64 x, .int .i64 y] 75)).alloc (.cells #[.int .u8 x, .int .u8 y] 5)).heap.size := by simp; omega
          have d2 : wr.cell? ((a.add (k * 2)).add 1) = some (.int .i64 y) := by rw [add_two]; exact d1
          have d3 : wr.cell? ⟨(a.add (k * 2)).block, (a.add (k * 2)).off + 1, none⟩ = some (.int .i64 y) := by rw [← d2]; rfl
          have q0 : (0 : Int) ≤ (k : Int) := by omega
          have q1 : (k : Int) < (m : Int) := by omega
          simp only at z0 z1 z2 z3 d0
          clear hp hK hlen
          go_wp2_with (at_builtin; refine wpList_append_own_at _ rfl _ _ 163 rfl W0.heap.size 5 i0 (.int .u8 0) 1 1 Tryz.underlying163 hi0 hz0 hz1 hz2 rfl (by decide) _ _ _ rfl ((HK.out.row.alloc _).alloc _) ⟨wr.heap.size + 1, 0, none⟩ 2 2 [.int .u8 x, .int .u8 y] rfl rfl (two_new2 _ _ _ _ _) (u8_two x y) hml hby hbs ?_; intro v' w2 hown' hgrow hnil hat; have H2 : Hid _ := And.intro hown' hgrow; clear hown' hgrow hat hnil)
          go_roundg (m - (k + 1))
          case measure => omega
          case rel => exact ⟨k + 1, rfl, by omega, by go_num, by rw [HT.out]; exact (HK.out.alloc _).next (m := [Tm.byteOf x, Tm.byteOf y]) (by rw [bC_bytes z0 z1 z2 z3]; exact H2.out.1) H2.out.2⟩
        · obtain rfl : k = m := by omega
          have q1 : ¬ (k : Int) < (k : Int) := by omega
          have HL : Hid (Tm.nB t.names ++ Tm.pB (t.pairs.take k) = t.lists) := (by rw [List.take_of_length_le (by rw [← HP.out.2.1]; exact Nat.le_refl _)]; rfl : _ = _)
          have X := (hK.bl.block _ (by have := HS.out; omega)).trans HX.out
          have Y := (hK.bl.block _ (by have := HS.out; omega)).trans HY.out
          have x0 : wr.cell? ⟨w.heap.size, 0, none⟩ = some (.int .i64 t.kind) := tb_cell X 0
          have x1 : wr.cell? ⟨w.heap.size, 1, none⟩ = some (.int .i64 t.label) := tb_cell X 1
          have x2 : wr.cell? ⟨w.heap.size, 2, none⟩ = some (.int .i64 t.a) := tb_cell X 2
          have x3 : wr.cell? ⟨w.heap.size, 3, none⟩ = some (.int .i64 t.b) := tb_cell X 3
          have y0 : wr.cell? ⟨w.heap.size + 1, 0, none⟩ = some (.int .i64 0) := tb_cell Y 0
          have y1 : wr.cell? ⟨w.heap.size + 1, 1, none⟩ = some (.int .i64 0) := tb_cell Y 1
          have y2 : wr.cell? ⟨w.heap.size + 1, 2, none⟩ = some (.int .i64 0) := tb_cell Y 2
          have y3 : wr.cell? ⟨w.heap.size + 1, 3, none⟩ = some (.int .i64 0) := tb_cell Y 3
          have y4 : wr.cell? ⟨w.heap.size + 1, 4, none⟩ = some (.string ⟨#[]⟩) := tb_cell Y 4
          have f0 := blk_free Y
          have hcv := conv_row hK.row
          rw [HL.out] at hcv
          have hbw : Below w.heap.size w wr := HB0.out.trans (hK.bl.mono (by have := HS.out; omega))
          have HF : Hid (Below w.heap.size w wr) := hbw
          clear hK HK X Y hbw hwl HL
          go_wp2_with fail
          have hB := HF.out
          exact bodyPost_ret (v := keyV t) (by simp [results, Tryz.results82, go_sem, keyV, *]) rfl ⟨rfl, (by repeat (first | exact Below.refl _ _ | assumption | refine Below.drew ?_ | refine Below.setCell ?_ (by simp) _ | refine Below.alloc ?_ (by simp) _))⟩
end Go.Proofs.YthnenpncajpibaaGreatDoor
/- Contract of term.twin: the same term with lists of its own. -/
namespace Go.Proofs.YthnenpncajpibaaGreatDoor
open Go.RowKit Go.Maps
def iC (zs : List Int) : List Value := zs.map (Value.int .i64)
def pC (ps : List (Int × Int)) : List Value := (ps.map fun p => [Value.int .i64 p.1, Value.int .i64 p.2]).flatten
theorem iC_length (zs : List Int) : (iC zs).length = zs.length * 1 := by simp [iC]
theorem pC_length (ps : List (Int × Int)) : (pC ps).length = ps.length * 2 := by
  induction ps with
  | nil => rfl
  | cons p r ih =>
    have : pC (p :: r) = [Value.int .i64 p.1, Value.int .i64 p.2] ++ pC r := by simp [pC]
    rw [this, List.length_append, ih]; simp; omega
theorem pC_at (ps : List (Int × Int)) : ∀ (k : Nat) (p : Int × Int), ps[k]? = some p → (pC ps)[k * 2]? = some (.int .i64 p.1) ∧ (pC ps)[k * 2 + 1]? = some (.int .i64 p.2) := by
  induction ps with
  | nil => intro k p h; simp at h
  | cons q r ih =>
    intro k p h
    have e : pC (q :: r) = [Value.int .i64 q.1, Value.int .i64 q.2] ++ pC r := by simp [pC]
    rw [e]
    cases k with
    | zero => simp at h; subst h; exact ⟨rfl, rfl⟩
    | succ k =>
      obtain ⟨c0, c1⟩ := ih k p (by simpa using h)
      refine ⟨?_, ?_⟩
      · rw [List.getElem?_append_right (by simp; omega)]; simpa [Nat.succ_mul] using c0
      · rw [List.getElem?_append_right (by simp; omega)]
        have : (k + 1) * 2 + 1 - [Value.int .i64 q.1, Value.int .i64 q.2].length = k * 2 + 1 := by simp; omega
        rw [this]; exact c1
theorem pC_inv (ps : List (Int × Int)) (j : Nat) (u : Value) (h : (pC ps)[j]? = some u) : ∃ p, ps[j / 2]? = some p ∧ u = if j % 2 = 0 then .int .i64 p.1 else .int .i64 p.2 := by
  have hl : j < ps.length * 2 := by rw [← pC_length]; exact (List.getElem?_eq_some_iff.1 h).1
  have hk : j / 2 < ps.length := by omega
  have he : ps[j / 2]? = some ps[j / 2] := List.getElem?_eq_getElem hk
  obtain ⟨c0, c1⟩ := pC_at ps (j / 2) _ he
  refine ⟨_, he, ?_⟩
  by_cases h2 : j % 2 = 0
  · rw [if_pos h2]
    have : j / 2 * 2 = j := by omega
    rw [this, h] at c0
    exact Option.some.inj c0
  · rw [if_neg h2]
    have : j / 2 * 2 + 1 = j := by omega
    rw [this, h] at c1
    exact Option.some.inj c1
theorem iC_one (zs : List Int) : ∀ u ∈ iC zs, u.oneCell' = true := fun u hu => by
  obtain ⟨z, _, rfl⟩ := List.mem_map.1 hu; rfl
theorem pC_one (ps : List (Int × Int)) : ∀ u ∈ pC ps, u.oneCell' = true := fun u hu => by
  simp only [pC, List.mem_flatten, List.mem_map] at hu
  obtain ⟨l, ⟨p, _, rfl⟩, hu⟩ := hu
  simp only [List.mem_cons, List.not_mem_nil, or_false] at hu
  rcases hu with rfl | rfl <;> rfl
theorem iC_news {w : World} {a : Addr} {zs : List Int} (h : ∀ (i : Nat) (z : Int), zs[i]? = some z → w.cell? (a.add i) = some (.int .i64 z)) : ∀ j u, (iC zs)[j]? = some u → w.cell? (a.add j) = some u := by
  intro j u hu
  unfold iC at hu
  rw [List.getElem?_map] at hu
  cases e : zs[j]? with
  | none => rw [e] at hu; simp at hu
  | some z =>
    rw [e] at hu
    simp at hu
    subst hu
    exact h j z e
theorem pC_news {w : World} {a : Addr} {ps : List (Int × Int)} (h : ∀ (i : Nat) (p : Int × Int), ps[i]? = some p → w.cell? (a.add (i * 2)) = some (.int .i64 p.1) ∧ w.cell? (a.add (i * 2 + 1)) = some (.int .i64 p.2)) : ∀ j u, (pC ps)[j]? = some u → w.cell? (a.add j) = some u := by
  intro j u hu
  obtain ⟨p, hp, rfl⟩ := pC_inv ps j u hu
  obtain ⟨c0, c1⟩ := h _ p hp
  by_cases h2 : j % 2 = 0
  · rw [if_pos h2]; have : j / 2 * 2 = j := by omega
    rw [this] at c0; exact c0
  · rw [if_neg h2]; have : j / 2 * 2 + 1 = j := by omega
    rw [this] at c1; exact c1
theorem HasI.news {w : World} {a : Addr} {n cap : Nat} {zs : List Int} (h : HasI w (.slice (some a) n cap) zs) : n = zs.length ∧ ∀ j u, (iC zs)[j]? = some u → w.cell? (a.add j) = some u := by
  obtain ⟨ao, cap', h1, h2⟩ := h
  injection h1 with e1 e2 e3
  subst e1
  refine ⟨e2, iC_news fun i z hi => ?_⟩
  obtain ⟨a', ha, hc⟩ := h2 i z hi
  cases ha
  exact hc
theorem HasP.news {w : World} {a : Addr} {n cap : Nat} {ps : List (Int × Int)} (h : HasP w (.slice (some a) n cap) ps) : n = ps.length ∧ ∀ j u, (pC ps)[j]? = some u → w.cell? (a.add j) = some u := by
  obtain ⟨ao, cap', h1, h2⟩ := h
  injection h1 with e1 e2 e3
  subst e1
  refine ⟨e2, pC_news fun i z hi => ?_⟩
  obtain ⟨a', ha, hc⟩ := h2 i z hi
  cases ha
  exact hc
theorem HasI.none {w : World} {n cap : Nat} {zs : List Int} (h : HasI w (.slice none n cap) zs) : zs = [] ∧ n = 0 := by
  obtain ⟨ao, cap', h1, h2⟩ := h
  injection h1 with e1 e2 e3
  subst e1
  cases zs with
  | nil => exact ⟨rfl, e2⟩
  | cons z r => obtain ⟨a, h, _⟩ := h2 0 z rfl; cases h
theorem HasP.none {w : World} {n cap : Nat} {ps : List (Int × Int)} (h : HasP w (.slice none n cap) ps) : ps = [] ∧ n = 0 := by
  obtain ⟨ao, cap', h1, h2⟩ := h
  injection h1 with e1 e2 e3
  subst e1
  cases ps with
  | nil => exact ⟨rfl, e2⟩
  | cons z r => obtain ⟨a, h, _⟩ := h2 0 z rfl; cases h
/-- A row of numbers, a row of pairs: lists of the call's own. -/
def OwnI (w : World) (B : Nat) (v : Value) (zs : List Int) : Prop := w.ownsRow B 3 1 v zs.length (iC zs)
def OwnP (w : World) (B : Nat) (v : Value) (ps : List (Int × Int)) : Prop := w.ownsRow B 75 2 v ps.length (pC ps)
theorem addz (g i : Nat) : (⟨g, 0, none⟩ : Addr).add i = ⟨g, i, none⟩ := by unfold Addr.add; split <;> simp_all
theorem OwnI.has {w : World} {B : Nat} {v : Value} {zs : List Int} (h : OwnI w B v zs) : HasI w v zs := by
  rcases h.2 with ⟨rfl, h0⟩ | ⟨g, cap, cur, rfl, _⟩
  · obtain rfl : zs = [] := List.eq_nil_of_length_eq_zero h0
    exact ⟨none, 0, rfl, fun i z hi => by simp at hi⟩
  · refine ⟨_, cap, rfl, fun i z hi => ⟨_, rfl, ?_⟩⟩
    have hlt := (List.getElem?_eq_some_iff.1 hi).1
    rw [addz, h.cellAt i (by omega)]
    simp [iC, hi]
theorem OwnP.has {w : World} {B : Nat} {v : Value} {ps : List (Int × Int)} (h : OwnP w B v ps) : HasP w v ps := by
  rcases h.2 with ⟨rfl, h0⟩ | ⟨g, cap, cur, rfl, _⟩
  · obtain rfl : ps = [] := List.eq_nil_of_length_eq_zero h0
    exact ⟨none, 0, rfl, fun i z hi => by simp at hi⟩
  · refine ⟨_, cap, rfl, fun i p hi => ⟨_, rfl, ?_⟩⟩
    have hlt := (List.getElem?_eq_some_iff.1 hi).1
    obtain ⟨c0, c1⟩ := pC_at ps i p hi
    rw [addz, addz, h.cellAt (i * 2) (by omega), h.cellAt (i * 2 + 1) (by omega)]
    exact ⟨c0, c1⟩
theorem row_shape {w : World} {base : Nat} {e : TypeId} {size : Nat} {v : Value} {n : Nat} {xs : List Value} (h : w.ownsRow base e size v n xs) : ∃ ao cap, v = .slice ao n cap := by
  rcases h.2 with ⟨rfl, h0⟩ | ⟨g, cap, cur, rfl, _⟩
  · exact ⟨none, 0, by rw [h0]⟩
  · exact ⟨_, _, rfl⟩
theorem trow_at {w w' : World} {base : Nat} {e : TypeId} {size : Nat} {v : Value} {n : Nat} {xs : List Value} (h : w.ownsRow base e size v n xs) (hb : ∀ i, v.ownBlock = some i → w'.heap[i]? = w.heap[i]?) : w'.ownsRow base e size v n xs := by
  refine ⟨h.1, ?_⟩
  rcases h.2 with h2 | ⟨g, cap, cur, rfl, h3, hg, h4⟩
  · exact .inl h2
  · exact .inr ⟨g, cap, cur, rfl, h3, by rw [hb g rfl]; exact hg, h4⟩
theorem row_base {w : World} {base base' : Nat} {e : TypeId} {size : Nat} {v : Value} {n : Nat} {xs : List Value} (h : w.ownsRow base e size v n xs) (hb : base' ≤ base) : w.ownsRow base' e size v n xs := by
  refine ⟨h.1, ?_⟩
  rcases h.2 with h2 | ⟨g, cap, cur, rfl, h3, hg, h4⟩
  · exact .inl h2
  · exact .inr ⟨g, cap, cur, rfl, by omega, hg, h4⟩
theorem set_other (w : World) (b o i : Nat) (u : Value) (h : i ≠ b) : (w.setCell ⟨b, o, none⟩ u).heap[i]? = w.heap[i]? := by
  simp only [World.setCell]
  rw [Array.getElem?_modify, if_neg (fun e => h e.symm)]
theorem row0 {w : World} {base : Nat} {e : TypeId} {size : Nat} {v : Value} {n : Nat} {xs : List Value} (h : w.ownsRow base e size v (0 + n) ([] ++ xs)) : w.ownsRow base e size v n xs := by simpa using h
theorem tgrown0 {w w1 : World} (hg : w.grownBy w1 (Value.slice none 0 0).ownBlock) : Below w.heap.size w w1 := ⟨hg.os, hg.tape, hg.output, hg.size, fun k hk => hg.block k hk (by simp [Value.ownBlock])⟩
theorem Tryz.infoI3 : (Tryz.prog.info? 3).map (fun i => (i.zero, i.size, i.bytes)) = some (some (.int .i64 0), 1, 8) := by kernel_rfl
theorem Tryz.infoP3 : (Tryz.prog.info? 75).map (fun i => (i.zero, i.size, i.bytes)) = some (some (.agg #[.int .i64 0, .int .i64 0]), 2, 16) := by kernel_rfl
/-- The two boxes of twin. -/
def twW (t : Tm) (vn vp : Value) (w : World) : World := (w.alloc (.cells #[.int .i64 t.kind, .int .i64 t.label, .int .i64 t.a, .int .i64 t.b, vn, vp] 35)).alloc (.cells #[.int .i64 0, .int .i64 0, .int .i64 0, .int .i64 0, .slice none 0 0, .slice none 0 0] 35)
theorem twW_size (t : Tm) (vn vp : Value) (w : World) : (twW t vn vp w).heap.size = w.heap.size + 2 := by simp [twW]
theorem twW_below (t : Tm) (vn vp : Value) (w : World) : Below w.heap.size w (twW t vn vp w) := by unfold twW; exact (by repeat (first | exact Below.refl _ _ | assumption | refine Below.drew ?_ | refine Below.setCell ?_ (by simp) _ | refine Below.alloc ?_ (by simp) _))
theorem twW_box (t : Tm) (vn vp : Value) (w : World) : (twW t vn vp w).heap[w.heap.size]? = some (.cells #[.int .i64 t.kind, .int .i64 t.label, .int .i64 t.a, .int .i64 t.b, vn, vp] 35 (0, 0)) := by
  unfold twW
  rw [Below.heap_alloc _ _ _ (by simp)]
  exact (MapKept.heap_alloc w _).1
theorem twW_res (t : Tm) (vn vp : Value) (w : World) : (twW t vn vp w).heap[w.heap.size + 1]? = some (.cells #[.int .i64 0, .int .i64 0, .int .i64 0, .int .i64 0, .slice none 0 0, .slice none 0 0] 35 (0, 0)) := by
  unfold twW
  have h := (MapKept.heap_alloc (w.alloc (.cells #[.int .i64 t.kind, .int .i64 t.label, .int .i64 t.a, .int .i64 t.b, vn, vp] 35)) (.cells #[.int .i64 0, .int .i64 0, .int .i64 0, .int .i64 0, .slice none 0 0, .slice none 0 0] 35)).1
  simpa using h
/-- The world behind both copies: the box bears the new lists, the result is written. -/
def twF (B : Nat) (t : Tm) (v1 v2 : Value) (w2 : World) : World := ((((((w2.setCell ⟨B, 5, none⟩ v2).setCell ⟨B + 1, 0, none⟩ (.int .i64 t.kind)).setCell ⟨B + 1, 1, none⟩ (.int .i64 t.label)).setCell ⟨B + 1, 2, none⟩ (.int .i64 t.a)).setCell ⟨B + 1, 3, none⟩ (.int .i64 t.b)).setCell ⟨B + 1, 4, none⟩ v1).setCell ⟨B + 1, 5, none⟩ v2
theorem twF_other (B : Nat) (t : Tm) (v1 v2 : Value) (w2 : World) (i : Nat) (h0 : i ≠ B) (h1 : i ≠ B + 1) : (twF B t v1 v2 w2).heap[i]? = w2.heap[i]? := by
  unfold twF
  exact (set_other _ _ _ _ _ h1).trans ((set_other _ _ _ _ _ h1).trans ((set_other _ _ _ _ _ h1).trans ((set_other _ _ _ _ _ h1).trans ((set_other _ _ _ _ _ h1).trans ((set_other _ _ _ _ _ h1).trans (set_other _ _ _ _ _ h0))))))
theorem twF_below {w w2 : World} (t : Tm) (v1 v2 : Value) (h : Below w.heap.size w w2) : Below w.heap.size w (twF w.heap.size t v1 v2 w2) :=
  ((((((h.setCell (Nat.le_refl _) _).setCell (Nat.le_succ _) _).setCell (Nat.le_succ _) _).setCell (Nat.le_succ _) _).setCell (Nat.le_succ _) _).setCell (Nat.le_succ _) _).setCell (Nat.le_succ _) _
/-- What twin leaves. -/
structure Twin (w w' : World) (t : Tm) (v1 v2 : Value) : Prop where
  n : OwnI w' w.heap.size v1 t.names
  p : OwnP w' w.heap.size v2 t.pairs
  bl : Below w.heap.size w w'
theorem twin_fin {w W0 w1 w2 : World} {t : Tm} {v1 v2 : Value} (hs : W0.heap.size = w.heap.size + 2) (h0 : Below w.heap.size w W0) (b1 : Below W0.heap.size W0 w1) (o1 : OwnI w1 W0.heap.size v1 t.names)
    (b2 : Below (w1.setCell ⟨w.heap.size, 4, none⟩ v1).heap.size (w1.setCell ⟨w.heap.size, 4, none⟩ v1) w2) (o2 : OwnP w2 W0.heap.size v2 t.pairs) : Twin w (twF w.heap.size t v1 v2 w2) t v1 v2 := by
  have e1 : (w1.setCell ⟨w.heap.size, 4, none⟩ v1).heap.size = w1.heap.size := by simp [World.setCell]
  have s1 := b1.size
  refine ⟨row_base (trow_at o1 fun i hi => ?_) (by omega), row_base (trow_at o2 fun i hi => ?_) (by omega), twF_below t v1 v2 ?_⟩
  · obtain ⟨g1, g2⟩ := o1.lt i hi
    rw [twF_other _ _ _ _ _ _ (by omega) (by omega), b2.block i (by omega), set_other _ _ _ _ _ (by omega)]
  · obtain ⟨g1, g2⟩ := o2.lt i hi
    rw [twF_other _ _ _ _ _ _ (by omega) (by omega)]
  · exact ((h0.trans (b1.mono (by omega))).setCell (Nat.le_refl _) _).trans (b2.mono (by omega))
/-- The cells of a box with six of them. -/
structure Six6 (w : World) (B : Nat) (a b c d e f : Value) : Prop where
  c0 : w.cell? ⟨B, 0, none⟩ = some a
  c1 : w.cell? ⟨B, 1, none⟩ = some b
  c2 : w.cell? ⟨B, 2, none⟩ = some c
  c3 : w.cell? ⟨B, 3, none⟩ = some d
  c4 : w.cell? ⟨B, 4, none⟩ = some e
  c5 : w.cell? ⟨B, 5, none⟩ = some f
  fr : ∀ k, w.frozen? ⟨B, k, none⟩ = false
theorem six6 {w : World} {B : Nat} {a b c d e f : Value} {ty : TypeId} (h : w.heap[B]? = some (.cells #[a, b, c, d, e, f] ty (0, 0))) : Six6 w B a b c d e f :=
  ⟨tb_cell h 0, tb_cell h 1, tb_cell h 2, tb_cell h 3, tb_cell h 4, tb_cell h 5, blk_free h⟩
/-- Behind the first copy. -/
structure Tw1 (w w1 : World) (t : Tm) (vn vp v1 : Value) : Prop where
  b : Below (twW t vn vp w).heap.size (twW t vn vp w) w1
  o : OwnI w1 (twW t vn vp w).heap.size v1 t.names
theorem Tw1.box {w w1 : World} {t : Tm} {vn vp v1 : Value} (h : Tw1 w w1 t vn vp v1) : w1.heap[w.heap.size]? = some (.cells #[.int .i64 t.kind, .int .i64 t.label, .int .i64 t.a, .int .i64 t.b, vn, vp] 35 (0, 0)) :=
  (h.b.block _ (by rw [twW_size]; omega)).trans (twW_box t vn vp w)
theorem Tw1.res {w w1 : World} {t : Tm} {vn vp v1 : Value} (h : Tw1 w w1 t vn vp v1) : w1.heap[w.heap.size + 1]? = some (.cells #[.int .i64 0, .int .i64 0, .int .i64 0, .int .i64 0, .slice none 0 0, .slice none 0 0] 35 (0, 0)) :=
  (h.b.block _ (by rw [twW_size]; omega)).trans (twW_res t vn vp w)
theorem Tw1.bl {w w1 : World} {t : Tm} {vn vp v1 : Value} (h : Tw1 w w1 t vn vp v1) : Below w.heap.size w w1 :=
  (twW_below t vn vp w).trans (h.b.mono (by rw [twW_size]; omega))
theorem Tw1.bl4 {w w1 : World} {t : Tm} {vn vp v1 : Value} (h : Tw1 w w1 t vn vp v1) : Below w.heap.size w (w1.setCell ⟨w.heap.size, 4, none⟩ v1) := h.bl.setCell (Nat.le_refl _) _
theorem Tw1.le {w w1 : World} {t : Tm} {vn vp v1 : Value} (h : Tw1 w w1 t vn vp v1) : (twW t vn vp w).heap.size ≤ (w1.setCell ⟨w.heap.size, 4, none⟩ v1).heap.size := by
  have := h.b.size
  simpa [World.setCell] using this
/-- Behind the second copy. -/
structure Tw2 (w w1 w2 : World) (t : Tm) (vn vp v1 v2 : Value) : Prop where
  b : Below (w1.setCell ⟨w.heap.size, 4, none⟩ v1).heap.size (w1.setCell ⟨w.heap.size, 4, none⟩ v1) w2
  o : OwnP w2 (twW t vn vp w).heap.size v2 t.pairs
theorem Tw2.box {w w1 w2 : World} {t : Tm} {vn vp v1 v2 : Value} (h1 : Tw1 w w1 t vn vp v1) (h : Tw2 w w1 w2 t vn vp v1 v2) : w2.heap[w.heap.size]? = some (.cells #[.int .i64 t.kind, .int .i64 t.label, .int .i64 t.a, .int .i64 t.b, v1, vp] 35 (0, 0)) := by
  have hl := t_lt h1.box
  rw [h.b.block _ (by simpa [World.setCell] using hl), heap_setCell_same _ _ 4 _ _ _ h1.box]
  rfl
theorem Tw2.res {w w1 w2 : World} {t : Tm} {vn vp v1 v2 : Value} (h1 : Tw1 w w1 t vn vp v1) (h : Tw2 w w1 w2 t vn vp v1 v2) : w2.heap[w.heap.size + 1]? = some (.cells #[.int .i64 0, .int .i64 0, .int .i64 0, .int .i64 0, .slice none 0 0, .slice none 0 0] 35 (0, 0)) := by
  have hl := t_lt h1.res
  rw [h.b.block _ (by simpa [World.setCell] using hl), set_other _ _ _ _ _ (by omega)]
  exact h1.res
theorem Tw2.fin {w w1 w2 : World} {t : Tm} {vn vp v1 v2 : Value} (h1 : Tw1 w w1 t vn vp v1) (h : Tw2 w w1 w2 t vn vp v1 v2) : Twin w (twF w.heap.size t v1 v2 w2) t v1 v2 :=
  twin_fin (twW_size t vn vp w) (twW_below t vn vp w) h1.b h1.o h.b h.o
theorem tw1_none (t : Tm) (cn : Nat) (vp : Value) (w : World) (h : t.names = []) : Tw1 w (twW t (.slice none 0 cn) vp w) t (.slice none 0 cn) vp (.slice none 0 0) :=
  ⟨Below.refl _ _, by unfold OwnI; rw [h]; exact World.ownsRow_nil _ _ _ _⟩
theorem tw2_none {w w1 : World} {t : Tm} {vn v1 : Value} {cp : Nat} (h : t.pairs = []) : Tw2 w w1 (w1.setCell ⟨w.heap.size, 4, none⟩ v1) t vn (.slice none 0 cp) v1 (.slice none 0 0) :=
  ⟨Below.refl _ _, by unfold OwnP; rw [h]; exact World.ownsRow_nil _ _ _ _⟩
theorem twW_set4 (t : Tm) (vn vp v : Value) (w : World) : (twW t vn vp w).setCell ⟨w.heap.size, 4, none⟩ v = twW t v vp w := by
  simp [twW, go_sem]
set_option maxRecDepth 100000 in
set_option maxHeartbeats 1000000 in
theorem twin_ss (t : Tm) (an : Addr) (ap : Addr) (cn cp : Nat) (w : World) (hn : HasI w (.slice (some an) t.names.length cn) t.names) (hp : HasP w (.slice (some ap) t.pairs.length cp) t.pairs) (ln : t.names.length * 8 ≤ 140737488355328) (lp : t.pairs.length * 16 ≤ 140737488355328) :
    Calls Tryz.prog 78 #[tmV t (.slice (some an) t.names.length cn) (.slice (some ap) t.pairs.length cp)] w fun r w' => ∃ v1 v2, r = .returned (tmV t v1 v2) ∧ Twin w w' t v1 v2 := by
  obtain ⟨i0, hi0, hz0, hz1, hz2⟩ := info_parts Tryz.infoI3
  obtain ⟨j0, hj0, hy0, hy1, hy2⟩ := info_parts Tryz.infoP3
  unfold tmV
  have HP : Hid _ := And.intro hn hp
  have hml : 0 + t.names.length ≤ maxLen := by unfold maxLen; omega
  have hby : (0 + t.names.length) * 8 ≤ 140737488355328 := by omega
  have hml2 : 0 + t.pairs.length ≤ maxLen := by unfold maxLen; omega
  have hby2 : (0 + t.pairs.length) * 16 ≤ 140737488355328 := by omega
  clear hn hp
  go_enter Tryz.func78, Tryz.ntmps78
  go_wp2_with (first | (at_builtin; refine wpList_append_own_at _ rfl _ _ 29 rfl (twW t (.slice (some an) t.names.length cn) (.slice (some ap) t.pairs.length cp) w).heap.size 3 i0 (.int .i64 0) 1 8 Tryz.underlying29 hi0 hz0 hz1 hz2 rfl (by decide) (.slice none 0 0) 0 [] rfl (World.ownsRow_nil _ _ _ _) an t.names.length cn (iC t.names) rfl (iC_length _) ((HP.out.1.below (twW_below t (.slice (some an) t.names.length cn) (.slice (some ap) t.pairs.length cp) w)).news).2 (iC_one _) hml hby (Nat.le_refl _) ?_; intro v1 w1 hown1 hgrow1 hnil1 hat1; obtain ⟨ao1, cap1, rfl⟩ := row_shape (row0 hown1); have T1 : Tw1 w w1 t (.slice (some an) t.names.length cn) (.slice (some ap) t.pairs.length cp) _ := ⟨tgrown0 hgrow1, row0 hown1⟩; obtain ⟨x0, x1, x2, x3, x4, x5, xf⟩ := six6 T1.box; have H1 : Hid _ := T1; clear hown1 hgrow1 hnil1 hat1 T1) | (at_builtin; refine wpList_append_own_at _ rfl _ _ 33 rfl (twW t (.slice (some an) t.names.length cn) (.slice (some ap) t.pairs.length cp) w).heap.size 75 j0 (.agg #[.int .i64 0, .int .i64 0]) 2 16 Tryz.underlying33 hj0 hy0 hy1 hy2 rfl (by decide) (.slice none 0 0) 0 [] rfl (World.ownsRow_nil _ _ _ _) ap t.pairs.length cp (pC t.pairs) rfl (pC_length _) ((HP.out.2.below H1.out.bl4).news).2 (pC_one _) hml2 hby2 H1.out.le ?_; intro v2 w2 hown2 hgrow2 hnil2 hat2; obtain ⟨ao2, cap2, rfl⟩ := row_shape (row0 hown2); have T2 : Tw2 w w1 w2 t (.slice (some an) t.names.length cn) (.slice (some ap) t.pairs.length cp) _ _ := ⟨tgrown0 hgrow2, row0 hown2⟩; obtain ⟨z0, z1, z2, z3, z4, z5, zf⟩ := six6 (T2.box H1.out); obtain ⟨y0, y1, y2, y3, y4, y5, yf⟩ := six6 (T2.res H1.out); have H2 : Hid _ := T2; clear hown2 hgrow2 hnil2 hat2 T2))
  exact bodyPost_ret (v := tmV t (.slice ao1 t.names.length cap1) (.slice ao2 t.pairs.length cap2)) (by simp [results, Tryz.results78, go_sem, tmV, *]) rfl ⟨_, _, rfl, H2.out.fin H1.out⟩
set_option maxRecDepth 100000 in
set_option maxHeartbeats 1000000 in
theorem twin_ns (t : Tm) (ap : Addr) (cn cp : Nat) (w : World) (hn : HasI w (.slice none 0 cn) t.names) (hp : HasP w (.slice (some ap) t.pairs.length cp) t.pairs) (lp : t.pairs.length * 16 ≤ 140737488355328) :
    Calls Tryz.prog 78 #[tmV t (.slice none 0 cn) (.slice (some ap) t.pairs.length cp)] w fun r w' => ∃ v1 v2, r = .returned (tmV t v1 v2) ∧ Twin w w' t v1 v2 := by
  obtain ⟨j0, hj0, hy0, hy1, hy2⟩ := info_parts Tryz.infoP3
  have H1 : Hid _ := tw1_none t cn (.slice (some ap) t.pairs.length cp) w hn.none.1
  unfold tmV
  have HP : Hid _ := And.intro hn hp
  have hml2 : 0 + t.pairs.length ≤ maxLen := by unfold maxLen; omega
  have hby2 : (0 + t.pairs.length) * 16 ≤ 140737488355328 := by omega
  have hle : (twW t (.slice none 0 cn) (.slice (some ap) t.pairs.length cp) w).heap.size ≤ (twW t (.slice none 0 0) (.slice (some ap) t.pairs.length cp) w).heap.size := by rw [twW_size, twW_size]; exact Nat.le_refl _
  clear hn hp
  go_enter Tryz.func78, Tryz.ntmps78
  go_wp2_with (at_builtin; refine wpList_append_own_at _ rfl _ _ 33 rfl (twW t (.slice none 0 cn) (.slice (some ap) t.pairs.length cp) w).heap.size 75 j0 (.agg #[.int .i64 0, .int .i64 0]) 2 16 Tryz.underlying33 hj0 hy0 hy1 hy2 rfl (by decide) (.slice none 0 0) 0 [] rfl (World.ownsRow_nil _ _ _ _) ap t.pairs.length cp (pC t.pairs) rfl (pC_length _) ((HP.out.2.below (twW_below t (.slice none 0 0) (.slice (some ap) t.pairs.length cp) w)).news).2 (pC_one _) hml2 hby2 hle ?_; intro v2 w2 hown2 hgrow2 hnil2 hat2; obtain ⟨ao2, cap2, rfl⟩ := row_shape (row0 hown2); have T2 : Tw2 w (twW t (.slice none 0 cn) (.slice (some ap) t.pairs.length cp) w) w2 t (.slice none 0 cn) (.slice (some ap) t.pairs.length cp) (.slice none 0 0) _ := ⟨by rw [twW_set4]; exact tgrown0 hgrow2, row0 hown2⟩; obtain ⟨z0, z1, z2, z3, z4, z5, zf⟩ := six6 (T2.box H1.out); obtain ⟨y0, y1, y2, y3, y4, y5, yf⟩ := six6 (T2.res H1.out); have H2 : Hid _ := T2; clear hown2 hgrow2 hnil2 hat2 T2)
  exact bodyPost_ret (v := tmV t (.slice none 0 0) (.slice ao2 t.pairs.length cap2)) (by simp [results, Tryz.results78, go_sem, tmV, *]) rfl ⟨_, _, rfl, H2.out.fin H1.out⟩
set_option maxRecDepth 100000 in
set_option maxHeartbeats 1000000 in
theorem twin_sn (t : Tm) (an : Addr) (cn cp : Nat) (w : World) (hn : HasI w (.slice (some an) t.names.length cn) t.names) (hp : HasP w (.slice none 0 cp) t.pairs) (ln : t.names.length * 8 ≤ 140737488355328) :
    Calls Tryz.prog 78 #[tmV t (.slice (some an) t.names.length cn) (.slice none 0 cp)] w fun r w' => ∃ v1 v2, r = .returned (tmV t v1 v2) ∧ Twin w w' t v1 v2 := by
  obtain ⟨i0, hi0, hz0, hz1, hz2⟩ := info_parts Tryz.infoI3
  unfold tmV
  have HP : Hid _ := And.intro hn hp
  have hml : 0 + t.names.length ≤ maxLen := by unfold maxLen; omega
  have hby : (0 + t.names.length) * 8 ≤ 140737488355328 := by omega
  clear hn hp
  go_enter Tryz.func78, Tryz.ntmps78
  go_wp2_with (at_builtin; refine wpList_append_own_at _ rfl _ _ 29 rfl (twW t (.slice (some an) t.names.length cn) (.slice none 0 cp) w).heap.size 3 i0 (.int .i64 0) 1 8 Tryz.underlying29 hi0 hz0 hz1 hz2 rfl (by decide) (.slice none 0 0) 0 [] rfl (World.ownsRow_nil _ _ _ _) an t.names.length cn (iC t.names) rfl (iC_length _) ((HP.out.1.below (twW_below t (.slice (some an) t.names.length cn) (.slice none 0 cp) w)).news).2 (iC_one _) hml hby (Nat.le_refl _) ?_; intro v1 w1 hown1 hgrow1 hnil1 hat1; obtain ⟨ao1, cap1, rfl⟩ := row_shape (row0 hown1); have T1 : Tw1 w w1 t (.slice (some an) t.names.length cn) (.slice none 0 cp) _ := ⟨tgrown0 hgrow1, row0 hown1⟩; obtain ⟨x0, x1, x2, x3, x4, x5, xf⟩ := six6 T1.box; obtain ⟨y0, y1, y2, y3, y4, y5, yf⟩ := six6 T1.res; have H1 : Hid _ := T1; clear hown1 hgrow1 hnil1 hat1 T1)
  exact bodyPost_ret (v := tmV t (.slice ao1 t.names.length cap1) (.slice none 0 0)) (by simp [results, Tryz.results78, go_sem, tmV, *]) rfl ⟨_, _, rfl, (tw2_none HP.out.2.none.1).fin H1.out⟩
set_option maxRecDepth 100000 in
set_option maxHeartbeats 1000000 in
theorem twin_nn (t : Tm) (cn cp : Nat) (w : World) (hn : HasI w (.slice none 0 cn) t.names) (hp : HasP w (.slice none 0 cp) t.pairs) :
    Calls Tryz.prog 78 #[tmV t (.slice none 0 cn) (.slice none 0 cp)] w fun r w' => ∃ v1 v2, r = .returned (tmV t v1 v2) ∧ Twin w w' t v1 v2 := by
  have hN := hn.none.1
  have hP := hp.none.1
  unfold tmV
  have HP : Hid _ := And.intro hN hP
  clear hn hp hN hP
  go_enter Tryz.func78, Tryz.ntmps78
  go_wp2
  refine bodyPost_ret (v := tmV t (.slice none 0 0) (.slice none 0 0)) (by simp [results, Tryz.results78, go_sem, tmV]) rfl ⟨_, _, rfl, ?_, ?_, (by repeat (first | exact Below.refl _ _ | assumption | refine Below.drew ?_ | refine Below.setCell ?_ (by simp) _ | refine Below.alloc ?_ (by simp) _))⟩
  · unfold OwnI; rw [HP.out.1]; exact World.ownsRow_nil _ _ _ _
  · unfold OwnP; rw [HP.out.2]; exact World.ownsRow_nil _ _ _ _
theorem twin_any (t : Tm) (vn vp : Value) (w : World) (hn : HasI w vn t.names) (hp : HasP w vp t.pairs) (ln : t.names.length * 8 ≤ 140737488355328) (lp : t.pairs.length * 16 ≤ 140737488355328) :
    Calls Tryz.prog 78 #[tmV t vn vp] w fun r w' => ∃ v1 v2, r = .returned (tmV t v1 v2) ∧ Twin w w' t v1 v2 := by
  obtain ⟨an, cn, rfl, hcn⟩ := id hn
  obtain ⟨ap, cp, rfl, hcp⟩ := id hp
  cases an with
  | none =>
    have e1 := hn.none.2
    rw [e1] at hn ⊢
    cases ap with
    | none =>
      have e2 := hp.none.2
      rw [e2] at hp ⊢
      exact twin_nn t cn cp w hn hp
    | some ap => exact twin_ns t ap cn cp w hn hp lp
  | some an =>
    cases ap with
    | none =>
      have e2 := hp.none.2
      rw [e2] at hp ⊢
      exact twin_sn t an cn cp w hn hp ln
    | some ap => exact twin_ss t an ap cn cp w hn hp ln lp
end Go.Proofs.YthnenpncajpibaaGreatDoor
