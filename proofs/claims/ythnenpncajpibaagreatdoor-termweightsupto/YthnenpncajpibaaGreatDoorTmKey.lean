/- Contract of term.keyOf. -/
import Derived.Test.YthnenpncajpibaaGreatDoorTmMay
import Derived.Laws.IdiomStrings
import Derived.Laws.BytesArg
namespace Go.Proofs.YthnenpncajpibaaGreatDoor
open Go.RowKit Go.Maps
theorem Tryz.infoB : (Tryz.prog.info? 5).map (fun i => (i.zero, i.size, i.bytes)) = some (some (.int .u8 0), 1, 1) := by kernel_rfl
def bC (l : List UInt8) : List Value := l.map fun b => .int .u8 b.toNat
theorem bC_length (l : List UInt8) : (bC l).length = l.length := by simp [bC]
theorem bC_append (l m : List UInt8) : bC (l ++ m) = bC l ++ bC m := by simp [bC]
theorem u8_one (z : Int) : ∀ u ∈ [Value.int .u8 z], u.oneCell' = true := fun u hu => by
  rw [List.mem_singleton.1 hu]; rfl
theorem u8_two (y z : Int) : ∀ u ∈ [Value.int .u8 y, Value.int .u8 z], u.oneCell' = true := fun u hu => by
  rcases List.mem_cons.1 hu with rfl | hu
  · rfl
  · rw [List.mem_singleton.1 hu]; rfl
theorem byteOf_toNat {z : Int} (h0 : 0 ≤ z) (h1 : z ≤ 255) : ((Tm.byteOf z).toNat : Int) = z := by
  unfold Tm.byteOf
  have : (UInt8.ofNat z.toNat).toNat = z.toNat := by
    rw [UInt8.toNat_ofNat']; omega
  omega
theorem bC_byte {z : Int} (h0 : 0 ≤ z) (h1 : z ≤ 255) : bC [Tm.byteOf z] = [.int .u8 z] := by
  simp only [bC, List.map_cons, List.map_nil, byteOf_toNat h0 h1]
theorem bC_bytes {y z : Int} (h0 : 0 ≤ y) (h1 : y ≤ 255) (h2 : 0 ≤ z) (h3 : z ≤ 255) : bC [Tm.byteOf y, Tm.byteOf z] = [.int .u8 y, .int .u8 z] := by
  simp only [bC, List.map_cons, List.map_nil, byteOf_toNat h0 h1, byteOf_toNat h2 h3]
theorem two_new2 (w : World) (o : Obj) (x y : Value) (t : TypeId) : ∀ j u, [x, y][j]? = some u → ((w.alloc o).alloc (.cells #[x, y] t)).cell? ((⟨w.heap.size + 1, 0, none⟩ : Addr).add j) = some u := by
  intro j u h
  have hb := (MapKept.heap_alloc (w.alloc o) (.cells #[x, y] t)).1
  have e : (⟨w.heap.size + 1, 0, none⟩ : Addr).add j = ⟨w.heap.size + 1, j, none⟩ := by unfold Addr.add; split <;> simp_all
  have hs : (w.alloc o).heap.size = w.heap.size + 1 := by simp
  rw [hs] at hb
  rw [e, ← h]
  simp only [World.cell?, hb]
  rcases j with _ | _ | j <;> rfl
theorem conv_row {W : World} {base : Nat} {v : Value} {l : List UInt8} (h : W.ownsRow base 5 1 v l.length (bC l)) : (convert 163 9 v).run Tryz.prog W = .ok (.string ⟨l.toArray⟩) W := by
  rcases h.2 with ⟨rfl, h0⟩ | ⟨g, cap, cur, rfl, _⟩
  · obtain rfl : l = [] := List.eq_nil_of_length_eq_zero h0
    rw [run_convert_bytes_nil W _ _ Tryz.underlying163 Tryz.underlying5 _ _ _ Tryz.underlying9]
    rfl
  · refine run_convert_bytes_back W _ _ _ ⟨g, 0, none⟩ cap l Tryz.underlying163 Tryz.underlying5 Tryz.underlying9 fun j hj => ?_
    have e : (⟨g, 0, none⟩ : Addr).add j = ⟨g, j, none⟩ := by unfold Addr.add; split <;> simp_all
    rw [e, h.cellAt j (by simpa using hj)]
    simp [bC, hj]
theorem take_succ_of {α : Type} {l : List α} {j : Nat} {x : α} (h : l[j]? = some x) : l.take (j + 1) = l.take j ++ [x] := by
  obtain ⟨hlt, rfl⟩ := List.getElem?_eq_some_iff.1 h
  exact List.take_succ_eq_append_getElem hlt
namespace Tm
def nB (ns : List Int) : List UInt8 := ns.map byteOf
def pB (ps : List (Int × Int)) : List UInt8 := (ps.map fun p => [byteOf p.1, byteOf p.2]).flatten
theorem nB_length (ns : List Int) : (nB ns).length = ns.length := by simp [nB]
theorem pB_length (ps : List (Int × Int)) : (pB ps).length = ps.length * 2 := by
  induction ps with
  | nil => rfl
  | cons p r ih =>
    have : pB (p :: r) = [byteOf p.1, byteOf p.2] ++ pB r := by simp [pB]
    rw [this, List.length_append, ih]; simp; omega
theorem nB_snoc (ns : List Int) (z : Int) : nB (ns ++ [z]) = nB ns ++ [byteOf z] := by simp [nB]
theorem pB_snoc (ps : List (Int × Int)) (p : Int × Int) : pB (ps ++ [p]) = pB ps ++ [byteOf p.1, byteOf p.2] := by simp [pB]
theorem lists_eq (t : Tm) : t.lists = nB t.names ++ pB t.pairs := rfl
end Tm
/-- The bytes so far, in a row of their own above what was there. -/
structure KeyIn (W0 wr : World) (v : Value) (l : List UInt8) : Prop where
  row : wr.ownsRow W0.heap.size 5 1 v l.length (bC l)
  bl : Below W0.heap.size W0 wr
theorem KeyIn.next {W0 wr w2 : World} {v v' : Value} {l m : List UInt8} {o : Obj} (h : KeyIn W0 wr v l) (hown : w2.ownsRow W0.heap.size 5 1 v' (l.length + m.length) (bC l ++ bC m)) (hg : (wr.alloc o).grownBy w2 v.ownBlock) : KeyIn W0 w2 v' (l ++ m) :=
  ⟨by rw [List.length_append, bC_append]; exact hown, (h.bl.alloc h.bl.size o).grown hg (by have := h.bl.size; simp; omega) (fun k hk => (h.row.lt k hk).1)⟩
theorem KeyIn.alloc {W0 wr : World} {v : Value} {l : List UInt8} (h : KeyIn W0 wr v l) (o : Obj) : KeyIn W0 (wr.alloc o) v l := ⟨h.row.alloc o, h.bl.alloc h.bl.size o⟩
/-- The two boxes of the call. -/
def keyW (t : Tm) (vn vp : Value) (w : World) : World := (w.alloc (.cells #[.int .i64 t.kind, .int .i64 t.label, .int .i64 t.a, .int .i64 t.b, vn, vp] 35)).alloc (.cells #[.int .i64 0, .int .i64 0, .int .i64 0, .int .i64 0, .string ⟨#[]⟩] 115)
theorem keyW_size (t : Tm) (vn vp : Value) (w : World) : (keyW t vn vp w).heap.size = w.heap.size + 2 := by simp [keyW]
theorem keyW_below (t : Tm) (vn vp : Value) (w : World) : Below w.heap.size w (keyW t vn vp w) := by unfold keyW; exact (by repeat (first | exact Below.refl _ _ | assumption | refine Below.drew ?_ | refine Below.setCell ?_ (by simp) _ | refine Below.alloc ?_ (by simp) _))
theorem keyW_box (t : Tm) (vn vp : Value) (w : World) : (keyW t vn vp w).heap[w.heap.size]? = some (.cells #[.int .i64 t.kind, .int .i64 t.label, .int .i64 t.a, .int .i64 t.b, vn, vp] 35 (0, 0)) := by
  unfold keyW
  rw [Below.heap_alloc _ _ _ (by simp)]
  exact (MapKept.heap_alloc w _).1
theorem keyW_res (t : Tm) (vn vp : Value) (w : World) : (keyW t vn vp w).heap[w.heap.size + 1]? = some (.cells #[.int .i64 0, .int .i64 0, .int .i64 0, .int .i64 0, .string ⟨#[]⟩] 115 (0, 0)) := by
  unfold keyW
  have h := (MapKept.heap_alloc (w.alloc (.cells #[.int .i64 t.kind, .int .i64 t.label, .int .i64 t.a, .int .i64 t.b, vn, vp] 35)) (.cells #[.int .i64 0, .int .i64 0, .int .i64 0, .int .i64 0, .string ⟨#[]⟩] 115)).1
  simpa using h
theorem tb_cell {w : World} {B : Nat} {cs : Array Value} {t : TypeId} {f : Nat × Nat} (h : w.heap[B]? = some (.cells cs t f)) (k : Nat) : w.cell? ⟨B, k, none⟩ = cs[k]? := by
  simp [World.cell?, h]
theorem blk_free {w : World} {b : Nat} {cs : Array Value} {t : TypeId} (h : w.heap[b]? = some (.cells cs t (0, 0))) (k : Nat) : w.frozen? ⟨b, k, none⟩ = false := by simp [World.frozen?, h]
set_option maxRecDepth 100000 in
set_option maxHeartbeats 1000000 in
theorem keyOf_any (t : Tm) (vn vp : Value) (w : World) (hn : HasI w vn t.names) (hp : HasP w vp t.pairs) (ln : t.names.length ≤ 1000) (lp : t.pairs.length ≤ 1000) (hr : ∀ z ∈ t.names, 0 ≤ z ∧ z ≤ 255) (hq : ∀ p ∈ t.pairs, (0 ≤ p.1 ∧ p.1 ≤ 255) ∧ (0 ≤ p.2 ∧ p.2 ≤ 255)) :
    Calls Tryz.prog 82 #[tmV t vn vp] w fun r w' => r = .returned (keyV t) ∧ Below w.heap.size w w' := by
  obtain ⟨an, cn, rfl, hcn⟩ := hn
  obtain ⟨ap, cp, rfl, hcp⟩ := hp
  obtain ⟨i0, hi0, hz0, hz1, hz2⟩ := info_parts Tryz.infoB
  unfold tmV
  obtain ⟨n, hN⟩ : ∃ n, n = t.names.length := ⟨_, rfl⟩
  obtain ⟨m, hM⟩ : ∃ m, m = t.pairs.length := ⟨_, rfl⟩
  rw [← hN, ← hM]
  have HN : Hid _ := And.intro hcn (And.intro hN hr)
  have HP : Hid _ := And.intro hcp (And.intro hM hq)
  rw [← hN] at ln
  rw [← hM] at lp
  clear hcn hcp hN hM hr hq
  obtain ⟨W0, hW0⟩ : ∃ W0, W0 = keyW t (.slice an n cn) (.slice ap m cp) w := ⟨_, rfl⟩
  have HS : Hid (W0.heap.size = w.heap.size + 2) := (by rw [hW0]; exact keyW_size _ _ _ _ : W0.heap.size = w.heap.size + 2)
  have HB0 : Hid (Below w.heap.size w W0) := (by rw [hW0]; exact keyW_below _ _ _ _ : Below w.heap.size w W0)
  have HX : Hid _ := keyW_box t (.slice an n cn) (.slice ap m cp) w
  have HY : Hid _ := keyW_res t (.slice an n cn) (.slice ap m cp) w
  rw [← hW0] at HX HY
  have HW : Hid (W0 = keyW t (.slice an n cn) (.slice ap m cp) w) := hW0
  clear hW0
  go_enter Tryz.func82, Tryz.ntmps82
  go_wp2_with fail
  go_loopg [3, 11] n (fun g v i wr => ∃ j : Nat, g = n - j ∧ j ≤ n ∧ i = .int .i64 j ∧ KeyIn W0 wr v (Tm.nB (t.names.take j)))
  case atStart => exact ⟨0, rfl, Nat.zero_le _, rfl, by rw [HW.out]; exact ⟨World.ownsRow_nil _ _ _ _, Below.refl _ _⟩⟩
  case round =>
    obtain ⟨j, rfl, hj, rfl, hK⟩ := hrel
    have HK : Hid _ := hK
    have hwl := hK.bl.size
    by_cases hlt : j < n
    · obtain ⟨z, hz⟩ : ∃ z, t.names[j]? = some z := ⟨t.names[j]'(by have := HN.out.2.1; omega), List.getElem?_eq_getElem _⟩
      obtain ⟨a, rfl, c0⟩ := HN.out.1 j z hz
      obtain ⟨z0, z1⟩ := HN.out.2.2 z (List.mem_of_getElem? hz)
      have d0 : wr.cell? (a.add j) = some (.int .i64 z) := (hK.bl.cell (by have := World.block_lt_of_cell? w _ c0; have := HS.out; omega)).trans ((HB0.out.cell (World.block_lt_of_cell? w _ c0)).trans c0)
      have HT : Hid (Tm.nB (t.names.take (j + 1)) = Tm.nB (t.names.take j) ++ [Tm.byteOf z]) := (by rw [take_succ_of hz, Tm.nB_snoc] : _ = _)
      have hlen : (Tm.nB (t.names.take j)).length = j := by rw [Tm.nB_length, List.length_take, ← HN.out.2.1]; omega
      have hml : (Tm.nB (t.names.take j)).length + 1 ≤ maxLen := by unfold maxLen; omega
      have hby : ((Tm.nB (t.names.take j)).length + 1) * 1 ≤ 140737488355328 := by omega
      have hbs : W0.heap.size ≤ (wr.alloc (.cells #[.int .u8 z] 5)).heap.size := by simp; omega
      have q0 : (0 : Int) ≤ (j : Int) := by omega
      have q1 : (j : Int) < (n : Int) := by omega
      clear hz c0 hK hlen
      go_wp2_with (at_builtin; refine wpList_append_own_at _ rfl _ _ 163 rfl W0.heap.size 5 i0 (.int .u8 0) 1 1 Tryz.underlying163 hi0 hz0 hz1 hz2 rfl (by decide) _ _ _ rfl (HK.out.row.alloc _) ⟨wr.heap.size, 0, none⟩ 1 1 [.int .u8 z] rfl rfl (cell_one_new _ _ _) (u8_one z) hml hby hbs ?_; intro v' w2 hown' hgrow hnil hat; have H2 : Hid _ := And.intro hown' hgrow; clear hown' hgrow hat hnil)
      go_roundg (n - (j + 1))
      case measure => omega
      case rel => exact ⟨j + 1, rfl, by omega, by go_num, by rw [HT.out]; exact HK.out.next (m := [Tm.byteOf z]) (by rw [bC_byte z0 z1]; exact H2.out.1) H2.out.2⟩
    · obtain rfl : j = n := by omega
      have q1 : ¬ (j : Int) < (j : Int) := by omega
      have X := (hK.bl.block _ (by have := HS.out; omega)).trans HX.out
      have Y := (hK.bl.block _ (by have := HS.out; omega)).trans HY.out
      have x5 : wr.cell? ⟨w.heap.size, 5, none⟩ = some (.slice ap m cp) := tb_cell X 5
      have HK0 : Hid (KeyIn W0 wr u3 (Tm.nB t.names)) := (by rw [show t.names = t.names.take j from (List.take_of_length_le (by rw [← HN.out.2.1]; exact Nat.le_refl _)).symm]; exact hK : KeyIn W0 wr u3 (Tm.nB t.names))
      clear hK HK X Y
      go_wp2_with fail
      clear hwl
      go_loopg [3, 24] m (fun g v i wr => ∃ k : Nat, g = m - k ∧ k ≤ m ∧ i = .int .i64 k ∧ KeyIn W0 wr v (Tm.nB t.names ++ Tm.pB (t.pairs.take k)))
      case atStart => exact ⟨0, rfl, Nat.zero_le _, rfl, by simpa [Tm.pB] using HK0.out⟩
      case round =>
        obtain ⟨k, rfl, hk, rfl, hK⟩ := hrel
        have HK : Hid _ := hK
        have hwl := hK.bl.size
        clear HK0 x5
        by_cases hlt : k < m
        · obtain ⟨p, hp⟩ : ∃ p, t.pairs[k]? = some p := ⟨t.pairs[k]'(by have := HP.out.2.1; omega), List.getElem?_eq_getElem _⟩
          obtain ⟨a, rfl, c0, c1⟩ := HP.out.1 k p hp
          obtain ⟨⟨z0, z1⟩, z2, z3⟩ := HP.out.2.2 p (List.mem_of_getElem? hp)
          have up : ∀ {i : Nat} {v : Value}, w.cell? (a.add i) = some v → wr.cell? (a.add i) = some v := fun h => (hK.bl.cell (by have := World.block_lt_of_cell? w _ h; have := HS.out; omega)).trans ((HB0.out.cell (World.block_lt_of_cell? w _ h)).trans h)
          have d0 := up c0
          have d1 := up c1
          clear up c0 c1
          have HT : Hid (Tm.nB t.names ++ Tm.pB (t.pairs.take (k + 1)) = (Tm.nB t.names ++ Tm.pB (t.pairs.take k)) ++ [Tm.byteOf p.1, Tm.byteOf p.2]) := (by rw [take_succ_of hp, Tm.pB_snoc, List.append_assoc] : _ = _)
          obtain ⟨x, y⟩ := p
          have hlen : (Tm.nB t.names ++ Tm.pB (t.pairs.take k)).length = j + k * 2 := by rw [List.length_append, Tm.nB_length, Tm.pB_length, List.length_take, ← HN.out.2.1, ← HP.out.2.1, Nat.min_eq_left hk]
          have hml : (Tm.nB t.names ++ Tm.pB (t.pairs.take k)).length + 2 ≤ maxLen := by unfold maxLen; omega
          have hby : ((Tm.nB t.names ++ Tm.pB (t.pairs.take k)).length + 2) * 1 ≤ 140737488355328 := by omega
          have hbs : W0.heap.size ≤ ((wr.alloc (.cells #[.int .i64 x, .int .i64 y] 75)).alloc (.cells #[.int .u8 x, .int .u8 y] 5)).heap.size := by simp; omega
          have d2 : wr.cell? ((a.add (k * 2)).add 1) = some (.int .i64 y) := by rw [add_two]; exact d1
          have d3 : wr.cell? ⟨(a.add (k * 2)).block, (a.add (k * 2)).off + 1, none⟩ = some (.int .i64 y) := by rw [← d2]; rfl
          have q0 : (0 : Int) ≤ (k : Int) := by omega
          have q1 : (k : Int) < (m : Int) := by omega
          simp only at z0 z1 z2 z3 d0
          clear hp hK hlen
          go_wp2_with (at_builtin; refine wpList_append_own_at _ rfl _ _ 163 rfl W0.heap.size 5 i0 (.int .u8 0) 1 1 Tryz.underlying163 hi0 hz0 hz1 hz2 rfl (by decide) _ _ _ rfl ((HK.out.row.alloc _).alloc _) ⟨wr.heap.size + 1, 0, none⟩ 2 2 [.int .u8 x, .int .u8 y] rfl rfl (two_new2 _ _ _ _ _) (u8_two x y) hml hby hbs ?_; intro v' w2 hown' hgrow hnil hat; have H2 : Hid _ := And.intro hown' hgrow; clear hown' hgrow hat hnil)
          go_roundg (m - (k + 1))
          case measure => omega
          case rel => exact ⟨k + 1, rfl, by omega, by go_num, by rw [HT.out]; exact (HK.out.alloc _).next (m := [Tm.byteOf x, Tm.byteOf y]) (by rw [bC_bytes z0 z1 z2 z3]; exact H2.out.1) H2.out.2⟩
        · obtain rfl : k = m := by omega
          have q1 : ¬ (k : Int) < (k : Int) := by omega
          have HL : Hid (Tm.nB t.names ++ Tm.pB (t.pairs.take k) = t.lists) := (by rw [List.take_of_length_le (by rw [← HP.out.2.1]; exact Nat.le_refl _)]; rfl : _ = _)
          have X := (hK.bl.block _ (by have := HS.out; omega)).trans HX.out
          have Y := (hK.bl.block _ (by have := HS.out; omega)).trans HY.out
          have x0 : wr.cell? ⟨w.heap.size, 0, none⟩ = some (.int .i64 t.kind) := tb_cell X 0
          have x1 : wr.cell? ⟨w.heap.size, 1, none⟩ = some (.int .i64 t.label) := tb_cell X 1
          have x2 : wr.cell? ⟨w.heap.size, 2, none⟩ = some (.int .i64 t.a) := tb_cell X 2
          have x3 : wr.cell? ⟨w.heap.size, 3, none⟩ = some (.int .i64 t.b) := tb_cell X 3
          have y0 : wr.cell? ⟨w.heap.size + 1, 0, none⟩ = some (.int .i64 0) := tb_cell Y 0
          have y1 : wr.cell? ⟨w.heap.size + 1, 1, none⟩ = some (.int .i64 0) := tb_cell Y 1
          have y2 : wr.cell? ⟨w.heap.size + 1, 2, none⟩ = some (.int .i64 0) := tb_cell Y 2
          have y3 : wr.cell? ⟨w.heap.size + 1, 3, none⟩ = some (.int .i64 0) := tb_cell Y 3
          have y4 : wr.cell? ⟨w.heap.size + 1, 4, none⟩ = some (.string ⟨#[]⟩) := tb_cell Y 4
          have f0 := blk_free Y
          have hcv := conv_row hK.row
          rw [HL.out] at hcv
          have hbw : Below w.heap.size w wr := HB0.out.trans (hK.bl.mono (by have := HS.out; omega))
          have HF : Hid (Below w.heap.size w wr) := hbw
          clear hK HK X Y hbw hwl HL
          go_wp2_with fail
          have hB := HF.out
          exact bodyPost_ret (v := keyV t) (by simp [results, Tryz.results82, go_sem, keyV, *]) rfl ⟨rfl, (by repeat (first | exact Below.refl _ _ | assumption | refine Below.drew ?_ | refine Below.setCell ?_ (by simp) _ | refine Below.alloc ?_ (by simp) _))⟩
end Go.Proofs.YthnenpncajpibaaGreatDoor
