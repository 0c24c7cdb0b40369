/- Texts of this claim, joined: SoRow, SoIns, Shelf, SoSmall, SyClone, SoOrd. -/
import Derived.Test.YtladdlkfnfdhaaaDoorPart3
import Derived.Sort.AssemblyPlain
import Derived.Shelf.Small.Bits
import Derived.Shelf.Small.Wraps
import Derived.Shelf.Strconv.Itoa0
import Derived.Ground.Names2Prog
import Derived.Shelf.Slices.SearchI
import Derived.Test.YtladdlkfnfdhaaaDoorProg
import Derived.Test.YtladdlkfnfdhaaaDoorPart2
import Derived.Lib.SliceRun
import Derived.Lib.Walk
/- Rows of edges in memory that are being sorted: their cells, and an exchange of two. -/
namespace Go.Proofs.YtladdlkfnfdhaaaDoor
open Go.RowKit Go.Maps
/-- A row of one's own that holds these edges, and what lies behind them. -/
def RowE (w wr : World) (g : Nat) (d : Array Sy.Ed) (rest : List Value) : Prop := Arr 46 w wr g (BEdges.C d.toList ++ rest)
theorem RowE.below {w wr w' : World} {g : Nat} {d : Array Sy.Ed} {rest : List Value} (h : RowE w wr g d rest) (hb : Below wr.heap.size wr w') : RowE w w' g d rest := Arr.below h hb
theorem getb {d : Array Sy.Ed} {j : Nat} (hj : j < d.size) : d.toList[j]? = some d[j]! := by
  rw [Array.getElem?_toList, Array.getElem?_eq_getElem hj, getElem!_pos d j hj]
theorem RowE.at {w wr : World} {g : Nat} {d : Array Sy.Ed} {rest : List Value} (h : RowE w wr g d rest) {j : Nat} {z : Sy.Ed} (hj : d.toList[j]? = some z) : wr.cell? ⟨g, j * 3, none⟩ = some (.int .i64 z.1) ∧ wr.cell? ⟨g, j * 3 + 1, none⟩ = some (.int .i64 z.2.1) ∧ wr.cell? ⟨g, j * 3 + 2, none⟩ = some (.int .i64 z.2.2) := by
  have hl : j < d.toList.length := (List.getElem?_eq_some_iff.1 hj).1
  have hc := BEdges.C_len d.toList
  have h0 := BEdges.C_at d.toList j z hj 0 (by decide)
  have h1 := BEdges.C_at d.toList j z hj 1 (by decide)
  have h2 := BEdges.C_at d.toList j z hj 2 (by decide)
  refine ⟨Arr.cell h ?_, Arr.cell h ?_, Arr.cell h ?_⟩
  · rw [List.getElem?_append_left (by omega)]; exact h0
  · rw [List.getElem?_append_left (by omega)]; exact h1
  · rw [List.getElem?_append_left (by omega)]; exact h2
theorem RowE.cells {w wr : World} {g : Nat} {d : Array Sy.Ed} {rest : List Value} (h : RowE w wr g d rest) {j : Nat} (hj : j < d.size) : wr.cell? ⟨g, j * 3, none⟩ = some (.int .i64 (d[j]!).1) ∧ wr.cell? ⟨g, j * 3 + 1, none⟩ = some (.int .i64 (d[j]!).2.1) ∧ wr.cell? ⟨g, j * 3 + 2, none⟩ = some (.int .i64 (d[j]!).2.2) := h.at (getb hj)
theorem RowE.free {w wr : World} {g : Nat} {d : Array Sy.Ed} {rest : List Value} (h : RowE w wr g d rest) (k : Nat) : wr.frozen? ⟨g, k, none⟩ = false := Arr.free h k
/-- An edge is stored. -/
def st3 (w : World) (g k : Nat) (x : Sy.Ed) : World := ((w.setCell ⟨g, k * 3, none⟩ (.int .i64 x.1)).setCell ⟨g, k * 3 + 1, none⟩ (.int .i64 x.2.1)).setCell ⟨g, k * 3 + 2, none⟩ (.int .i64 x.2.2)
theorem RowE.store {w wr : World} {g : Nat} {d : Array Sy.Ed} {rest : List Value} (h : RowE w wr g d rest) {k : Nat} (hk : k < d.size) (x : Sy.Ed) : RowE w (st3 wr g k x) g (d.setIfInBounds k x) rest := by
  have h1 := ((Arr.set h (k * 3) (.int .i64 x.1)).set (k * 3 + 1) (.int .i64 x.2.1)).set (k * 3 + 2) (.int .i64 x.2.2)
  have hk' : k < d.toList.length := by simpa using hk
  have hc := BEdges.C_len d.toList
  rw [List.set_append_left _ _ (by omega), List.set_append_left _ _ (by rw [List.length_set]; omega), List.set_append_left _ _ (by rw [List.length_set, List.length_set]; omega), ← BEdges.C_set d.toList hk' x] at h1
  unfold RowE st3
  rw [Array.toList_setIfInBounds]
  exact h1
theorem swp_back (d : Array Sy.Ed) (i j : Nat) (hi : i < d.size) (hj : j < d.size) : (d.setIfInBounds j d[i]!).setIfInBounds i d[j]! = Sort.swp d i j := by
  unfold Sort.swp
  by_cases e : i = j
  · subst e; rfl
  · apply Array.ext_getElem?
    intro k
    simp only [Array.getElem?_setIfInBounds, Array.size_setIfInBounds]
    by_cases h1 : i = k
    · subst h1
      have e2 : ¬ j = i := fun h => e h.symm
      simp [e2, hi]
    · by_cases h2 : j = k
      · subst h2; simp [e, hj]
      · simp [h1, h2]
/-- Two edges are exchanged, in either order of the stores. -/
theorem RowE.swap {w wr : World} {g : Nat} {d : Array Sy.Ed} {rest : List Value} (h : RowE w wr g d rest) {i j : Nat} (hi : i < d.size) (hj : j < d.size) : RowE w (st3 (st3 wr g i d[j]!) g j d[i]!) g (Sort.swp d i j) rest :=
  (h.store hi d[j]!).store (by simpa using hj) d[i]!
theorem RowE.swap' {w wr : World} {g : Nat} {d : Array Sy.Ed} {rest : List Value} (h : RowE w wr g d rest) {i j : Nat} (hi : i < d.size) (hj : j < d.size) : RowE w (st3 (st3 wr g j d[i]!) g i d[j]!) g (Sort.swp d i j) rest := by
  rw [← swp_back d i j hi hj]
  exact (h.store hj d[i]!).store (by simpa using hi) d[j]!
/-- The comparison of a view, as a value. -/
def cmpV (f : Nat) : Value := .func (.func 39) #[.func (.func f) #[] #[]] #[]
/-- What it says. -/
def ltV (vw : Sy.Ed → Sy.Ed) (x y : Sy.Ed) : Bool := Sy.lt (vw x) (vw y)
theorem swoV (vw : Sy.Ed → Sy.Ed) : Sort.SWO (ltV vw) where
  irrefl x := Sy.lt_irrefl _
  trans x y z h1 h2 := Sy.lt_trans h1 h2
  ntrans x y z h1 h2 := by
    unfold ltV at *
    cases h : Sy.lt (vw x) (vw z) with
    | false => rfl
    | true =>
      cases h3 : Sy.lt (vw y) (vw x) with
      | true => have := Sy.lt_trans h3 h; rw [h2] at this; cases this
      | false =>
        have e := Sy.eq_of_not h1 h3
        rw [e, h2] at h
        cases h
theorem cmpV_neg (vw : Sy.Ed → Sy.Ed) (x y : Sy.Ed) : (cmpE (vw x) (vw y) < 0) ↔ ltV vw x y = true := by
  unfold ltV
  rw [← cmpE_lt]
  simp
theorem rg_up6 {w2 wa wb : World} {a0 a1 a2 a3 a4 a5 : Addr} {x0 x1 x2 x3 x4 x5 : Value} (hb : Below wa.heap.size wa wb) (h : ((wa.cell? a0 = some x0 ∧ wa.cell? a1 = some x1 ∧ wa.cell? a2 = some x2) ∧ (wa.cell? a3 = some x3 ∧ wa.cell? a4 = some x4 ∧ wa.cell? a5 = some x5)) ∧ Hid (Below w2.heap.size w2 wa)) : ((wb.cell? a0 = some x0 ∧ wb.cell? a1 = some x1 ∧ wb.cell? a2 = some x2) ∧ (wb.cell? a3 = some x3 ∧ wb.cell? a4 = some x4 ∧ wb.cell? a5 = some x5)) ∧ Hid (Below w2.heap.size w2 wb) :=
  have up : ∀ {a : Addr} {x : Value}, wa.cell? a = some x → wb.cell? a = some x := fun c => (hb.cell (World.block_lt_of_cell? wa _ c)).trans c
  ⟨⟨⟨up h.1.1.1, up h.1.1.2.1, up h.1.1.2.2⟩, ⟨up h.1.2.1, up h.1.2.2.1, up h.1.2.2.2⟩⟩, (h.2.out.trans (hb.mono h.2.out.size) : Below w2.heap.size w2 wb)⟩
theorem ins_go (lt : Sy.Ed → Sy.Ed → Bool) (a j : Nat) (d : Array Sy.Ed) (hj : a < j + 1) (hl : lt d[j + 1]! d[j]! = true) : Sort.insInner lt a (j + 1) d = Sort.insInner lt a j (Sort.swp d (j + 1) j) := by
  rw [Sort.insInner, if_pos (by simp [hl, hj])]
theorem ins_stop (lt : Sy.Ed → Sy.Ed → Bool) (a j : Nat) (d : Array Sy.Ed) (hl : lt d[j + 1]! d[j]! = false) : Sort.insInner lt a (j + 1) d = d := by
  rw [Sort.insInner, if_neg (by simp [hl])]
theorem ins_at (lt : Sy.Ed → Sy.Ed → Bool) (a j : Nat) (d : Array Sy.Ed) (hj : ¬ a < j) : Sort.insInner lt a j d = d := by
  cases j with
  | zero => rfl
  | succ j => rw [Sort.insInner, if_neg (by simp; omega)]
theorem ins_next (lt : Sy.Ed → Sy.Ed → Bool) (a b i : Nat) (d : Array Sy.Ed) (h : i < b) : Sort.insOuter lt a b i d = Sort.insOuter lt a b (i + 1) (Sort.insInner lt a i d) := by rw [Sort.insOuter, if_pos h]
theorem ins_end (lt : Sy.Ed → Sy.Ed → Bool) (a b i : Nat) (d : Array Sy.Ed) (h : ¬ i < b) : Sort.insOuter lt a b i d = d := by rw [Sort.insOuter, if_neg h]
theorem RowE.swapped {w wr : World} {g : Nat} {d : Array Sy.Ed} {rest : List Value} (h : RowE w wr g d rest) {i j : Nat} {x y : Sy.Ed} (hi : i < d.size) (hj : j < d.size) (hx : x = d[i]!) (hy : y = d[j]!) : RowE w (st3 (st3 wr g i y) g j x).drew g (Sort.swp d i j) rest := by
  subst hx hy
  exact (h.swap hi hj).below (Below.refl _ _).drew
end Go.Proofs.YtladdlkfnfdhaaaDoor
/- Contract of slices' insertion sort of edges by a view's comparison. -/
namespace Go.Proofs.YtladdlkfnfdhaaaDoor
open Go.RowKit Go.Maps
attribute [local go_sem ↓] Go.wp_at_zero Go.wp_at_succ
set_option maxRecDepth 100000 in
set_option maxHeartbeats 8000000 in
theorem insSort_any (f : Nat) (vw : Sy.Ed → Sy.Ed) (hV : ViewAt f vw) (g cap a b : Nat) (d : Array Sy.Ed) (rest : List Value) (w0 w : World) (hR : RowE w0 w g d rest) (hab : a ≤ b) (hb : b ≤ d.size) (hsz : d.size ≤ 1000000) :
    Calls Tryd.prog 66 #[.slice (some ⟨g, 0, none⟩) d.size cap, .int .i64 a, .int .i64 b, cmpV f] w fun r w' => r = .returned (.tuple #[]) ∧ RowE w0 w' g (Sort.insertionSort (ltV vw) d a b) rest := by
  obtain ⟨n, hn⟩ : ∃ n, n = d.size := ⟨_, rfl⟩
  have HR : Hid _ := And.intro hR (And.intro hn hV)
  rw [← hn] at hb hsz ⊢
  unfold cmpV Sort.insertionSort
  clear hR hn hV
  have he := enter_cmp
  go_enter Tryd.func66, Tryd.ntmps66
  go_wp2_with fail
  go_loopg [8] (b - a) (fun q iv wr => ∃ (i : Nat) (dk : Array Sy.Ed), iv = .int .i64 i ∧ a < i ∧ b + 1 - i ≤ q + 1 ∧ dk.size = n ∧ RowE w0 wr g dk rest ∧ Hid (Sort.insOuter (ltV vw) a b i dk = Sort.insOuter (ltV vw) a b (a + 1) d))
  case atStart => exact ⟨a + 1, d, by go_num, by omega, by omega, HR.out.2.1.symm, HR.out.1, rfl⟩
  case round =>
    obtain ⟨i, dk, rfl, hai, hq, hsk, hRk, HO⟩ := hrel
    by_cases hlt : i < b
    · have hltz : (i : Int) < (b : Int) := by omega
      have HK : Hid _ := And.intro hRk hsk
      clear hRk hsk
      obtain ⟨wq, rfl⟩ : ∃ wq, wq = wr := ⟨_, rfl⟩
      go_wp2_with fail
      go_loopg [9] i (fun p jv wr => ∃ (j : Nat) (dj : Array Sy.Ed), jv = .int .i64 j ∧ j ≤ i ∧ j ≤ p ∧ dj.size = n ∧ RowE w0 wr g dj rest ∧ Hid (Sort.insInner (ltV vw) a j dj = Sort.insInner (ltV vw) a i dk))
      case atStart => exact ⟨i, dk, rfl, Nat.le_refl _, Nat.le_refl _, HK.out.2, HK.out.1, rfl⟩
      case round =>
        obtain ⟨j, dj, rfl, hji, hp, hsj, hRj, HI⟩ := hrel
        by_cases hja : a < j
        · obtain ⟨jp, rfl⟩ : ∃ jp, j = jp + 1 := ⟨j - 1, by omega⟩
          obtain ⟨x0, x1, x2⟩ := hRj.cells (j := jp + 1) (by omega)
          obtain ⟨y0, y1, y2⟩ := hRj.cells (j := jp) (by omega)
          have hcm := fun W => compare_any f vw HR.out.2.2 (dj[jp + 1]!) (dj[jp]!) W
          unfold edV at hcm
          have hlt2 := cmpV_neg vw (dj[jp + 1]!) (dj[jp]!)
          have HJ : Hid _ := And.intro hRj hsj
          obtain ⟨xe, hxe⟩ : ∃ xe, xe = dj[jp + 1]! := ⟨_, rfl⟩
          obtain ⟨ye, hye⟩ : ∃ ye, ye = dj[jp]! := ⟨_, rfl⟩
          rw [← hxe] at x0 x1 x2 hcm hlt2
          rw [← hye] at y0 y1 y2 hcm hlt2
          have HE : Hid _ := And.intro hxe hye
          clear hRj hsj hxe hye
          obtain ⟨xa, xb, xc⟩ := xe
          obtain ⟨ya, yb, yc⟩ := ye
          generalize cmpE (vw (xa, xb, xc)) (vw (ya, yb, yc)) = c at hcm hlt2
          have HC : Hid _ := hcm
          have HL : Hid _ := hlt2
          clear hcm hlt2
          simp only at x0 x1 x2 y0 y1 y2
          have p0 : (0 : Int) ≤ (jp : Int) + 1 := by omega
          have p1 : (jp : Int) + 1 < (n : Int) := by have := HJ.out.2; omega
          have p2 : (0 : Int) ≤ (jp : Int) := by omega
          have p3 : (jp : Int) < (n : Int) := by omega
          have p4 : decide ((a : Int) < (jp : Int) + 1) = true := decide_eq_true (by omega)
          have p5 : ((jp : Int) + 1).toNat = jp + 1 := by omega
          have p7 : IntKind.i64.wrap (jp : Int) = (jp : Int) := by rw [IntKind.wrap_i64]; omega
          have p8 : IntKind.i64.wrap ((jp : Int) + 1 - 1) = (jp : Int) := by rw [IntKind.wrap_i64]; omega
          by_cases hc : c < 0
          · have p6 : decide (c < 0) = true := decide_eq_true hc
            go_upto_region 4 with fail
            go_region_held3 (fun w' => ((w'.cell? ⟨g, (jp + 1) * 3, none⟩ = some (.int .i64 xa) ∧ w'.cell? ⟨g, (jp + 1) * 3 + 1, none⟩ = some (.int .i64 xb) ∧ w'.cell? ⟨g, (jp + 1) * 3 + 2, none⟩ = some (.int .i64 xc)) ∧ (w'.cell? ⟨g, jp * 3, none⟩ = some (.int .i64 ya) ∧ w'.cell? ⟨g, jp * 3 + 1, none⟩ = some (.int .i64 yb) ∧ w'.cell? ⟨g, jp * 3 + 2, none⟩ = some (.int .i64 yc))) ∧ Hid (Below wr.heap.size wr w')) (first | exact rg_up6 hb3 (by assumption) | exact ⟨⟨⟨x0, x1, x2⟩, ⟨y0, y1, y2⟩⟩, ((Below.refl _ _).drew : Below wr.heap.size wr wr.drew)⟩ | go_keep)
              ((first
                | (go_at_fn 39; refine (HC.out _).mono ?_; rintro r w3 ⟨rfl, hb3⟩)
                | fail))
            have hR3 : RowE w0 w3 g dj rest := HJ.out.1.below (rg_b (by assumption))
            have HJ3 : Hid _ := And.intro hR3 HJ.out.2
            have f0 := hR3.free ((jp + 1) * 3)
            have f1 := hR3.free ((jp + 1) * 3 + 1)
            have f2 := hR3.free ((jp + 1) * 3 + 2)
            have f3 := hR3.free (jp * 3)
            have f4 := hR3.free (jp * 3 + 1)
            have f5 := hR3.free (jp * 3 + 2)
            obtain ⟨z0, z1, z2⟩ := hR3.at (z := (xa, xb, xc)) (by rw [HE.out.1]; exact getb (by have := HJ.out.2; omega))
            obtain ⟨z3, z4, z5⟩ := hR3.at (z := (ya, yb, yc)) (by rw [HE.out.2]; exact getb (by have := HJ.out.2; omega))
            simp only at z0 z1 z2 z3 z4 z5
            clear x0 x1 x2 y0 y1 y2 hb3 hR3 HC HJ
            rename_i hS3
            clear hS3
            go_wp2_with fail
            go_region
            all_goals go_wp2_with fail
            go_roundg jp
            case measure => omega
            case rel =>
              refine ⟨jp, Sort.swp dj (jp + 1) jp, by go_num, by omega, Nat.le_refl _, by rw [Sort.size_swp]; exact HJ3.out.2, HJ3.out.1.swapped (i := jp + 1) (j := jp) (x := (xa, xb, xc)) (y := (ya, yb, yc)) (by have := HJ3.out.2; omega) (by have := HJ3.out.2; omega) HE.out.1 HE.out.2, (show Hid _ from ?_)⟩
              show _ = _
              rw [← HI.out, ins_go _ _ _ _ hja (by rw [← HE.out.1, ← HE.out.2]; exact HL.out.1 hc)]
          · have p6 : decide (c < 0) = false := decide_eq_false hc
            go_upto_region 4 with fail
            go_region_held3 (fun w' => ((w'.cell? ⟨g, (jp + 1) * 3, none⟩ = some (.int .i64 xa) ∧ w'.cell? ⟨g, (jp + 1) * 3 + 1, none⟩ = some (.int .i64 xb) ∧ w'.cell? ⟨g, (jp + 1) * 3 + 2, none⟩ = some (.int .i64 xc)) ∧ (w'.cell? ⟨g, jp * 3, none⟩ = some (.int .i64 ya) ∧ w'.cell? ⟨g, jp * 3 + 1, none⟩ = some (.int .i64 yb) ∧ w'.cell? ⟨g, jp * 3 + 2, none⟩ = some (.int .i64 yc))) ∧ Hid (Below wr.heap.size wr w')) (first | exact rg_up6 hb3 (by assumption) | exact ⟨⟨⟨x0, x1, x2⟩, ⟨y0, y1, y2⟩⟩, ((Below.refl _ _).drew : Below wr.heap.size wr wr.drew)⟩ | go_keep)
              ((first
                | (go_at_fn 39; refine (HC.out _).mono ?_; rintro r w3 ⟨rfl, hb3⟩)
                | fail))
            have hR3 : RowE w0 w3 g dj rest := HJ.out.1.below (rg_b (by assumption))
            have HJ3 : Hid _ := And.intro hR3 HJ.out.2
            clear x0 x1 x2 y0 y1 y2 hb3 hR3 HC HJ
            rename_i hS3
            clear hS3
            go_wp2_with fail
            go_roundg (b - (i + 1))
            case measure => omega
            case rel =>
              refine ⟨i + 1, dj, by go_num, by omega, by omega, HJ3.out.2, HJ3.out.1, (show Hid _ from ?_)⟩
              show _ = _
              have hl : ltV vw dj[jp + 1]! dj[jp]! = false := by
                rw [← HE.out.1, ← HE.out.2]
                cases h : ltV vw (xa, xb, xc) (ya, yb, yc) with
                | false => rfl
                | true => exact absurd (HL.out.2 h) (by omega)
              rw [← HO.out, ins_next _ _ _ _ _ hlt, ← HI.out, ins_stop _ _ _ _ hl]
        · have p4 : decide ((a : Int) < (j : Int)) = false := decide_eq_false (by omega)
          have p5 : ¬ (a : Int) < (j : Int) := by omega
          have HJ3 : Hid _ := And.intro hRj hsj
          clear hRj hsj
          go_wp2_with fail
          go_region
          all_goals go_wp2_with fail
          go_roundg (b - (i + 1))
          case measure => omega
          case rel =>
            refine ⟨i + 1, dj, by go_num, by omega, by omega, HJ3.out.2, HJ3.out.1.below (Below.refl _ _).drew, (show Hid _ from ?_)⟩
            show _ = _
            rw [← HO.out, ins_next _ _ _ _ _ hlt, ← HI.out, ins_at _ _ _ _ hja]
    · have hltz : ¬ (i : Int) < (b : Int) := by omega
      go_wp2
      go_end0
      exact ⟨rfl, by rw [← HO.out, ins_end _ _ _ _ _ hlt]; exact hRk⟩
end Go.Proofs.YtladdlkfnfdhaaaDoor
/- Contracts of three functions of Go's library at this program, laid by the shelf's own tools in plain words. -/
namespace Go.Proofs
open Go.Shelf
def Tryd.lays128_ren : Go.Shelf.Ren := ⟨fun | 128 => 74 | n => n, fun | 51 => 125 | 3 => 3 | 4 => 4 | 46 => 112 | 5 => 5 | 9 => 9 | n => n, fun | n => n⟩
theorem Tryd.lays128 : Go.Proofs.Lays.n128 Tryd.prog Tryd.lays128_ren := {
  mixed := by kernel_rfl
  f128 := Tryd.func74.trans (congrArg some (by kernel_rfl))
  t3 := Tryd.underlying3
  a3 := Tryd.isAgg3
  z3 := Tryd.sizeOf3
  v3 := Tryd.zeroValue3
  t4 := Tryd.underlying4
  a4 := Tryd.isAgg4
  z4 := Tryd.sizeOf4
  v4 := Tryd.zeroValue4
  t5 := Tryd.underlying5
  a5 := Tryd.isAgg5
  z5 := Tryd.sizeOf5
  v5 := Tryd.zeroValue5
  t9 := Tryd.underlying9
  a9 := Tryd.isAgg9
  z9 := Tryd.sizeOf9
  v9 := Tryd.zeroValue9
  t46 := Tryd.underlying112
  a46 := Tryd.isAgg112
  z46 := Tryd.sizeOf112
  v46 := Tryd.zeroValue112
  t51 := Tryd.underlying125
  a51 := Tryd.isAgg125
  z51 := Tryd.sizeOf125
  v51 := Tryd.zeroValue125 }
theorem Tryd.bits_Len32 (x : Int) (w : World) (h0 : 0 ≤ x) (h1 : x ≤ 4294967295) :
    Calls Tryd.prog 74 #[.int .u32 x] w fun e w' => e = .returned (.int .i64 (Lib.bitLen x.toNat)) ∧ w' = w := Any.bits_Len32 Tryd.lays128 x w h0 h1
def Tryd.lays125_ren : Go.Shelf.Ren := ⟨fun | 125 => 59 | 128 => 74 | 129 => 75 | n => n, fun | 46 => 112 | 3 => 3 | 51 => 125 | 53 => 99 | 4 => 4 | 5 => 5 | 9 => 9 | n => n, fun | n => n⟩
theorem Tryd.lays125 : Go.Proofs.Lays.n125 Tryd.prog Tryd.lays125_ren := {
  mixed := by kernel_rfl
  f125 := Tryd.func59.trans (congrArg some (by kernel_rfl))
  f128 := Tryd.func74.trans (congrArg some (by kernel_rfl))
  f129 := Tryd.func75.trans (congrArg some (by kernel_rfl))
  t3 := Tryd.underlying3
  a3 := Tryd.isAgg3
  z3 := Tryd.sizeOf3
  v3 := Tryd.zeroValue3
  t4 := Tryd.underlying4
  a4 := Tryd.isAgg4
  z4 := Tryd.sizeOf4
  v4 := Tryd.zeroValue4
  t5 := Tryd.underlying5
  a5 := Tryd.isAgg5
  z5 := Tryd.sizeOf5
  v5 := Tryd.zeroValue5
  t9 := Tryd.underlying9
  a9 := Tryd.isAgg9
  z9 := Tryd.sizeOf9
  v9 := Tryd.zeroValue9
  t46 := Tryd.underlying112
  a46 := Tryd.isAgg112
  z46 := Tryd.sizeOf112
  v46 := Tryd.zeroValue112
  t51 := Tryd.underlying125
  a51 := Tryd.isAgg125
  z51 := Tryd.sizeOf125
  v51 := Tryd.zeroValue125
  t53 := Tryd.underlying99
  a53 := Tryd.isAgg99
  z53 := Tryd.sizeOf99
  v53 := Tryd.zeroValue99 }
theorem Tryd.bits_Len (x : Int) (w : World) (h0 : 0 ≤ x) (h1 : x ≤ 18446744073709551615) :
    Calls Tryd.prog 59 #[.int .u64 x] w fun e w' => e = .returned (.int .i64 (Lib.bitLen x.toNat)) ∧ w' = w := Any.bits_Len Tryd.lays125 x w h0 h1
def Tryd.lays215_ren : Go.Shelf.Ren := ⟨fun | 215 => 61 | n => n, fun | 3 => 3 | 4 => 4 | n => n, fun | n => n⟩
theorem Tryd.lays215 : Go.Proofs.Lays.n215 Tryd.prog Tryd.lays215_ren := {
  mixed := by kernel_rfl
  f215 := Tryd.func61.trans (congrArg some (by kernel_rfl))
  t3 := Tryd.underlying3
  a3 := Tryd.isAgg3
  z3 := Tryd.sizeOf3
  v3 := Tryd.zeroValue3
  t4 := Tryd.underlying4
  a4 := Tryd.isAgg4
  z4 := Tryd.sizeOf4
  v4 := Tryd.zeroValue4 }
open Go.RowKit in
theorem Tryd.cmp_isNaN_int (x : Int) (w : World) :
    Calls Tryd.prog 61 #[.int .i64 x] w fun e w' => e = .returned (.bool false) ∧ w' = w := Any.cmp_isNaN_int Tryd.lays215 x w
def Tryd.lays122_ren : Go.Shelf.Ren := ⟨fun | 122 => 43 | 215 => 61 | n => n, fun | 3 => 3 | 4 => 4 | n => n, fun | n => n⟩
theorem Tryd.lays122 : Go.Proofs.Lays.n122 Tryd.prog Tryd.lays122_ren := {
  mixed := by kernel_rfl
  f122 := Tryd.func43.trans (congrArg some (by kernel_rfl))
  f215 := Tryd.func61.trans (congrArg some (by kernel_rfl))
  t3 := Tryd.underlying3
  a3 := Tryd.isAgg3
  z3 := Tryd.sizeOf3
  v3 := Tryd.zeroValue3
  t4 := Tryd.underlying4
  a4 := Tryd.isAgg4
  z4 := Tryd.sizeOf4
  v4 := Tryd.zeroValue4 }
open Go.RowKit in
theorem Tryd.cmp_Compare_int (x y : Int) (w : World) :
    Calls Tryd.prog 43 #[.int .i64 x, .int .i64 y] w fun e w' => e = .returned (.int .i64 (Lib.compareInt x y)) ∧ w' = w := Any.cmp_Compare_int Tryd.lays122 x y w
def Tryd.lays129_ren : Go.Shelf.Ren := ⟨fun | 129 => 75 | n => n, fun | 53 => 99 | 3 => 3 | 4 => 4 | 46 => 112 | 5 => 5 | 9 => 9 | n => n, fun | n => n⟩
theorem Tryd.lays129 : Go.Proofs.Lays.n129 Tryd.prog Tryd.lays129_ren := {
  mixed := by kernel_rfl
  f129 := Tryd.func75.trans (congrArg some (by kernel_rfl))
  t3 := Tryd.underlying3
  a3 := Tryd.isAgg3
  z3 := Tryd.sizeOf3
  v3 := Tryd.zeroValue3
  t4 := Tryd.underlying4
  a4 := Tryd.isAgg4
  z4 := Tryd.sizeOf4
  v4 := Tryd.zeroValue4
  t5 := Tryd.underlying5
  a5 := Tryd.isAgg5
  z5 := Tryd.sizeOf5
  v5 := Tryd.zeroValue5
  t9 := Tryd.underlying9
  a9 := Tryd.isAgg9
  z9 := Tryd.sizeOf9
  v9 := Tryd.zeroValue9
  t46 := Tryd.underlying112
  a46 := Tryd.isAgg112
  z46 := Tryd.sizeOf112
  v46 := Tryd.zeroValue112
  t53 := Tryd.underlying99
  a53 := Tryd.isAgg99
  z53 := Tryd.sizeOf99
  v53 := Tryd.zeroValue99 }
theorem Tryd.bits_Len64 (x : Int) (w : World) (h0 : 0 ≤ x) (h1 : x ≤ 18446744073709551615) :
    Calls Tryd.prog 75 #[.int .u64 x] w fun e w' => e = .returned (.int .i64 (Lib.bitLen x.toNat)) ∧ w' = w := Any.bits_Len64 Tryd.lays129 x w h0 h1
def Tryd.laysNm237_ren : Go.Shelf.Ren := ⟨fun | 37 => 61 | n => n, fun | 3 => 3 | 4 => 4 | n => n, fun | n => n⟩
theorem Tryd.laysNm237 : Go.Proofs.Lays2.n37 Tryd.prog Tryd.laysNm237_ren := {
  mixed := by kernel_rfl
  f37 := Tryd.func61.trans (congrArg some (by kernel_rfl))
  t3 := Tryd.underlying3
  a3 := Tryd.isAgg3
  z3 := Tryd.sizeOf3
  v3 := Tryd.zeroValue3
  t4 := Tryd.underlying4
  a4 := Tryd.isAgg4
  z4 := Tryd.sizeOf4
  v4 := Tryd.zeroValue4 }
open Go.RowKit Go.Lib in
theorem Tryd.cmp_isNaN_int2 (x : Int) (w : World) :
    Calls Tryd.prog 61 #[.int .i64 x] w fun e w' => e = .returned (.bool false) ∧ w' = w := Any.cmp_isNaN_int2 Tryd.laysNm237 x w
end Go.Proofs
/- Contract of slices.SortFunc of at most twelve edges by a view's comparison. -/
namespace Go.Proofs.YtladdlkfnfdhaaaDoor
open Go.RowKit Go.Maps
attribute [local go_sem ↓] Go.wp_at_zero Go.wp_at_succ
/-- slices.SortFunc sorts rows of up to m edges. -/
def SortOk (m : Nat) : Prop := ∀ (f : Nat) (vw : Sy.Ed → Sy.Ed), ViewAt f vw → ∀ (g cap : Nat) (d : Array Sy.Ed) (rest : List Value) (w0 w : World), RowE w0 w g d rest → d.size ≤ m →
  Calls Tryd.prog 38 #[.slice (some ⟨g, 0, none⟩) d.size cap, cmpV f] w fun r w' => r = .returned (.tuple #[]) ∧ ∃ d', Sort.PermIn 0 d.size d d' ∧ Sort.SortedIn (ltV vw) 0 d.size d' ∧ RowE w0 w' g d' rest
theorem SortOk.mono {m n : Nat} (h : SortOk m) (hn : n ≤ m) : SortOk n := fun f vw hV g cap d rest w0 w hR hd => h f vw hV g cap d rest w0 w hR (Nat.le_trans hd hn)
set_option maxRecDepth 100000 in
set_option maxHeartbeats 1000000 in
theorem pdqSmall_any (f : Nat) (vw : Sy.Ed → Sy.Ed) (hV : ViewAt f vw) (g cap a b : Nat) (lim : Int) (d : Array Sy.Ed) (rest : List Value) (w0 w : World) (hR : RowE w0 w g d rest) (hab : a ≤ b) (hb : b ≤ d.size) (hsz : d.size ≤ 1000000) (h12 : b - a ≤ 12) :
    Calls Tryd.prog 58 #[.slice (some ⟨g, 0, none⟩) d.size cap, .int .i64 a, .int .i64 b, .int .i64 lim, cmpV f] w fun r w' => r = .returned (.tuple #[]) ∧ RowE w0 w' g (Sort.insertionSort (ltV vw) d a b) rest := by
  have hI := insSort_any f vw hV g cap a b d rest w0 w hR hab hb hsz
  generalize Sort.insertionSort (ltV vw) d a b = d' at hI ⊢
  unfold cmpV at hI ⊢
  have p1 : IntKind.i64.wrap ((b : Int) - (a : Int)) = (b : Int) - (a : Int) := by rw [IntKind.wrap_i64]; omega
  have p2 : (b : Int) - (a : Int) ≤ 12 := by omega
  have HI : Hid _ := hI
  clear hI hR
  go_enter Tryd.func58, Tryd.ntmps58
  go_wp2_with fail
  go_loopg [1, 2] 0 (fun _ av bv wr => av = .int .i64 (a : Int) ∧ bv = .int .i64 (b : Int) ∧ wr = w)
  case atStart => exact ⟨rfl, rfl, rfl⟩
  case round =>
    obtain ⟨rfl, rfl, rfl⟩ := hrel
    go_wp2_with (go_at_call 66; refine Calls.mono HI.out ?_; rintro r w1 ⟨rfl, hR1⟩)
    exact bodyPost_ret (results_none rfl _ _ _) rfl ⟨rfl, hR1⟩
set_option maxRecDepth 100000 in
set_option maxHeartbeats 1000000 in
theorem sort12 : SortOk 12 := fun f vw hV g cap d rest w0 w hR hd => by
  have hL := Tryd.bits_Len (d.size : Int) w (by omega) (by omega)
  have hP := fun lim => pdqSmall_any f vw hV g cap 0 d.size lim d rest w0 w hR (Nat.zero_le _) (Nat.le_refl _) (by omega) (by omega)
  have hI := Sort.insertionSort_holds (lt := ltV vw) (swoV vw) d 0 d.size (Nat.zero_le _) (Nat.le_refl _)
  generalize Sort.insertionSort (ltV vw) d 0 d.size = d' at hP hI
  generalize Lib.bitLen _ = bl at hL
  have wr : IntKind.u64.wrap (d.size : Int) = d.size := by simp [IntKind.wrap, IntKind.bits, IntKind.signed]; omega
  unfold cmpV at hP ⊢
  have HI : Hid _ := And.intro hP (And.intro hL hI)
  clear hP hI hL hR
  go_enter Tryd.func38, Tryd.ntmps38
  go_wp2_with (first
    | (go_at_call 59; refine Calls.mono HI.out.2.1 ?_; rintro r w1 ⟨rfl, hw1⟩; obtain rfl := hw1.symm)
    | (go_at_call 58; refine Calls.mono (HI.out.1 _) ?_; rintro r w1 ⟨rfl, hR1⟩))
  go_end0
  exact ⟨rfl, d', HI.out.2.2.1, HI.out.2.2.2, hR1⟩
end Go.Proofs.YtladdlkfnfdhaaaDoor
/- Contracts of slices.Clone of edges and of steps. (Written by mkclone.py.) -/
namespace Go.Proofs.YtladdlkfnfdhaaaDoor
open Go.RowKit Go.Maps
theorem Tryd.infoClEdges : (Tryd.prog.info? 46).map (fun i => (i.zero, i.size, i.bytes)) = some (some (.agg #[.int .i64 0, .int .i64 0, .int .i64 0]), 3, 24) := by kernel_rfl
theorem Tryd.eqClEdges (w : World) (a : Option Addr) (n c n' c' : Nat) : (binOp .eql 22 (.slice a n c) (.slice none n' c')).run Tryd.prog w = .ok (.bool a.isNone) w := Lib.run_eql_slice_nil w _ _ a n c n' c' Tryd.underlying22
set_option maxRecDepth 100000 in
set_option maxHeartbeats 1000000 in
theorem cloneEdges_any (v : Value) (es : List BEdges.El) (w : World) (hn : es.length ≤ 1000000) (hv : BEdges.Has w v es) :
    Calls Tryd.prog 37 #[v] w fun r w' => ∃ u, r = .returned u ∧ BEdges.Own w' w.heap.size u es ∧ Below w.heap.size w w' := by
  obtain ⟨i0, hi0, hz0, hz1, hz2⟩ := info_parts Tryd.infoClEdges
  obtain ⟨ao, cap, rfl, _⟩ := _root_.id hv
  have hq := Tryd.eqClEdges
  have hl := BEdges.C_len es
  cases ao with
  | none =>
    have h0 : es = [] := by
      have h1 := (BEdges.copy_of hv).1 rfl
      exact List.eq_nil_of_length_eq_zero h1
    subst h0
    clear hv
    go_enter Tryd.func37, Tryd.ntmps37
    go_wp2
    go_ret
    exact ⟨_, rfl, World.ownsRow_nil _ _ _ _, Below.refl _ _⟩
  | some a =>
    have hcs := (BEdges.copy_of hv).2 a rfl
    obtain ⟨n, hN⟩ : ∃ n, n = es.length := ⟨_, rfl⟩
    have A : Aside (∀ j u, (BEdges.C es)[j]? = some u → w.cell? (a.add j) = some u) := hcs
    have HN : Hid _ := hN
    rw [← hN] at hn hl ⊢
    clear hv hcs hN
    go_enter Tryd.func37, Tryd.ntmps37
    go_wp2_with (at_builtin; refine wpList_append_own _ rfl _ _ 22 rfl w.heap.size 46 i0 (.agg #[.int .i64 0, .int .i64 0, .int .i64 0]) 3 24 Tryd.underlying22 hi0 hz0 hz1 hz2 rfl (by decide) _ _ _ rfl (World.ownsRow_made w #[] 0 (Nat.le_refl _) (Nat.zero_le _) (by simp)) a n cap (BEdges.C es) rfl ?qc1 ?qc2 ?qc3 ?qc4 ?qc5 ?qc6 ?_)
    case qc1 => exact hl
    case qc2 =>
      intro j u hj
      have h1 := A.out j u hj
      exact (((Below.refl _ w).alloc (Nat.le_refl _) _).cell (World.block_lt_of_cell? w _ h1)).trans h1
    case qc3 => exact BEdges.C_one es
    case qc4 => unfold maxLen; omega
    case qc5 => omega
    case qc6 => simp
    intro v' w1 hown hgrow hnil
    go_wp2
    go_ret
    refine ⟨v', rfl, ?_, ?_⟩
    · have h1 := hown
      rw [HN.out] at h1
      exact h1
    · exact ((Below.refl _ w).alloc (Nat.le_refl _) _).grown hgrow (by simp) (by intro k hk; simp [Value.ownBlock] at hk; omega)
theorem Tryd.infoClSteps : (Tryd.prog.info? 42).map (fun i => (i.zero, i.size, i.bytes)) = some (some (.agg #[.int .i64 0, .int .i64 0]), 2, 16) := by kernel_rfl
theorem Tryd.eqClSteps (w : World) (a : Option Addr) (n c n' c' : Nat) : (binOp .eql 39 (.slice a n c) (.slice none n' c')).run Tryd.prog w = .ok (.bool a.isNone) w := Lib.run_eql_slice_nil w _ _ a n c n' c' Tryd.underlying39
set_option maxRecDepth 100000 in
set_option maxHeartbeats 1000000 in
theorem cloneSteps_any (v : Value) (es : List BSteps.El) (w : World) (hn : es.length ≤ 1000000) (hv : BSteps.Has w v es) :
    Calls Tryd.prog 24 #[v] w fun r w' => ∃ u, r = .returned u ∧ BSteps.Own w' w.heap.size u es ∧ Below w.heap.size w w' := by
  obtain ⟨i0, hi0, hz0, hz1, hz2⟩ := info_parts Tryd.infoClSteps
  obtain ⟨ao, cap, rfl, _⟩ := _root_.id hv
  have hq := Tryd.eqClSteps
  have hl := BSteps.C_len es
  cases ao with
  | none =>
    have h0 : es = [] := by
      have h1 := (BSteps.copy_of hv).1 rfl
      exact List.eq_nil_of_length_eq_zero h1
    subst h0
    clear hv
    go_enter Tryd.func24, Tryd.ntmps24
    go_wp2
    go_ret
    exact ⟨_, rfl, World.ownsRow_nil _ _ _ _, Below.refl _ _⟩
  | some a =>
    have hcs := (BSteps.copy_of hv).2 a rfl
    obtain ⟨n, hN⟩ : ∃ n, n = es.length := ⟨_, rfl⟩
    have A : Aside (∀ j u, (BSteps.C es)[j]? = some u → w.cell? (a.add j) = some u) := hcs
    have HN : Hid _ := hN
    rw [← hN] at hn hl ⊢
    clear hv hcs hN
    go_enter Tryd.func24, Tryd.ntmps24
    go_wp2_with (at_builtin; refine wpList_append_own _ rfl _ _ 39 rfl w.heap.size 42 i0 (.agg #[.int .i64 0, .int .i64 0]) 2 16 Tryd.underlying39 hi0 hz0 hz1 hz2 rfl (by decide) _ _ _ rfl (World.ownsRow_made w #[] 0 (Nat.le_refl _) (Nat.zero_le _) (by simp)) a n cap (BSteps.C es) rfl ?qc1 ?qc2 ?qc3 ?qc4 ?qc5 ?qc6 ?_)
    case qc1 => exact hl
    case qc2 =>
      intro j u hj
      have h1 := A.out j u hj
      exact (((Below.refl _ w).alloc (Nat.le_refl _) _).cell (World.block_lt_of_cell? w _ h1)).trans h1
    case qc3 => exact BSteps.C_one es
    case qc4 => unfold maxLen; omega
    case qc5 => omega
    case qc6 => simp
    intro v' w1 hown hgrow hnil
    go_wp2
    go_ret
    refine ⟨v', rfl, ?_, ?_⟩
    · have h1 := hown
      rw [HN.out] at h1
      exact h1
    · exact ((Below.refl _ w).alloc (Nat.le_refl _) _).grown hgrow (by simp) (by intro k hk; simp [Value.ownBlock] at hk; omega)
end Go.Proofs.YtladdlkfnfdhaaaDoor
/- Contract of the program's ordered: a new list of the same edges, in the order of a view. -/
namespace Go.Proofs.YtladdlkfnfdhaaaDoor
open Go.RowKit Go.Maps
attribute [local go_sem ↓] Go.wp_at_zero Go.wp_at_succ
/-- A row of one's own, and what lies behind its edges. -/
theorem row_of_own {w wr : World} {g n cap : Nat} {es : List Sy.Ed} (h : BEdges.Own wr w.heap.size (.slice (some ⟨g, 0, none⟩) n cap) es) (hb : Below w.heap.size w wr) : ∃ rest, RowE w wr g es.toArray rest ∧ n = es.length ∧ (es.length * 3 + rest.length = cap * 3) ∧ es.length ≤ cap ∧ cap ≤ maxLen := by
  rcases h.2 with ⟨e, _⟩ | ⟨g', cap', cur, e, hg, hc, h1, h2, h3, h4⟩
  · cases e
  injection e with e1 e2 e3
  have e4 := Option.some.inj e1
  injection e4 with e5
  subst e5; subst e3
  refine ⟨cur.toList.drop (es.length * 3), ⟨hb, ⟨cur, hc, ?_⟩, hg⟩, e2, ?_, h1, h2⟩
  · rw [← h4, List.take_append_drop]
  · have h5 : cur.toList.length = cap * 3 := by simpa using h3
    rw [List.length_drop, h5]; omega
theorem own_of_row {w wr : World} {g cap : Nat} {d : Array Sy.Ed} {rest : List Value} (h : RowE w wr g d rest) (hr : d.size * 3 + rest.length = cap * 3) (hc : d.size ≤ cap) (hm : cap ≤ maxLen) : BEdges.Own wr w.heap.size (.slice (some ⟨g, 0, none⟩) d.size cap) d.toList := by
  obtain ⟨hb, ⟨cs, h1, h2⟩, hg⟩ := h
  have hl := BEdges.C_len d.toList
  have hd : d.toList.length = d.size := Array.length_toList
  refine ⟨hl, .inr ⟨g, cap, cs, by rw [hd], hg, h1, by rw [hd]; exact hc, hm, ?_, ?_⟩⟩
  · rw [← Array.length_toList, h2, List.length_append, hl, hd]; exact hr
  · rw [h2, hd, ← hd, ← hl, List.take_left]
set_option maxRecDepth 100000 in
set_option maxHeartbeats 1000000 in
theorem insNone_any (ao : Option Addr) (cap : Nat) (u : Value) (w : World) : Calls Tryd.prog 66 #[.slice ao 0 cap, .int .i64 0, .int .i64 0, u] w fun r w' => r = .returned (.tuple #[]) ∧ w' = w := by
  go_enter Tryd.func66, Tryd.ntmps66
  go_wp2_with fail
  go_loopg [8] 0 (fun _ iv wr => iv = .int .i64 1 ∧ wr = w)
  case atStart => exact ⟨rfl, rfl⟩
  case round =>
    obtain ⟨rfl, rfl⟩ := hrel
    go_wp2
    go_end0
    exact ⟨rfl, rfl⟩
set_option maxRecDepth 100000 in
set_option maxHeartbeats 1000000 in
theorem pdqNone_any (ao : Option Addr) (cap : Nat) (lim : Int) (u : Value) (w : World) : Calls Tryd.prog 58 #[.slice ao 0 cap, .int .i64 0, .int .i64 0, .int .i64 lim, u] w fun r w' => r = .returned (.tuple #[]) ∧ w' = w := by
  have hI := insNone_any ao cap u w
  have HI : Hid _ := hI
  clear hI
  go_enter Tryd.func58, Tryd.ntmps58
  go_wp2_with fail
  go_loopg [1, 2] 0 (fun _ av bv wr => av = .int .i64 0 ∧ bv = .int .i64 0 ∧ wr = w)
  case atStart => exact ⟨rfl, rfl, rfl⟩
  case round =>
    obtain ⟨rfl, rfl, rfl⟩ := hrel
    go_wp2_with (go_at_call 66; refine Calls.mono HI.out ?_; rintro r w1 ⟨rfl, hw1⟩; obtain rfl := hw1.symm)
    exact bodyPost_ret (results_none rfl _ _ _) rfl ⟨rfl, rfl⟩
set_option maxRecDepth 100000 in
set_option maxHeartbeats 1000000 in
theorem sortNone_any (ao : Option Addr) (cap : Nat) (u : Value) (w : World) : Calls Tryd.prog 38 #[.slice ao 0 cap, u] w fun r w' => r = .returned (.tuple #[]) ∧ w' = w := by
  have hL := Tryd.bits_Len 0 w (by omega) (by omega)
  have hP := fun lim => pdqNone_any ao cap lim u w
  generalize Lib.bitLen _ = bl at hL
  have HI : Hid _ := And.intro hP hL
  clear hP hL
  go_enter Tryd.func38, Tryd.ntmps38
  go_wp2_with (first
    | (go_at_call 59; refine Calls.mono HI.out.2 ?_; rintro r w1 ⟨rfl, hw1⟩; obtain rfl := hw1.symm)
    | (go_at_call 58; refine Calls.mono (HI.out.1 _) ?_; rintro r w1 ⟨rfl, hw1⟩; obtain rfl := hw1.symm))
  go_end0
  exact ⟨rfl, rfl⟩
/-- The same edges, in the order of a view. -/
def InOrder (vw : Sy.Ed → Sy.Ed) (es os : List Sy.Ed) : Prop := os.Perm es ∧ os.Pairwise fun x y => ltV vw y x = false
theorem inOrder_of {vw : Sy.Ed → Sy.Ed} {es : List Sy.Ed} {d' : Array Sy.Ed} (hp : Sort.PermIn 0 es.toArray.size es.toArray d') (hs : Sort.SortedIn (ltV vw) 0 es.toArray.size d') : InOrder vw es d'.toList ∧ d'.size = es.length := by
  have hsz : d'.size = es.length := by simpa using hp.1
  refine ⟨⟨?_, ?_⟩, hsz⟩
  · have h := hp.2.2
    simp only [List.size_toArray] at h
    have e1 : (d'.extract 0 es.length).toList = d'.toList := by
      rw [← hsz]; simp
    have e2 : (es.toArray.extract 0 es.length).toList = es := by simp
    rw [e1, e2] at h
    exact h
  · rw [List.pairwise_iff_getElem]
    intro i j hi hj hij
    have hi' : i < d'.size := by simpa using hi
    have hj' : j < d'.size := by simpa using hj
    have h := hs i j (Nat.zero_le _) hij (by simp; omega)
    rw [getElem!_pos d' i hi', getElem!_pos d' j hj'] at h
    simpa using h
set_option maxRecDepth 100000 in
set_option maxHeartbeats 2000000 in
theorem ordered_any {M : Nat} (hS : SortOk M) (f : Nat) (vw : Sy.Ed → Sy.Ed) (hV : ViewAt f vw) (v : Value) (es : List Sy.Ed) (w : World) (hM : es.length ≤ M) (hn : es.length ≤ 1000000) (hv : BEdges.Has w v es) :
    Calls Tryd.prog 22 #[v, .func (.func f) #[] #[]] w fun r w' => ∃ u os, r = .returned u ∧ InOrder vw es os ∧ BEdges.Own w' w.heap.size u os ∧ Below w.heap.size w w' := by
  have hC := cloneEdges_any v es w hn hv
  have HC : Hid _ := And.intro hC (And.intro hS hV)
  obtain ⟨av, cv, rfl, _⟩ := hv
  clear hC hS hV
  go_enter Tryd.func22, Tryd.ntmps22
  go_wp2_with (go_at_call 37; refine Calls.mono HC.out.1 ?_; rintro r w1 ⟨u, rfl, hO, hb⟩; obtain ⟨ao, cap, rfl⟩ := row_shape hO)
  by_cases h0 : es = []
  · subst h0
    have hN := sortNone_any ao cap (.func (.func 39) #[.func (.func f) #[] #[]] #[]) w1
    have HO : Hid _ := And.intro hO (And.intro hb hN)
    clear hO hb hN
    simp only [List.length_nil]
    refine Calls.mono HO.out.2.2 ?_
    rintro r w2 ⟨rfl, hw2⟩
    obtain rfl := hw2.symm
    go_wp2_with fail
    go_ret
    exact ⟨_, [], rfl, ⟨.refl _, .nil⟩, HO.out.1, HO.out.2.1⟩
  · have hao : ∃ g, ao = some ⟨g, 0, none⟩ := by
      rcases hO.2 with ⟨_, e⟩ | ⟨g, cap', cur, e, _⟩
      · exact absurd (List.eq_nil_of_length_eq_zero e) h0
      · injection e with e1; exact ⟨g, e1⟩
    obtain ⟨g, rfl⟩ := hao
    obtain ⟨rest, hR, _, h3, h4, h5⟩ := row_of_own hO hb
    have hSo := HC.out.2.1 f vw HC.out.2.2 g cap es.toArray rest w w1 hR (by simpa using hM)
    have HO : Hid _ := And.intro hSo (And.intro h3 (And.intro h4 h5))
    unfold cmpV at HO
    simp only [List.size_toArray] at HO
    clear hO hb hR h3 h4 h5 hSo
    refine Calls.mono HO.out.1 ?_
    rintro r w2 ⟨rfl, d', hp, hs, hR2⟩
    obtain ⟨hI, hd⟩ := inOrder_of (by simpa using hp) (by simpa using hs)
    have H2 : Hid _ := And.intro hR2 (And.intro hI hd)
    clear hR2 hI hd hp hs
    go_wp2_with fail
    go_ret
    have hd := H2.out.2.2
    have how := own_of_row (cap := cap) H2.out.1 (by rw [hd]; exact HO.out.2.1) (by rw [hd]; exact HO.out.2.2.1) HO.out.2.2.2
    rw [hd] at how
    exact ⟨_, d'.toList, rfl, H2.out.2.1, how, H2.out.1.bl⟩
end Go.Proofs.YtladdlkfnfdhaaaDoor
