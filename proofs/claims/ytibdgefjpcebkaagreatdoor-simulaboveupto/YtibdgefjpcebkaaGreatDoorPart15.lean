/- Texts of this claim, joined: SyArg, SmLaid, SmAb2, SoPiv, SoHeap, SoHeap2, SoPiv2. -/
import Derived.Test.YtibdgefjpcebkaaGreatDoorPart14
import Derived.Test.YtibdgefjpcebkaaGreatDoorPart5
import Derived.Lib.SmallJoins
import Derived.Deep.Slices
import Derived.Test.YtibdgefjpcebkaaGreatDoorPart10
import Derived.Lib.LaidTab
import Derived.BigRegion
namespace Go.Proofs.YtibdgefjpcebkaaGreatDoor
section
open Go.ChangeShapes Go.WideShapes Go.ChangeAt Go.WideMaps Go.WideElems Go.RowKit
theorem Tryz.cEdge : Tryz.prog.cellsOf 66 = 3 := by kernel_rfl
theorem Tryz.cSys : Tryz.prog.cellsOf 24 = 4 := by kernel_rfl
theorem ed_choose {n : Nat} {p : Nat → Sy.Ed → Prop} (h : ∀ i, i < n → ∃ x, p i x) : ∃ f : Nat → Sy.Ed, ∀ i, i < n → p i (f i) := by
  classical
  refine ⟨fun i => if hi : i < n then Classical.choose (h i hi) else (0, 0, 0), fun i hi => ?_⟩
  simp only [hi, dif_pos]
  exact Classical.choose_spec (h i hi)
set_option maxRecDepth 100000 in
theorem edge_in {H : Type} {enc : TypeId × Value → H} {W : World} {fuel i : Nat} {a : Addr} {cs : List Value} {x : DataW H × List MemPlace} (hc : W.cells? 0 (a.add (i * 3)) 3 = some cs) (h : DataW.trod enc Tryz.prog W 0 (fun _ => true) true fuel 66 cs = some x) :
    ∃ z : Sy.Ed, ∀ q u, (BEdges.enc z)[q]? = some u → W.cell? (a.add (i * 3 + q)) = some u := by
  obtain ⟨_, hlen, hcell⟩ := World.cells?_some hc
  obtain ⟨xs, k, hk, _, _, hxl, hf⟩ := DataW.trod_struct Tryz.underlying66 h
  match xs, hxl, cs, hlen with
  | [y0, y1, y2], _, [v0, v1, v2], _ =>
    have g0 := hf 0 _ rfl
    have g1 := hf 1 _ rfl
    have g2 := hf 2 _ rfl
    simp [Tryz.cIntE] at g0 g1 g2
    obtain ⟨z0, e0, _⟩ := DataW.trod_int Tryz.underlying3 g0
    obtain ⟨z1, e1, _⟩ := DataW.trod_int Tryz.underlying3 g1
    obtain ⟨z2, e2, _⟩ := DataW.trod_int Tryz.underlying3 g2
    obtain rfl : v0 = .int .i64 z0 := by simpa using e0
    obtain rfl : v1 = .int .i64 z1 := by simpa using e1
    obtain rfl : v2 = .int .i64 z2 := by simpa using e2
    have c0 := hcell 0 (by omega)
    have c1 := hcell 1 (by omega)
    have c2 := hcell 2 (by omega)
    rw [Go.Deep.add_add] at c0 c1 c2
    refine ⟨(z0, z1, z2), fun q u hq => ?_⟩
    match q, hq with
    | 0, hq => cases hq; simpa using c0
    | 1, hq => cases hq; simpa using c1
    | 2, hq => cases hq; simpa using c2
    | q + 3, hq => simp [BEdges.enc] at hq
set_option maxRecDepth 100000 in
theorem edges_in {H : Type} {enc : TypeId × Value → H} {W : World} {fuel : Nat} {v : Value} {x : DataW H × List MemPlace} (h : DataW.trod enc Tryz.prog W 0 (fun _ => true) true fuel 22 [v] = some x) : ∃ es, HasE W v es ∧ es.length ≤ maxLen := by
  rcases Go.Deep.open_slice Tryz.underlying22 h with ⟨hc, _⟩ | ⟨a, len, cap, m, n, D, Pl, hc, _, hl, hm, hmm, _, hx⟩
  · obtain rfl : v = .slice none 0 0 := by injection hc
    exact ⟨[], ⟨none, 0, rfl, Nat.le_refl _, none, 0, rfl, fun i s h => by simp [BEdges.C] at h⟩, by simp⟩
  · obtain rfl : v = .slice (some a) len cap := by injection hc
    have hm' : m = cap := by simpa using hmm
    rw [Tryz.cEdge] at hx
    have each : ∀ i, i < len → ∃ z : Sy.Ed, ∀ q u, (BEdges.enc z)[q]? = some u → W.cell? (a.add (i * 3 + q)) = some u := fun i hi => by
      obtain ⟨cs, h1, h2⟩ := hx i (by omega)
      exact edge_in h1 h2
    obtain ⟨f, hf'⟩ := ed_choose each
    have hL : ((List.range len).map f).length = len := by simp
    refine ⟨(List.range len).map f, ⟨some a, cap, by rw [hL], by rw [hL]; omega, some a, cap, by rw [hL], fun j u hj => ⟨a, rfl, ?_⟩⟩, by rw [hL]; omega⟩
    have hj3 : j < len * 3 := by have := (List.getElem?_eq_some_iff.1 hj).1; rw [BEdges.C_len, hL] at this; exact this
    have hi : j / 3 < len := by omega
    have hz : ((List.range len).map f)[j / 3]? = some (f (j / 3)) := by rw [List.getElem?_map, List.getElem?_range hi]; rfl
    have h9 := BEdges.C_at _ _ _ hz (j % 3) (Nat.mod_lt _ (by decide))
    have e9 : j / 3 * 3 + j % 3 = j := by omega
    rw [e9, hj] at h9
    have h8 := hf' (j / 3) hi (j % 3) u h9.symm
    rw [e9] at h8
    exact h8
set_option maxRecDepth 100000 in
theorem has_sys {H : Type} {enc : TypeId × Value → H} {W : World} {base : Nat} {v : Value} {d : DataW H} {ps : List MemPlace} (hok : Value.okWide Tryz.prog W .any base 24 v) (h : DataW.Trod enc Tryz.prog W 0 (fun _ => true) true 24 v d ps) :
    ∃ (n k s : Int) (u : Value) (es : List Sy.Ed), v = sysV n k s u ∧ HasE W u es ∧ es.length ≤ maxLen := by
  obtain ⟨v0, v1, v2, v3, y0, y1, y2, y3, f, rfl, _, _, t0, t1, t2, t3⟩ := Go.Joins.open_agg4 Tryz.underlying24 (by kernel_rfl) Tryz.cSys hok h
  obtain ⟨z0, e0, _⟩ := DataW.trod_int Tryz.underlying3 t0
  obtain ⟨z1, e1, _⟩ := DataW.trod_int Tryz.underlying3 t1
  obtain ⟨z2, e2, _⟩ := DataW.trod_int Tryz.underlying3 t2
  obtain rfl : v0 = .int .i64 z0 := by simpa using e0
  obtain rfl : v1 = .int .i64 z1 := by simpa using e1
  obtain rfl : v2 = .int .i64 z2 := by simpa using e2
  obtain ⟨es, h1, h2⟩ := edges_in t3
  exact ⟨z0, z1, z2, v3, es, rfl, h1, h2⟩
end
section
open Go.ChangeShapes Go.WideShapes Go.ChangeAt Go.WideMaps Go.WideElems Go.RowKit
theorem laid_tail9 {W : World} {x : String × DataW Unit} {r : List (String × DataW Unit)} (h : laidMet Tryz.prog (x :: r) W) : laidMet Tryz.prog r W := by
  obtain ⟨ps, ⟨g, t, cs, fuel, p, q, _, _, _, _, hr, rfl⟩, hn, ho⟩ := h
  exact ⟨q, hr, (List.nodup_append.1 hn).2.1, fun b off hb => ho b off (List.mem_append_right _ hb)⟩
theorem Tryz.gTab : Tryz.prog.globalNamed "math/bits.deBruijn64tab" = some 10 := by kernel_rfl
theorem Tryz.tTab : (Tryz.prog.globals[10]?).map (·.type) = some 177 := by kernel_rfl
theorem Tryz.cTabE : Tryz.prog.cellsOf 5 = 1 := by kernel_rfl
theorem Tryz.cTab : Tryz.prog.cellsOf 177 = 64 := by kernel_rfl
def tabZ : List Int := Lib.deBruijn64tab.map fun (n : Nat) => Int.ofNat n
theorem tabZ_at : ∀ j, j < 64 → tabZ.getD j 0 = ((Lib.deBruijn64tab.getD j 0 : Nat) : Int) := by decide +kernel
theorem tab_of {W : World} {r : List (String × DataW Unit)} (h : laidMet Tryz.prog (("math/bits.deBruijn64tab", Lib.tabData .u8 tabZ) :: r) W) : TabW W := fun j hj => by
  have h1 := (Lib.tabIs_of_head Tryz.gTab Tryz.tTab Tryz.underlying177 Tryz.underlying5 Tryz.cTabE Tryz.cTab h).cell Tryz.gTab j (by simpa [tabZ, Lib.deBruijn64tab] using hj)
  rw [tabZ_at j hj] at h1
  exact h1
abbrev eI9 (x : List UInt8) : DataW Unit := .iface "*errors.errorString" (.ptr (.agg [.lit (.string x)]))
theorem hasE_has {w : World} {v : Value} {es : List Sy.Ed} (h : HasE w v es) : BEdges.Has w v es := by
  obtain ⟨_, _, _, _, h⟩ := h
  exact h
end
section
open Go.RowKit Go.Maps
theorem simulA_of {W : World} {r : List (String × DataW Unit)} (h : laidMet Tryz.prog (("math/bits.deBruijn64tab", Lib.tabData .u8 tabZ) :: r) W) : TabW W ∧ laidMet Tryz.prog r W := ⟨tab_of h, laid_tail9 h⟩
theorem lightM_len {n : Int} {L : Nat} {ok : Bool} (h : lightM n L ok = true) : L ≤ 11000 := by
  unfold lightM at h
  simp only [Bool.or_eq_true, Bool.and_eq_true, decide_eq_true_eq] at h
  omega
theorem lawAbove_any (hS : SortOk 1000000) (n k s p q : Int) (v : Value) (es : List Sy.Ed) (e : Nat → Addr) (w : World) (hE : Er 19 w e) (hT : TabW w) (hv : HasE w v es) :
    Calls Tryz.prog 3 #[sysV n k s v, .int .i64 p, .int .i64 q] w fun r w' => r = .returned (.bool true) ∧ Below w.heap.size w w' := by
  have hEnv : EnvM w (e 14) := ⟨hE.s14 (by decide), hT⟩
  have hH := hasE_has hv
  cases hli : lightM n es.length (Sy.right n k s es) with
  | false => exact lawAbove_out hS n k s p q v es (e 14) w hEnv hH hli
  | true =>
    have hlen := lightM_len hli
    have hAl := fun W (hb : Below w.heap.size w W) => alive17_any hS (e 14) W (hEnv.below hb)
    have hG := fun W (hb : Below w.heap.size w W) => docGuard_any n k s v es W (hH.below hb)
    cases hq : Sy.right n k s es with
    | false =>
      have eg : gdV n (Sy.right n k s es) = .agg #[.int .i64 14, .int .i64 0, .int .i64 0, .string smlB2] := by rw [hq]; rfl
      refine lawAbove_of n k s p q v es w false 14 smlB2 0 (fun _ _ => false) [] false _ rfl hAl hH hlen hli (fun W hb => by have h := hG W hb; rw [eg] at h; exact h) (fun h => by cases h) (fun h => by cases h) (fun _ => rfl) (fun _ => rfl) (by omega) (by simp) (fun h => by cases h) (fun u W hb hu => ?_) ?_ (.inl ⟨rfl, rfl, rfl⟩)
      · have h1 := ansA_bad hS n k s u es e W (hE.below hb) hu hlen hq
        have h2 := ansC_bad hS n k s u es e W (hE.below hb) hu hlen hq
        rw [eg] at h1 h2
        exact ⟨h1, h2⟩
      · have h1 := ansB_bad hS n k s p q v es e w hE hH hlen hq
        rw [eg] at h1
        exact h1
    | true =>
      have hp9 := right_parts hq
      obtain ⟨m, rfl⟩ : ∃ m : Nat, n = (m : Int) := ⟨n.toNat, by omega⟩
      obtain ⟨kk, rfl⟩ : ∃ kk : Nat, k = (kk : Int) := ⟨k.toNat, by omega⟩
      have hm1 : m ≤ 1000 := by omega
      by_cases hn : 300 < m
      · have eg : gdV m (Sy.right m kk s es) = .agg #[.int .i64 2, .int .i64 0, .int .i64 0, .string smlB1] := by
          rw [hq]
          unfold gdV
          rw [if_neg (by decide), if_pos (by omega)]
        refine lawAbove_of m kk s p q v es w false 2 smlB1 0 (fun _ _ => false) [] false _ rfl hAl hH hlen hli (fun W hb => by have h := hG W hb; rw [eg] at h; exact h) (fun h => by cases h) (fun h => by cases h) (fun _ => rfl) (fun _ => rfl) (by omega) (by simp) (fun h => by cases h) (fun u W hb hu => ?_) ?_ (.inl ⟨rfl, rfl, rfl⟩)
        · have h1 := ansA_long hS m kk s u es e W (hE.below hb) hu hlen hq hn
          have h2 := ansC_long hS m kk s u es e W (hE.below hb) hu hlen hq hn
          rw [eg] at h1 h2
          exact ⟨h1, h2⟩
        · have h1 := ansB_long hS m kk s p q v es e w hE hH hlen hq hn
          rw [eg] at h1
          exact h1
      · have hn3 : m ≤ 300 := by omega
        have eg : gdV m (Sy.right m kk s es) = .agg #[.int .i64 0, .int .i64 0, .int .i64 0, .string ⟨#[]⟩] := by
          rw [hq]
          unfold gdV
          rw [if_neg (by decide), if_neg (by omega)]
        have hIn := fun W (hb : Below w.heap.size w W) => docAbove_any m kk s v es W (hv.below hb) (by omega) hq
        have hCl := fun W (hb : Below w.heap.size w W) => docCls_any m kk s v es W (hv.below hb) (by omega) hq
        have hAn : ∀ u W, Below w.heap.size w W → BEdges.Has W u es → AnsA (sysV m kk s u) (rowsM m (simB (EE es))) (.agg #[.int .i64 0, .int .i64 0, .int .i64 0, .string ⟨#[]⟩]) W ∧ AnsC (sysV m kk s u) (natI (Sy.canon (leaL (simB (EE es)) m))) (.agg #[.int .i64 0, .int .i64 0, .int .i64 0, .string ⟨#[]⟩]) W := fun u W hb hu => by
          have h1 := ansA_ok hS m kk s u es e W (hE.below hb) (hT.below hT.lt hb) hu hlen hq hn3
          have h2 := ansC_ok hS m kk s u es e W (hE.below hb) (hT.below hT.lt hb) hu hlen hq hn3
          rw [eg] at h1 h2
          exact ⟨h1, h2⟩
        have hzl : (natI (Sy.canon (leaL (simB (EE es)) m))).length ≤ 1000000 := by
          have : (natI (Sy.canon (leaL (simB (EE es)) m))).length = m := by simp [natI, Sy.canon, Sy.canonG_len, leaL_len]
          omega
        have main := fun (bv : Bool) (evB : Value) (hB : AnsB (sysV m kk s v) p q bv evB w) (hEnd : EndC true m (simB (EE es)) p q bv (.agg #[.int .i64 0, .int .i64 0, .int .i64 0, .string ⟨#[]⟩]) evB) =>
          lawAbove_of m kk s p q v es w true 0 ⟨#[]⟩ m (simB (EE es)) (natI (Sy.canon (leaL (simB (EE es)) m))) bv evB rfl hAl hH hlen hli (fun W hb => by have h := hG W hb; rw [eg] at h; exact h) (fun _ W hb => (hIn W hb).mono fun r W' h => by
            obtain ⟨ao, c, hr, hb', hx⟩ := h
            exact ⟨ao, c, hr, hb', fun hM => by
              obtain ⟨g, b, e1, hx1⟩ := hx hM
              exact ⟨g, b, e1, fun p hp => ⟨(hx1.cellU hp hp).1, fun q hq => (hx1.cellU hp hq).2⟩⟩⟩) (fun _ => hCl) (fun h => by cases h) (fun h => by cases h) hm1 hzl (fun _ => rfl) hAn hB hEnd
        by_cases hr : 0 ≤ p ∧ p < (m : Int) ∧ 0 ≤ q ∧ q < (m : Int)
        · obtain ⟨P, rfl⟩ : ∃ P : Nat, p = (P : Int) := ⟨p.toNat, by omega⟩
          obtain ⟨Q, rfl⟩ : ∃ Q : Nat, q = (Q : Int) := ⟨q.toNat, by omega⟩
          have h1 := ansB_ok hS m kk P Q s v es e w hE hT hH hlen hq hn3 (by omega) (by omega)
          rw [eg] at h1
          exact main _ _ h1 (.inr (.inr ⟨rfl, P, Q, rfl, rfl, by omega, by omega, rfl, rfl⟩))
        · exact main _ _ (ansB_idx hS m kk s p q v es e w hE hT hH hlen hq hn3 hr) (.inr (.inl ⟨rfl, hr, rfl, rfl⟩))
end
section
open Go.RowKit Go.Maps
attribute [local go_sem ↓] Go.wp_at_zero Go.wp_at_succ
structure CnE (w0 wr : World) (g : Nat) (d : Array Sy.Ed) (rest : List Value) (c s : Nat) : Prop where
  row : RowE w0 wr g d rest
  cell : wr.heap[c]? = some (.cells #[.int .i64 s] 3 (0, 0))
  up : w0.heap.size ≤ c
theorem CnE.below {w0 wr w' : World} {g : Nat} {d : Array Sy.Ed} {rest : List Value} {c s : Nat} (h : CnE w0 wr g d rest c s) (hb : Below wr.heap.size wr w') : CnE w0 w' g d rest c s := ⟨h.row.below hb, (hb.block _ (t_lt h.cell)).trans h.cell, h.up⟩
theorem CnE.bump {w0 wr : World} {g : Nat} {d : Array Sy.Ed} {rest : List Value} {c s : Nat} (h : CnE w0 wr g d rest c s) (t : Nat) : CnE w0 (wr.setCell ⟨c, 0, none⟩ (.int .i64 t)) g d rest c t := by
  have hne : c ≠ g := fun e => by
    obtain ⟨cs, hc, _⟩ := h.row.ids
    have h1 := h.cell
    rw [e, hc] at h1
    injection h1 with h1
    injection h1 with _ h1
    exact absurd h1 (by decide)
  exact ⟨Arr.kept h.row (Kept.setCell _ _ _ _) fun b e => by subst e; exact ⟨h.up, hne⟩, heap_setCell_same _ _ 0 _ _ _ h.cell, h.up⟩
set_option maxRecDepth 100000 in
set_option maxHeartbeats 4000000 in
theorem order2_any (f : Nat) (vw : Sy.Ed → Sy.Ed) (hV : ViewAt f vw) (g cap a b c0 s : Nat) (d : Array Sy.Ed) (rest : List Value) (w0 w : World) (hR : CnE w0 w g d rest c0 s) (ha : a < d.size) (hb : b < d.size) (hs : s ≤ 1000000) :
    Calls Tryz.prog 174 #[.slice (some ⟨g, 0, none⟩) d.size cap, .int .i64 a, .int .i64 b, .pointer (some ⟨c0, 0, none⟩), cmpV f] w fun r w' => r = .returned (.tuple #[.int .i64 (Sort.order2 (ltV vw) d a b s).1, .int .i64 (Sort.order2 (ltV vw) d a b s).2.1]) ∧ CnE w0 w' g d rest c0 (Sort.order2 (ltV vw) d a b s).2.2 := by
  obtain ⟨n, hn⟩ : ∃ n, n = d.size := ⟨_, rfl⟩
  have HR : Hid _ := And.intro hR (And.intro hn hV)
  rw [← hn] at ha hb ⊢
  unfold cmpV Sort.order2
  have he := enter_cmp
  obtain ⟨x0, x1, x2⟩ := hR.row.cells (j := b) (by omega)
  obtain ⟨y0, y1, y2⟩ := hR.row.cells (j := a) (by omega)
  have hcm := fun W => compare_any f vw HR.out.2.2 (d[b]!) (d[a]!) W
  unfold edV at hcm
  have hlt2 := cmpV_neg vw (d[b]!) (d[a]!)
  obtain ⟨xe, hxe⟩ : ∃ xe, xe = d[b]! := ⟨_, rfl⟩
  obtain ⟨ye, hye⟩ : ∃ ye, ye = d[a]! := ⟨_, rfl⟩
  rw [← hxe] at x0 x1 x2 hcm hlt2
  rw [← hye] at y0 y1 y2 hcm hlt2
  have HE : Hid _ := And.intro hxe hye
  clear hxe hye
  obtain ⟨xa, xb, xc⟩ := xe
  obtain ⟨ya, yb, yc⟩ := ye
  generalize cmpE (vw (xa, xb, xc)) (vw (ya, yb, yc)) = c at hcm hlt2
  have HC : Hid _ := hcm
  have HL : Hid _ := hlt2
  clear hcm hlt2
  simp only at x0 x1 x2 y0 y1 y2
  clear hR hn hV
  have p0 : (0 : Int) ≤ (b : Int) := by omega
  have p1 : (b : Int) < (n : Int) := by omega
  have p2 : (0 : Int) ≤ (a : Int) := by omega
  have p3 : (a : Int) < (n : Int) := by omega
  by_cases hc : c < 0
  · have p6 : decide (c < 0) = true := decide_eq_true hc
    rw [if_pos (by rw [← HE.out.1, ← HE.out.2]; exact HL.out.1 hc)]
    go_enter Tryz.func174, Tryz.ntmps174
    go_upto_region 1 with fail
    go_region_held3 (fun w' => ((w'.cell? ⟨g, b * 3, none⟩ = some (.int .i64 xa) ∧ w'.cell? ⟨g, b * 3 + 1, none⟩ = some (.int .i64 xb) ∧ w'.cell? ⟨g, b * 3 + 2, none⟩ = some (.int .i64 xc)) ∧ (w'.cell? ⟨g, a * 3, none⟩ = some (.int .i64 ya) ∧ w'.cell? ⟨g, a * 3 + 1, none⟩ = some (.int .i64 yb) ∧ w'.cell? ⟨g, a * 3 + 2, none⟩ = some (.int .i64 yc))) ∧ Hid (Below w.heap.size w w')) (first | exact rg_up6 hb3 (by assumption) | exact ⟨⟨⟨x0, x1, x2⟩, ⟨y0, y1, y2⟩⟩, ((Below.refl _ _).drew : Below w.heap.size w w.drew)⟩ | go_keep)
      ((first
        | (go_at_fn 133; refine (HC.out _).mono ?_; rintro r w3 ⟨rfl, hb3⟩)
        | fail))
    have hbq : Below w.heap.size w w3 := rg_b (by assumption)
    clear x0 x1 x2 y0 y1 y2 hb3 HC
    rename_i hS3
    clear hS3
    have hR3 := HR.out.1.below hbq
    have k0 : w3.cell? ⟨c0, 0, none⟩ = some (.int .i64 s) := cell0_of hR3.cell rfl
    have k1 := blk_free hR3.cell 0
    have p8 : IntKind.i64.wrap ((s : Int) + 1) = (s : Int) + 1 := by rw [IntKind.wrap_i64]; omega
    have H3 : Hid _ := hR3
    clear hR3 hbq
    go_wp2_with fail
    go_ret2
    exact ⟨rfl, H3.out.bump (s + 1)⟩
  · have p6 : decide (c < 0) = false := decide_eq_false hc
    rw [if_neg (by rw [← HE.out.1, ← HE.out.2]; intro h; exact hc (HL.out.2 h))]
    go_enter Tryz.func174, Tryz.ntmps174
    go_upto_region 1 with fail
    go_region_held3 (fun w' => ((w'.cell? ⟨g, b * 3, none⟩ = some (.int .i64 xa) ∧ w'.cell? ⟨g, b * 3 + 1, none⟩ = some (.int .i64 xb) ∧ w'.cell? ⟨g, b * 3 + 2, none⟩ = some (.int .i64 xc)) ∧ (w'.cell? ⟨g, a * 3, none⟩ = some (.int .i64 ya) ∧ w'.cell? ⟨g, a * 3 + 1, none⟩ = some (.int .i64 yb) ∧ w'.cell? ⟨g, a * 3 + 2, none⟩ = some (.int .i64 yc))) ∧ Hid (Below w.heap.size w w')) (first | exact rg_up6 hb3 (by assumption) | exact ⟨⟨⟨x0, x1, x2⟩, ⟨y0, y1, y2⟩⟩, ((Below.refl _ _).drew : Below w.heap.size w w.drew)⟩ | go_keep)
      ((first
        | (go_at_fn 133; refine (HC.out _).mono ?_; rintro r w3 ⟨rfl, hb3⟩)
        | fail))
    have hbq : Below w.heap.size w w3 := rg_b (by assumption)
    clear x0 x1 x2 y0 y1 y2 hb3 HC
    rename_i hS3
    clear hS3
    have H3 : Hid _ := HR.out.1.below hbq
    clear hbq
    go_wp2_with fail
    go_ret2
    exact ⟨rfl, H3.out⟩
theorem o2_lt {lt : Sy.Ed → Sy.Ed → Bool} {d : Array Sy.Ed} {a b s n : Nat} (ha : a < n) (hb : b < n) : (Sort.order2 lt d a b s).1 < n ∧ (Sort.order2 lt d a b s).2.1 < n ∧ (Sort.order2 lt d a b s).2.2 ≤ s + 1 := by
  unfold Sort.order2
  split <;> simp [ha, hb]
set_option maxRecDepth 100000 in
set_option maxHeartbeats 4000000 in
theorem median_any (f : Nat) (vw : Sy.Ed → Sy.Ed) (hV : ViewAt f vw) (g cap a b c c0 s : Nat) (d : Array Sy.Ed) (rest : List Value) (w0 w : World) (hR : CnE w0 w g d rest c0 s) (ha : a < d.size) (hb : b < d.size) (hc : c < d.size) (hs : s + 3 ≤ 1000000) :
    Calls Tryz.prog 171 #[.slice (some ⟨g, 0, none⟩) d.size cap, .int .i64 a, .int .i64 b, .int .i64 c, .pointer (some ⟨c0, 0, none⟩), cmpV f] w fun r w' => r = .returned (.int .i64 (Sort.median (ltV vw) d a b c s).1) ∧ CnE w0 w' g d rest c0 (Sort.median (ltV vw) d a b c s).2 := by
  have h1 := order2_any f vw hV g cap a b c0 s d rest w0 w hR ha hb (by omega)
  obtain ⟨l1, l2, l3⟩ := o2_lt (lt := ltV vw) (d := d) (s := s) ha hb
  unfold Sort.median
  generalize Sort.order2 (ltV vw) d a b s = r1 at h1 l1 l2 l3 ⊢
  obtain ⟨a1, b1, s1⟩ := r1
  simp only at h1 l1 l2 l3 ⊢
  have h2 := fun W (h : CnE w0 W g d rest c0 s1) => order2_any f vw hV g cap b1 c c0 s1 d rest w0 W h l2 hc (by omega)
  obtain ⟨l4, l5, l6⟩ := o2_lt (lt := ltV vw) (d := d) (s := s1) l2 hc
  generalize Sort.order2 (ltV vw) d b1 c s1 = r2 at h2 l4 l5 l6 ⊢
  obtain ⟨b2, c2, s2⟩ := r2
  simp only at h2 l4 l5 l6 ⊢
  have h3 := fun W (h : CnE w0 W g d rest c0 s2) => order2_any f vw hV g cap a1 b2 c0 s2 d rest w0 W h l1 l4 (by omega)
  generalize Sort.order2 (ltV vw) d a1 b2 s2 = r3 at h3 ⊢
  obtain ⟨a3, b3, s3⟩ := r3
  simp only at h3 ⊢
  have HH : Hid _ := And.intro h1 (And.intro h2 h3)
  unfold cmpV at HH ⊢
  clear h1 h2 h3 hR hV l1 l2 l3 l4 l5 l6
  go_enter Tryz.func171, Tryz.ntmps171
  go_wp2_with fail
  refine Calls.mono HH.out.1 ?_
  rintro r w1 ⟨rfl, hR1⟩
  go_wp2_with fail
  refine Calls.mono (HH.out.2.1 _ hR1) ?_
  rintro r w2 ⟨rfl, hR2⟩
  go_wp2_with fail
  refine Calls.mono (HH.out.2.2 _ hR2) ?_
  rintro r w3 ⟨rfl, hR3⟩
  go_wp2_with fail
  go_ret
  exact ⟨rfl, hR3⟩
set_option maxRecDepth 100000 in
set_option maxHeartbeats 4000000 in
theorem medianAdj_any (f : Nat) (vw : Sy.Ed → Sy.Ed) (hV : ViewAt f vw) (g cap a c0 s : Nat) (d : Array Sy.Ed) (rest : List Value) (w0 w : World) (hR : CnE w0 w g d rest c0 s) (ha : 1 ≤ a) (hb : a + 1 < d.size) (hsz : d.size ≤ 1000000) (hs : s + 3 ≤ 1000000) :
    Calls Tryz.prog 170 #[.slice (some ⟨g, 0, none⟩) d.size cap, .int .i64 a, .pointer (some ⟨c0, 0, none⟩), cmpV f] w fun r w' => r = .returned (.int .i64 (Sort.medianAdjacent (ltV vw) d a s).1) ∧ CnE w0 w' g d rest c0 (Sort.medianAdjacent (ltV vw) d a s).2 := by
  obtain ⟨p, rfl⟩ : ∃ p, a = p + 1 := ⟨a - 1, by omega⟩
  have h1 := median_any f vw hV g cap p (p + 1) (p + 1 + 1) c0 s d rest w0 w hR (by omega) (by omega) (by omega) hs
  unfold Sort.medianAdjacent
  rw [Nat.add_sub_cancel]
  generalize Sort.median (ltV vw) d p (p + 1) (p + 1 + 1) s = r1 at h1 ⊢
  obtain ⟨m1, s1⟩ := r1
  have e1 : IntKind.i64.wrap (((p + 1 : Nat) : Int) - 1) = (p : Int) := by rw [IntKind.wrap_i64]; omega
  have e2 : IntKind.i64.wrap (((p + 1 : Nat) : Int) + 1) = ((p + 1 + 1 : Nat) : Int) := by rw [IntKind.wrap_i64]; omega
  have HH : Hid _ := h1
  unfold cmpV at HH ⊢
  clear h1 hR hV
  go_enter Tryz.func170, Tryz.ntmps170
  go_wp2_with fail
  have HH2 := HH.out
  simp only [Int.natCast_add, Int.natCast_one] at HH2 ⊢
  refine Calls.mono HH2 ?_
  rintro r w1 ⟨rfl, hR1⟩
  go_wp2_with fail
  go_ret
  exact ⟨rfl, hR1⟩
end
section
open Go.RowKit Go.Maps
attribute [local go_sem ↓] Go.wp_at_zero Go.wp_at_succ
theorem rev_go (i j : Nat) (d : Array Sy.Ed) (h : i < j) : Sort.reverseLoop i j d = Sort.reverseLoop (i + 1) (j - 1) (Sort.swp d i j) := by rw [Sort.reverseLoop, if_pos h]
theorem rev_end (i j : Nat) (d : Array Sy.Ed) (h : ¬ i < j) : Sort.reverseLoop i j d = d := by rw [Sort.reverseLoop, if_neg h]
set_option maxRecDepth 100000 in
set_option maxHeartbeats 8000000 in
theorem reverse_any (u : Value) (g cap a b : Nat) (d : Array Sy.Ed) (rest : List Value) (w0 w : World) (hR : RowE w0 w g d rest) (hab : a < b) (hb : b ≤ d.size) (hsz : d.size ≤ 1000000) :
    Calls Tryz.prog 158 #[.slice (some ⟨g, 0, none⟩) d.size cap, .int .i64 a, .int .i64 b, u] w fun r w' => r = .returned (.tuple #[]) ∧ RowE w0 w' g (Sort.reverseRange d a b) rest := by
  obtain ⟨n, hn⟩ : ∃ n, n = d.size := ⟨_, rfl⟩
  have HR : Hid _ := And.intro hR hn
  rw [← hn] at hb hsz ⊢
  unfold Sort.reverseRange
  clear hR hn
  go_enter Tryz.func158, Tryz.ntmps158
  go_wp2_with fail
  go_loopg [8, 9] (b - a) (fun q iv jv wr => ∃ (i j : Nat) (dk : Array Sy.Ed), iv = .int .i64 i ∧ jv = .int .i64 j ∧ i ≤ n ∧ j < n ∧ j - i ≤ q ∧ dk.size = n ∧ RowE w0 wr g dk rest ∧ Hid (Sort.reverseLoop i j dk = Sort.reverseLoop a (b - 1) d))
  case atStart => exact ⟨a, b - 1, d, rfl, by first | go_num | (congr 1; omega), by omega, by omega, by omega, HR.out.2.symm, HR.out.1, rfl⟩
  case round =>
    obtain ⟨i, j, dk, rfl, rfl, hi, hj, hq, hsk, hRk, HO⟩ := hrel
    by_cases hlt : i < j
    · obtain ⟨jp, rfl⟩ : ∃ jp, j = jp + 1 := ⟨j - 1, by omega⟩
      have r0 : (0 : Int) ≤ (i : Int) := by omega
      have r1 : (i : Int) < (n : Int) := by omega
      have r2 : (0 : Int) ≤ (jp : Int) + 1 := by omega
      have r3 : (jp : Int) + 1 < (n : Int) := by omega
      have r4 : ((jp : Int) + 1).toNat = jp + 1 := by omega
      have r5 : (i : Int) < (jp : Int) + 1 := by omega
      have r6 : IntKind.i64.wrap ((jp : Int) + 1 - 1) = (jp : Int) := by rw [IntKind.wrap_i64]; omega
      have r7 : IntKind.i64.wrap (jp : Int) = (jp : Int) := by rw [IntKind.wrap_i64]; omega
      have f0 := hRk.free (i * 3)
      have f1 := hRk.free (i * 3 + 1)
      have f2 := hRk.free (i * 3 + 2)
      have f3 := hRk.free ((jp + 1) * 3)
      have f4 := hRk.free ((jp + 1) * 3 + 1)
      have f5 := hRk.free ((jp + 1) * 3 + 2)
      obtain ⟨z0, z1, z2⟩ := hRk.cells (j := i) (by omega)
      obtain ⟨z3, z4, z5⟩ := hRk.cells (j := (jp + 1)) (by omega)
      obtain ⟨xe2, hxe2⟩ : ∃ xe, xe = dk[i]! := ⟨_, rfl⟩
      obtain ⟨ye2, hye2⟩ : ∃ ye, ye = dk[(jp + 1)]! := ⟨_, rfl⟩
      rw [← hxe2] at z0 z1 z2
      rw [← hye2] at z3 z4 z5
      have HE2 : Hid _ := And.intro hxe2 hye2
      clear hxe2 hye2
      obtain ⟨sa, sb, sc⟩ := xe2
      obtain ⟨ta, tb, tc⟩ := ye2
      simp only at z0 z1 z2 z3 z4 z5
      have HK : Hid _ := And.intro hRk hsk
      clear hRk hsk
      go_wp2_with fail
      go_region
      all_goals go_wp2_with fail
      go_roundg (jp - (i + 1))
      case measure => omega
      case rel =>
        refine ⟨i + 1, jp, Sort.swp dk i (jp + 1), by go_num, by go_num, by omega, by omega, Nat.le_refl _, by rw [Sort.size_swp]; exact HK.out.2, HK.out.1.swapped (i := i) (j := jp + 1) (x := (sa, sb, sc)) (y := (ta, tb, tc)) (by have := HK.out.2; omega) (by have := HK.out.2; omega) HE2.out.1 HE2.out.2, (show Hid _ from ?_)⟩
        show _ = _
        rw [← HO.out, rev_go _ _ _ hlt]
        rfl
    · have r5 : ¬ (i : Int) < (j : Int) := by omega
      go_wp2
      go_end0
      exact ⟨rfl, by rw [← HO.out, rev_end _ _ _ hlt]; exact hRk⟩
theorem sd_end {lt : Sy.Ed → Sy.Ed → Bool} {hi first root : Nat} {d : Array Sy.Ed} (h : hi ≤ 2 * root + 1) : Sort.siftDown lt hi first root d = d := by rw [Sort.siftDown, dif_pos h]
theorem sd_two {lt : Sy.Ed → Sy.Ed → Bool} {hi first root : Nat} {d : Array Sy.Ed} (h2 : 2 * root + 2 < hi) (hl : lt d[first + (2 * root + 1)]! d[first + (2 * root + 1) + 1]! = true) (hc : lt d[first + root]! d[first + (2 * root + 2)]! = true) : Sort.siftDown lt hi first root d = Sort.siftDown lt hi first (2 * root + 2) (Sort.swp d (first + root) (first + (2 * root + 2))) := by
  rw [Sort.siftDown, dif_neg (by omega), if_pos (by simp [hl]; omega), if_neg (by simp [hc]), dif_pos h2]
theorem sd_two_stop {lt : Sy.Ed → Sy.Ed → Bool} {hi first root : Nat} {d : Array Sy.Ed} (h2 : 2 * root + 2 < hi) (hl : lt d[first + (2 * root + 1)]! d[first + (2 * root + 1) + 1]! = true) (hc : lt d[first + root]! d[first + (2 * root + 2)]! = false) : Sort.siftDown lt hi first root d = d := by
  rw [Sort.siftDown, dif_neg (by omega), if_pos (by simp [hl]; omega), if_pos (by simp [hc])]
theorem sd_one {lt : Sy.Ed → Sy.Ed → Bool} {hi first root : Nat} {d : Array Sy.Ed} (h1 : 2 * root + 1 < hi) (hn : ¬ (2 * root + 2 < hi ∧ lt d[first + (2 * root + 1)]! d[first + (2 * root + 1) + 1]! = true)) (hc : lt d[first + root]! d[first + (2 * root + 1)]! = true) : Sort.siftDown lt hi first root d = Sort.siftDown lt hi first (2 * root + 1) (Sort.swp d (first + root) (first + (2 * root + 1))) := by
  rw [Sort.siftDown, dif_neg (by omega), if_neg (by simpa using hn), if_neg (by simp [hc])]
theorem sd_one_stop {lt : Sy.Ed → Sy.Ed → Bool} {hi first root : Nat} {d : Array Sy.Ed} (h1 : 2 * root + 1 < hi) (hn : ¬ (2 * root + 2 < hi ∧ lt d[first + (2 * root + 1)]! d[first + (2 * root + 1) + 1]! = true)) (hc : lt d[first + root]! d[first + (2 * root + 1)]! = false) : Sort.siftDown lt hi first root d = d := by
  rw [Sort.siftDown, dif_neg (by omega), if_neg (by simpa using hn), if_pos (by simp [hc])]
set_option maxRecDepth 100000 in
set_option maxHeartbeats 16000000 in
theorem sift_any (f : Nat) (vw : Sy.Ed → Sy.Ed) (hV : ViewAt f vw) (g cap lo hi first : Nat) (d : Array Sy.Ed) (rest : List Value) (w0 w : World) (hR : RowE w0 w g d rest) (hlo : lo ≤ hi) (hb : first + hi ≤ d.size) (hsz : d.size ≤ 1000000) :
    Calls Tryz.prog 167 #[.slice (some ⟨g, 0, none⟩) d.size cap, .int .i64 lo, .int .i64 hi, .int .i64 first, cmpV f] w fun r w' => r = .returned (.tuple #[]) ∧ RowE w0 w' g (Sort.siftDown (ltV vw) hi first lo d) rest ∧ (Sort.siftDown (ltV vw) hi first lo d).size = d.size := by
  obtain ⟨n, hn⟩ : ∃ n, n = d.size := ⟨_, rfl⟩
  have HR : Hid _ := And.intro hR (And.intro hn hV)
  rw [← hn] at hb hsz ⊢
  unfold cmpV
  have he := enter_cmp
  clear hR hn hV
  go_enter Tryz.func167, Tryz.ntmps167
  go_wp2_with fail
  go_loopg [10] hi (fun q rv wr => ∃ (root : Nat) (dk : Array Sy.Ed), rv = .int .i64 root ∧ root ≤ hi ∧ hi - root ≤ q ∧ dk.size = n ∧ RowE w0 wr g dk rest ∧ Hid (Sort.siftDown (ltV vw) hi first root dk = Sort.siftDown (ltV vw) hi first lo d))
  case atStart => exact ⟨lo, d, rfl, hlo, by omega, HR.out.2.1.symm, HR.out.1, rfl⟩
  case round =>
    obtain ⟨root, dk, rfl, hro, hq, hsk, hRk, HO⟩ := hrel
    have m1 : IntKind.i64.wrap (2 * (root : Int)) = 2 * (root : Int) := by rw [IntKind.wrap_i64]; omega
    have m2 : IntKind.i64.wrap (2 * (root : Int) + 1) = 2 * (root : Int) + 1 := by rw [IntKind.wrap_i64]; omega
    have m3 : IntKind.i64.wrap (2 * (root : Int) + 1 + 1) = 2 * (root : Int) + 1 + 1 := by rw [IntKind.wrap_i64]; omega
    obtain ⟨w4, hw4⟩ : ∃ w4, w4 = wr := ⟨_, rfl⟩
    by_cases h1 : 2 * root + 1 < hi
    · have q1 : ¬ (hi : Int) ≤ 2 * (root : Int) + 1 := by omega
      by_cases h2 : 2 * root + 2 < hi
      · have q2 : decide (2 * (root : Int) + 1 + 1 < (hi : Int)) = true := decide_eq_true (by omega)
        have q3 : 2 * (root : Int) + 1 + 1 < (hi : Int) := by omega
        have u1 : (first : Int) + (2 * (root : Int) + 1) < (n : Int) := by omega
        have u2 : (0 : Int) ≤ (first : Int) + (2 * (root : Int) + 1) := by omega
        have u3 : ((first : Int) + (2 * (root : Int) + 1)).toNat = first + (2 * root + 1) := by omega
        have u4 : IntKind.i64.wrap ((first : Int) + (2 * (root : Int) + 1)) = (first : Int) + (2 * (root : Int) + 1) := by rw [IntKind.wrap_i64]; omega
        have u5 : (first : Int) + (2 * (root : Int) + 1) + 1 < (n : Int) := by omega
        have u6 : (0 : Int) ≤ (first : Int) + (2 * (root : Int) + 1) + 1 := by omega
        have u7 : ((first : Int) + (2 * (root : Int) + 1) + 1).toNat = first + (2 * root + 1) + 1 := by omega
        have u8 : IntKind.i64.wrap ((first : Int) + (2 * (root : Int) + 1) + 1) = (first : Int) + (2 * (root : Int) + 1) + 1 := by rw [IntKind.wrap_i64]; omega
        obtain ⟨x0, x1, x2⟩ := hRk.cells (j := (first + (2 * root + 1))) (by omega)
        obtain ⟨y0, y1, y2⟩ := hRk.cells (j := (first + (2 * root + 1) + 1)) (by omega)
        have hcm := fun W => compare_any f vw HR.out.2.2 (dk[(first + (2 * root + 1))]!) (dk[(first + (2 * root + 1) + 1)]!) W
        unfold edV at hcm
        have hlt2 := cmpV_neg vw (dk[(first + (2 * root + 1))]!) (dk[(first + (2 * root + 1) + 1)]!)
        obtain ⟨xe, hxe⟩ : ∃ xe, xe = dk[(first + (2 * root + 1))]! := ⟨_, rfl⟩
        obtain ⟨ye, hye⟩ : ∃ ye, ye = dk[(first + (2 * root + 1) + 1)]! := ⟨_, rfl⟩
        rw [← hxe] at x0 x1 x2 hcm hlt2
        rw [← hye] at y0 y1 y2 hcm hlt2
        have HE : Hid _ := And.intro hxe hye
        clear hxe hye
        obtain ⟨xa, xb, xc⟩ := xe
        obtain ⟨ya, yb, yc⟩ := ye
        generalize cmpE (vw (xa, xb, xc)) (vw (ya, yb, yc)) = c at hcm hlt2
        have HC : Hid _ := hcm
        have HL : Hid _ := hlt2
        clear hcm hlt2
        simp only at x0 x1 x2 y0 y1 y2
        have HK : Hid _ := And.intro hRk hsk
        clear hRk hsk hw4
        by_cases hc1 : c < 0
        · have p7 : decide (c < 0) = true := decide_eq_true hc1
          go_upto_region 3 with fail
          go_region_held3 (fun w' => ((w'.cell? ⟨g, (first + (2 * root + 1)) * 3, none⟩ = some (.int .i64 xa) ∧ w'.cell? ⟨g, (first + (2 * root + 1)) * 3 + 1, none⟩ = some (.int .i64 xb) ∧ w'.cell? ⟨g, (first + (2 * root + 1)) * 3 + 2, none⟩ = some (.int .i64 xc)) ∧ (w'.cell? ⟨g, (first + (2 * root + 1) + 1) * 3, none⟩ = some (.int .i64 ya) ∧ w'.cell? ⟨g, (first + (2 * root + 1) + 1) * 3 + 1, none⟩ = some (.int .i64 yb) ∧ w'.cell? ⟨g, (first + (2 * root + 1) + 1) * 3 + 2, none⟩ = some (.int .i64 yc))) ∧ Hid (Below wr.heap.size wr w')) (first | exact rg_up6 hb3 (by assumption) | exact ⟨⟨⟨x0, x1, x2⟩, ⟨y0, y1, y2⟩⟩, ((Below.refl _ _).drew : Below wr.heap.size wr wr.drew)⟩ | go_keep)
            ((first
              | (go_at_fn 133; refine (HC.out _).mono ?_; rintro r w3 ⟨rfl, hb3⟩)
              | fail))
          have hbq : Below wr.heap.size wr w3 := rg_b (by assumption)
          clear x0 x1 x2 y0 y1 y2 hb3 HC
          rename_i hS3
          clear hS3
          have hll : ltV vw dk[first + (2 * root + 1)]! dk[first + (2 * root + 1) + 1]! = true := by rw [← HE.out.1, ← HE.out.2]; exact HL.out.1 hc1
          have hR4 := HK.out.1.below hbq
          obtain ⟨w4, hw4⟩ : ∃ w4, w4 = w3 := ⟨_, rfl⟩
          rw [← hw4] at hR4 ⊢
          have HLL : Hid _ := hll
          clear hbq hw4 HE HL hll hc1 p7 u1 u2 u3 u4 u5 u6 u7 u8
          have hCn : first + (2 * root + 2) < n := by omega
          have t1 : (first : Int) + (root : Int) < (n : Int) := by omega
          have t2 : (0 : Int) ≤ (first : Int) + (root : Int) := by omega
          have t3 : ((first : Int) + (root : Int)).toNat = first + root := by omega
          have t4 : IntKind.i64.wrap ((first : Int) + (root : Int)) = (first : Int) + (root : Int) := by rw [IntKind.wrap_i64]; omega
          have t5 : (first : Int) + (2 * (root : Int) + 1 + 1) < (n : Int) := by omega
          have t6 : (0 : Int) ≤ (first : Int) + (2 * (root : Int) + 1 + 1) := by omega
          have t7 : ((first : Int) + (2 * (root : Int) + 1 + 1)).toNat = first + (2 * root + 2) := by omega
          have t8 : IntKind.i64.wrap ((first : Int) + (2 * (root : Int) + 1 + 1)) = (first : Int) + (2 * (root : Int) + 1 + 1) := by rw [IntKind.wrap_i64]; omega
          obtain ⟨x0, x1, x2⟩ := hR4.cells (j := (first + root)) (by have := HK.out.2; omega)
          obtain ⟨y0, y1, y2⟩ := hR4.cells (j := (first + (2 * root + 2))) (by have := HK.out.2; omega)
          have hcm := fun W => compare_any f vw HR.out.2.2 (dk[(first + root)]!) (dk[(first + (2 * root + 2))]!) W
          unfold edV at hcm
          have hlt2 := cmpV_neg vw (dk[(first + root)]!) (dk[(first + (2 * root + 2))]!)
          obtain ⟨xe, hxe⟩ : ∃ xe, xe = dk[(first + root)]! := ⟨_, rfl⟩
          obtain ⟨ye, hye⟩ : ∃ ye, ye = dk[(first + (2 * root + 2))]! := ⟨_, rfl⟩
          rw [← hxe] at x0 x1 x2 hcm hlt2
          rw [← hye] at y0 y1 y2 hcm hlt2
          have HE : Hid _ := And.intro hxe hye
          clear hxe hye
          obtain ⟨xa, xb, xc⟩ := xe
          obtain ⟨ya, yb, yc⟩ := ye
          generalize cmpE (vw (xa, xb, xc)) (vw (ya, yb, yc)) = c at hcm hlt2
          have HC : Hid _ := hcm
          have HL : Hid _ := hlt2
          clear hcm hlt2
          simp only at x0 x1 x2 y0 y1 y2
          have H4 : Hid (RowE w0 w4 g dk rest) := hR4
          clear hR4
          by_cases hc2 : c < 0
          · have p6 : decide (c < 0) = true := decide_eq_true hc2
            go_upto_region 5 with fail
            go_region_held3 (fun w' => ((w'.cell? ⟨g, (first + root) * 3, none⟩ = some (.int .i64 xa) ∧ w'.cell? ⟨g, (first + root) * 3 + 1, none⟩ = some (.int .i64 xb) ∧ w'.cell? ⟨g, (first + root) * 3 + 2, none⟩ = some (.int .i64 xc)) ∧ (w'.cell? ⟨g, (first + (2 * root + 2)) * 3, none⟩ = some (.int .i64 ya) ∧ w'.cell? ⟨g, (first + (2 * root + 2)) * 3 + 1, none⟩ = some (.int .i64 yb) ∧ w'.cell? ⟨g, (first + (2 * root + 2)) * 3 + 2, none⟩ = some (.int .i64 yc))) ∧ Hid (Below w4.heap.size w4 w')) (first | exact rg_up6 hb3 (by assumption) | exact ⟨⟨⟨x0, x1, x2⟩, ⟨y0, y1, y2⟩⟩, ((Below.refl _ _).drew : Below w4.heap.size w4 w4.drew)⟩ | go_keep)
              ((first
                | (go_at_fn 133; refine (HC.out _).mono ?_; rintro r w3 ⟨rfl, hb3⟩)
                | fail))
            have hbq : Below w4.heap.size w4 w3 := rg_b (by assumption)
            clear x0 x1 x2 y0 y1 y2 hb3 HC
            rename_i hS3
            clear hS3
            have hR5 := H4.out.below hbq
            clear hbq
            obtain ⟨w5, hw5⟩ : ∃ w5, w5 = w3 := ⟨_, rfl⟩
            rw [← hw5] at hR5 ⊢
            clear hw5
            have f0 := hR5.free ((first + root) * 3)
            have f1 := hR5.free ((first + root) * 3 + 1)
            have f2 := hR5.free ((first + root) * 3 + 2)
            have f3 := hR5.free ((first + (2 * root + 2)) * 3)
            have f4 := hR5.free ((first + (2 * root + 2)) * 3 + 1)
            have f5 := hR5.free ((first + (2 * root + 2)) * 3 + 2)
            obtain ⟨z0, z1, z2⟩ := hR5.cells (j := (first + root)) (by have := HK.out.2; omega)
            obtain ⟨z3, z4, z5⟩ := hR5.cells (j := (first + (2 * root + 2))) (by have := HK.out.2; omega)
            obtain ⟨xe2, hxe2⟩ : ∃ xe, xe = dk[(first + root)]! := ⟨_, rfl⟩
            obtain ⟨ye2, hye2⟩ : ∃ ye, ye = dk[(first + (2 * root + 2))]! := ⟨_, rfl⟩
            rw [← hxe2] at z0 z1 z2
            rw [← hye2] at z3 z4 z5
            have HE2 : Hid _ := And.intro hxe2 hye2
            clear hxe2 hye2
            obtain ⟨sa, sb, sc⟩ := xe2
            obtain ⟨ta, tb, tc⟩ := ye2
            simp only at z0 z1 z2 z3 z4 z5
            have H5 : Hid (RowE w0 w5 g dk rest) := hR5
            clear hR5
            go_wp2_with fail
            go_region
            all_goals go_wp2_with fail
            go_roundg (hi - ((2 * root + 2)))
            case measure => omega
            case rel =>
              refine ⟨(2 * root + 2), Sort.swp dk (first + root) (first + (2 * root + 2)), by first | rfl | go_num | (congr 1; omega), by omega, Nat.le_refl _, by rw [Sort.size_swp]; exact HK.out.2, H5.out.swapped (i := first + root) (j := first + (2 * root + 2)) (x := (sa, sb, sc)) (y := (ta, tb, tc)) (by have := HK.out.2; omega) (by have := HK.out.2; omega) HE2.out.1 HE2.out.2, (show Hid _ from ?_)⟩
              show _ = _
              rw [← HO.out, sd_two h2 HLL.out (by rw [← HE.out.1, ← HE.out.2]; exact HL.out.1 hc2)]
          · have p6 : decide (c < 0) = false := decide_eq_false hc2
            go_upto_region 5 with fail
            go_region_held3 (fun w' => ((w'.cell? ⟨g, (first + root) * 3, none⟩ = some (.int .i64 xa) ∧ w'.cell? ⟨g, (first + root) * 3 + 1, none⟩ = some (.int .i64 xb) ∧ w'.cell? ⟨g, (first + root) * 3 + 2, none⟩ = some (.int .i64 xc)) ∧ (w'.cell? ⟨g, (first + (2 * root + 2)) * 3, none⟩ = some (.int .i64 ya) ∧ w'.cell? ⟨g, (first + (2 * root + 2)) * 3 + 1, none⟩ = some (.int .i64 yb) ∧ w'.cell? ⟨g, (first + (2 * root + 2)) * 3 + 2, none⟩ = some (.int .i64 yc))) ∧ Hid (Below w4.heap.size w4 w')) (first | exact rg_up6 hb3 (by assumption) | exact ⟨⟨⟨x0, x1, x2⟩, ⟨y0, y1, y2⟩⟩, ((Below.refl _ _).drew : Below w4.heap.size w4 w4.drew)⟩ | go_keep)
              ((first
                | (go_at_fn 133; refine (HC.out _).mono ?_; rintro r w3 ⟨rfl, hb3⟩)
                | fail))
            have hbq : Below w4.heap.size w4 w3 := rg_b (by assumption)
            clear x0 x1 x2 y0 y1 y2 hb3 HC
            rename_i hS3
            clear hS3
            have H5 : Hid (RowE w0 w3 g dk rest) := H4.out.below hbq
            clear hbq
            go_wp2_with fail
            (try simp only [Exit.inBlock, Exit.then])
            refine bodyPost_ret (results_none rfl _ _ _) rfl ?_
            refine ⟨rfl, ?_⟩
            have hl : ltV vw dk[first + root]! dk[first + (2 * root + 2)]! = false := by
              rw [← HE.out.1, ← HE.out.2]
              cases h : ltV vw (xa, xb, xc) (ya, yb, yc) with
              | false => rfl
              | true => exact absurd (HL.out.2 h) (by omega)
            rw [← HO.out, sd_two_stop h2 HLL.out hl]
            exact ⟨H5.out, HK.out.2⟩
        · have p7 : decide (c < 0) = false := decide_eq_false hc1
          go_upto_region 3 with fail
          go_region_held3 (fun w' => ((w'.cell? ⟨g, (first + (2 * root + 1)) * 3, none⟩ = some (.int .i64 xa) ∧ w'.cell? ⟨g, (first + (2 * root + 1)) * 3 + 1, none⟩ = some (.int .i64 xb) ∧ w'.cell? ⟨g, (first + (2 * root + 1)) * 3 + 2, none⟩ = some (.int .i64 xc)) ∧ (w'.cell? ⟨g, (first + (2 * root + 1) + 1) * 3, none⟩ = some (.int .i64 ya) ∧ w'.cell? ⟨g, (first + (2 * root + 1) + 1) * 3 + 1, none⟩ = some (.int .i64 yb) ∧ w'.cell? ⟨g, (first + (2 * root + 1) + 1) * 3 + 2, none⟩ = some (.int .i64 yc))) ∧ Hid (Below wr.heap.size wr w')) (first | exact rg_up6 hb3 (by assumption) | exact ⟨⟨⟨x0, x1, x2⟩, ⟨y0, y1, y2⟩⟩, ((Below.refl _ _).drew : Below wr.heap.size wr wr.drew)⟩ | go_keep)
            ((first
              | (go_at_fn 133; refine (HC.out _).mono ?_; rintro r w3 ⟨rfl, hb3⟩)
              | fail))
          have hbq : Below wr.heap.size wr w3 := rg_b (by assumption)
          clear x0 x1 x2 y0 y1 y2 hb3 HC
          rename_i hS3
          clear hS3
          have hll : ¬ (2 * root + 2 < hi ∧ ltV vw dk[first + (2 * root + 1)]! dk[first + (2 * root + 1) + 1]! = true) := fun h => by
            rw [← HE.out.1, ← HE.out.2] at h
            have := HL.out.2 h.2
            omega
          have hR4 := HK.out.1.below hbq
          obtain ⟨w4, hw4⟩ : ∃ w4, w4 = w3 := ⟨_, rfl⟩
          rw [← hw4] at hR4 ⊢
          have HLL : Hid _ := hll
          clear hbq hw4 HE HL hll hc1 p7 u1 u2 u3 u4 u5 u6 u7 u8
          have hCn : first + (2 * root + 1) < n := by omega
          have t1 : (first : Int) + (root : Int) < (n : Int) := by omega
          have t2 : (0 : Int) ≤ (first : Int) + (root : Int) := by omega
          have t3 : ((first : Int) + (root : Int)).toNat = first + root := by omega
          have t4 : IntKind.i64.wrap ((first : Int) + (root : Int)) = (first : Int) + (root : Int) := by rw [IntKind.wrap_i64]; omega
          have t5 : (first : Int) + (2 * (root : Int) + 1) < (n : Int) := by omega
          have t6 : (0 : Int) ≤ (first : Int) + (2 * (root : Int) + 1) := by omega
          have t7 : ((first : Int) + (2 * (root : Int) + 1)).toNat = first + (2 * root + 1) := by omega
          have t8 : IntKind.i64.wrap ((first : Int) + (2 * (root : Int) + 1)) = (first : Int) + (2 * (root : Int) + 1) := by rw [IntKind.wrap_i64]; omega
          obtain ⟨x0, x1, x2⟩ := hR4.cells (j := (first + root)) (by have := HK.out.2; omega)
          obtain ⟨y0, y1, y2⟩ := hR4.cells (j := (first + (2 * root + 1))) (by have := HK.out.2; omega)
          have hcm := fun W => compare_any f vw HR.out.2.2 (dk[(first + root)]!) (dk[(first + (2 * root + 1))]!) W
          unfold edV at hcm
          have hlt2 := cmpV_neg vw (dk[(first + root)]!) (dk[(first + (2 * root + 1))]!)
          obtain ⟨xe, hxe⟩ : ∃ xe, xe = dk[(first + root)]! := ⟨_, rfl⟩
          obtain ⟨ye, hye⟩ : ∃ ye, ye = dk[(first + (2 * root + 1))]! := ⟨_, rfl⟩
          rw [← hxe] at x0 x1 x2 hcm hlt2
          rw [← hye] at y0 y1 y2 hcm hlt2
          have HE : Hid _ := And.intro hxe hye
          clear hxe hye
          obtain ⟨xa, xb, xc⟩ := xe
          obtain ⟨ya, yb, yc⟩ := ye
          generalize cmpE (vw (xa, xb, xc)) (vw (ya, yb, yc)) = c at hcm hlt2
          have HC : Hid _ := hcm
          have HL : Hid _ := hlt2
          clear hcm hlt2
          simp only at x0 x1 x2 y0 y1 y2
          have H4 : Hid (RowE w0 w4 g dk rest) := hR4
          clear hR4
          by_cases hc2 : c < 0
          · have p6 : decide (c < 0) = true := decide_eq_true hc2
            go_upto_region 5 with fail
            go_region_held3 (fun w' => ((w'.cell? ⟨g, (first + root) * 3, none⟩ = some (.int .i64 xa) ∧ w'.cell? ⟨g, (first + root) * 3 + 1, none⟩ = some (.int .i64 xb) ∧ w'.cell? ⟨g, (first + root) * 3 + 2, none⟩ = some (.int .i64 xc)) ∧ (w'.cell? ⟨g, (first + (2 * root + 1)) * 3, none⟩ = some (.int .i64 ya) ∧ w'.cell? ⟨g, (first + (2 * root + 1)) * 3 + 1, none⟩ = some (.int .i64 yb) ∧ w'.cell? ⟨g, (first + (2 * root + 1)) * 3 + 2, none⟩ = some (.int .i64 yc))) ∧ Hid (Below w4.heap.size w4 w')) (first | exact rg_up6 hb3 (by assumption) | exact ⟨⟨⟨x0, x1, x2⟩, ⟨y0, y1, y2⟩⟩, ((Below.refl _ _).drew : Below w4.heap.size w4 w4.drew)⟩ | go_keep)
              ((first
                | (go_at_fn 133; refine (HC.out _).mono ?_; rintro r w3 ⟨rfl, hb3⟩)
                | fail))
            have hbq : Below w4.heap.size w4 w3 := rg_b (by assumption)
            clear x0 x1 x2 y0 y1 y2 hb3 HC
            rename_i hS3
            clear hS3
            have hR5 := H4.out.below hbq
            clear hbq
            obtain ⟨w5, hw5⟩ : ∃ w5, w5 = w3 := ⟨_, rfl⟩
            rw [← hw5] at hR5 ⊢
            clear hw5
            have f0 := hR5.free ((first + root) * 3)
            have f1 := hR5.free ((first + root) * 3 + 1)
            have f2 := hR5.free ((first + root) * 3 + 2)
            have f3 := hR5.free ((first + (2 * root + 1)) * 3)
            have f4 := hR5.free ((first + (2 * root + 1)) * 3 + 1)
            have f5 := hR5.free ((first + (2 * root + 1)) * 3 + 2)
            obtain ⟨z0, z1, z2⟩ := hR5.cells (j := (first + root)) (by have := HK.out.2; omega)
            obtain ⟨z3, z4, z5⟩ := hR5.cells (j := (first + (2 * root + 1))) (by have := HK.out.2; omega)
            obtain ⟨xe2, hxe2⟩ : ∃ xe, xe = dk[(first + root)]! := ⟨_, rfl⟩
            obtain ⟨ye2, hye2⟩ : ∃ ye, ye = dk[(first + (2 * root + 1))]! := ⟨_, rfl⟩
            rw [← hxe2] at z0 z1 z2
            rw [← hye2] at z3 z4 z5
            have HE2 : Hid _ := And.intro hxe2 hye2
            clear hxe2 hye2
            obtain ⟨sa, sb, sc⟩ := xe2
            obtain ⟨ta, tb, tc⟩ := ye2
            simp only at z0 z1 z2 z3 z4 z5
            have H5 : Hid (RowE w0 w5 g dk rest) := hR5
            clear hR5
            go_wp2_with fail
            go_region
            all_goals go_wp2_with fail
            go_roundg (hi - ((2 * root + 1)))
            case measure => omega
            case rel =>
              refine ⟨(2 * root + 1), Sort.swp dk (first + root) (first + (2 * root + 1)), by first | rfl | go_num | (congr 1; omega), by omega, Nat.le_refl _, by rw [Sort.size_swp]; exact HK.out.2, H5.out.swapped (i := first + root) (j := first + (2 * root + 1)) (x := (sa, sb, sc)) (y := (ta, tb, tc)) (by have := HK.out.2; omega) (by have := HK.out.2; omega) HE2.out.1 HE2.out.2, (show Hid _ from ?_)⟩
              show _ = _
              rw [← HO.out, sd_one h1 HLL.out (by rw [← HE.out.1, ← HE.out.2]; exact HL.out.1 hc2)]
          · have p6 : decide (c < 0) = false := decide_eq_false hc2
            go_upto_region 5 with fail
            go_region_held3 (fun w' => ((w'.cell? ⟨g, (first + root) * 3, none⟩ = some (.int .i64 xa) ∧ w'.cell? ⟨g, (first + root) * 3 + 1, none⟩ = some (.int .i64 xb) ∧ w'.cell? ⟨g, (first + root) * 3 + 2, none⟩ = some (.int .i64 xc)) ∧ (w'.cell? ⟨g, (first + (2 * root + 1)) * 3, none⟩ = some (.int .i64 ya) ∧ w'.cell? ⟨g, (first + (2 * root + 1)) * 3 + 1, none⟩ = some (.int .i64 yb) ∧ w'.cell? ⟨g, (first + (2 * root + 1)) * 3 + 2, none⟩ = some (.int .i64 yc))) ∧ Hid (Below w4.heap.size w4 w')) (first | exact rg_up6 hb3 (by assumption) | exact ⟨⟨⟨x0, x1, x2⟩, ⟨y0, y1, y2⟩⟩, ((Below.refl _ _).drew : Below w4.heap.size w4 w4.drew)⟩ | go_keep)
              ((first
                | (go_at_fn 133; refine (HC.out _).mono ?_; rintro r w3 ⟨rfl, hb3⟩)
                | fail))
            have hbq : Below w4.heap.size w4 w3 := rg_b (by assumption)
            clear x0 x1 x2 y0 y1 y2 hb3 HC
            rename_i hS3
            clear hS3
            have H5 : Hid (RowE w0 w3 g dk rest) := H4.out.below hbq
            clear hbq
            go_wp2_with fail
            (try simp only [Exit.inBlock, Exit.then])
            refine bodyPost_ret (results_none rfl _ _ _) rfl ?_
            refine ⟨rfl, ?_⟩
            have hl : ltV vw dk[first + root]! dk[first + (2 * root + 1)]! = false := by
              rw [← HE.out.1, ← HE.out.2]
              cases h : ltV vw (xa, xb, xc) (ya, yb, yc) with
              | false => rfl
              | true => exact absurd (HL.out.2 h) (by omega)
            rw [← HO.out, sd_one_stop h1 HLL.out hl]
            exact ⟨H5.out, HK.out.2⟩
      · have q2 : decide (2 * (root : Int) + 1 + 1 < (hi : Int)) = false := decide_eq_false (by omega)
        have q3 : ¬ 2 * (root : Int) + 1 + 1 < (hi : Int) := by omega
        have hll : ¬ (2 * root + 2 < hi ∧ ltV vw dk[first + (2 * root + 1)]! dk[first + (2 * root + 1) + 1]! = true) := fun h => h2 h.1
        have HLL : Hid _ := hll
        have HK : Hid _ := And.intro hRk hsk
        clear hRk hsk hw4 hll
        go_wp2_with fail
        go_region
        all_goals go_wp2_with fail
        have hR4 := HK.out.1.below (Below.refl _ _).drew
        obtain ⟨w4, hw4⟩ : ∃ w4, w4 = wr.drew := ⟨_, rfl⟩
        rw [← hw4] at hR4 ⊢
        clear hw4
        have hCn : first + (2 * root + 1) < n := by omega
        have t1 : (first : Int) + (root : Int) < (n : Int) := by omega
        have t2 : (0 : Int) ≤ (first : Int) + (root : Int) := by omega
        have t3 : ((first : Int) + (root : Int)).toNat = first + root := by omega
        have t4 : IntKind.i64.wrap ((first : Int) + (root : Int)) = (first : Int) + (root : Int) := by rw [IntKind.wrap_i64]; omega
        have t5 : (first : Int) + (2 * (root : Int) + 1) < (n : Int) := by omega
        have t6 : (0 : Int) ≤ (first : Int) + (2 * (root : Int) + 1) := by omega
        have t7 : ((first : Int) + (2 * (root : Int) + 1)).toNat = first + (2 * root + 1) := by omega
        have t8 : IntKind.i64.wrap ((first : Int) + (2 * (root : Int) + 1)) = (first : Int) + (2 * (root : Int) + 1) := by rw [IntKind.wrap_i64]; omega
        obtain ⟨x0, x1, x2⟩ := hR4.cells (j := (first + root)) (by have := HK.out.2; omega)
        obtain ⟨y0, y1, y2⟩ := hR4.cells (j := (first + (2 * root + 1))) (by have := HK.out.2; omega)
        have hcm := fun W => compare_any f vw HR.out.2.2 (dk[(first + root)]!) (dk[(first + (2 * root + 1))]!) W
        unfold edV at hcm
        have hlt2 := cmpV_neg vw (dk[(first + root)]!) (dk[(first + (2 * root + 1))]!)
        obtain ⟨xe, hxe⟩ : ∃ xe, xe = dk[(first + root)]! := ⟨_, rfl⟩
        obtain ⟨ye, hye⟩ : ∃ ye, ye = dk[(first + (2 * root + 1))]! := ⟨_, rfl⟩
        rw [← hxe] at x0 x1 x2 hcm hlt2
        rw [← hye] at y0 y1 y2 hcm hlt2
        have HE : Hid _ := And.intro hxe hye
        clear hxe hye
        obtain ⟨xa, xb, xc⟩ := xe
        obtain ⟨ya, yb, yc⟩ := ye
        generalize cmpE (vw (xa, xb, xc)) (vw (ya, yb, yc)) = c at hcm hlt2
        have HC : Hid _ := hcm
        have HL : Hid _ := hlt2
        clear hcm hlt2
        simp only at x0 x1 x2 y0 y1 y2
        have H4 : Hid (RowE w0 w4 g dk rest) := hR4
        clear hR4
        by_cases hc2 : c < 0
        · have p6 : decide (c < 0) = true := decide_eq_true hc2
          go_upto_region 5 with fail
          go_region_held3 (fun w' => ((w'.cell? ⟨g, (first + root) * 3, none⟩ = some (.int .i64 xa) ∧ w'.cell? ⟨g, (first + root) * 3 + 1, none⟩ = some (.int .i64 xb) ∧ w'.cell? ⟨g, (first + root) * 3 + 2, none⟩ = some (.int .i64 xc)) ∧ (w'.cell? ⟨g, (first + (2 * root + 1)) * 3, none⟩ = some (.int .i64 ya) ∧ w'.cell? ⟨g, (first + (2 * root + 1)) * 3 + 1, none⟩ = some (.int .i64 yb) ∧ w'.cell? ⟨g, (first + (2 * root + 1)) * 3 + 2, none⟩ = some (.int .i64 yc))) ∧ Hid (Below w4.heap.size w4 w')) (first | exact rg_up6 hb3 (by assumption) | exact ⟨⟨⟨x0, x1, x2⟩, ⟨y0, y1, y2⟩⟩, ((Below.refl _ _).drew : Below w4.heap.size w4 w4.drew)⟩ | go_keep)
            ((first
              | (go_at_fn 133; refine (HC.out _).mono ?_; rintro r w3 ⟨rfl, hb3⟩)
              | fail))
          have hbq : Below w4.heap.size w4 w3 := rg_b (by assumption)
          clear x0 x1 x2 y0 y1 y2 hb3 HC
          rename_i hS3
          clear hS3
          have hR5 := H4.out.below hbq
          clear hbq
          obtain ⟨w5, hw5⟩ : ∃ w5, w5 = w3 := ⟨_, rfl⟩
          rw [← hw5] at hR5 ⊢
          clear hw5
          have f0 := hR5.free ((first + root) * 3)
          have f1 := hR5.free ((first + root) * 3 + 1)
          have f2 := hR5.free ((first + root) * 3 + 2)
          have f3 := hR5.free ((first + (2 * root + 1)) * 3)
          have f4 := hR5.free ((first + (2 * root + 1)) * 3 + 1)
          have f5 := hR5.free ((first + (2 * root + 1)) * 3 + 2)
          obtain ⟨z0, z1, z2⟩ := hR5.cells (j := (first + root)) (by have := HK.out.2; omega)
          obtain ⟨z3, z4, z5⟩ := hR5.cells (j := (first + (2 * root + 1))) (by have := HK.out.2; omega)
          obtain ⟨xe2, hxe2⟩ : ∃ xe, xe = dk[(first + root)]! := ⟨_, rfl⟩
          obtain ⟨ye2, hye2⟩ : ∃ ye, ye = dk[(first + (2 * root + 1))]! := ⟨_, rfl⟩
          rw [← hxe2] at z0 z1 z2
          rw [← hye2] at z3 z4 z5
          have HE2 : Hid _ := And.intro hxe2 hye2
          clear hxe2 hye2
          obtain ⟨sa, sb, sc⟩ := xe2
          obtain ⟨ta, tb, tc⟩ := ye2
          simp only at z0 z1 z2 z3 z4 z5
          have H5 : Hid (RowE w0 w5 g dk rest) := hR5
          clear hR5
          go_wp2_with fail
          go_region
          all_goals go_wp2_with fail
          go_roundg (hi - ((2 * root + 1)))
          case measure => omega
          case rel =>
            refine ⟨(2 * root + 1), Sort.swp dk (first + root) (first + (2 * root + 1)), by first | rfl | go_num | (congr 1; omega), by omega, Nat.le_refl _, by rw [Sort.size_swp]; exact HK.out.2, H5.out.swapped (i := first + root) (j := first + (2 * root + 1)) (x := (sa, sb, sc)) (y := (ta, tb, tc)) (by have := HK.out.2; omega) (by have := HK.out.2; omega) HE2.out.1 HE2.out.2, (show Hid _ from ?_)⟩
            show _ = _
            rw [← HO.out, sd_one h1 HLL.out (by rw [← HE.out.1, ← HE.out.2]; exact HL.out.1 hc2)]
        · have p6 : decide (c < 0) = false := decide_eq_false hc2
          go_upto_region 5 with fail
          go_region_held3 (fun w' => ((w'.cell? ⟨g, (first + root) * 3, none⟩ = some (.int .i64 xa) ∧ w'.cell? ⟨g, (first + root) * 3 + 1, none⟩ = some (.int .i64 xb) ∧ w'.cell? ⟨g, (first + root) * 3 + 2, none⟩ = some (.int .i64 xc)) ∧ (w'.cell? ⟨g, (first + (2 * root + 1)) * 3, none⟩ = some (.int .i64 ya) ∧ w'.cell? ⟨g, (first + (2 * root + 1)) * 3 + 1, none⟩ = some (.int .i64 yb) ∧ w'.cell? ⟨g, (first + (2 * root + 1)) * 3 + 2, none⟩ = some (.int .i64 yc))) ∧ Hid (Below w4.heap.size w4 w')) (first | exact rg_up6 hb3 (by assumption) | exact ⟨⟨⟨x0, x1, x2⟩, ⟨y0, y1, y2⟩⟩, ((Below.refl _ _).drew : Below w4.heap.size w4 w4.drew)⟩ | go_keep)
            ((first
              | (go_at_fn 133; refine (HC.out _).mono ?_; rintro r w3 ⟨rfl, hb3⟩)
              | fail))
          have hbq : Below w4.heap.size w4 w3 := rg_b (by assumption)
          clear x0 x1 x2 y0 y1 y2 hb3 HC
          rename_i hS3
          clear hS3
          have H5 : Hid (RowE w0 w3 g dk rest) := H4.out.below hbq
          clear hbq
          go_wp2_with fail
          (try simp only [Exit.inBlock, Exit.then])
          refine bodyPost_ret (results_none rfl _ _ _) rfl ?_
          refine ⟨rfl, ?_⟩
          have hl : ltV vw dk[first + root]! dk[first + (2 * root + 1)]! = false := by
            rw [← HE.out.1, ← HE.out.2]
            cases h : ltV vw (xa, xb, xc) (ya, yb, yc) with
            | false => rfl
            | true => exact absurd (HL.out.2 h) (by omega)
          rw [← HO.out, sd_one_stop h1 HLL.out hl]
          exact ⟨H5.out, HK.out.2⟩
    · have q1 : (hi : Int) ≤ 2 * (root : Int) + 1 := by omega
      go_wp2
      go_end0
      refine ⟨rfl, ?_⟩
      rw [← HO.out, sd_end (by omega)]
      exact ⟨hRk, hsk⟩
end
section
open Go.RowKit Go.Maps
attribute [local go_sem ↓] Go.wp_at_zero Go.wp_at_succ
set_option maxRecDepth 100000 in
set_option maxHeartbeats 16000000 in
theorem heap_any (f : Nat) (vw : Sy.Ed → Sy.Ed) (hV : ViewAt f vw) (g cap a b : Nat) (d : Array Sy.Ed) (rest : List Value) (w0 w : World) (hR : RowE w0 w g d rest) (hab : a < b) (hb : b ≤ d.size) (hsz : d.size ≤ 1000000) :
    Calls Tryz.prog 155 #[.slice (some ⟨g, 0, none⟩) d.size cap, .int .i64 a, .int .i64 b, cmpV f] w fun r w' => r = .returned (.tuple #[]) ∧ RowE w0 w' g (Sort.heapSort (ltV vw) d a b) rest := by
  obtain ⟨M, hbM⟩ : ∃ M, b = a + (M + 1) := ⟨b - a - 1, by omega⟩
  obtain ⟨n, hn⟩ : ∃ n, n = d.size := ⟨_, rfl⟩
  have HR : Hid _ := And.intro hR (And.intro hn hV)
  rw [← hn] at hb hsz ⊢
  have hSi : ∀ (lo hi : Nat) (dk : Array Sy.Ed) (W : World), dk.size = n → RowE w0 W g dk rest → lo ≤ hi → a + hi ≤ n → Calls Tryz.prog 167 #[.slice (some ⟨g, 0, none⟩) n cap, .int .i64 lo, .int .i64 hi, .int .i64 a, cmpV f] W fun r w' => r = .returned (.tuple #[]) ∧ RowE w0 w' g (Sort.siftDown (ltV vw) hi a lo dk) rest ∧ (Sort.siftDown (ltV vw) hi a lo dk).size = n := fun lo hi dk W hs h h1 h2 => by
    have h9 := sift_any f vw hV g cap lo hi a dk rest w0 W h h1 (by omega) (by omega)
    rw [hs] at h9
    exact h9
  have HS : Hid _ := hSi
  unfold cmpV at HS ⊢
  unfold Sort.heapSort
  have eM : b - a = M + 1 := by omega
  rw [eM, Nat.add_sub_cancel]
  have hbn : a + (M + 1) ≤ n := by omega
  have e0 : (b : Int) - (a : Int) = (M : Int) + 1 := by omega
  have e1 : IntKind.i64.wrap ((b : Int) - (a : Int)) = (M : Int) + 1 := by rw [IntKind.wrap_i64]; omega
  have e2 : IntKind.i64.wrap ((M : Int) + 1 - 1) = (M : Int) := by rw [IntKind.wrap_i64]; omega
  have e3 : IntKind.i64.wrap (M : Int) = (M : Int) := by rw [IntKind.wrap_i64]; omega
  have e4 : IntKind.i64.wrap ((M : Int) / 2) = ((M / 2 : Nat) : Int) := by rw [IntKind.wrap_i64]; omega
  clear hR hn hV hSi eM hbM hab hb
  go_enter Tryz.func155, Tryz.ntmps155
  go_wp2_with fail
  go_loopg [11] (M / 2 + 1) (fun q iv wr => ∃ (k : Nat) (dk : Array Sy.Ed), iv = .int .i64 ((k : Int) - 1) ∧ k ≤ M / 2 + 1 ∧ k ≤ q ∧ dk.size = n ∧ RowE w0 wr g dk rest ∧ Hid (Sort.heapBuild (ltV vw) (M + 1) a k dk = Sort.heapBuild (ltV vw) (M + 1) a (M / 2 + 1) d))
  case atStart => exact ⟨M / 2 + 1, d, by congr 1; omega, Nat.le_refl _, Nat.le_refl _, HR.out.2.1.symm, HR.out.1, rfl⟩
  case round =>
    obtain ⟨k, dk, rfl, hk, hq, hsk, hRk, HO⟩ := hrel
    cases k with
    | succ k =>
      have q3 : ((k + 1 : Nat) : Int) - 1 = (k : Int) := by omega
      have q4 : IntKind.i64.wrap ((k : Int) - 1) = (k : Int) - 1 := by rw [IntKind.wrap_i64]; omega
      have q5 : (0 : Int) ≤ (k : Int) := by omega
      rw [q3]
      have hC := HS.out k (M + 1) dk wr hsk hRk (by omega) (by omega)
      simp only [Int.natCast_add, Int.natCast_one] at hC
      have HC : Hid _ := And.intro hC trivial
      clear hC hRk q3 hsk e1 e2 e3 e4 e0
      go_wp2_with fail
      refine Calls.mono HC.out.1 ?_
      rintro r w3 ⟨rfl, hR3, hs3⟩
      have H3 : Hid _ := And.intro hR3 hs3
      clear hR3 hs3
      go_wp2_with fail
      go_roundg k
      case measure => omega
      case rel => exact ⟨k, _, rfl, by omega, Nat.le_refl _, H3.out.2, H3.out.1, HO.out⟩
    | zero =>
      have q2 : ((0 : Nat) : Int) - 1 = -1 := by omega
      rw [q2]
      have hO := HO.out
      rw [Sort.heapBuild] at hO
      have HO2 : Hid (dk = Sort.heapBuild (ltV vw) (M + 1) a (M / 2 + 1) d) := hO
      have HK : Hid (RowE w0 wr g dk rest ∧ dk.size = n) := ⟨hRk, hsk⟩
      clear hO hRk hsk HO
      go_wp2_with fail
      go_loopg [12] (M + 1) (fun q iv wr => ∃ (k : Nat) (dj : Array Sy.Ed), iv = .int .i64 ((k : Int) - 1) ∧ k ≤ M + 1 ∧ k ≤ q ∧ dj.size = n ∧ RowE w0 wr g dj rest ∧ Hid (Sort.heapPop (ltV vw) a k dj = Sort.heapPop (ltV vw) a (M + 1) dk))
      case atStart => exact ⟨M + 1, dk, by congr 1; omega, Nat.le_refl _, Nat.le_refl _, HK.out.2, HK.out.1, rfl⟩
      case round =>
        obtain ⟨k, dj, rfl, hk, hq, hsj, hRj, HP⟩ := hrel
        cases k with
        | succ k =>
          have q3 : ((k + 1 : Nat) : Int) - 1 = (k : Int) := by omega
          rw [q3]
          rcases Nat.eq_zero_or_pos k with hk0 | hkp
          · subst hk0
            have t5 : (0 : Int) ≤ (a : Int) := by omega
            have t6 : (a : Int) < (n : Int) := by omega
            have f0 := hRj.free (a * 3)
            have f1 := hRj.free (a * 3 + 1)
            have f2 := hRj.free (a * 3 + 2)
            have f3 := hRj.free (a * 3)
            have f4 := hRj.free (a * 3 + 1)
            have f5 := hRj.free (a * 3 + 2)
            obtain ⟨z0, z1, z2⟩ := hRj.cells (j := a) (by omega)
            obtain ⟨z3, z4, z5⟩ := hRj.cells (j := a) (by omega)
            obtain ⟨xe2, hxe2⟩ : ∃ xe, xe = dj[a]! := ⟨_, rfl⟩
            obtain ⟨ye2, hye2⟩ : ∃ ye, ye = dj[a]! := ⟨_, rfl⟩
            rw [← hxe2] at z0 z1 z2
            rw [← hye2] at z3 z4 z5
            have HE2 : Hid _ := And.intro hxe2 hye2
            clear hxe2 hye2
            obtain ⟨sa, sb, sc⟩ := xe2
            obtain ⟨ta, tb, tc⟩ := ye2
            simp only at z0 z1 z2 z3 z4 z5
            have HJ : Hid (RowE w0 wr g dj rest ∧ dj.size = n) := ⟨hRj, hsj⟩
            clear hRj hsj q2 q3
            rw [show ((0 : Nat) : Int) = 0 from rfl]
            go_wp2_with fail
            go_region
            all_goals go_wp2_with fail
            have hRs := HJ.out.1.swapped (i := a) (j := a) (x := (sa, sb, sc)) (y := (sa, sb, sc)) (by have := HJ.out.2; omega) (by have := HJ.out.2; omega) HE2.out.1 HE2.out.1
            have hC := HS.out 0 0 (Sort.swp dj a a) _ (by rw [Sort.size_swp]; exact HJ.out.2) hRs (by omega) (by omega)
            rw [show ((0 : Nat) : Int) = 0 from rfl] at hC
            refine Calls.mono hC ?_
            rintro r w3 ⟨rfl, hR3, hs3⟩
            have H3 : Hid _ := And.intro hR3 hs3
            clear hR3 hs3 hC hRs
            go_wp2_with fail
            go_roundg 0
            case measure => omega
            case rel => exact ⟨0, _, rfl, by omega, Nat.le_refl _, H3.out.2, H3.out.1, HP.out⟩
          · have q4 : IntKind.i64.wrap ((k : Int) - 1) = (k : Int) - 1 := by rw [IntKind.wrap_i64]; omega
            have q5 : (0 : Int) ≤ (k : Int) := by omega
            have t1 : (a : Int) + (k : Int) < (n : Int) := by omega
            have t2 : (0 : Int) ≤ (a : Int) + (k : Int) := by omega
            have t3 : ((a : Int) + (k : Int)).toNat = a + k := by omega
            have t4 : IntKind.i64.wrap ((a : Int) + (k : Int)) = (a : Int) + (k : Int) := by rw [IntKind.wrap_i64]; omega
            have t5 : (0 : Int) ≤ (a : Int) := by omega
            have t6 : (a : Int) < (n : Int) := by omega
            obtain ⟨ak, hak⟩ : ∃ ak, ak = a + k := ⟨_, rfl⟩
            have hne : ¬ a = ak := by omega
            have hne2 : ¬ ak = a := by omega
            rw [← hak] at t3
            have hakn : ak < n := by omega
            have f0 := hRj.free (a * 3)
            have f1 := hRj.free (a * 3 + 1)
            have f2 := hRj.free (a * 3 + 2)
            have f3 := hRj.free (ak * 3)
            have f4 := hRj.free (ak * 3 + 1)
            have f5 := hRj.free (ak * 3 + 2)
            obtain ⟨z0, z1, z2⟩ := hRj.cells (j := a) (by omega)
            obtain ⟨z3, z4, z5⟩ := hRj.cells (j := ak) (by omega)
            obtain ⟨xe2, hxe2⟩ : ∃ xe, xe = dj[a]! := ⟨_, rfl⟩
            obtain ⟨ye2, hye2⟩ : ∃ ye, ye = dj[ak]! := ⟨_, rfl⟩
            rw [← hxe2] at z0 z1 z2
            rw [← hye2] at z3 z4 z5
            have HE2 : Hid _ := And.intro hxe2 hye2
            clear hxe2 hye2
            obtain ⟨sa, sb, sc⟩ := xe2
            obtain ⟨ta, tb, tc⟩ := ye2
            simp only at z0 z1 z2 z3 z4 z5
            have HJ : Hid (RowE w0 wr g dj rest ∧ dj.size = n ∧ ak = a + k) := ⟨hRj, hsj, hak⟩
            clear hRj hsj q2 q3 hak
            go_wp2_with fail
            go_region
            all_goals go_wp2_with fail
            have hRs := HJ.out.1.swapped (i := a) (j := ak) (x := (sa, sb, sc)) (y := (ta, tb, tc)) (by have := HJ.out.2; omega) (by have := HJ.out.2; omega) HE2.out.1 HE2.out.2
            have hC := HS.out 0 k (Sort.swp dj a ak) _ (by rw [Sort.size_swp]; exact HJ.out.2.1) hRs (by omega) (by omega)
            rw [show ((0 : Nat) : Int) = 0 from rfl] at hC
            refine Calls.mono hC ?_
            rintro r w3 ⟨rfl, hR3, hs3⟩
            have H3 : Hid _ := And.intro hR3 hs3
            clear hR3 hs3 hC hRs
            go_wp2_with fail
            go_roundg k
            case measure => omega
            case rel => exact ⟨k, _, rfl, by omega, Nat.le_refl _, H3.out.2, H3.out.1, by rw [HJ.out.2.2]; exact HP.out⟩
        | zero =>
          have q2 : ((0 : Nat) : Int) - 1 = -1 := by omega
          rw [q2]
          go_wp2_with fail
          go_end0
          refine ⟨rfl, ?_⟩
          rw [← HO2.out, ← HP.out, Sort.heapPop]
          exact hRj
end
section
open Go.RowKit Go.Maps
attribute [local go_sem ↓] Go.wp_at_zero Go.wp_at_succ
def hintC : Sort.Hint → Int
  | .unknown => 0
  | .increasing => 1
  | .decreasing => 2
def hintS (s : Nat) : Sort.Hint := if s = 0 then .increasing else if s = 12 then .decreasing else .unknown
theorem med_lt {lt : Sy.Ed → Sy.Ed → Bool} {d : Array Sy.Ed} {a b c s n : Nat} (ha : a < n) (hb : b < n) (hc : c < n) : (Sort.median lt d a b c s).1 < n ∧ (Sort.median lt d a b c s).2 ≤ s + 3 := by
  unfold Sort.median
  obtain ⟨l1, l2, l3⟩ := o2_lt (lt := lt) (d := d) (s := s) ha hb
  obtain ⟨l4, l5, l6⟩ := o2_lt (lt := lt) (d := d) (s := (Sort.order2 lt d a b s).2.2) l2 hc
  obtain ⟨l7, l8, l9⟩ := o2_lt (lt := lt) (d := d) (s := (Sort.order2 lt d (Sort.order2 lt d a b s).2.1 c (Sort.order2 lt d a b s).2.2).2.2) l1 l4
  dsimp only
  exact ⟨l8, by omega⟩
theorem adj_lt {lt : Sy.Ed → Sy.Ed → Bool} {d : Array Sy.Ed} {a s n : Nat} (ha : 1 ≤ a) (hb : a + 1 < n) : (Sort.medianAdjacent lt d a s).1 < n ∧ (Sort.medianAdjacent lt d a s).2 ≤ s + 3 := by
  unfold Sort.medianAdjacent
  exact med_lt (by omega) (by omega) hb
set_option maxRecDepth 100000 in
set_option maxHeartbeats 4000000 in
theorem pivot_any (f : Nat) (vw : Sy.Ed → Sy.Ed) (hV : ViewAt f vw) (g cap a b : Nat) (d : Array Sy.Ed) (rest : List Value) (w0 w : World) (hR : RowE w0 w g d rest) (hab : a + 12 < b) (hb : b ≤ d.size) (hsz : d.size ≤ 1000000) :
    Calls Tryz.prog 157 #[.slice (some ⟨g, 0, none⟩) d.size cap, .int .i64 a, .int .i64 b, cmpV f] w fun r w' => r = .returned (.tuple #[.int .i64 (Sort.choosePivot (ltV vw) d a b).1, .int .i64 (hintC (Sort.choosePivot (ltV vw) d a b).2)]) ∧ RowE w0 w' g d rest := by
  obtain ⟨L, hL⟩ : ∃ L, L = b - a := ⟨_, rfl⟩
  obtain ⟨Q, hQ⟩ : ∃ Q, Q = L / 4 := ⟨_, rfl⟩
  obtain ⟨I, hI⟩ : ∃ I, I = a + Q * 1 := ⟨_, rfl⟩
  obtain ⟨J, hJ⟩ : ∃ J, J = a + Q * 2 := ⟨_, rfl⟩
  obtain ⟨K, hK⟩ : ∃ K, K = a + Q * 3 := ⟨_, rfl⟩
  have hCn : CnE w0 (w.alloc (.cells #[.int .i64 0] 3)) g d rest w.heap.size 0 := ⟨hR.below ((Below.refl _ _).alloc (Nat.le_refl _) _), heap_alloc_new w _, hR.bl.size⟩
  have hp : Sort.choosePivot (ltV vw) d a b = (if 50 ≤ L then (fun r : Nat × Nat => (r.1, hintS r.2)) (Sort.median (ltV vw) d (Sort.medianAdjacent (ltV vw) d I 0).1 (Sort.medianAdjacent (ltV vw) d J (Sort.medianAdjacent (ltV vw) d I 0).2).1 (Sort.medianAdjacent (ltV vw) d K (Sort.medianAdjacent (ltV vw) d J (Sort.medianAdjacent (ltV vw) d I 0).2).2).1 (Sort.medianAdjacent (ltV vw) d K (Sort.medianAdjacent (ltV vw) d J (Sort.medianAdjacent (ltV vw) d I 0).2).2).2) else (fun r : Nat × Nat => (r.1, hintS r.2)) (Sort.median (ltV vw) d I J K 0)) := by
    unfold Sort.choosePivot hintS
    simp only [← hL, ← hQ, ← hI, ← hJ, ← hK]
    rw [if_pos (by omega)]
    split <;> rfl
  rw [hp]
  have w1 : IntKind.i64.wrap ((b : Int) - (a : Int)) = (L : Int) := by rw [IntKind.wrap_i64]; omega
  have w1' : (b : Int) - (a : Int) = (L : Int) := by omega
  have w2 : IntKind.i64.wrap ((L : Int) / 4) = (Q : Int) := by rw [IntKind.wrap_i64]; omega
  have w3 : IntKind.i64.wrap ((a : Int) + (Q : Int)) = (I : Int) := by rw [IntKind.wrap_i64]; omega
  have w3' : (a : Int) + (Q : Int) = (I : Int) := by omega
  have w4 : IntKind.i64.wrap ((Q : Int) * 2) = (Q : Int) * 2 := by rw [IntKind.wrap_i64]; omega
  have w5 : IntKind.i64.wrap ((Q : Int) * 3) = (Q : Int) * 3 := by rw [IntKind.wrap_i64]; omega
  have w6 : IntKind.i64.wrap ((a : Int) + (Q : Int) * 2) = (J : Int) := by rw [IntKind.wrap_i64]; omega
  have w6' : (a : Int) + (Q : Int) * 2 = (J : Int) := by omega
  have w7 : IntKind.i64.wrap ((a : Int) + (Q : Int) * 3) = (K : Int) := by rw [IntKind.wrap_i64]; omega
  have w7' : (a : Int) + (Q : Int) * 3 = (K : Int) := by omega
  have w8 : IntKind.i64.wrap (Q : Int) = (Q : Int) := by rw [IntKind.wrap_i64]; omega
  have g8 : (8 : Int) ≤ (L : Int) := by omega
  have hLb : L ≤ 1000000 := by omega
  have hQb : Q ≤ 1000000 := by omega
  have hIb : I ≤ 1000000 := by omega
  have hJb : J ≤ 1000000 := by omega
  have hKb : K ≤ 1000000 := by omega
  have wL : IntKind.i64.wrap (L : Int) = (L : Int) := by rw [IntKind.wrap_i64]; omega
  have wQ : (L : Int) / 4 = (Q : Int) := by omega
  have bI : 1 ≤ I ∧ I + 1 < d.size := by omega
  have bJ : 1 ≤ J ∧ J + 1 < d.size := by omega
  have bK : 1 ≤ K ∧ K + 1 < d.size := by omega
  have hMA := fun (x s : Nat) (W : World) (h : CnE w0 W g d rest w.heap.size s) (h1 : 1 ≤ x) (h2 : x + 1 < d.size) (h3 : s + 3 ≤ 1000000) => medianAdj_any f vw hV g cap x w.heap.size s d rest w0 W h h1 h2 hsz h3
  have hMD := fun (x y z s : Nat) (W : World) (h : CnE w0 W g d rest w.heap.size s) (h1 : x < d.size) (h2 : y < d.size) (h4 : z < d.size) (h3 : s + 3 ≤ 1000000) => median_any f vw hV g cap x y z w.heap.size s d rest w0 W h h1 h2 h4 h3
  have HM : Hid _ := And.intro hMA (And.intro hMD hCn)
  unfold cmpV at HM ⊢
  obtain ⟨n, hn⟩ : ∃ n, n = d.size := ⟨_, rfl⟩
  rw [← hn] at hsz bI bJ bK HM ⊢
  clear hR hV hMA hMD hCn hp hL hQ hI hJ hK hb hab hn
  have fin : ∀ (s : Nat), s ≤ 1000 → (s = 0 ∧ hintC (hintS s) = 1) ∨ (s ≠ 0 ∧ s = 12 ∧ hintC (hintS s) = 2) ∨ (s ≠ 0 ∧ s ≠ 12 ∧ hintC (hintS s) = 0) := fun s _ => by
    unfold hintS
    by_cases h1 : s = 0
    · left; simp [h1, hintC]
    · by_cases h2 : s = 12
      · right; left; simp [h2, hintC]
      · right; right; simp [h1, h2, hintC]
  have HF : Hid _ := fin
  clear fin
  by_cases h50 : 50 ≤ L
  · rw [if_pos h50]
    have g50 : (50 : Int) ≤ (L : Int) := by omega
    have h1 := HM.out.1 I 0 _ HM.out.2.2 (by omega) (by omega) (by omega)
    have l1 := adj_lt (lt := ltV vw) (d := d) (s := 0) (n := n) (a := I) (by omega) (by omega)
    generalize Sort.medianAdjacent (ltV vw) d I 0 = r1 at h1 l1 ⊢
    obtain ⟨I2, s1⟩ := r1
    simp only at h1 l1 ⊢
    have h2 := fun W (h : CnE w0 W g d rest w.heap.size s1) => HM.out.1 J s1 W h (by omega) (by omega) (by omega)
    have l2 := adj_lt (lt := ltV vw) (d := d) (s := s1) (n := n) (a := J) (by omega) (by omega)
    generalize Sort.medianAdjacent (ltV vw) d J s1 = r2 at h2 l2 ⊢
    obtain ⟨J2, s2⟩ := r2
    simp only at h2 l2 ⊢
    have h3 := fun W (h : CnE w0 W g d rest w.heap.size s2) => HM.out.1 K s2 W h (by omega) (by omega) (by omega)
    have l3 := adj_lt (lt := ltV vw) (d := d) (s := s2) (n := n) (a := K) (by omega) (by omega)
    generalize Sort.medianAdjacent (ltV vw) d K s2 = r3 at h3 l3 ⊢
    obtain ⟨K2, s3⟩ := r3
    simp only at h3 l3 ⊢
    have hD := fun W (h : CnE w0 W g d rest w.heap.size s3) => HM.out.2.1 I2 J2 K2 s3 W h (by omega) (by omega) (by omega) (by omega)
    obtain ⟨_, hs3⟩ := med_lt (lt := ltV vw) (d := d) (s := s3) (n := n) (a := I2) (b := J2) (c := K2) (by omega) (by omega) (by omega)
    generalize Sort.median (ltV vw) d I2 J2 K2 s3 = r4 at hD hs3 ⊢
    obtain ⟨p, s⟩ := r4
    simp only at hD hs3 ⊢
    have HD : Hid _ := And.intro h1 (And.intro h2 (And.intro h3 hD))
    have hs9 : s ≤ 100 := by omega
    clear h1 h2 h3 hD l1 l2 l3 hs3
    go_enter Tryz.func157, Tryz.ntmps157
    go_wp2_with fail
    refine Calls.mono HD.out.1 ?_
    rintro r w4 ⟨rfl, hC4⟩
    go_wp2_with fail
    refine Calls.mono (HD.out.2.1 _ hC4) ?_
    rintro r w5 ⟨rfl, hC5⟩
    clear hC4
    go_wp2_with fail
    refine Calls.mono (HD.out.2.2.1 _ hC5) ?_
    rintro r w6 ⟨rfl, hC6⟩
    clear hC5
    go_wp2_with fail
    refine Calls.mono (HD.out.2.2.2 _ hC6) ?_
    rintro r w9 ⟨rfl, hC9⟩
    clear hC6
    have c9 : w9.cell? ⟨w.heap.size, 0, none⟩ = some (.int .i64 s) := cell0_of hC9.cell rfl
    have H9 : Hid _ := And.intro hC9.row trivial
    clear hC9
    rcases HF.out s (by omega) with ⟨h1, h2⟩ | ⟨h1, h2, h3⟩ | ⟨h1, h2, h3⟩
    · have e1 : ((s : Int) == 0) = true := by simp [h1]
      have HH : Hid (hintC (hintS s) = 1) := h2
      clear h1 h2
      go_wp2_with fail
      go_ret2
      exact ⟨by rw [HH.out]; rfl, H9.out.1⟩
    · have e1 : ((s : Int) == 0) = false := by simp; omega
      have e2 : ((s : Int) == 12) = true := by simp; omega
      have HH : Hid (hintC (hintS s) = 2) := h3
      clear h1 h2 h3
      go_wp2_with fail
      go_ret2
      exact ⟨by rw [HH.out]; rfl, H9.out.1⟩
    · have e1 : ((s : Int) == 0) = false := by simp; omega
      have e2 : ((s : Int) == 12) = false := by simp; omega
      have HH : Hid (hintC (hintS s) = 0) := h3
      clear h1 h2 h3
      go_wp2_with fail
      go_ret2
      exact ⟨by rw [HH.out]; rfl, H9.out.1⟩
  · rw [if_neg h50]
    have g50 : ¬ (50 : Int) ≤ (L : Int) := by omega
    have hD := HM.out.2.1 I J K 0 _ HM.out.2.2 (by omega) (by omega) (by omega) (by omega)
    obtain ⟨_, hs3⟩ := med_lt (lt := ltV vw) (d := d) (s := 0) (n := n) (a := I) (b := J) (c := K) (by omega) (by omega) (by omega)
    generalize Sort.median (ltV vw) d I J K 0 = r1 at hD hs3 ⊢
    obtain ⟨p, s⟩ := r1
    simp only at hD hs3 ⊢
    have HD : Hid _ := And.intro hD trivial
    clear hD
    go_enter Tryz.func157, Tryz.ntmps157
    go_wp2_with fail
    refine Calls.mono HD.out.1 ?_
    rintro r w9 ⟨rfl, hC9⟩
    have c9 : w9.cell? ⟨w.heap.size, 0, none⟩ = some (.int .i64 s) := cell0_of hC9.cell rfl
    have H9 : Hid _ := And.intro hC9.row trivial
    clear hC9
    rcases HF.out s (by omega) with ⟨h1, h2⟩ | ⟨h1, h2, h3⟩ | ⟨h1, h2, h3⟩
    · have e1 : ((s : Int) == 0) = true := by simp [h1]
      have HH : Hid (hintC (hintS s) = 1) := h2
      clear h1 h2
      go_wp2_with fail
      go_ret2
      exact ⟨by rw [HH.out]; rfl, H9.out.1⟩
    · have e1 : ((s : Int) == 0) = false := by simp; omega
      have e2 : ((s : Int) == 12) = true := by simp; omega
      have HH : Hid (hintC (hintS s) = 2) := h3
      clear h1 h2 h3
      go_wp2_with fail
      go_ret2
      exact ⟨by rw [HH.out]; rfl, H9.out.1⟩
    · have e1 : ((s : Int) == 0) = false := by simp; omega
      have e2 : ((s : Int) == 12) = false := by simp; omega
      have HH : Hid (hintC (hintS s) = 0) := h3
      clear h1 h2 h3
      go_wp2_with fail
      go_ret2
      exact ⟨by rw [HH.out]; rfl, H9.out.1⟩
end
end Go.Proofs.YtibdgefjpcebkaaGreatDoor
