/- Texts of this claim, joined: SmOrd, ErLaid, SyLent, SyArgI, SyArg, SmLaid, SoPiv. -/
import Derived.Test.YtladdlkfnfdhaaaDoorPart12
import Derived.Deep.RegionWith
import Derived.Test.YtladdlkfnfdhaaaDoorRows
import Derived.Test.YtladdlkfnfdhaaaDoorPart3
import Derived.ProofKit
import Derived.LaidMore
import Derived.Stop.LaidErr
import Derived.Lib.SmallJoins
import Derived.Deep.Slices
import Derived.Lib.LaidTab
import Derived.Test.YtladdlkfnfdhaaaDoorPart4
namespace Go.Proofs.YtladdlkfnfdhaaaDoor
section
open Go.RowKit Go.Maps
attribute [local go_sem ↓] Go.wp_at_zero Go.wp_at_succ
theorem MxAt.cell {w w' : World} {n g : Nat} {b : Nat → Nat} {X : Nat → Nat → Bool} (h : MxAt w w' n g b X n) {p q : Nat} (hp : p < n) (hq : q < n) : w'.cell? ⟨g, p, none⟩ = some (.slice (some ⟨b p, 0, none⟩) n n) ∧ w'.cell? ⟨b p, q, none⟩ = some (.bool (X p q)) := by
  have h1 := h.lst.cell hp
  rw [if_pos hp] at h1
  exact ⟨h1, (h.row p hp).cell hq⟩
/-- The classes as numbers. -/
theorem cls_at {A : Nat → Nat → Bool} {n p : Nat} (hp : p < n) : ∃ z : Int, (natI (Sy.canon (leaL A n)))[p]? = some z := by
  refine ⟨_, List.getElem?_eq_getElem ?_⟩
  rw [show (natI (Sy.canon (leaL A n))).length = n by simp [natI, Sy.canon, Sy.canonG_len, leaL_len]]
  exact hp
theorem cls_len (A : Nat → Nat → Bool) (n : Nat) : (natI (Sy.canon (leaL A n))).length = n := by simp [natI, Sy.canon, Sy.canonG_len, leaL_len]
theorem cls_iff {E : Nat → Nat → Nat → Prop} {A : Nat → Nat → Bool} {n p q : Nat} (hA : ∀ p q, p < n → q < n → (A p q = true ↔ Sm.Sims E p q)) (hp : p < n) (hq : q < n) {x y : Int} (hx : (natI (Sy.canon (leaL A n)))[p]? = some x) (hy : (natI (Sy.canon (leaL A n)))[q]? = some y) : x = y ↔ (simB E p q && simB E q p) = true := by
  rw [Sy.canon_eq (leaL_at hp) (leaL_at hq) hx hy, Bool.and_eq_true, simB_iff, simB_iff]
  rw [← lea_iff hA hp hq]
  omega
set_option linter.unusedSimpArgs false in
set_option maxRecDepth 100000 in
set_option maxHeartbeats 16000000 in
theorem lawOrder_any (hS : SortOk 1000000) (n k s : Int) (v : Value) (es : List Sy.Ed) (a : Addr) (w : World) (hE : EnvM w a) (hv : BEdges.Has w v es) :
    Calls Tryd.prog 3 #[sysV n k s v] w fun r w' => r = .returned (.bool true) ∧ Below w.heap.size w w' := by
  have hv0 := hv
  obtain ⟨ao, cap, rfl, _⟩ := hv0
  obtain ⟨L, hL⟩ : ∃ L, L = es.length := ⟨_, rfl⟩
  obtain ⟨w1, hw1⟩ : ∃ w1, w1 = w.alloc (.cells #[.int .i64 n, .int .i64 k, .int .i64 s, .slice ao L cap] 24) := ⟨_, rfl⟩
  have hb1 : Below w.heap.size w w1 := by rw [hw1]; exact (Below.refl _ _).alloc (Nat.le_refl _) _
  have hg1 : w1.heap[w.heap.size]? = some (.cells #[.int .i64 n, .int .i64 k, .int .i64 s, .slice ao L cap] 24 (0, 0)) := by rw [hw1]; exact heap_alloc_new w _
  have hSm := small_any17 n k s _ es a w1 (hE.below hb1).sy (hv.below hb1)
  have hvL := hv.below hb1
  rw [← hL] at hSm hvL ⊢
  unfold sysV at hSm ⊢
  obtain ⟨x0, x1, x2, x3⟩ := four_cells9 hg1
  obtain ⟨sm, hsm⟩ : ∃ sm, sm = smallB n k s es := ⟨_, rfl⟩
  rw [← hsm] at hSm
  have H1 : Hid _ := And.intro hSm (And.intro hb1 (And.intro hw1 (And.intro hg1 (And.intro (hE.below hb1) (And.intro hvL (And.intro hsm hL))))))
  have hsz : w1.heap.size = w.heap.size + 1 := by rw [hw1]; simp
  clear hE hv hvL hSm hb1 hw1 hL hg1 hsm
  go_enter Tryd.func3, Tryd.ntmps3
  go_upto_region 1 with fail
  rw [← H1.out.2.2.1]
  cases sm
  · go_wp2_with (first
      | (go_at_call 5; refine Calls.mono H1.out.1 ?_; rintro r w2 ⟨rfl, hb2⟩; have H2 : Hid _ := hb2; clear hb2)
      | (have hq := H2.out; go_at_call 6; refine Calls.mono (alive17_any hS a _ (H1.out.2.2.2.2.1.below H2.out)) ?_; rintro r w3 ⟨rfl, hb3⟩; have H3 : Hid _ := hb3; clear hb3 hq))
    go_ret
    exact ⟨rfl, H1.out.2.1.trans ((H2.out.trans (H3.out.mono H2.out.size)).mono H1.out.2.1.size)⟩
  · have hsm := H1.out.2.2.2.2.2.2.1.symm
    unfold smallB at hsm
    rw [Bool.and_eq_true, Bool.and_eq_true, decide_eq_true_eq, decide_eq_true_eq] at hsm
    obtain ⟨⟨hn25, hL150⟩, hq⟩ := hsm
    have hp9 := right_parts hq
    obtain ⟨m, rfl⟩ : ∃ m : Nat, n = (m : Int) := ⟨n.toNat, by omega⟩
    obtain ⟨kk, rfl⟩ : ∃ kk : Nat, k = (kk : Int) := ⟨k.toNat, by omega⟩
    have hAb := fun W (hb : Below w1.heap.size w1 W) => labove_ok hS m kk s (.slice ao L cap) es a W (H1.out.2.2.2.2.1.below hb) (H1.out.2.2.2.2.2.1.below hb) (by omega) hq (by omega)
    have hCl := fun W (hb : Below w1.heap.size w1 W) => mclasses_ok hS m kk s (.slice ao L cap) es a W (H1.out.2.2.2.2.1.below hb).sy (H1.out.2.2.2.2.1.below hb).tab (H1.out.2.2.2.2.2.1.below hb) (by omega) hq (by omega)
    unfold sysV at hAb hCl
    have HQ : Hid _ := And.intro hAb (And.intro hCl hq)
    have hm25 : m ≤ 25 := by omega
    clear hAb hCl hp9 hq hL150 hn25
    go_upto_region 3 with (go_at_call 5; refine Calls.mono H1.out.1 ?_; rintro r w2 ⟨rfl, hb2⟩; have y0 := cell_up x0 hb2; have y1 := cell_up x1 hb2; have y2 := cell_up x2 hb2; have y3 := cell_up x3 hb2; have H2 : Hid _ := hb2; clear hb2)
    clear x0 x1 x2 x3
    go_upto_region 4 with (go_at_call 7; refine Calls.mono (HQ.out.1 _ H2.out) ?_; rintro r w3 ⟨g, b, rfl, hM⟩; have x0 := cell_up y0 hM.bl; have x1 := cell_up y1 hM.bl; have x2 := cell_up y2 hM.bl; have x3 := cell_up y3 hM.bl; have H3 : Hid (MxAt w2 w3 m g b (simB (EE es)) m) := hM; clear hM)
    clear y0 y1 y2 y3
    go_upto_region 5 with (go_at_call 8; refine Calls.mono (HQ.out.2.1 _ (H2.out.trans (H3.out.bl.mono H2.out.size))) ?_; rintro r w4 ⟨u, A, rfl, hO, hA, hb4⟩; obtain ⟨au, cu, hu⟩ := row_shape hO; rw [cls_len] at hu; subst hu; have y0 := cell_up x0 hb4; have y1 := cell_up x1 hb4; have y2 := cell_up x2 hb4; have y3 := cell_up x3 hb4; have H4 : Hid _ := And.intro hO (And.intro hA hb4); clear hO hA hb4)
    clear x0 x1 x2 x3 y1 y2 y3
    have H5 : Hid (MxAt w2 w4 m g b (simB (EE es)) m) := H3.out.below H4.out.2.2
    go_wp2_with fail
    go_loopg [7] m (fun q iv wr => ∃ p : Nat, q = m - p ∧ p ≤ m ∧ iv = .int .i64 p ∧ Below w4.heap.size w4 wr)
    case atStart => exact ⟨0, rfl, Nat.zero_le _, rfl, Below.refl _ _⟩
    case round =>
      obtain ⟨p, rfl, hp, rfl, hbP⟩ := hrel
      obtain ⟨wo, rfl⟩ : ∃ wo, wo = wr := ⟨_, rfl⟩
      have x0 := cell_up y0 hbP
      by_cases hlt : p < m
      · have q0 : (0 : Int) ≤ (p : Int) := by omega
        have q1 : (p : Int) < (m : Int) := by omega
        have HP : Hid (Below w4.heap.size w4 wo) := hbP
        clear hbP
        go_wp2_with fail
        go_loopg [8] m (fun z iv wr => ∃ q : Nat, z = m - q ∧ q ≤ m ∧ iv = .int .i64 q ∧ Below w4.heap.size w4 wr)
        case atStart => exact ⟨0, rfl, Nat.zero_le _, rfl, HP.out⟩
        case round =>
          obtain ⟨q, rfl, hq, rfl, hbQ⟩ := hrel
          obtain ⟨wi, rfl⟩ : ∃ wi, wi = wr := ⟨_, rfl⟩
          clear x0
          have x0 := cell_up y0 hbQ
          by_cases hlq : q < m
          · have q2 : (0 : Int) ≤ (q : Int) := by omega
            have q3 : (q : Int) < (m : Int) := by omega
            have hM := H5.out.below hbQ
            obtain ⟨c1, c2⟩ := hM.cell hlt hlq
            obtain ⟨c3, c4⟩ := hM.cell hlq hlt
            obtain ⟨zp, hzp⟩ := cls_at (A := A) hlt
            obtain ⟨zq, hzq⟩ := cls_at (A := A) hlq
            have hcls := cls_iff H4.out.2.1 hlt hlq hzp hzq
            obtain ⟨gs, hgs, e1⟩ := own_num H4.out.1 hzp
            have hgs2 := hgs
            obtain ⟨gs', hgs', e2⟩ := own_num H4.out.1 hzq
            rw [hgs] at hgs'
            injection hgs' with hgs'
            obtain rfl : gs = gs' := (congrArg Addr.block hgs' : _)
            subst hgs
            clear hgs2 hgs'
            have d1 := cell_up e1 hbQ
            have d2 := cell_up e2 hbQ
            have hrf : p = q → simB (EE es) p q = true := fun e => by rw [e, simB_iff]; exact Sm.sims_refl _ q
            have hTr : ∀ r, simB (EE es) p q = true → simB (EE es) q r = true → simB (EE es) p r = true := fun r h1 h2 => by
              rw [simB_iff] at h1 h2 ⊢
              exact Sm.sims_trans h1 h2
            obtain ⟨xb, hxb⟩ : ∃ xb, xb = simB (EE es) p q := ⟨_, rfl⟩
            obtain ⟨yb, hyb⟩ : ∃ yb, yb = simB (EE es) q p := ⟨_, rfl⟩
            rw [← hxb] at c2 hcls hrf hTr
            rw [← hyb] at c4 hcls
            have HZ : Hid (p = q → xb = true) := hrf
            have HX : Hid _ := And.intro hbQ (And.intro hTr (And.intro hM hxb))
            have hne : xb = false → ¬ p = q := fun h1 h2 => by have := hrf h2; rw [h1] at this; cases this
            clear hbQ hTr hM hxb hyb hrf hzp hzq e1 e2
            have hsp : (((p : Int) == (q : Int)) = true ∧ xb = true ∨ ((p : Int) == (q : Int)) = false) ∧ ((zp : Int) == zq) = (xb && yb) := by
              refine ⟨?_, ?_⟩
              · by_cases hpq : p = q
                · exact .inl ⟨by simp [hpq], HZ.out hpq⟩
                · exact .inr (by simp; omega)
              · rw [Bool.eq_iff_iff, beq_iff_eq]
                exact hcls
            obtain ⟨hpq, f2⟩ := hsp
            clear hcls hne
            cases xb
            · have f1 : ((p : Int) == (q : Int)) = false := by
                rcases hpq with ⟨_, h⟩ | h
                · cases h
                · exact h
              rw [Bool.false_and] at f2
              clear hpq
              go_wp2_with fail
              go_quiet (fail)
              go_wp2_with fail
              go_loopg [9] m (fun z iv wr => ∃ r : Nat, z = m - r ∧ r ≤ m ∧ iv = .int .i64 r ∧ Below w4.heap.size w4 wr)
              case atStart => exact ⟨0, rfl, Nat.zero_le _, rfl, below_drewN HX.out.1 _⟩
              case round =>
                obtain ⟨r, rfl, hr, rfl, hbR⟩ := hrel
                clear x0 c1 c2 c3 c4 d1 d2
                have x0 := cell_up y0 hbR
                by_cases hlr : r < m
                · obtain ⟨c1, c2⟩ := (H5.out.below hbR).cell hlt hlq
                  rw [← HX.out.2.2.2] at c2
                  have q5 : (r : Int) < (m : Int) := by omega
                  have HR : Hid _ := hbR
                  clear hbR
                  go_wp2_with fail
                  go_roundg (m - (r + 1))
                  case measure => omega
                  case rel => exact ⟨r + 1, rfl, by omega, by go_num, HR.out⟩
                · obtain rfl : m = r := by omega
                  have q5 : ¬ (m : Int) < (m : Int) := by omega
                  have HR : Hid _ := hbR
                  clear hbR
                  go_wp2_with fail
                  go_roundg (m - (q + 1))
                  case measure => omega
                  case rel => exact ⟨q + 1, rfl, by omega, by go_num, HR.out⟩
            · rw [Bool.true_and] at f2
              have hpq2 : ((p : Int) == (q : Int)) = true ∨ ((p : Int) == (q : Int)) = false := hpq.imp (fun h => h.1) id
              clear hpq
              rcases hpq2 with f1 | f1
              all_goals cases yb
              all_goals
                go_wp2_with fail
                go_quiet (fail)
                go_wp2_with fail
                go_loopg [9] m (fun z iv wr => ∃ r : Nat, z = m - r ∧ r ≤ m ∧ iv = .int .i64 r ∧ Below w4.heap.size w4 wr)
                case atStart => exact ⟨0, rfl, Nat.zero_le _, rfl, below_drewN HX.out.1 _⟩
                case round =>
                  obtain ⟨r, rfl, hr, rfl, hbR⟩ := hrel
                  clear x0 c1 c2 c3 c4 d1 d2
                  have x0 := cell_up y0 hbR
                  by_cases hlr : r < m
                  · have q4 : (0 : Int) ≤ (r : Int) := by omega
                    have q5 : (r : Int) < (m : Int) := by omega
                    have hMR := H5.out.below hbR
                    obtain ⟨c1, c2⟩ := hMR.cell hlt hlq
                    obtain ⟨c3, c4⟩ := hMR.cell hlq hlr
                    obtain ⟨_, c5⟩ := hMR.cell hlt hlr
                    rw [← HX.out.2.2.2] at c2
                    have hT := HX.out.2.1 r (by first | trivial | rfl)
                    generalize simB (EE es) q r = zb at c4 hT
                    generalize simB (EE es) p r = tb at c5 hT
                    have HR : Hid _ := hbR
                    clear hbR hMR
                    cases zb
                    · clear hT
                      go_wp2_with fail
                      go_roundg (m - (r + 1))
                      case measure => omega
                      case rel => exact ⟨r + 1, rfl, by omega, by go_num, HR.out⟩
                    · obtain rfl : true = tb := (hT rfl).symm
                      clear hT
                      go_wp2_with fail
                      go_roundg (m - (r + 1))
                      case measure => omega
                      case rel => exact ⟨r + 1, rfl, by omega, by go_num, HR.out⟩
                  · obtain rfl : m = r := by omega
                    have q5 : ¬ (m : Int) < (m : Int) := by omega
                    have HR : Hid _ := hbR
                    clear hbR
                    go_wp2_with fail
                    go_roundg (m - (q + 1))
                    case measure => omega
                    case rel => exact ⟨q + 1, rfl, by omega, by go_num, HR.out⟩
          · obtain rfl : m = q := by omega
            have q3 : ¬ (m : Int) < (m : Int) := by omega
            have HR : Hid _ := hbQ
            clear hbQ
            go_wp2_with fail
            go_roundg (m - (p + 1))
            case measure => omega
            case rel => exact ⟨p + 1, rfl, by omega, by go_num, HR.out⟩
      · obtain rfl : m = p := by omega
        have q1 : ¬ (m : Int) < (m : Int) := by omega
        have h14 := H2.out.trans ((H3.out.bl.trans (H4.out.2.2.mono H3.out.bl.size)).mono H2.out.size)
        have HP : Hid _ := And.intro hbP (h14.trans (hbP.mono h14.size))
        clear hbP h14
        go_wp2_with (go_at_call 6; refine Calls.mono (alive17_any hS a _ (H1.out.2.2.2.2.1.below HP.out.2)) ?_; rintro r w9 ⟨rfl, hb9⟩; have H9 : Hid _ := hb9; clear hb9)
        go_ret
        exact ⟨rfl, H1.out.2.1.trans ((HP.out.2.trans (H9.out.mono HP.out.2.size)).mono H1.out.2.1.size)⟩
end
section
open Go.ChangeShapes Go.WideShapes Go.ChangeAt Go.WideMaps Go.WideElems Go.RowKit
theorem Tryd.own : ownKnob Tryd.prog.godebug = none := by kernel_rfl
theorem Tryd.laidOut : laidOutB Tryd.prog = true := by kernel_rfl
theorem Tryd.cellsE : Tryd.prog.cellsOf 155 = 1 := by kernel_rfl
theorem Tryd.cellsS : Tryd.prog.cellsOf 9 = 1 := by kernel_rfl
set_option maxRecDepth 100000 in
theorem Tryd.star : "*" ++ "errors.errorString" = "*errors.errorString" := by decide
set_option maxRecDepth 100000 in
theorem Tryd.rowE (u : TypeId) (h : Tryd.prog.typeName? 3 u = some "*errors.errorString") : u = 139 :=
  typeName_ptr_named (nm := "errors.errorString") (by rw [Tryd.star]; kernel_rfl) (by kernel_rfl) (by decide) u (by rw [Tryd.star]; exact h)
set_option maxRecDepth 100000 in
/-- One listed error: its variable's cell, its place; and the rest of the list. -/
theorem laid_step {W : World} {n : String} {g : Nat} {text : List UInt8} {r : List (String × DataW Unit)} {ps : List MemPlace} (hg : Tryd.prog.globalNamed n = some g) (ht : (Tryd.prog.globals[g]?).map (·.type) = some 32)
    (h : DataW.LaidVars Tryd.prog W ((n, .iface "*errors.errorString" (.ptr (.agg [.lit (.string text)]))) :: r) ps)
    (hrows : ∀ b off, MemPlace.cell b off ∈ ps → (∃ c t, W.heap[b]? = some (.cells c t (0, 0))) ∧ ∀ u v, W.cell? ⟨b, off, none⟩ = some (.iface u v) → Value.okWide Tryd.prog W .any 0 u v) :
    ∃ a q, Sent W g a ∧ DataW.LaidVars Tryd.prog W r q ∧ ps = MemPlace.cell g 0 :: MemPlace.cell a.block a.off :: q := by
  obtain ⟨g0, t0, cs0, f0, p0, q0, hg0, ht0, hv0, hd0, hr, e0⟩ := h
  obtain rfl := Option.some.inj (hg.symm.trans hg0)
  obtain rfl := Option.some.inj (ht.symm.trans ht0)
  subst e0
  obtain ⟨l0⟩ := cs0
  have ok0 : ∀ u v, l0 = [.iface u v] → Value.okWide Tryd.prog W .any 0 u v := fun u v e => by
    subst e
    exact (hrows g 0 (by simp [MemPlace.row])).2 u v (by simpa using World.var?_cell hg0 hv0 0)
  obtain ⟨a0, s0, rfl, hc0, hs0, hz0, rfl⟩ := errorString_of_trod Tryd.underlying32 Tryd.rowE Tryd.underlying139 Tryd.underlying155 rfl rfl Tryd.underlying9 Tryd.cellsE Tryd.cellsS hd0 ok0
  refine ⟨a0, q0, ⟨by simpa using World.var?_cell hg0 hv0 0, (hrows a0.block a0.off (by simp [MemPlace.row])).1⟩, hr, ?_⟩
  simp [MemPlace.row]
/-- A listed error: its name, its variable, its text. -/
abbrev LE : Type := String × Nat × List UInt8
def leV (x : LE) : String × DataW Unit := (x.1, .iface "*errors.errorString" (.ptr (.agg [.lit (.string x.2.2)])))
theorem laid_list {W : World} {r : List (String × DataW Unit)} : ∀ (xs : List LE) (ps : List MemPlace), (∀ x ∈ xs, Tryd.prog.globalNamed x.1 = some x.2.1 ∧ (Tryd.prog.globals[x.2.1]?).map (·.type) = some 32) →
    DataW.LaidVars Tryd.prog W (xs.map leV ++ r) ps → (∀ b off, MemPlace.cell b off ∈ ps → (∃ c t, W.heap[b]? = some (.cells c t (0, 0))) ∧ ∀ u v, W.cell? ⟨b, off, none⟩ = some (.iface u v) → Value.okWide Tryd.prog W .any 0 u v) →
    ∃ ads : List Addr, ads.length = xs.length ∧ (∀ (i : Nat) (x : LE) (a : Addr), xs[i]? = some x → ads[i]? = some a → Sent W x.2.1 a) ∧ (∀ a ∈ ads, MemPlace.cell a.block a.off ∈ ps) ∧ (ps.Nodup → ads.Pairwise (· ≠ ·))
  | [], ps, _, _, _ => ⟨[], rfl, fun i x a h => by simp at h, fun a h => by simp at h, fun _ => List.Pairwise.nil⟩
  | x :: xs, ps, hx, h, hr => by
    obtain ⟨a, q, hs, hq, rfl⟩ := laid_step (hx x List.mem_cons_self).1 (hx x List.mem_cons_self).2 h hr
    obtain ⟨ads, h1, h2, h3, h4⟩ := laid_list xs q (fun y hy => hx y (List.mem_cons_of_mem _ hy)) hq (fun b off hb => hr b off (List.mem_cons_of_mem _ (List.mem_cons_of_mem _ hb)))
    refine ⟨a :: ads, by simp [h1], fun i y b hy hb => ?_, fun b hb => ?_, fun hn => ?_⟩
    · cases i with
      | zero => simp at hy hb; subst hy; subst hb; exact hs
      | succ i => exact h2 i y b (by simpa using hy) (by simpa using hb)
    · rcases List.mem_cons.1 hb with rfl | hb
      · exact List.mem_cons_of_mem _ List.mem_cons_self
      · exact List.mem_cons_of_mem _ (List.mem_cons_of_mem _ (h3 b hb))
    · have hn2 := (List.nodup_cons.1 hn).2
      have hn3 := List.nodup_cons.1 hn2
      exact List.Pairwise.cons (fun b hb e => hn3.1 (by rw [e]; exact h3 b hb)) (h4 hn3.2)
theorem Tryd.g2 : Tryd.prog.globalNamed "semblance/api.ErrLong" = some 2 := by kernel_rfl
theorem Tryd.t2 : (Tryd.prog.globals[2]?).map (·.type) = some 32 := by kernel_rfl
theorem Tryd.g3 : Tryd.prog.globalNamed "semblance/api.ErrIndex" = some 1 := by kernel_rfl
theorem Tryd.t3 : (Tryd.prog.globals[1]?).map (·.type) = some 32 := by kernel_rfl
theorem Tryd.g14 : Tryd.prog.globalNamed "semblance/api.ErrSystem" = some 0 := by kernel_rfl
theorem Tryd.t14 : (Tryd.prog.globals[0]?).map (·.type) = some 32 := by kernel_rfl
set_option maxRecDepth 100000 in
theorem system_of {W : World} {x14 : List UInt8} {r : List (String × DataW Unit)} (h : laidMet Tryd.prog (("semblance/api.ErrSystem", .iface "*errors.errorString" (.ptr (.agg [.lit (.string x14)]))) :: r) W) : ∃ a, Sent W 0 a := by
  obtain ⟨ps, h0, hnd, r0⟩ := h
  obtain ⟨ads, h1, h2, _, _⟩ := laid_list [("semblance/api.ErrSystem", 0, x14)] ps (fun x hx => by
    simp only [List.mem_cons, List.not_mem_nil, or_false] at hx
    rcases hx with rfl
    · exact ⟨Tryd.g14, Tryd.t14⟩) h0 r0
  obtain ⟨a, ha⟩ : ∃ a, ads[0]? = some a := ⟨ads[0]'(by rw [h1]; simp), List.getElem?_eq_getElem _⟩
  exact ⟨a, h2 0 _ a rfl ha⟩
end
section
open Go.RowKit Go.Maps
attribute [local go_sem ↓] Go.wp_at_zero Go.wp_at_succ
/-- The marks behind what is lent. -/
def mk3 : List Sy.Ed := [(-7, 0, 0), (-7, 1, 0), (-7, 2, 0)]
/-- A list with room behind it, in which the marks stand. -/
def LentE (w : World) (B : Nat) (u : Value) (es : List Sy.Ed) : Prop := ∃ g cap, u = .slice (some ⟨g, 0, none⟩) es.length cap ∧ es.length + 3 ≤ cap ∧ BEdges.Own w B (.slice (some ⟨g, 0, none⟩) (es.length + 3) cap) (es ++ mk3)
theorem LentE.below {w w' : World} {B : Nat} {u : Value} {es : List Sy.Ed} (h : LentE w B u es) (hb : Below w.heap.size w w') : LentE w' B u es := by
  obtain ⟨g, cap, h1, h2, h3⟩ := h
  exact ⟨g, cap, h1, h2, trow_at h3 fun b hb' => hb.block b (h3.lt b hb').2⟩
theorem LentE.hasE {w : World} {B : Nat} {u : Value} {es : List Sy.Ed} (h : LentE w B u es) : HasE w u es := by
  obtain ⟨g, cap, rfl, h2, h3⟩ := h
  have h4 := HasE.of_own h3
  have h5 := hasE_take h4 es.length (by rw [List.length_append]; omega)
  rw [List.take_left' rfl] at h5
  exact h5
end
section
open Go.ChangeShapes Go.WideShapes Go.ChangeAt Go.WideMaps Go.WideElems Go.RowKit
theorem Tryd.cIntE : Tryd.prog.cellsOf 3 = 1 := by kernel_rfl
set_option maxRecDepth 100000 in
theorem has_ints {H : Type} {enc : TypeId × Value → H} {W : World} {base : Nat} {v : Value} {d : DataW H} {ps : List MemPlace} (hok : Value.okWide Tryd.prog W .any base 30 v) (h : DataW.Trod enc Tryd.prog W 0 (fun _ => true) true 30 v d ps) : ∃ zs, HasI W v zs ∧ I64s zs := by
  obtain ⟨a0, len0, cap0, rfl⟩ := okWide_slice Tryd.underlying30 hok
  obtain ⟨fuel, hf⟩ := h
  rcases Go.ChangeShapes.open_ints Tryd.underlying30 Tryd.underlying3 Tryd.cIntE hf with ⟨hc, _⟩ | ⟨a, len, cap, zs, hc, _, hl, hm, hlen, _, hcell, hwf⟩
  · have hc' : [Value.slice a0 len0 cap0] = [Value.slice none 0 0] := hc
    injection hc' with hc' _
    injection hc' with h1 h2 h3
    subst h1; subst h2; subst h3
    exact ⟨[], ⟨none, 0, rfl, fun i s h => by simp at h⟩, fun z hz => by simp at hz⟩
  · have hc' : [Value.slice a0 len0 cap0] = [Value.slice (some a) len cap] := hc
    injection hc' with hc' _
    injection hc' with h1 h2 h3
    subst h1; subst h2; subst h3
    have hlen' : zs.length = cap0 := by simpa using hlen
    refine ⟨zs.take len0, ⟨some a, cap0, by simp; omega, fun i z h => ⟨a, rfl, ?_⟩⟩, fun z hz => hwf z (List.mem_of_mem_take hz)⟩
    have hi : i < len0 := by have := (List.getElem?_eq_some_iff.1 h).1; simp at this; omega
    rw [List.getElem?_take_of_lt hi] at h
    rw [hcell i (by omega), List.getD_eq_getElem?_getD, h]; rfl
end
section
open Go.ChangeShapes Go.WideShapes Go.ChangeAt Go.WideMaps Go.WideElems Go.RowKit
theorem Tryd.cEdge : Tryd.prog.cellsOf 46 = 3 := by kernel_rfl
theorem Tryd.cSys : Tryd.prog.cellsOf 24 = 4 := by kernel_rfl
theorem ed_choose {n : Nat} {p : Nat → Sy.Ed → Prop} (h : ∀ i, i < n → ∃ x, p i x) : ∃ f : Nat → Sy.Ed, ∀ i, i < n → p i (f i) := by
  classical
  refine ⟨fun i => if hi : i < n then Classical.choose (h i hi) else (0, 0, 0), fun i hi => ?_⟩
  simp only [hi, dif_pos]
  exact Classical.choose_spec (h i hi)
set_option maxRecDepth 100000 in
theorem edge_in {H : Type} {enc : TypeId × Value → H} {W : World} {fuel i : Nat} {a : Addr} {cs : List Value} {x : DataW H × List MemPlace} (hc : W.cells? 0 (a.add (i * 3)) 3 = some cs) (h : DataW.trod enc Tryd.prog W 0 (fun _ => true) true fuel 46 cs = some x) :
    ∃ z : Sy.Ed, ∀ q u, (BEdges.enc z)[q]? = some u → W.cell? (a.add (i * 3 + q)) = some u := by
  obtain ⟨_, hlen, hcell⟩ := World.cells?_some hc
  obtain ⟨xs, k, hk, _, _, hxl, hf⟩ := DataW.trod_struct Tryd.underlying46 h
  match xs, hxl, cs, hlen with
  | [y0, y1, y2], _, [v0, v1, v2], _ =>
    have g0 := hf 0 _ rfl
    have g1 := hf 1 _ rfl
    have g2 := hf 2 _ rfl
    simp [Tryd.cIntE] at g0 g1 g2
    obtain ⟨z0, e0, _⟩ := DataW.trod_int Tryd.underlying3 g0
    obtain ⟨z1, e1, _⟩ := DataW.trod_int Tryd.underlying3 g1
    obtain ⟨z2, e2, _⟩ := DataW.trod_int Tryd.underlying3 g2
    obtain rfl : v0 = .int .i64 z0 := by simpa using e0
    obtain rfl : v1 = .int .i64 z1 := by simpa using e1
    obtain rfl : v2 = .int .i64 z2 := by simpa using e2
    have c0 := hcell 0 (by omega)
    have c1 := hcell 1 (by omega)
    have c2 := hcell 2 (by omega)
    rw [Go.Deep.add_add] at c0 c1 c2
    refine ⟨(z0, z1, z2), fun q u hq => ?_⟩
    match q, hq with
    | 0, hq => cases hq; simpa using c0
    | 1, hq => cases hq; simpa using c1
    | 2, hq => cases hq; simpa using c2
    | q + 3, hq => simp [BEdges.enc] at hq
set_option maxRecDepth 100000 in
theorem edges_in {H : Type} {enc : TypeId × Value → H} {W : World} {fuel : Nat} {v : Value} {x : DataW H × List MemPlace} (h : DataW.trod enc Tryd.prog W 0 (fun _ => true) true fuel 22 [v] = some x) : ∃ es, HasE W v es ∧ es.length ≤ maxLen := by
  rcases Go.Deep.open_slice Tryd.underlying22 h with ⟨hc, _⟩ | ⟨a, len, cap, m, n, D, Pl, hc, _, hl, hm, hmm, _, hx⟩
  · obtain rfl : v = .slice none 0 0 := by injection hc
    exact ⟨[], ⟨none, 0, rfl, Nat.le_refl _, none, 0, rfl, fun i s h => by simp [BEdges.C] at h⟩, by simp⟩
  · obtain rfl : v = .slice (some a) len cap := by injection hc
    have hm' : m = cap := by simpa using hmm
    rw [Tryd.cEdge] at hx
    have each : ∀ i, i < len → ∃ z : Sy.Ed, ∀ q u, (BEdges.enc z)[q]? = some u → W.cell? (a.add (i * 3 + q)) = some u := fun i hi => by
      obtain ⟨cs, h1, h2⟩ := hx i (by omega)
      exact edge_in h1 h2
    obtain ⟨f, hf'⟩ := ed_choose each
    have hL : ((List.range len).map f).length = len := by simp
    refine ⟨(List.range len).map f, ⟨some a, cap, by rw [hL], by rw [hL]; omega, some a, cap, by rw [hL], fun j u hj => ⟨a, rfl, ?_⟩⟩, by rw [hL]; omega⟩
    have hj3 : j < len * 3 := by have := (List.getElem?_eq_some_iff.1 hj).1; rw [BEdges.C_len, hL] at this; exact this
    have hi : j / 3 < len := by omega
    have hz : ((List.range len).map f)[j / 3]? = some (f (j / 3)) := by rw [List.getElem?_map, List.getElem?_range hi]; rfl
    have h9 := BEdges.C_at _ _ _ hz (j % 3) (Nat.mod_lt _ (by decide))
    have e9 : j / 3 * 3 + j % 3 = j := by omega
    rw [e9, hj] at h9
    have h8 := hf' (j / 3) hi (j % 3) u h9.symm
    rw [e9] at h8
    exact h8
set_option maxRecDepth 100000 in
theorem has_sys {H : Type} {enc : TypeId × Value → H} {W : World} {base : Nat} {v : Value} {d : DataW H} {ps : List MemPlace} (hok : Value.okWide Tryd.prog W .any base 24 v) (h : DataW.Trod enc Tryd.prog W 0 (fun _ => true) true 24 v d ps) :
    ∃ (n k s : Int) (u : Value) (es : List Sy.Ed), v = sysV n k s u ∧ HasE W u es ∧ es.length ≤ maxLen := by
  obtain ⟨v0, v1, v2, v3, y0, y1, y2, y3, f, rfl, _, _, t0, t1, t2, t3⟩ := Go.Joins.open_agg4 Tryd.underlying24 (by kernel_rfl) Tryd.cSys hok h
  obtain ⟨z0, e0, _⟩ := DataW.trod_int Tryd.underlying3 t0
  obtain ⟨z1, e1, _⟩ := DataW.trod_int Tryd.underlying3 t1
  obtain ⟨z2, e2, _⟩ := DataW.trod_int Tryd.underlying3 t2
  obtain rfl : v0 = .int .i64 z0 := by simpa using e0
  obtain rfl : v1 = .int .i64 z1 := by simpa using e1
  obtain rfl : v2 = .int .i64 z2 := by simpa using e2
  obtain ⟨es, h1, h2⟩ := edges_in t3
  exact ⟨z0, z1, z2, v3, es, rfl, h1, h2⟩
end
section
open Go.ChangeShapes Go.WideShapes Go.ChangeAt Go.WideMaps Go.WideElems Go.RowKit
theorem laid_tail9 {W : World} {x : String × DataW Unit} {r : List (String × DataW Unit)} (h : laidMet Tryd.prog (x :: r) W) : laidMet Tryd.prog r W := by
  obtain ⟨ps, ⟨g, t, cs, fuel, p, q, _, _, _, _, hr, rfl⟩, hn, ho⟩ := h
  exact ⟨q, hr, (List.nodup_append.1 hn).2.1, fun b off hb => ho b off (List.mem_append_right _ hb)⟩
theorem Tryd.gTab : Tryd.prog.globalNamed "math/bits.deBruijn64tab" = some 3 := by kernel_rfl
theorem Tryd.tTab : (Tryd.prog.globals[3]?).map (·.type) = some 114 := by kernel_rfl
theorem Tryd.cTabE : Tryd.prog.cellsOf 5 = 1 := by kernel_rfl
theorem Tryd.cTab : Tryd.prog.cellsOf 114 = 64 := by kernel_rfl
def tabZ : List Int := Lib.deBruijn64tab.map fun (n : Nat) => Int.ofNat n
theorem tabZ_at : ∀ j, j < 64 → tabZ.getD j 0 = ((Lib.deBruijn64tab.getD j 0 : Nat) : Int) := by decide +kernel
theorem tab_of {W : World} {r : List (String × DataW Unit)} (h : laidMet Tryd.prog (("math/bits.deBruijn64tab", Lib.tabData .u8 tabZ) :: r) W) : TabW W := fun j hj => by
  have h1 := (Lib.tabIs_of_head Tryd.gTab Tryd.tTab Tryd.underlying114 Tryd.underlying5 Tryd.cTabE Tryd.cTab h).cell Tryd.gTab j (by simpa [tabZ, Lib.deBruijn64tab] using hj)
  rw [tabZ_at j hj] at h1
  exact h1
abbrev eI9 (x : List UInt8) : DataW Unit := .iface "*errors.errorString" (.ptr (.agg [.lit (.string x)]))
theorem simul_of {W : World} {x1 x2 x3 : List UInt8} (h : laidMet Tryd.prog (("math/bits.deBruijn64tab", Lib.tabData .u8 tabZ) :: ("semblance/api.ErrLong", eI9 x1) :: ("semblance/api.ErrIndex", eI9 x2) :: ("semblance/api.ErrSystem", eI9 x3) :: []) W) : ∃ a, EnvM W a := by
  obtain ⟨ps, h0, hnd, r0⟩ := laid_tail9 h
  obtain ⟨ads, h1, h2, _, _⟩ := laid_list [("semblance/api.ErrLong", 2, x1), ("semblance/api.ErrIndex", 1, x2), ("semblance/api.ErrSystem", 0, x3)] ps (fun x hx => by
    simp only [List.mem_cons, List.not_mem_nil, or_false] at hx
    rcases hx with rfl | rfl | rfl
    all_goals exact ⟨by kernel_rfl, by kernel_rfl⟩) h0 r0
  have hl : ads.length = 3 := h1
  obtain ⟨a, ha⟩ : ∃ a, ads[2]? = some a := ⟨_, List.getElem?_eq_getElem (by omega)⟩
  exact ⟨a, h2 2 _ a rfl ha, tab_of h⟩
theorem hasE_has {w : World} {v : Value} {es : List Sy.Ed} (h : HasE w v es) : BEdges.Has w v es := by
  obtain ⟨_, _, _, _, h⟩ := h
  exact h
end
section
open Go.RowKit Go.Maps
attribute [local go_sem ↓] Go.wp_at_zero Go.wp_at_succ
/-- The row, and a counter in a block of its own. -/
structure CnE (w0 wr : World) (g : Nat) (d : Array Sy.Ed) (rest : List Value) (c s : Nat) : Prop where
  row : RowE w0 wr g d rest
  cell : wr.heap[c]? = some (.cells #[.int .i64 s] 3 (0, 0))
  up : w0.heap.size ≤ c
theorem CnE.below {w0 wr w' : World} {g : Nat} {d : Array Sy.Ed} {rest : List Value} {c s : Nat} (h : CnE w0 wr g d rest c s) (hb : Below wr.heap.size wr w') : CnE w0 w' g d rest c s := ⟨h.row.below hb, (hb.block _ (t_lt h.cell)).trans h.cell, h.up⟩
theorem CnE.bump {w0 wr : World} {g : Nat} {d : Array Sy.Ed} {rest : List Value} {c s : Nat} (h : CnE w0 wr g d rest c s) (t : Nat) : CnE w0 (wr.setCell ⟨c, 0, none⟩ (.int .i64 t)) g d rest c t := by
  have hne : c ≠ g := fun e => by
    obtain ⟨cs, hc, _⟩ := h.row.ids
    have h1 := h.cell
    rw [e, hc] at h1
    injection h1 with h1
    injection h1 with _ h1
    exact absurd h1 (by decide)
  exact ⟨Arr.kept h.row (Kept.setCell _ _ _ _) fun b e => by subst e; exact ⟨h.up, hne⟩, heap_setCell_same _ _ 0 _ _ _ h.cell, h.up⟩
set_option maxRecDepth 100000 in
set_option maxHeartbeats 4000000 in
theorem order2_any (f : Nat) (vw : Sy.Ed → Sy.Ed) (hV : ViewAt f vw) (g cap a b c0 s : Nat) (d : Array Sy.Ed) (rest : List Value) (w0 w : World) (hR : CnE w0 w g d rest c0 s) (ha : a < d.size) (hb : b < d.size) (hs : s ≤ 1000000) :
    Calls Tryd.prog 86 #[.slice (some ⟨g, 0, none⟩) d.size cap, .int .i64 a, .int .i64 b, .pointer (some ⟨c0, 0, none⟩), cmpV f] w fun r w' => r = .returned (.tuple #[.int .i64 (Sort.order2 (ltV vw) d a b s).1, .int .i64 (Sort.order2 (ltV vw) d a b s).2.1]) ∧ CnE w0 w' g d rest c0 (Sort.order2 (ltV vw) d a b s).2.2 := by
  obtain ⟨n, hn⟩ : ∃ n, n = d.size := ⟨_, rfl⟩
  have HR : Hid _ := And.intro hR (And.intro hn hV)
  rw [← hn] at ha hb ⊢
  unfold cmpV Sort.order2
  have he := enter_cmp
  obtain ⟨x0, x1, x2⟩ := hR.row.cells (j := b) (by omega)
  obtain ⟨y0, y1, y2⟩ := hR.row.cells (j := a) (by omega)
  have hcm := fun W => compare_any f vw HR.out.2.2 (d[b]!) (d[a]!) W
  unfold edV at hcm
  have hlt2 := cmpV_neg vw (d[b]!) (d[a]!)
  obtain ⟨xe, hxe⟩ : ∃ xe, xe = d[b]! := ⟨_, rfl⟩
  obtain ⟨ye, hye⟩ : ∃ ye, ye = d[a]! := ⟨_, rfl⟩
  rw [← hxe] at x0 x1 x2 hcm hlt2
  rw [← hye] at y0 y1 y2 hcm hlt2
  have HE : Hid _ := And.intro hxe hye
  clear hxe hye
  obtain ⟨xa, xb, xc⟩ := xe
  obtain ⟨ya, yb, yc⟩ := ye
  generalize cmpE (vw (xa, xb, xc)) (vw (ya, yb, yc)) = c at hcm hlt2
  have HC : Hid _ := hcm
  have HL : Hid _ := hlt2
  clear hcm hlt2
  simp only at x0 x1 x2 y0 y1 y2
  clear hR hn hV
  have p0 : (0 : Int) ≤ (b : Int) := by omega
  have p1 : (b : Int) < (n : Int) := by omega
  have p2 : (0 : Int) ≤ (a : Int) := by omega
  have p3 : (a : Int) < (n : Int) := by omega
  by_cases hc : c < 0
  · have p6 : decide (c < 0) = true := decide_eq_true hc
    rw [if_pos (by rw [← HE.out.1, ← HE.out.2]; exact HL.out.1 hc)]
    go_enter Tryd.func86, Tryd.ntmps86
    go_upto_region 1 with fail
    go_region_held3 (fun w' => ((w'.cell? ⟨g, b * 3, none⟩ = some (.int .i64 xa) ∧ w'.cell? ⟨g, b * 3 + 1, none⟩ = some (.int .i64 xb) ∧ w'.cell? ⟨g, b * 3 + 2, none⟩ = some (.int .i64 xc)) ∧ (w'.cell? ⟨g, a * 3, none⟩ = some (.int .i64 ya) ∧ w'.cell? ⟨g, a * 3 + 1, none⟩ = some (.int .i64 yb) ∧ w'.cell? ⟨g, a * 3 + 2, none⟩ = some (.int .i64 yc))) ∧ Hid (Below w.heap.size w w')) (first | exact rg_up6 hb3 (by assumption) | exact ⟨⟨⟨x0, x1, x2⟩, ⟨y0, y1, y2⟩⟩, ((Below.refl _ _).drew : Below w.heap.size w w.drew)⟩ | go_keep)
      ((first
        | (go_at_fn 39; refine (HC.out _).mono ?_; rintro r w3 ⟨rfl, hb3⟩)
        | fail))
    have hbq : Below w.heap.size w w3 := rg_b (by assumption)
    clear x0 x1 x2 y0 y1 y2 hb3 HC
    rename_i hS3
    clear hS3
    have hR3 := HR.out.1.below hbq
    have k0 : w3.cell? ⟨c0, 0, none⟩ = some (.int .i64 s) := cell0_of hR3.cell rfl
    have k1 := blk_free hR3.cell 0
    have p8 : IntKind.i64.wrap ((s : Int) + 1) = (s : Int) + 1 := by rw [IntKind.wrap_i64]; omega
    have H3 : Hid _ := hR3
    clear hR3 hbq
    go_wp2_with fail
    go_ret2
    exact ⟨rfl, H3.out.bump (s + 1)⟩
  · have p6 : decide (c < 0) = false := decide_eq_false hc
    rw [if_neg (by rw [← HE.out.1, ← HE.out.2]; intro h; exact hc (HL.out.2 h))]
    go_enter Tryd.func86, Tryd.ntmps86
    go_upto_region 1 with fail
    go_region_held3 (fun w' => ((w'.cell? ⟨g, b * 3, none⟩ = some (.int .i64 xa) ∧ w'.cell? ⟨g, b * 3 + 1, none⟩ = some (.int .i64 xb) ∧ w'.cell? ⟨g, b * 3 + 2, none⟩ = some (.int .i64 xc)) ∧ (w'.cell? ⟨g, a * 3, none⟩ = some (.int .i64 ya) ∧ w'.cell? ⟨g, a * 3 + 1, none⟩ = some (.int .i64 yb) ∧ w'.cell? ⟨g, a * 3 + 2, none⟩ = some (.int .i64 yc))) ∧ Hid (Below w.heap.size w w')) (first | exact rg_up6 hb3 (by assumption) | exact ⟨⟨⟨x0, x1, x2⟩, ⟨y0, y1, y2⟩⟩, ((Below.refl _ _).drew : Below w.heap.size w w.drew)⟩ | go_keep)
      ((first
        | (go_at_fn 39; refine (HC.out _).mono ?_; rintro r w3 ⟨rfl, hb3⟩)
        | fail))
    have hbq : Below w.heap.size w w3 := rg_b (by assumption)
    clear x0 x1 x2 y0 y1 y2 hb3 HC
    rename_i hS3
    clear hS3
    have H3 : Hid _ := HR.out.1.below hbq
    clear hbq
    go_wp2_with fail
    go_ret2
    exact ⟨rfl, H3.out⟩
theorem o2_lt {lt : Sy.Ed → Sy.Ed → Bool} {d : Array Sy.Ed} {a b s n : Nat} (ha : a < n) (hb : b < n) : (Sort.order2 lt d a b s).1 < n ∧ (Sort.order2 lt d a b s).2.1 < n ∧ (Sort.order2 lt d a b s).2.2 ≤ s + 1 := by
  unfold Sort.order2
  split <;> simp [ha, hb]
set_option maxRecDepth 100000 in
set_option maxHeartbeats 4000000 in
theorem median_any (f : Nat) (vw : Sy.Ed → Sy.Ed) (hV : ViewAt f vw) (g cap a b c c0 s : Nat) (d : Array Sy.Ed) (rest : List Value) (w0 w : World) (hR : CnE w0 w g d rest c0 s) (ha : a < d.size) (hb : b < d.size) (hc : c < d.size) (hs : s + 3 ≤ 1000000) :
    Calls Tryd.prog 84 #[.slice (some ⟨g, 0, none⟩) d.size cap, .int .i64 a, .int .i64 b, .int .i64 c, .pointer (some ⟨c0, 0, none⟩), cmpV f] w fun r w' => r = .returned (.int .i64 (Sort.median (ltV vw) d a b c s).1) ∧ CnE w0 w' g d rest c0 (Sort.median (ltV vw) d a b c s).2 := by
  have h1 := order2_any f vw hV g cap a b c0 s d rest w0 w hR ha hb (by omega)
  obtain ⟨l1, l2, l3⟩ := o2_lt (lt := ltV vw) (d := d) (s := s) ha hb
  unfold Sort.median
  generalize Sort.order2 (ltV vw) d a b s = r1 at h1 l1 l2 l3 ⊢
  obtain ⟨a1, b1, s1⟩ := r1
  simp only at h1 l1 l2 l3 ⊢
  have h2 := fun W (h : CnE w0 W g d rest c0 s1) => order2_any f vw hV g cap b1 c c0 s1 d rest w0 W h l2 hc (by omega)
  obtain ⟨l4, l5, l6⟩ := o2_lt (lt := ltV vw) (d := d) (s := s1) l2 hc
  generalize Sort.order2 (ltV vw) d b1 c s1 = r2 at h2 l4 l5 l6 ⊢
  obtain ⟨b2, c2, s2⟩ := r2
  simp only at h2 l4 l5 l6 ⊢
  have h3 := fun W (h : CnE w0 W g d rest c0 s2) => order2_any f vw hV g cap a1 b2 c0 s2 d rest w0 W h l1 l4 (by omega)
  generalize Sort.order2 (ltV vw) d a1 b2 s2 = r3 at h3 ⊢
  obtain ⟨a3, b3, s3⟩ := r3
  simp only at h3 ⊢
  have HH : Hid _ := And.intro h1 (And.intro h2 h3)
  unfold cmpV at HH ⊢
  clear h1 h2 h3 hR hV l1 l2 l3 l4 l5 l6
  go_enter Tryd.func84, Tryd.ntmps84
  go_wp2_with fail
  refine Calls.mono HH.out.1 ?_
  rintro r w1 ⟨rfl, hR1⟩
  go_wp2_with fail
  refine Calls.mono (HH.out.2.1 _ hR1) ?_
  rintro r w2 ⟨rfl, hR2⟩
  go_wp2_with fail
  refine Calls.mono (HH.out.2.2 _ hR2) ?_
  rintro r w3 ⟨rfl, hR3⟩
  go_wp2_with fail
  go_ret
  exact ⟨rfl, hR3⟩
set_option maxRecDepth 100000 in
set_option maxHeartbeats 4000000 in
theorem medianAdj_any (f : Nat) (vw : Sy.Ed → Sy.Ed) (hV : ViewAt f vw) (g cap a c0 s : Nat) (d : Array Sy.Ed) (rest : List Value) (w0 w : World) (hR : CnE w0 w g d rest c0 s) (ha : 1 ≤ a) (hb : a + 1 < d.size) (hsz : d.size ≤ 1000000) (hs : s + 3 ≤ 1000000) :
    Calls Tryd.prog 83 #[.slice (some ⟨g, 0, none⟩) d.size cap, .int .i64 a, .pointer (some ⟨c0, 0, none⟩), cmpV f] w fun r w' => r = .returned (.int .i64 (Sort.medianAdjacent (ltV vw) d a s).1) ∧ CnE w0 w' g d rest c0 (Sort.medianAdjacent (ltV vw) d a s).2 := by
  obtain ⟨p, rfl⟩ : ∃ p, a = p + 1 := ⟨a - 1, by omega⟩
  have h1 := median_any f vw hV g cap p (p + 1) (p + 1 + 1) c0 s d rest w0 w hR (by omega) (by omega) (by omega) hs
  unfold Sort.medianAdjacent
  rw [Nat.add_sub_cancel]
  generalize Sort.median (ltV vw) d p (p + 1) (p + 1 + 1) s = r1 at h1 ⊢
  obtain ⟨m1, s1⟩ := r1
  have e1 : IntKind.i64.wrap (((p + 1 : Nat) : Int) - 1) = (p : Int) := by rw [IntKind.wrap_i64]; omega
  have e2 : IntKind.i64.wrap (((p + 1 : Nat) : Int) + 1) = ((p + 1 + 1 : Nat) : Int) := by rw [IntKind.wrap_i64]; omega
  have HH : Hid _ := h1
  unfold cmpV at HH ⊢
  clear h1 hR hV
  go_enter Tryd.func83, Tryd.ntmps83
  go_wp2_with fail
  have HH2 := HH.out
  simp only [Int.natCast_add, Int.natCast_one] at HH2 ⊢
  refine Calls.mono HH2 ?_
  rintro r w1 ⟨rfl, hR1⟩
  go_wp2_with fail
  go_ret
  exact ⟨rfl, hR1⟩
end
end Go.Proofs.YtladdlkfnfdhaaaDoor
