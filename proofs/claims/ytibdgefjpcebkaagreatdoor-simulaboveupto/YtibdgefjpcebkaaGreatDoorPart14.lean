/- Texts of this claim, joined: SmDAb, SmDCl, SyLent, SmAb0, SmAb1, ErLaid, SyArgI. -/
import Derived.Test.YtibdgefjpcebkaaGreatDoorPart13
import Derived.Test.YtibdgefjpcebkaaGreatDoorPart10
import Derived.Test.YtibdgefjpcebkaaGreatDoorPart5
import Derived.Test.YtibdgefjpcebkaaGreatDoorRows
import Derived.Test.YtibdgefjpcebkaaGreatDoorPart3
import Derived.Test.YtibdgefjpcebkaaGreatDoorErCode
import Derived.ProofKit
import Derived.LaidMore
import Derived.Stop.LaidErr
import Derived.Lib.SmallJoins
import Derived.Deep.Slices
namespace Go.Proofs.YtibdgefjpcebkaaGreatDoor
section
open Go.RowKit Go.Maps
attribute [local go_sem ↓] Go.wp_at_zero Go.wp_at_succ
theorem MxAt.base {w0 w w' : World} {n g i : Nat} {b : Nat → Nat} {X : Nat → Nat → Bool} (h : MxAt w w' n g b X i) (hb : Below w0.heap.size w0 w) : MxAt w0 w' n g b X i := ⟨h.lst, h.row, Nat.le_trans hb.size h.ug, fun p hp => Nat.le_trans hb.size (h.ur p hp), h.inj, hb.trans (h.bl.mono hb.size)⟩
theorem MxAt.cellU {w w' : World} {n g : Nat} {b : Nat → Nat} {X : Nat → Nat → Bool} (h : MxAt w w' n g b X n) {p q : Nat} (hp : p < n) (hq : q < n) : w'.cell? ⟨g, p, none⟩ = some (.slice (some ⟨b p, 0, none⟩) n n) ∧ w'.cell? ⟨b p, q, none⟩ = some (.bool (X p q)) := by
  have h1 := h.lst.cell hp
  rw [if_pos hp] at h1
  exact ⟨h1, (h.row p hp).cell hq⟩
def MxZ (w w' : World) (n : Nat) (al : Option Addr) (b : Nat → Nat) (X : Nat → Nat → Bool) : Prop := Below w.heap.size w w' ∧ (0 < n → ∃ g, al = some ⟨g, 0, none⟩ ∧ MxAt w w' n g b X n)
theorem mxz_of {w w' : World} {m : Nat} {al : Option Addr} {cl : Nat} {b : Nat → Nat} (h : InT w w' m m (.slice al m cl) b) : MxZ w w' m al b fun _ _ => true := ⟨h.bl, fun hm => by
  obtain ⟨g, c, e, hM⟩ := h.mx hm
  injection e with e1 _ _
  exact ⟨g, e1, hM⟩⟩
theorem mu_less {m p q : Nat} {es : List Sy.Ed} {X0 X : Nat → Nat → Bool} {G : Bool} (h : DAt m es X0 X G p q) : 2 * muD m X + (if G = true then 1 else 0) < 2 * muD m X0 + 1 := by
  cases G with
  | true => have := h.yes rfl; rw [if_pos rfl]; omega
  | false => rw [(h.no rfl).1]; simp
set_option linter.unusedSimpArgs false in
set_option maxRecDepth 100000 in
set_option maxHeartbeats 16000000 in
theorem docAbove_any (m : Nat) (kk s : Int) (v : Value) (es : List Sy.Ed) (w : World) (hv : HasE w v es) (hm : es.length ≤ 100000) (hq : Sy.right m kk s es = true) :
    Calls Tryz.prog 8 #[sysV m kk s v] w fun r w' => ∃ ao c, r = .returned (.slice ao m c) ∧ Below w.heap.size w w' ∧ (0 < m → ∃ g b, ao = some ⟨g, 0, none⟩ ∧ MxAt w w' m g b (simB (EE es)) m) := by
  obtain ⟨j0, hj0, hy0, hy1, hy2⟩ := info_parts Tryz.infoBB
  have hp9 := right_parts hq
  have hm1 : m ≤ 1000 := by omega
  obtain ⟨w1, hw1⟩ : ∃ w1, w1 = w.alloc (.cells #[.int .i64 m, .int .i64 kk, .int .i64 s, v] 24) := ⟨_, rfl⟩
  have hb1 : Below w.heap.size w w1 := by rw [hw1]; exact (Below.refl _ _).alloc (Nat.le_refl _) _
  have hg1 : w1.heap[w.heap.size]? = some (.cells #[.int .i64 m, .int .i64 kk, .int .i64 s, v] 24 (0, 0)) := by rw [hw1]; exact heap_alloc_new w _
  have hN := refOut_any m kk s v es w1 (by omega) (hv.below hb1) hm fun e he => by have := hp9.2.2.2.2.2 e he; omega
  have hv0 := hv
  obtain ⟨ao, cap, rfl, _⟩ := hv0
  obtain ⟨L, hL⟩ : ∃ L, L = es.length := ⟨_, rfl⟩
  rw [← hL] at hN hw1 hg1 ⊢
  unfold sysV at hN ⊢
  obtain ⟨x0, x1, x2, x3⟩ := four_cells9 hg1
  have H1 : Hid _ := And.intro hN (And.intro hb1 (And.intro hw1 (And.intro hg1 (And.intro hq hp9.2.2.2.2.2))))
  clear hv hm hq hp9 hN hb1 hw1 hL hg1
  go_enter Tryz.func8, Tryz.ntmps8
  go_upto_region 1 with fail
  rw [← H1.out.2.2.1]
  go_upto_region 2 with (go_at_call 23; refine Calls.mono H1.out.1 ?_; rintro r w2 ⟨go, us, rfl, hA, hU⟩; have y0 := cell_up x0 hA.bl; have hRo : RowsT w2 go m (stT es) := (fun i hi => by obtain ⟨u, h1, h2⟩ := hU.row i hi; exact ⟨u, hA.cell h1, h2.has⟩); have H2 : Hid _ := And.intro hA.bl hRo; clear hA hU hRo)
  clear x0 x1 x2 x3
  go_wp2_with fail
  go_loopg [4, 5] m (fun z lv iv wr => ∃ (p : Nat) (b : Nat → Nat), z = m - p ∧ p ≤ m ∧ iv = .int .i64 p ∧ InT w2 wr m p lv b)
  case atStart => exact ⟨0, fun _ => 0, rfl, Nat.zero_le _, rfl, World.ownsRow_nil _ _ _ _, fun p hp => by omega, fun p hp => by omega, fun p q hp => by omega, Below.refl _ _⟩
  case round =>
    obtain ⟨p, b, rfl, hp, rfl, hI⟩ := hrel
    obtain ⟨wo, rfl⟩ : ∃ wo, wo = wr := ⟨_, rfl⟩
    obtain ⟨al, cl, rfl⟩ := row_shape hI.own
    have x0 := cell_up y0 hI.bl
    by_cases hlt : p < m
    · have q0 : (0 : Int) ≤ (p : Int) := by omega
      have q1 : (p : Int) < (m : Int) := by omega
      have mkb := makeB m (by omega) wo
      obtain ⟨wa, hwa⟩ : ∃ wa, wa = wo.alloc (.cells (madeV (.bool false) m) 4) := ⟨_, rfl⟩
      have hba : Below wo.heap.size wo wa := by rw [hwa]; exact (Below.refl _ _).alloc (Nat.le_refl _) _
      have hLa : ListAt 4 wa wo.heap.size m fun _ => .bool false := by rw [hwa]; exact listAt_new 4 (.bool false) rfl wo m
      have HI : Hid (InT w2 wo m p (.slice al p cl) b) := hI
      have HA : Hid _ := And.intro hwa (And.intro hba hLa)
      clear hI hwa hba hLa
      go_upto_region 7 with fail
      rw [← HA.out.1]
      clear mkb x0
      go_wp2_with fail
      go_loopg [7] m (fun z jv wq => ∃ q : Nat, z = m - q ∧ q ≤ m ∧ jv = .int .i64 q ∧ ListAt 4 wq wo.heap.size m (fun x => .bool (decide (x < q))) ∧ Below wo.heap.size wo wq)
      case atStart => exact ⟨0, rfl, Nat.zero_le _, rfl, HA.out.2.2.congr fun x _ => by simp, HA.out.2.1⟩
      case round =>
        obtain ⟨q, rfl, hq, rfl, hL, hbq⟩ := hrel
        obtain ⟨wi, rfl⟩ : ∃ wi, wi = wr := ⟨_, rfl⟩
        have x0 := cell_up y0 (HI.out.bl.trans (hbq.mono HI.out.bl.size))
        by_cases hlq : q < m
        · have s0 : (0 : Int) ≤ (q : Int) := by omega
          have s1 : (q : Int) < (m : Int) := by omega
          have d0 := hL.cell hlq
          have d1 := hL.free q
          have HJ : Hid _ := And.intro hL hbq
          clear hL hbq
          go_wp2_with fail
          go_roundg (m - (q + 1))
          case measure => omega
          case rel => exact ⟨q + 1, rfl, by omega, by go_num, (HJ.out.1.put _).congr fun x _ => by by_cases e : x = q <;> simp [e] <;> omega, HJ.out.2.setCell (Nat.le_refl _) _⟩
        · obtain rfl : m = q := by omega
          have s1 : ¬ (m : Int) < (m : Int) := by omega
          have hLt : ListAt 4 wi wo.heap.size m fun _ => .bool true := hL.congr fun x hx => by simp [hx]
          have hw1' := (HI.out.below hbq).own
          have hml : p + 1 ≤ maxLen := by unfold maxLen; omega
          have hby : (p + 1) * 24 ≤ 140737488355328 := by omega
          have hle : w2.heap.size ≤ (wi.alloc (.cells #[.slice (some ⟨wo.heap.size, 0, none⟩) m m] 57)).heap.size := by have := HI.out.bl.size; have := hbq.size; rw [World.size_alloc]; omega
          have HJ : Hid _ := And.intro hLt (And.intro hbq hw1')
          clear hL hLt hbq hw1'
          go_wp2_with (at_builtin; refine wpList_append_own_at _ rfl _ _ 31 rfl w2.heap.size 57 j0 (.slice none 0 0) 1 24 Tryz.underlying31 hj0 hy0 hy1 hy2 rfl (by decide) (.slice al p cl) p ((List.range p).map fun p => Value.slice (some ⟨b p, 0, none⟩) m m) rfl (HJ.out.2.2.alloc _) ⟨wi.heap.size, 0, none⟩ 1 1 [.slice (some ⟨wo.heap.size, 0, none⟩) m m] rfl rfl (World.news_of_block (cs := #[.slice (some ⟨wo.heap.size, 0, none⟩) m m]) (t := 57) (fr := (0, 0)) (heap_alloc_new wi _)) (by simp [Value.oneCell']) hml hby hle ?_; intro v8 w8 hO8 hg8 hnil8 hat8; have hk8 := grown_alloc hg8; have H8 : Hid _ := And.intro hO8 hk8; clear hO8 hg8 hk8 hnil8 hat8)
          go_roundg (m - (p + 1))
          case measure => omega
          case rel => exact ⟨p + 1, _, rfl, by omega, by go_num, HI.out.next HJ.out.2.1 HJ.out.1 H8.out.1 H8.out.2⟩
    · obtain rfl : m = p := by omega
      have q1 : ¬ (m : Int) < (m : Int) := by omega
      have HZ : Hid _ := mxz_of hI
      clear hI
      go_wp2_with fail
      go_loopg [8] (2 * muD m (fun _ _ => true) + 1) (fun z gv wr => ∃ (X : Nat → Nat → Bool) (G : Bool), z = 2 * muD m X + (if G = true then 1 else 0) ∧ gv = .bool G ∧ MxZ w2 wr m al b X ∧ (∀ a c, a < m → c < m → Sm.Sims (EE es) a c → X a c = true) ∧ (G = false → ClosedD m es X))
      case atStart => exact ⟨fun _ _ => true, true, rfl, rfl, HZ.out, fun _ _ _ _ _ => rfl, fun e => by cases e⟩
      case round =>
        obtain ⟨X0, G0, rfl, rfl, hZ0, hs0, hc0⟩ := hrel
        obtain ⟨wA, rfl⟩ : ∃ wA, wA = wr := ⟨_, rfl⟩
        clear x0
        have H0 : Hid _ := And.intro hZ0 (And.intro hs0 hc0)
        clear hZ0 hs0 hc0
        cases G0
        · go_wp2_with fail
          go_ret
          have h1 := H1.out.2.1.trans (H2.out.1.mono H1.out.2.1.size)
          refine ⟨al, ⟨cl, rfl⟩, h1.trans (H0.out.1.1.mono h1.size), fun hm0 => ?_⟩
          obtain ⟨g, e, hM⟩ := H0.out.1.2 hm0
          exact ⟨g, e, b, (hM.base h1).congr fun p q hp hq => closed_sims H1.out.2.2.2.2.1 H0.out.2.1 (H0.out.2.2 (by first | rfl | trivial)) hp hq⟩
        · go_wp2_with fail
          go_loopg [8, 9] m (fun z gv pv wr => ∃ (X : Nat → Nat → Bool) (G : Bool) (p : Nat), z = m - p ∧ p ≤ m ∧ gv = .bool G ∧ pv = .int .i64 p ∧ MxZ w2 wr m al b X ∧ DAt m es X0 X G p 0)
          case atStart => exact ⟨X0, false, 0, rfl, Nat.zero_le _, rfl, rfl, H0.out.1, DAt.start H0.out.2.1⟩
          case round =>
            obtain ⟨X, G, p, rfl, hp, rfl, rfl, hZ, hD⟩ := hrel
            obtain ⟨wB, rfl⟩ : ∃ wB, wB = wr := ⟨_, rfl⟩
            have x0 := cell_up y0 hZ.1
            by_cases hlt : p < m
            · have q0 : (0 : Int) ≤ (p : Int) := by omega
              have q2 : (p : Int) < (m : Int) := by omega
              have HD : Hid _ := And.intro hZ hD
              clear hZ hD
              go_wp2_with fail
              go_loopg [8, 10] m (fun z gv qv wr => ∃ (X : Nat → Nat → Bool) (G : Bool) (q : Nat), z = m - q ∧ q ≤ m ∧ gv = .bool G ∧ qv = .int .i64 q ∧ MxZ w2 wr m al b X ∧ DAt m es X0 X G p q)
              case atStart => exact ⟨X, G, 0, rfl, Nat.zero_le _, rfl, rfl, HD.out.1, HD.out.2⟩
              case round =>
                clear HD
                obtain ⟨X, G, q, rfl, hq, rfl, rfl, hZ, hD⟩ := hrel
                obtain ⟨wC, rfl⟩ : ∃ wC, wC = wr := ⟨_, rfl⟩
                clear x0
                have x0 := cell_up y0 hZ.1
                by_cases hlq : q < m
                · have s0 : (0 : Int) ≤ (q : Int) := by omega
                  have s1 : (q : Int) < (m : Int) := by omega
                  obtain ⟨g, hg, hM⟩ := hZ.2 (by omega)
                  subst hg
                  obtain ⟨c1, c2⟩ := hM.cellU hlt hlq
                  obtain ⟨xb, hxb⟩ : ∃ xb, xb = X p q := ⟨_, rfl⟩
                  rw [← hxb] at c2
                  have HD : Hid _ := And.intro hZ.1 (And.intro hM (And.intro hD hxb))
                  clear hZ hM hD hxb
                  cases xb
                  · go_wp2_with fail
                    go_roundg (m - (q + 1))
                    case measure => omega
                    case rel => exact ⟨X, G, q + 1, rfl, by omega, rfl, by go_num, ⟨HD.out.1, fun _ => ⟨g, rfl, HD.out.2.1⟩⟩, HD.out.2.2.1.skip HD.out.2.2.2.symm⟩
                  · have hMe := docMeets_any m p q go g cl X (stT es) wC (H2.out.2.below HD.out.1) HD.out.2.1.bools hlt hlq (fun i hi z hz => by
                      obtain ⟨z1, z2⟩ := z
                      have h1 := H1.out.2.2.2.2.2 _ (stT_mem.1 hz)
                      simp only at h1 ⊢
                      omega) (fun i hi => by
                      have h1 := Sy.steps_len (Sy.nf es) (i : Int)
                      have h2 := Sy.nf_len es
                      have h3 := (right_parts H1.out.2.2.2.2.1).2.2.1
                      unfold stT
                      omega)
                    obtain ⟨rb, hrb⟩ : ∃ rb, rb = allD X (stT es p) (stT es q) := ⟨_, rfl⟩
                    rw [← hrb] at hMe
                    have HM : Hid _ := And.intro hMe hrb
                    clear hMe hrb
                    cases rb
                    · go_wp2_with (go_at_call 24; refine Calls.mono HM.out.1 ?_; rintro r w9 ⟨rfl, hb9⟩; have hM9 := HD.out.2.1.below hb9; obtain ⟨k1, k2⟩ := hM9.cellU hlt hlq; have k3 := (hM9.row p hlt).free q; have H9 : Hid _ := And.intro hb9 hM9; clear hb9 hM9)
                      go_roundg (m - (q + 1))
                      case measure => omega
                      case rel => exact ⟨_, true, q + 1, rfl, by omega, rfl, by go_num, ⟨(H9.out.2.drop hlt).bl, fun _ => ⟨g, rfl, H9.out.2.drop hlt⟩⟩, HD.out.2.2.1.gone H1.out.2.2.2.2.1 hlt hlq HD.out.2.2.2.symm HM.out.2.symm⟩
                    · go_wp2_with (go_at_call 24; refine Calls.mono HM.out.1 ?_; rintro r w9 ⟨rfl, hb9⟩; have H9 : Hid _ := hb9; clear hb9)
                      go_roundg (m - (q + 1))
                      case measure => omega
                      case rel => exact ⟨X, G, q + 1, rfl, by omega, rfl, by go_num, ⟨(HD.out.2.1.below H9.out).bl, fun _ => ⟨g, rfl, HD.out.2.1.below H9.out⟩⟩, HD.out.2.2.1.met HM.out.2.symm⟩
                · obtain rfl : m = q := by omega
                  have s1 : ¬ (m : Int) < (m : Int) := by omega
                  have HD : Hid _ := And.intro hZ hD
                  clear hZ hD
                  go_wp2_with fail
                  go_roundg (m - (p + 1))
                  case measure => omega
                  case rel => exact ⟨X, G, p + 1, rfl, by omega, rfl, by go_num, HD.out.1, HD.out.2.next⟩
            · obtain rfl : m = p := by omega
              have HD : Hid _ := And.intro hZ (And.intro hD (mu_less hD))
              clear hZ hD
              go_wp2_with fail
              go_roundg (2 * muD m X + (if G = true then 1 else 0))
              case measure => exact HD.out.2.2
              case rel => exact ⟨X, G, rfl, rfl, HD.out.1, HD.out.2.1.sims, fun e a c ha hc hx => (HD.out.2.1.no e).2 a c ha hc (.inl ha) hx⟩
end
section
open Go.RowKit Go.Maps
attribute [local go_sem ↓] Go.wp_at_zero Go.wp_at_succ
theorem lea_end {E : Nat → Nat → Nat → Prop} {n p v : Nat} (hp : p < n) (h : v = p ∧ (∀ z, 0 ≤ z → z < p → ¬ (simB E p z = true ∧ simB E z p = true)) ∨ v = leaS (simB E) n p) : v = leaS (simB E) n p := by
  rcases h with ⟨rfl, h⟩ | h
  · obtain ⟨h1, h2, h3, h4⟩ := lea_spec (A := simB E) hp ((simB_iff E v v).2 (Sm.sims_refl E v))
    rcases Nat.lt_trichotomy (leaS (simB E) n v) v with h5 | h5 | h5
    · exact absurd ⟨h2, h3⟩ (h _ (Nat.zero_le _) h5)
    · exact h5.symm
    · exact absurd ⟨(simB_iff E v v).2 (Sm.sims_refl E v), (simB_iff E v v).2 (Sm.sims_refl E v)⟩ (h4 v h5)
  · exact h
theorem has_list {w : World} {B m : Nat} {zs : List Int} (hl : zs.length = m) (h : ListAt 3 w B m fun x => .int .i64 (zs.getD x 0)) : HasI w (.slice (some ⟨B, 0, none⟩) m m) zs := by
  refine ⟨some ⟨B, 0, none⟩, m, by rw [hl], fun j z hj => ⟨_, rfl, ?_⟩⟩
  have h1 := (List.getElem?_eq_some_iff.1 hj).1
  rw [addz, h.cell (by omega), List.getD_eq_getElem?_getD, hj]
  rfl
set_option linter.unusedSimpArgs false in
set_option maxRecDepth 100000 in
set_option maxHeartbeats 8000000 in
theorem docCls_any (m : Nat) (kk s : Int) (v : Value) (es : List Sy.Ed) (w : World) (hv : HasE w v es) (hm : es.length ≤ 100000) (hq : Sy.right m kk s es = true) :
    Calls Tryz.prog 15 #[sysV m kk s v] w fun r w' => ∃ u, r = .returned u ∧ OwnI w' w.heap.size u (natI (Sy.canon (leaL (simB (EE es)) m))) ∧ Below w.heap.size w w' := by
  have hp9 := right_parts hq
  have hm1 : m ≤ 1000 := by omega
  obtain ⟨w1, hw1⟩ : ∃ w1, w1 = w.alloc (.cells #[.int .i64 m, .int .i64 kk, .int .i64 s, v] 24) := ⟨_, rfl⟩
  have hb1 : Below w.heap.size w w1 := by rw [hw1]; exact (Below.refl _ _).alloc (Nat.le_refl _) _
  have hg1 : w1.heap[w.heap.size]? = some (.cells #[.int .i64 m, .int .i64 kk, .int .i64 s, v] 24 (0, 0)) := by rw [hw1]; exact heap_alloc_new w _
  have hN := docAbove_any m kk s v es w1 (hv.below hb1) hm hq
  have hv0 := hv
  obtain ⟨ao, cap, rfl, _⟩ := hv0
  obtain ⟨L, hL⟩ : ∃ L, L = es.length := ⟨_, rfl⟩
  rw [← hL] at hN hw1 hg1 ⊢
  unfold sysV at hN ⊢
  obtain ⟨x0, x1, x2, x3⟩ := four_cells9 hg1
  have H1 : Hid _ := And.intro hN (And.intro hb1 hw1)
  clear hv hm hq hp9 hN hb1 hw1 hL hg1
  go_enter Tryz.func15, Tryz.ntmps15
  go_upto_region 1 with fail
  rw [← H1.out.2.2]
  go_upto_region 2 with (go_at_call 8; refine Calls.mono H1.out.1 ?_; rintro r w2 ⟨ai, ci, rfl, hb2, hM⟩; have y0 := cell_up x0 hb2; have H2 : Hid _ := And.intro hb2 hM; clear hb2 hM)
  clear x0 x1 x2 x3
  have mk := makeI m (by omega) w2
  go_upto_region 3 with fail
  obtain ⟨w3, hw3⟩ : ∃ w3, w3 = w2.alloc (.cells (madeV (.int .i64 0) m) 3) := ⟨_, rfl⟩
  rw [← hw3]
  have hb3 : Below w2.heap.size w2 w3 := by rw [hw3]; exact (Below.refl _ _).alloc (Nat.le_refl _) _
  have hL3 : ListAt 3 w3 w2.heap.size m fun _ => .int .i64 0 := by rw [hw3]; exact listAt_new 3 (.int .i64 0) rfl w2 m
  have H3 : Hid _ := And.intro hb3 hL3
  clear mk hw3 hb3 hL3
  go_wp2_with fail
  go_loopg [5] m (fun z iv wr => ∃ p : Nat, z = m - p ∧ p ≤ m ∧ iv = .int .i64 p ∧ ListAt 3 wr w2.heap.size m (fun x => .int .i64 (if x < p then ((leaS (simB (EE es)) m x : Nat) : Int) else 0)) ∧ Below w2.heap.size w2 wr)
  case atStart => exact ⟨0, rfl, Nat.zero_le _, rfl, H3.out.2.congr fun x _ => by simp, H3.out.1⟩
  case round =>
    obtain ⟨p, rfl, hp, rfl, hL, hbP⟩ := hrel
    obtain ⟨wo, rfl⟩ : ∃ wo, wo = wr := ⟨_, rfl⟩
    have x0 := cell_up y0 hbP
    by_cases hlt : p < m
    · have q0 : (0 : Int) ≤ (p : Int) := by omega
      have q1 : (p : Int) < (m : Int) := by omega
      have p4 : IntKind.i64.wrap ((p : Int) - 1) = (p : Int) - 1 := by rw [IntKind.wrap_i64]; omega
      have d0 := hL.cell hlt
      have d1 := hL.free p
      have HP : Hid _ := And.intro hL hbP
      clear hL hbP
      go_upto_region 7 with fail
      obtain ⟨wp, hwp⟩ : ∃ wp, wp = wo.setCell ⟨w2.heap.size, p, none⟩ (.int .i64 p) := ⟨_, rfl⟩
      rw [← hwp]
      have hLp : ListAt 3 wp w2.heap.size m (fun x => .int .i64 (if x = p then ((p : Nat) : Int) else if x < p then ((leaS (simB (EE es)) m x : Nat) : Int) else 0)) := by
        rw [hwp]
        exact (HP.out.1.put _).congr fun x _ => by by_cases e : x = p <;> simp [e]
      have hbp : Below w2.heap.size w2 wp := by rw [hwp]; exact HP.out.2.setCell (Nat.le_refl _) _
      have HW : Hid _ := And.intro hLp hbp
      clear x0 d0 d1 hwp hLp hbp
      go_wp2_with fail
      go_loopg [6] p (fun z qv wr => ∃ (c vp : Nat), z = c ∧ c ≤ p ∧ qv = .int .i64 ((c : Int) - 1) ∧ ListAt 3 wr w2.heap.size m (fun x => .int .i64 (if x = p then (vp : Int) else if x < p then ((leaS (simB (EE es)) m x : Nat) : Int) else 0)) ∧ (vp = p ∧ (∀ z, c ≤ z → z < p → ¬ (simB (EE es) p z = true ∧ simB (EE es) z p = true)) ∨ vp = leaS (simB (EE es)) m p) ∧ Below w2.heap.size w2 wr)
      case atStart => exact ⟨p, p, rfl, Nat.le_refl _, rfl, HW.out.1, .inl ⟨rfl, fun z h1 h2 => by omega⟩, HW.out.2⟩
      case round =>
        obtain ⟨c, vp, hzc, hc, rfl, hL, hvp, hbQ⟩ := hrel
        have hzc := hzc.symm
        subst hzc
        obtain ⟨wi, rfl⟩ : ∃ wi, wi = wr := ⟨_, rfl⟩
        by_cases hc0 : 0 < c
        · obtain ⟨q, rfl⟩ : ∃ q, c = q + 1 := ⟨c - 1, by omega⟩
          rw [show (((q + 1 : Nat) : Int) - 1) = (q : Int) by omega]
          have hqm : q < m := by omega
          obtain ⟨g, b, hg, hM⟩ := H2.out.2 (by omega)
          subst hg
          have hM2 := hM.below hbQ
          obtain ⟨c1, c2⟩ := hM2.cellU hlt hqm
          obtain ⟨c3, c4⟩ := hM2.cellU hqm hlt
          have s0 : (0 : Int) ≤ (q : Int) := by omega
          have s1 : (q : Int) < (m : Int) := by omega
          have s2 : IntKind.i64.wrap ((q : Int) - 1) = (q : Int) - 1 := by rw [IntKind.wrap_i64]; omega
          have d0 := hL.cell hlt
          have d1 := hL.free p
          have d2 := hL.cell hqm
          simp only [if_true] at d0
          simp only [show ¬ q = p by omega, show q < p by omega, if_false, if_true] at d2
          obtain ⟨xb, hxb⟩ : ∃ xb, xb = simB (EE es) p q := ⟨_, rfl⟩
          obtain ⟨yb, hyb⟩ : ∃ yb, yb = simB (EE es) q p := ⟨_, rfl⟩
          rw [← hxb] at c2
          rw [← hyb] at c4
          have hno : ¬ (xb = true ∧ yb = true) → (vp = p ∧ (∀ z, q ≤ z → z < p → ¬ (simB (EE es) p z = true ∧ simB (EE es) z p = true)) ∨ vp = leaS (simB (EE es)) m p) := fun h => by
            rcases hvp with ⟨h1, h2⟩ | h1
            · refine .inl ⟨h1, fun z hz1 hz2 => ?_⟩
              by_cases e : z = q
              · subst e; rw [← hxb, ← hyb]; exact h
              · exact h2 z (by omega) hz2
            · exact .inr h1
          have hyes : xb = true → yb = true → leaS (simB (EE es)) m q = leaS (simB (EE es)) m p := fun h1 h2 => by
            refine (lea_iff (E := EE es) (fun a b _ _ => simB_iff _ a b) hqm hlt).2 ⟨(simB_iff _ _ _).1 ?_, (simB_iff _ _ _).1 ?_⟩
            · rw [← hyb]; exact h2
            · rw [← hxb]; exact h1
          have HQ : Hid _ := And.intro hL (And.intro hbQ (And.intro hno hyes))
          clear hL hbQ hno hyes hvp hM2 hxb hyb hM
          cases xb
          · go_wp2_with fail
            go_roundg q
            case measure => omega
            case rel => exact ⟨q, vp, rfl, by omega, by first | rfl | go_num, HQ.out.1, HQ.out.2.2.1 (by simp), HQ.out.2.1⟩
          · cases yb
            · go_wp2_with fail
              go_roundg q
              case measure => omega
              case rel => exact ⟨q, vp, rfl, by omega, by first | rfl | go_num, HQ.out.1, HQ.out.2.2.1 (by simp), HQ.out.2.1⟩
            · have hyy := HQ.out.2.2.2 (by first | rfl | trivial) (by first | rfl | trivial)
              have HY : Hid _ := hyy
              clear hyy
              go_wp2_with fail
              go_roundg q
              case measure => omega
              case rel =>
                refine ⟨q, leaS (simB (EE es)) m q, rfl, by omega, by first | rfl | go_num, ?_, .inr HY.out, HQ.out.2.1.setCell (Nat.le_refl _) _⟩
                exact (HQ.out.1.put _).congr fun x _ => by by_cases e : x = p <;> simp [e]
        · obtain rfl : c = 0 := by omega
          have hve := lea_end hlt hvp
          subst hve
          rw [show (((0 : Nat) : Int) - 1) = -1 by omega]
          have HQ : Hid _ := And.intro hL hbQ
          clear hL hbQ hvp
          go_wp2_with fail
          go_roundg (m - (p + 1))
          case measure => omega
          case rel =>
            refine ⟨p + 1, rfl, by omega, by go_num, HQ.out.1.congr fun x _ => ?_, HQ.out.2⟩
            by_cases e : x = p
            · subst e; simp
            · rw [if_neg e]
              by_cases e2 : x < p
              · rw [if_pos e2, if_pos (by omega)]
              · rw [if_neg e2, if_neg (by omega)]
    · obtain rfl : m = p := by omega
      have q1 : ¬ (m : Int) < (m : Int) := by omega
      have hHas : HasI wo (.slice (some ⟨w2.heap.size, 0, none⟩) m m) (leaL (simB (EE es)) m) := has_list (leaL_len _ _) (hL.congr fun x hx => by rw [if_pos hx, List.getD_eq_getElem?_getD, leaL_at hx]; rfl)
      have hCa := refCanon_any _ _ wo hHas (by rw [leaL_len]; omega)
      have HP : Hid _ := And.intro hCa hbP
      clear hHas hCa hL hbP
      go_wp2_with (go_at_call 33; refine Calls.mono HP.out.1 ?_; rintro r w5 ⟨u, rfl, hO, hb5⟩; obtain ⟨au, cu, rfl⟩ := row_shape hO; have H5 : Hid _ := And.intro hO hb5; clear hO hb5)
      go_ret
      have h1 := H1.out.2.1.trans (H2.out.1.mono H1.out.2.1.size)
      have h2 := h1.trans (HP.out.2.mono h1.size)
      exact ⟨_, rfl, row_base H5.out.1 h2.size, h2.trans (H5.out.2.mono h2.size)⟩
end
section
open Go.RowKit Go.Maps
attribute [local go_sem ↓] Go.wp_at_zero Go.wp_at_succ
def mk3 : List Sy.Ed := [(-7, 0, 0), (-7, 1, 0), (-7, 2, 0)]
def LentE (w : World) (B : Nat) (u : Value) (es : List Sy.Ed) : Prop := ∃ g cap, u = .slice (some ⟨g, 0, none⟩) es.length cap ∧ es.length + 3 ≤ cap ∧ BEdges.Own w B (.slice (some ⟨g, 0, none⟩) (es.length + 3) cap) (es ++ mk3)
theorem LentE.below {w w' : World} {B : Nat} {u : Value} {es : List Sy.Ed} (h : LentE w B u es) (hb : Below w.heap.size w w') : LentE w' B u es := by
  obtain ⟨g, cap, h1, h2, h3⟩ := h
  exact ⟨g, cap, h1, h2, trow_at h3 fun b hb' => hb.block b (h3.lt b hb').2⟩
theorem LentE.hasE {w : World} {B : Nat} {u : Value} {es : List Sy.Ed} (h : LentE w B u es) : HasE w u es := by
  obtain ⟨g, cap, rfl, h2, h3⟩ := h
  have h4 := HasE.of_own h3
  have h5 := hasE_take h4 es.length (by rw [List.length_append]; omega)
  rw [List.take_left' rfl] at h5
  exact h5
set_option maxRecDepth 100000 in
set_option maxHeartbeats 4000000 in
theorem lentS_any (n k s : Int) (v : Value) (es : List Sy.Ed) (w : World) (hn : es.length ≤ 1000000) (hv : BEdges.Has w v es) :
    Calls Tryz.prog 6 #[sysV n k s v] w fun e w' => ∃ u, e = .returned (sysV n k s u) ∧ LentE w' w.heap.size u es ∧ Below w.heap.size w w' := by
  obtain ⟨i0, hi0, hz0, hz1, hz2⟩ := info_parts BEdges.Tryz.infoE
  obtain ⟨w1, hw1⟩ : ∃ w1, w1 = (w.alloc (.cells #[.int .i64 n, .int .i64 k, .int .i64 s, v] 24)).alloc (.cells #[.int .i64 0, .int .i64 0, .int .i64 0, .slice none 0 0] 24) := ⟨_, rfl⟩
  have hb1 : Below w.heap.size w w1 := by rw [hw1]; exact ((Below.refl _ _).alloc (Nat.le_refl _) _).alloc (by simp) _
  have hg : w1.heap[w.heap.size + 1]? = some (.cells #[.int .i64 0, .int .i64 0, .int .i64 0, .slice none 0 0] 24 (0, 0)) := by rw [hw1]; exact two_alloc w _ _
  have hg0 : w1.heap[w.heap.size]? = some (.cells #[.int .i64 n, .int .i64 k, .int .i64 s, v] 24 (0, 0)) := by rw [hw1, Below.heap_alloc _ _ _ (by simp)]; exact heap_alloc_new w _
  obtain ⟨ao, cap, rfl, _⟩ := _root_.id hv
  have hC := BEdges.copy_of (hv.below hb1)
  obtain ⟨m, hm⟩ : ∃ m, m = es.length := ⟨_, rfl⟩
  rw [← hm] at hC hn hg0 hw1 ⊢
  have hcl : (BEdges.C es).length = m * 3 := by rw [BEdges.C_len, hm]
  have HC : Hid _ := And.intro hC (And.intro hb1 (And.intro hg (And.intro hg0 (And.intro hw1 hm))))
  have hL1 : m ≤ maxLen := by unfold maxLen; omega
  have hL8 : m * 24 ≤ 140737488355328 := by omega
  have hle1 : w.heap.size ≤ w1.heap.size := hb1.size
  unfold sysV
  clear hv hC hb1 hg hg0 hw1 hm
  go_enter Tryz.func6, Tryz.ntmps6
  go_upto_region 1 with fail
  rw [← HC.out.2.2.2.2.1]
  obtain ⟨x0, x1, x2, x3⟩ := four_cells HC.out.2.2.2.1
  go_wp2_with (at_builtin; refine wpList_copy_at _ rfl _ _ 22 rfl w.heap.size 66 i0 (.agg #[.int .i64 0, .int .i64 0, .int .i64 0]) 3 24 Tryz.underlying22 hi0 hz0 hz1 hz2 rfl (by decide) rfl ao m cap (BEdges.C es) rfl HC.out.1.1 hcl HC.out.1.2 (BEdges.C_one _) hL1 hL8 hle1 ?_; intro v2 w2 hown2 hgrow2 hat2; have H2 : Hid _ := And.intro hown2 (tgrown0 hgrow2); clear hown2 hgrow2 hat2)
  clear x0 x1 x2 x3
  go_loopg [3, 4] 3 (fun q lv iv wr => ∃ (i : Nat), q = 3 - i ∧ i ≤ 3 ∧ iv = .int .i64 i ∧ BEdges.Own wr w.heap.size lv (es ++ mk3.take i) ∧ Below w.heap.size w wr ∧ wr.heap[w.heap.size + 1]? = some (.cells #[.int .i64 0, .int .i64 0, .int .i64 0, .slice none 0 0] 24 (0, 0)) ∧ wr.heap[w.heap.size]? = some (.cells #[.int .i64 n, .int .i64 k, .int .i64 s, .slice ao m cap] 24 (0, 0)))
  case atStart => exact ⟨0, rfl, by omega, rfl, by rw [List.take_zero, List.append_nil]; unfold BEdges.Own; rw [← HC.out.2.2.2.2.2]; exact H2.out.1, HC.out.2.1.trans (H2.out.2.mono hle1), (H2.out.2.block _ (t_lt HC.out.2.2.1)).trans HC.out.2.2.1, (H2.out.2.block _ (t_lt HC.out.2.2.2.1)).trans HC.out.2.2.2.1⟩
  case round =>
    obtain ⟨i, rfl, hi, rfl, hO, hb, hg, hg0⟩ := hrel
    clear H2
    have hlen : (es ++ mk3.take i).length = m + i := by rw [List.length_append, List.length_take, ← HC.out.2.2.2.2.2]; show m + min i 3 = _; omega
    obtain ⟨al, cl, rfl⟩ := row_shape hO
    rw [hlen]
    obtain ⟨N, hN⟩ : ∃ N, N = m + i := ⟨_, rfl⟩
    have hO' : wr.ownsRow w.heap.size 66 3 (.slice al N cl) N (BEdges.C (es ++ mk3.take i)) := by have h1 := hO; unfold BEdges.Own at h1; rw [hlen, ← hN] at h1; exact h1
    rw [← hN]
    have HR : Hid _ := And.intro hO' (And.intro hb (And.intro hg (And.intro hg0 hN)))
    have hNl : N ≤ 1000003 := by omega
    clear hO hO' hb hg hg0 hlen hN
    by_cases hlt : i < 3
    · have q1 : (i : Int) < 3 := by omega
      have hml : N + 1 ≤ maxLen := by unfold maxLen; omega
      have hby : (N + 1) * 24 ≤ 140737488355328 := by omega
      have hle : w.heap.size ≤ (wr.alloc (.cells #[.int .i64 (-7), .int .i64 i, .int .i64 0] 66)).heap.size := by have := HR.out.2.1.size; simp; omega
      go_wp2_with (at_builtin; refine wpList_append_own_at _ rfl _ _ 22 rfl w.heap.size 66 i0 (.agg #[.int .i64 0, .int .i64 0, .int .i64 0]) 3 24 Tryz.underlying22 hi0 hz0 hz1 hz2 rfl (by decide) (.slice al N cl) N (BEdges.C (es ++ mk3.take i)) rfl (HR.out.1.alloc _) ⟨wr.heap.size, 0, none⟩ 1 1 [.int .i64 (-7), .int .i64 i, .int .i64 0] rfl rfl (World.news_of_block (cs := #[.int .i64 (-7), .int .i64 i, .int .i64 0]) (t := 66) (fr := (0, 0)) (heap_alloc_new wr _)) (by simp [Value.oneCell']) hml hby hle ?_; intro v3 w3 hown3 hgrow3 hnil3 hat3; have H3 : Hid _ := And.intro hown3 hgrow3; clear hown3 hgrow3 hnil3 hat3)
      have hk3 := grown_alloc H3.out.2
      have hn1 := own_bk HR.out.1 HR.out.2.2.1 (by decide)
      have hn2 := own_bk HR.out.1 HR.out.2.2.2.1 (by decide)
      have HK : Hid _ := And.intro hk3 (And.intro hn1 hn2)
      clear hk3 hn1 hn2
      go_roundg (3 - (i + 1))
      case measure => omega
      case rel =>
        have hz : mk3[i]? = some (-7, (i : Int), 0) := by
          have h9 : i = 0 ∨ i = 1 ∨ i = 2 := by omega
          rcases h9 with rfl | rfl | rfl <;> rfl
        exact ⟨i + 1, rfl, by omega, by go_num, by
          rw [take_succ_of hz, ← List.append_assoc]
          unfold BEdges.Own
          rw [BEdges.C_snoc, List.length_append]
          have h1 : (es ++ mk3.take i).length = N := by rw [List.length_append, List.length_take, ← HC.out.2.2.2.2.2, HR.out.2.2.2.2]; show m + min i 3 = _; omega
          rw [h1]
          exact H3.out.1, HR.out.2.1.trans (HK.out.1.below HR.out.2.1.size fun b hb => (HR.out.1.lt b hb).1), (HK.out.1.block _ (t_lt HR.out.2.2.1) fun e => HK.out.2.1 e).trans HR.out.2.2.1, (HK.out.1.block _ (t_lt HR.out.2.2.2.1) fun e => HK.out.2.2 e).trans HR.out.2.2.2.1⟩
    · obtain rfl : i = 3 := by omega
      have q1 : ¬ ((3 : Nat) : Int) < 3 := by omega
      obtain ⟨g, c, hf, hgl, _⟩ := World.ownsRow.form HR.out.1 (by have := HR.out.2.2.2.2; omega)
      injection hf with e1 e2 e3
      subst e1; subst e3
      obtain ⟨_, _, hcap⟩ : N ≤ cl ∧ True ∧ N ≤ cl := by
        rcases HR.out.1.2 with ⟨h9, _⟩ | ⟨g2, c2, cur, h9, _, _, hc2, _⟩
        · cases h9
        · injection h9 with f1 f2 f3; subst f3; exact ⟨hc2, trivial, hc2⟩
      have p0 : (0 : Int) ≤ (m : Int) := by omega
      have p1 : (m : Int) ≤ (cl : Int) := by have := HR.out.2.2.2.2; omega
      obtain ⟨y0, y1, y2, y3⟩ := four_cells HR.out.2.2.1
      obtain ⟨x0, x1, x2, x3⟩ := four_cells HR.out.2.2.2.1
      have z0 := blk_free HR.out.2.2.1 0
      have z1 := blk_free HR.out.2.2.1 1
      have z2 := blk_free HR.out.2.2.1 2
      have z3 := blk_free HR.out.2.2.1 3
      have z4 := blk_free HR.out.2.2.2.1 3
      have nn : ¬ w.heap.size + 1 = w.heap.size := by omega
      have nn2 : ¬ w.heap.size = w.heap.size + 1 := by omega
      have HE : Hid _ := hcap
      clear e2 hcap
      go_wp2_with fail
      have hgm : (wr.setCell ⟨w.heap.size, 3, none⟩ (.slice (some ⟨g, 0, none⟩) m cl)).heap[w.heap.size + 1]? = some (.cells #[.int .i64 0, .int .i64 0, .int .i64 0, .slice none 0 0] 24 (0, 0)) := (set_other _ _ _ _ _ nn).trans HR.out.2.2.1
      have hbm : Below w.heap.size w (wr.setCell ⟨w.heap.size, 3, none⟩ (.slice (some ⟨g, 0, none⟩) m cl)) := HR.out.2.1.setCell (Nat.le_refl _) _
      have hgf := four_set (a0 := .int .i64 n) (a1 := .int .i64 k) (a2 := .int .i64 s) (a3 := .slice (some ⟨g, 0, none⟩) m cl) hgm
      have hbf := four_below hbm (b := w.heap.size + 1) (by omega) (.int .i64 n) (.int .i64 k) (.int .i64 s) (.slice (some ⟨g, 0, none⟩) m cl)
      have hOf : (((((wr.setCell ⟨w.heap.size, 3, none⟩ (.slice (some ⟨g, 0, none⟩) m cl)).setCell ⟨w.heap.size + 1, 0, none⟩ (.int .i64 n)).setCell ⟨w.heap.size + 1, 1, none⟩ (.int .i64 k)).setCell ⟨w.heap.size + 1, 2, none⟩ (.int .i64 s)).setCell ⟨w.heap.size + 1, 3, none⟩ (.slice (some ⟨g, 0, none⟩) m cl)).ownsRow w.heap.size 66 3 (.slice (some ⟨g, 0, none⟩) N cl) N (BEdges.C (es ++ mk3.take 3)) := trow_at HR.out.1 fun b hb => by
        have h1 := own_bk HR.out.1 HR.out.2.2.1 (by decide)
        have h2 := own_bk HR.out.1 HR.out.2.2.2.1 (by decide)
        have e1 : b ≠ w.heap.size + 1 := fun e => h1 (by rw [← e]; exact hb)
        have e2 : b ≠ w.heap.size := fun e => h2 (by rw [← e]; exact hb)
        rw [set_other _ _ _ _ _ e1, set_other _ _ _ _ _ e1, set_other _ _ _ _ _ e1, set_other _ _ _ _ _ e1, set_other _ _ _ _ _ e2]
      generalize (((((wr.setCell ⟨w.heap.size, 3, none⟩ (.slice (some ⟨g, 0, none⟩) m cl)).setCell ⟨w.heap.size + 1, 0, none⟩ (.int .i64 n)).setCell ⟨w.heap.size + 1, 1, none⟩ (.int .i64 k)).setCell ⟨w.heap.size + 1, 2, none⟩ (.int .i64 s)).setCell ⟨w.heap.size + 1, 3, none⟩ (.slice (some ⟨g, 0, none⟩) m cl)) = wf at hgf hbf hOf ⊢
      clear y0 y1 y2 y3 z0 z1 z2 z3 z4 x0 x1 x2 x3
      obtain ⟨c0, c1, c2, c3⟩ := four_cells hgf
      refine bodyPost_ret (v := .agg #[.int .i64 n, .int .i64 k, .int .i64 s, .slice (some ⟨g, 0, none⟩) m cl]) (by simp [results, Tryz.results6, go_sem, c0, c1, c2, c3]) rfl ⟨_, rfl, ⟨g, cl, by rw [HC.out.2.2.2.2.2], by have := HE.out; have := HR.out.2.2.2.2; have := HC.out.2.2.2.2.2; omega, ?_⟩, hbf⟩
      have h1 : N = es.length + 3 := by rw [HR.out.2.2.2.2, HC.out.2.2.2.2.2]
      unfold BEdges.Own
      rw [List.length_append]
      show wf.ownsRow w.heap.size 66 3 (.slice (some ⟨g, 0, none⟩) (es.length + 3) cl) (es.length + 3) (BEdges.C (es ++ mk3))
      rw [← h1]
      exact hOf
set_option maxRecDepth 100000 in
set_option maxHeartbeats 4000000 in
theorem staysS_any (n k s n' k' s' : Int) (B : Nat) (va vb : Value) (es : List Sy.Ed) (w : World) (hn : es.length ≤ 1000000) (hA : LentE w B va es) (hB : BEdges.Has w vb es) :
    Calls Tryz.prog 12 #[sysV n k s va, sysV n' k' s' vb] w fun e w' => e = .returned (.bool true) ∧ Below w.heap.size w w' := by
  obtain ⟨w1, hw1⟩ : ∃ w1, w1 = (w.alloc (.cells #[.int .i64 n, .int .i64 k, .int .i64 s, va] 24)).alloc (.cells #[.int .i64 n', .int .i64 k', .int .i64 s', vb] 24) := ⟨_, rfl⟩
  have hb1 : Below w.heap.size w w1 := by rw [hw1]; exact ((Below.refl _ _).alloc (Nat.le_refl _) _).alloc (by simp) _
  have hg0 : w1.heap[w.heap.size]? = some (.cells #[.int .i64 n, .int .i64 k, .int .i64 s, va] 24 (0, 0)) := by rw [hw1, Below.heap_alloc _ _ _ (by simp)]; exact heap_alloc_new w _
  have hS := BEdges.same_b va vb es w1 (by omega) (hA.hasE.below hb1 |> fun ⟨_, _, _, _, h⟩ => h) (hB.below hb1)
  obtain ⟨bo, cbp, rfl, _⟩ := hB
  have hA1 := hA.below hb1
  obtain ⟨g, cap, rfl, hcap, _⟩ := hA
  obtain ⟨m, hm⟩ : ∃ m, m = es.length := ⟨_, rfl⟩
  rw [← hm] at hS hcap hg0 hw1 hn ⊢
  have H1 : Hid _ := And.intro hS (And.intro hb1 (And.intro hg0 (And.intro hw1 (And.intro hm hA1))))
  unfold sysV
  have nn : ¬ w.heap.size + 1 = w.heap.size := by omega
  have e3 : IntKind.i64.wrap ((m : Int) + 3) = (m : Int) + 3 := by rw [IntKind.wrap_i64]; omega
  have p0 : (0 : Int) ≤ (m : Int) + 3 := by omega
  have p1 : (m : Int) + 3 ≤ (cap : Int) := by omega
  clear hS hb1 hg0 hw1 hm hA1
  go_enter Tryz.func12, Tryz.ntmps12
  go_wp2_with fail
  rw [← H1.out.2.2.2.1]
  refine Calls.mono H1.out.1 ?_
  rintro e w2 ⟨rfl, hb2⟩
  have hg2 := (hb2.block _ (t_lt H1.out.2.2.1)).trans H1.out.2.2.1
  obtain ⟨x0, x1, x2, x3⟩ := four_cells hg2
  have hA2 := H1.out.2.2.2.2.2.below hb2
  obtain ⟨g', cap', hu, _, hO⟩ := hA2
  injection hu with f1 f2 f3
  injection f1 with f1
  injection f1 with f1
  subst f1; subst f3
  have H2 : Hid _ := And.intro (H1.out.2.1.trans (hb2.mono H1.out.2.1.size)) (And.intro hO hg2)
  clear hb2 hg2 hO f2
  go_wp2_with fail
  go_loopg [6] 3 (fun q iv wr => ∃ i : Nat, q = 3 - i ∧ i ≤ 3 ∧ iv = .int .i64 i ∧ Below w2.heap.size w2 wr)
  case atStart => exact ⟨0, rfl, by omega, rfl, Below.refl _ _⟩
  case round =>
    obtain ⟨i, rfl, hi, rfl, hb⟩ := hrel
    by_cases hlt : i < 3
    · have q1 : (i : Int) < 3 := by omega
      have hz : (es ++ mk3)[m + i]? = some (-7, (i : Int), 0) := by
        rw [H1.out.2.2.2.2.1, List.getElem?_append_right (by omega), Nat.add_sub_cancel_left]
        have h9 : i = 0 ∨ i = 1 ∨ i = 2 := by omega
        rcases h9 with rfl | rfl | rfl <;> rfl
      obtain ⟨g2, hg3, c0, c1, c2⟩ := own_edge (trow_at (w' := wr) H2.out.2.1 fun b hb' => hb.block b (H2.out.2.1.lt b hb').2) hz
      cases hg3
      have y3 := cell_up x3 hb
      obtain ⟨M, hM⟩ : ∃ M, M = m + i := ⟨_, rfl⟩
      have e4 : IntKind.i64.wrap ((m : Int) + (i : Int)) = (M : Int) := by rw [IntKind.wrap_i64]; omega
      have r0 : (0 : Int) ≤ (M : Int) := by omega
      have r1 : (M : Int) < (m : Int) + 3 := by omega
      rw [← hM] at c0 c1 c2
      have HB : Hid _ := hb
      clear hb hz hM
      go_wp2_with fail
      go_roundg (3 - (i + 1))
      case measure => omega
      case rel => exact ⟨i + 1, rfl, by omega, by go_num, by first | exact HB.out | exact HB.out.alloc HB.out.size _⟩
    · obtain rfl : i = 3 := by omega
      have q1 : ¬ ((3 : Nat) : Int) < 3 := by omega
      have HB : Hid _ := hb
      clear hb
      go_wp2_with fail
      go_ret
      exact ⟨rfl, H2.out.1.trans (HB.out.mono H2.out.1.size)⟩
end
section
open Go.RowKit Go.Maps
attribute [local go_sem ↓] Go.wp_at_zero Go.wp_at_succ
theorem lentM_has {w : World} {B : Nat} {u : Value} {es : List Sy.Ed} (h : LentE w B u es) : BEdges.Has w u es := by
  obtain ⟨_, _, _, _, h1⟩ := h.hasE
  exact h1
set_option maxRecDepth 100000 in
set_option maxHeartbeats 4000000 in
theorem lawAbove_out (hS : SortOk 1000000) (n k s p q : Int) (v : Value) (es : List Sy.Ed) (a : Addr) (w : World) (hE : EnvM w a) (hv : BEdges.Has w v es) (hli : lightM n es.length (Sy.right n k s es) = false) :
    Calls Tryz.prog 3 #[sysV n k s v, .int .i64 p, .int .i64 q] w fun r w' => r = .returned (.bool true) ∧ Below w.heap.size w w' := by
  have hv0 := hv
  obtain ⟨ao, cap, rfl, _⟩ := hv0
  obtain ⟨L, hL⟩ : ∃ L, L = es.length := ⟨_, rfl⟩
  obtain ⟨w1, hw1⟩ : ∃ w1, w1 = w.alloc (.cells #[.int .i64 n, .int .i64 k, .int .i64 s, .slice ao L cap] 24) := ⟨_, rfl⟩
  have hb1 : Below w.heap.size w w1 := by rw [hw1]; exact (Below.refl _ _).alloc (Nat.le_refl _) _
  have hg1 : w1.heap[w.heap.size]? = some (.cells #[.int .i64 n, .int .i64 k, .int .i64 s, .slice ao L cap] 24 (0, 0)) := by rw [hw1]; exact heap_alloc_new w _
  have hLt := lightM_any n k s _ es w1 (hv.below hb1)
  rw [hli] at hLt
  rw [← hL] at hLt ⊢
  unfold sysV at hLt ⊢
  have H1 : Hid _ := And.intro hw1 (And.intro hb1 (And.intro hLt (hE.below hb1)))
  obtain ⟨x0, x1, x2, x3⟩ := four_cells9 hg1
  clear hE hv hL hw1 hb1 hg1 hLt hli
  go_enter Tryz.func3, Tryz.ntmps3
  go_upto_region 1 with fail
  rw [← H1.out.1]
  go_wp2_with (first
    | (go_at_call 4; refine Calls.mono H1.out.2.2.1 ?_; rintro r w2 ⟨rfl, hb2⟩; have H2 : Hid (Below w1.heap.size w1 w2) := hb2; clear hb2)
    | (have hq := H2.out; go_at_call 5; refine Calls.mono (alive17_any hS a _ (H1.out.2.2.2.below H2.out)) ?_; rintro r w3 ⟨rfl, hb3⟩; have H3 : Hid _ := hb3; clear hb3 hq))
  go_ret
  exact ⟨rfl, H1.out.2.1.trans ((H2.out.trans (H3.out.mono H2.out.size)).mono H1.out.2.1.size)⟩
end
section
open Go.RowKit Go.Maps
attribute [local go_sem ↓] Go.wp_at_zero Go.wp_at_succ
def InC (w : World) (ai : Option Addr) (M : Nat) (S : Nat → Nat → Bool) : Prop := 0 < M → ∃ (g : Nat) (b : Nat → Nat), ai = some ⟨g, 0, none⟩ ∧ ∀ p, p < M → w.cell? ⟨g, p, none⟩ = some (.slice (some ⟨b p, 0, none⟩) M M) ∧ ∀ q, q < M → w.cell? ⟨b p, q, none⟩ = some (.bool (S p q))
theorem InC.below {w w' : World} {ai : Option Addr} {M : Nat} {S : Nat → Nat → Bool} (h : InC w ai M S) (hb : Below w.heap.size w w') : InC w' ai M S := fun hM => by
  obtain ⟨g, b, e, hc⟩ := h hM
  exact ⟨g, b, e, fun p hp => ⟨cell_up (hc p hp).1 hb, fun q hq => cell_up ((hc p hp).2 q hq) hb⟩⟩
def rowsM (M : Nat) (S : Nat → Nat → Bool) : List (List Int) := (List.range M).map fun p => natI (Br.els (S p) M)
theorem rowsM_len (M : Nat) (S : Nat → Nat → Bool) : (rowsM M S).length = M := by simp [rowsM]
theorem rowsM_at {M i : Nat} {S : Nat → Nat → Bool} (h : i < M) : (rowsM M S)[i]? = some (natI (Br.els (S i) M)) := by
  unfold rowsM
  rw [List.getElem?_map, List.getElem?_range h]; rfl
theorem rowsM_le {M : Nat} {S : Nat → Nat → Bool} {r : List Int} (h : r ∈ rowsM M S) : r.length ≤ M := by
  obtain ⟨p, _, rfl⟩ := List.mem_map.1 h
  have := els_len (S p) M
  simpa [natI] using this
theorem res17 {W w8 : World} {b : Nat} {o : Obj} (hb : Below W.heap.size W w8) (h : W.heap[b]? = some o) : w8.heap[b]? = some o := (hb.block b (t_lt h)).trans h
theorem box17 (w : World) (a0 a1 a2 a3 : Value) (t : TypeId) : Below w.heap.size w (w.alloc (.cells #[a0, a1, a2, a3] t)) := (Below.refl _ _).alloc (Nat.le_refl _) _
def EndC (ok : Bool) (M : Nat) (S : Nat → Nat → Bool) (p q : Int) (bv : Bool) (ev evB : Value) : Prop :=
  (ok = false ∧ bv = false ∧ evB = ev) ∨ (ok = true ∧ ¬ (0 ≤ p ∧ p < (M : Int) ∧ 0 ≤ q ∧ q < (M : Int)) ∧ bv = false ∧ evB = idxV) ∨ (ok = true ∧ ∃ P Q : Nat, p = P ∧ q = Q ∧ P < M ∧ Q < M ∧ bv = S P Q ∧ evB = ev)
set_option maxRecDepth 100000 in
set_option maxHeartbeats 32000000 in
theorem lawAbove_of (n k s p q : Int) (v : Value) (es : List Sy.Ed) (w : World) (ok : Bool) (ck : Int) (cx : ByteArray) (M : Nat) (S : Nat → Nat → Bool) (zs : List Int) (bv : Bool) (evB : Value) (hck : (ck == 0) = ok)
    (hAl : ∀ W, Below w.heap.size w W → Calls Tryz.prog 5 #[] W fun r W' => r = .returned (.bool true) ∧ Below W.heap.size W W')
    (hv : BEdges.Has w v es) (hlen : es.length ≤ 11000) (hli : lightM n es.length (Sy.right n k s es) = true)
    (hG : ∀ W, Below w.heap.size w W → Calls Tryz.prog 7 #[sysV n k s v] W fun r W' => r = .returned (.agg #[.int .i64 ck, .int .i64 0, .int .i64 0, .string cx]) ∧ Below W.heap.size W W')
    (hIn : ok = true → ∀ W, Below w.heap.size w W → Calls Tryz.prog 8 #[sysV n k s v] W fun r W' => ∃ ao c, r = .returned (.slice ao M c) ∧ Below W.heap.size W W' ∧ InC W' ao M S)
    (hCl : ok = true → ∀ W, Below w.heap.size w W → Calls Tryz.prog 15 #[sysV n k s v] W fun r W' => ∃ u, r = .returned u ∧ OwnI W' W.heap.size u zs ∧ Below W.heap.size W W')
    (hM0 : ok = false → M = 0) (hz0 : ok = false → zs = []) (hM : M ≤ 1000) (hz : zs.length ≤ 1000000) (hnM : ok = true → n = M)
    (hAn : ∀ u W, Below w.heap.size w W → BEdges.Has W u es → AnsA (sysV n k s u) (rowsM M S) (.agg #[.int .i64 ck, .int .i64 0, .int .i64 0, .string cx]) W ∧ AnsC (sysV n k s u) zs (.agg #[.int .i64 ck, .int .i64 0, .int .i64 0, .string cx]) W)
    (hB : AnsB (sysV n k s v) p q bv evB w) (hEnd : EndC ok M S p q bv (.agg #[.int .i64 ck, .int .i64 0, .int .i64 0, .string cx]) evB) :
    Calls Tryz.prog 3 #[sysV n k s v, .int .i64 p, .int .i64 q] w fun r w' => r = .returned (.bool true) ∧ Below w.heap.size w w' := by
  have hv0 := hv
  obtain ⟨ao, cap, rfl, _⟩ := hv0
  obtain ⟨L, hL⟩ : ∃ L, L = es.length := ⟨_, rfl⟩
  obtain ⟨w1, hw1⟩ : ∃ w1, w1 = w.alloc (.cells #[.int .i64 n, .int .i64 k, .int .i64 s, .slice ao L cap] 24) := ⟨_, rfl⟩
  have hb1 : Below w.heap.size w w1 := by rw [hw1]; exact (Below.refl _ _).alloc (Nat.le_refl _) _
  have hg1 : w1.heap[w.heap.size]? = some (.cells #[.int .i64 n, .int .i64 k, .int .i64 s, .slice ao L cap] 24 (0, 0)) := by rw [hw1]; exact heap_alloc_new w _
  have hLt := lightM_any n k s _ es w1 (hv.below hb1)
  rw [hli] at hLt
  have hLe := fun W (hb : Below w1.heap.size w1 W) => lentS_any n k s (.slice ao es.length cap) es W (by omega) ((hv.below hb1).below hb)
  have hSt := fun (B : Nat) (u : Value) W (hb : Below w1.heap.size w1 W) (hA : LentE W B u es) => staysS_any n k s n k s B u (.slice ao es.length cap) es W (by omega) hA ((hv.below hb1).below hb)
  rw [← hL] at hLt hLe hSt hG hIn hCl hB ⊢
  unfold sysV at hLt hLe hSt hG hIn hCl hB ⊢
  have HLn : Hid (L = es.length) := hL
  have HK : Hid _ := And.intro hck (And.intro hM0 (And.intro hz0 (And.intro hM (And.intro hz (And.intro hEnd hnM)))))
  have HA : Hid _ := And.intro hAn (And.intro hB (And.intro hIn (And.intro hCl hAl)))
  have H1 : Hid _ := And.intro hw1 (And.intro hb1 (And.intro hLt (And.intro hLe (And.intro hSt (And.intro hG hg1)))))
  obtain ⟨x0, x1, x2, x3⟩ := four_cells9 hg1
  clear hAl hv hL hw1 hb1 hg1 hLt hli hLe hSt hG hIn hCl hM0 hz0 hM hz hAn hB hEnd hck hlen hnM
  go_enter Tryz.func3, Tryz.ntmps3
  go_upto_region 1 with fail
  rw [← H1.out.1]
  go_wp2_with fail
  refine Calls.mono H1.out.2.2.1 ?_
  rintro r w2 ⟨rfl, hb2⟩
  have hb12 := hb2
  have hg2 := res17 hb2 H1.out.2.2.2.2.2.2
  have H2 : Hid _ := And.intro hb12 (And.intro (bel6m hb12 H1.out.2.1) hg2)
  clear hb2 hb12 x0 x1 x2 x3
  obtain ⟨x0, x1, x2, x3⟩ := four_cells9 hg2
  clear hg2
  go_wp2_with fail
  refine Calls.mono (H1.out.2.2.2.1 _ H2.out.1) ?_
  rintro r w3 ⟨u, rfl, hLu, hb3⟩
  obtain ⟨gu, cu, rfl, hcu, hou⟩ := hLu
  have hLx : LentE w3 w2.heap.size (.slice (some ⟨gu, 0, none⟩) L cu) es := by rw [HLn.out]; exact ⟨gu, cu, rfl, hcu, hou⟩
  rw [← HLn.out]
  have hg3 := res17 hb3 H2.out.2.2
  have H3 : Hid _ := And.intro hLx (And.intro hb3 (bel6m hb3 H2.out.1))
  clear hb3 hcu hou hLx x0 x1 x2 x3
  obtain ⟨x0, x1, x2, x3⟩ := four_cells9 hg3
  go_upto_region 4 with fail
  obtain ⟨w4, hw4⟩ : ∃ w4, w4 = w3.alloc (.cells #[.int .i64 n, .int .i64 k, .int .i64 s, .slice (some ⟨gu, 0, none⟩) L cu] 24) := ⟨_, rfl⟩
  have hb4 : Below w3.heap.size w3 w4 := by rw [hw4]; exact box17 _ _ _ _ _ _
  have hg4 : w4.heap[w3.heap.size]? = some (.cells #[.int .i64 n, .int .i64 k, .int .i64 s, .slice (some ⟨gu, 0, none⟩) L cu] 24 (0, 0)) := by rw [hw4]; exact heap_alloc_new w3 _
  rw [← hw4]
  have hs4 := res17 hb4 hg3
  have H4 : Hid _ := And.intro (bel6m hb4 H3.out.2.2) (And.intro (H3.out.1.below hb4) (And.intro hg4 hs4))
  clear hb4 hw4 hg3 hg4 x0 x1 x2 x3
  obtain ⟨x0, x1, x2, x3⟩ := four_cells9 hs4
  clear hs4
  go_wp2_with fail
  refine Calls.mono (H1.out.2.2.2.2.2.1 _ (bel6m H4.out.1 H1.out.2.1)) ?_
  rintro r w5 ⟨rfl, hb5⟩
  have H5 : Hid (Below w4.heap.size w4 w5) := hb5
  clear hb5 x0 x1 x2 x3
  go_upto_region 6 with fail
  obtain ⟨w6, hw6⟩ : ∃ w6, w6 = w5.alloc (.cells #[.int .i64 ck, .int .i64 0, .int .i64 0, .string cx] 29) := ⟨_, rfl⟩
  have hb6 : Below w5.heap.size w5 w6 := by rw [hw6]; exact box17 _ _ _ _ _ _
  have hg6 : w6.heap[w5.heap.size]? = some (.cells #[.int .i64 ck, .int .i64 0, .int .i64 0, .string cx] 29 (0, 0)) := by rw [hw6]; exact heap_alloc_new w5 _
  rw [← hw6]
  have hb46 := bel6m hb6 H5.out
  have hs6 := res17 hb46 H4.out.2.2.2
  have H6 : Hid _ := And.intro (bel6m hb46 H4.out.1) (And.intro (H4.out.2.1.below hb46) (And.intro (res17 hb46 H4.out.2.2.1) (And.intro hs6 hg6)))
  obtain ⟨x0, x1, x2, x3⟩ := four_cells9 hs6
  obtain ⟨y0, y1, y2, y3⟩ := four_cells9 hg6
  clear hb6 hg6 hb46 hs6 hw6
  go_upto_if 29 with fail
  go_cut [9] (fun v9 wx => ∃ ai ci, v9 = .slice ai M ci ∧ InC wx ai M S ∧ Below w6.heap.size w6 wx)
  case first =>
    cases ok
    · have e1 : (ck == 0) = false := HK.out.1
      have HM : Hid (M = 0) := HK.out.2.1 rfl
      go_wp2_with fail
      go_meet
      case rel => exact ⟨none, 0, by rw [HM.out], fun h => by rw [HM.out] at h; exact absurd h (Nat.lt_irrefl 0), Below.refl _ _⟩
    · have e1 : (ck == 0) = true := HK.out.1
      have HIn : Hid _ := HA.out.2.2.1 rfl
      go_wp2_with fail
      refine Calls.mono (HIn.out _ (bel6m H6.out.1 H1.out.2.1)) ?_
      rintro r w7 ⟨ai, ci, rfl, hb7, hI7⟩
      have H7 : Hid _ := And.intro hb7 hI7
      clear hb7 hI7
      go_wp2_with fail
      go_meet
      case rel => exact ⟨ai, ci, rfl, H7.out.2, H7.out.1⟩
  case rest =>
    obtain ⟨ai, ci, rfl, hI7, hb7⟩ := hcut
    have H7 : Hid _ := And.intro hI7 (And.intro (bel6m hb7 H6.out.1) (And.intro (H6.out.2.1.below hb7) (And.intro (res17 hb7 H6.out.2.2.1) (And.intro (res17 hb7 H6.out.2.2.2.1) (res17 hb7 H6.out.2.2.2.2)))))
    clear hI7 hb7 x0 x1 x2 x3 y0 y1 y2 y3
    go_upto_region 9 with fail
    obtain ⟨w8, hw8⟩ : ∃ w8, w8 = wc.alloc (.cells WIR.bookZ 45) := ⟨_, rfl⟩
    have hE8 := WIR.new wc
    rw [← hw8] at hE8
    have hw8' : wc.alloc (.cells #[.slice none 0 0, .slice none 0 0, .slice none 0 0, .slice none 0 0, .slice none 0 0, .slice none 0 0, .slice none 0 0, .slice none 0 0, .slice none 0 0, .slice none 0 0, .slice none 0 0, .slice none 0 0, .slice none 0 0, .slice none 0 0, .slice none 0 0, .slice none 0 0, .slice none 0 0, .slice none 0 0, .slice none 0 0, .slice none 0 0, .slice none 0 0, .slice none 0 0] 45) = w8 := by rw [hw8]; rfl
    rw [hw8']
    have H8 : Hid _ := hE8
    clear hE8 hw8 hw8'
    go_wp2_with fail
    go_loopg [11] 2 (fun z kv wr => ∃ (j : Nat) (X : Nat → Prop), z = 2 - j ∧ j ≤ 2 ∧ kv = .int .i64 j ∧ WIR.E wc wr (fun b => b < wr.heap.size) (fun b => b < wr.heap.size) X)
    case atStart => exact ⟨0, _, rfl, by omega, rfl, WIR.E.mono H8.out (fun _ _ h => h.elim) (fun _ _ h => h.elim)⟩
    case round =>
      obtain ⟨j, X, rfl, hj, rfl, hT⟩ := hrel
      obtain ⟨wo, rfl⟩ : ∃ wo, wo = wr := ⟨_, rfl⟩
      have hbB := hT.bw
      have hbw := bel6m (bel6m hbB H7.out.2.1) H1.out.2.1
      have HO : Hid _ := And.intro hT (And.intro hbB hbw)
      clear hT
      by_cases hlt : j < 2
      · have q1 : (j : Int) < 2 := by omega
        obtain ⟨x0, x1, x2, x3⟩ := four_cells9 (res17 hbB H7.out.2.2.2.1)
        have hAC := HA.out.1 (.slice (some ⟨gu, 0, none⟩) L cu) wo hbw (lentM_has (H7.out.2.2.1.below hbB))
        unfold sysV at hAC
        have HC : Hid _ := hAC
        clear hAC hbB hbw
        go_wp2_with fail
        refine Calls.mono (HC.out.1 _ (Below.refl _ _)) ?_
        rintro r w9 ⟨ul, el, rfl, hR9, hb9, hTd9⟩
        obtain ⟨al, cl, rfl⟩ : ∃ al cl, ul = .slice al M cl := by
          obtain ⟨us, h1, _⟩ := hR9
          obtain ⟨a, c, h2⟩ := row_shape h1
          rw [rowsM_len] at h2
          exact ⟨a, c, h2⟩
        have hbB9 := bel6m hb9 HO.out.2.1
        have H9 : Hid _ := And.intro hR9 (And.intro hb9 (And.intro hTd9 hbB9))
        clear hR9 hTd9 x0 x1 x2 x3
        obtain ⟨x0, x1, x2, x3⟩ := four_cells9 (res17 hbB9 H7.out.2.2.2.1)
        clear hbB9 hb9
        go_wp2_with fail
        refine Calls.mono (HC.out.2 _ H9.out.2.1) ?_
        rintro r w10 ⟨uc, ec, rfl, hO10, hb10, hTd10⟩
        obtain ⟨ac, cc, rfl⟩ := row_shape hO10
        obtain ⟨N, hN⟩ : ∃ N, N = zs.length := ⟨_, rfl⟩
        rw [← hN] at hO10 ⊢
        have hbB10 := bel6m hb10 H9.out.2.2.2
        have H10 : Hid _ := And.intro hO10 (And.intro hb10 (And.intro hTd10 (And.intro hbB10 hN)))
        clear hO10 hTd10 hN x0 x1 x2 x3
        obtain ⟨y0, y1, y2, y3⟩ := four_cells9 (res17 hbB10 H7.out.2.2.2.2.2)
        clear hbB10 hb10
        go_wp2_with fail
        refine Calls.mono (H9.out.2.2.1 _ H10.out.2.1) ?_
        rintro r w11 ⟨rfl, hb11⟩
        have hbB11 := bel6m hb11 H10.out.2.2.2.1
        have H11 : Hid _ := And.intro hb11 hbB11
        clear hb11 y0 y1 y2 y3
        obtain ⟨y0, y1, y2, y3⟩ := four_cells9 (res17 hbB11 H7.out.2.2.2.2.2)
        clear hbB11
        go_wp2_with fail
        refine Calls.mono (H10.out.2.2.1 _ H11.out.1) ?_
        rintro r w12 ⟨rfl, hb12⟩
        have hbB12 := bel6m hb12 H11.out.2
        have H12 : Hid _ := And.intro (bel6m hb12 H11.out.1) hbB12
        clear hb12 y0 y1 y2 y3
        obtain ⟨y0, y1, y2, y3⟩ := four_cells9 (res17 hbB12 H7.out.2.2.2.1)
        obtain ⟨x0, x1, x2, x3⟩ := four_cells9 (res17 hbB12 H7.out.2.2.2.2.1)
        clear hbB12
        go_wp2_with fail
        refine Calls.mono (H1.out.2.2.2.2.1 _ _ _ (bel6m H12.out.2 H7.out.2.1) (H7.out.2.2.1.below H12.out.2)) ?_
        rintro r w13 ⟨rfl, hb13⟩
        have H13 : Hid _ := And.intro (bel6m hb13 H12.out.1) (bel6m hb13 H12.out.2)
        clear hb13 x0 x1 x2 x3 y0 y1 y2 y3
        go_wp2_with fail
        go_loopg [16] M (fun z iv wr => ∃ i : Nat, z = M - i ∧ i ≤ M ∧ iv = .int .i64 i ∧ Below w13.heap.size w13 wr)
        case atStart => exact ⟨0, rfl, Nat.zero_le _, rfl, Below.refl _ _⟩
        case round =>
          obtain ⟨i, rfl, hi, rfl, hbi⟩ := hrel
          obtain ⟨wi, rfl⟩ : ∃ wi, wi = wr := ⟨_, rfl⟩
          have hbB := bel6m hbi H13.out.2
          have hb9i := bel6m hbi (bel6m H13.out.1 H10.out.2.1)
          have HI : Hid _ := And.intro hbB hb9i
          have HI0 : Hid _ := hbi
          clear hbi
          by_cases hli : i < M
          · have q0 : (0 : Int) ≤ (i : Int) := by omega
            have q2 : (i : Int) < (M : Int) := by omega
            obtain ⟨a9, c9, he9, hc9⟩ := RowsRows.has (RowsRows.below H9.out.1 hb9i)
            injection he9 with he91 he92 he93
            obtain ⟨bl, ui, ha9, c1, hu⟩ := hc9 i _ (rowsM_at hli)
            obtain rfl : al = some ⟨bl, 0, none⟩ := he91.trans ha9
            obtain ⟨g, bb, hai, hcd⟩ := (H7.out.1.below hbB) (by omega)
            subst hai
            have c2 := (hcd i hli).1
            have hRow := fun W (hb : Below wi.heap.size wi W) => docRow_any (bb i) M (S i) W (fun q hq => cell_up ((hcd i hli).2 q hq) hb) (by have := HK.out.2.2.2.1; omega)
            have hSam := fun u' W (hb : Below wi.heap.size wi W) (h : HasI W u' (natI (Br.els (S i) M))) => sameInts_any ui u' _ W (by have := rowsM_le (List.mem_of_getElem? (rowsM_at (S := S) hli)); have := HK.out.2.2.2.1; omega) (hu.below hb) h
            have HS : Hid _ := And.intro hRow hSam
            clear hRow hSam hcd hc9 hu ha9 he91 he92 he93 hbB hb9i
            go_upto_region 19 with fail
            go_region_held3 (fun w' => (w'.cell? ⟨bl, i, none⟩ = some ui ∧ w'.cell? ⟨g, i, none⟩ = some (.slice (some ⟨bb i, 0, none⟩) M M)) ∧ Hid (Below wi.heap.size wi w')) (first | exact rr_up hb2 (by assumption) | exact ⟨⟨c1, c2⟩, ((Below.refl _ _).drew : Below wi.heap.size wi wi.drew)⟩ | go_keep)
              ((first
                | (go_at_call 14; refine Calls.mono (HS.out.1 _ (rr_b (by assumption))) ?_; rintro r w14 ⟨ur, rfl, hOr, hb2⟩)
                | (go_at_call 13; refine Calls.mono (HS.out.2 _ _ (rr_b (by assumption)) hOr.has) ?_; rintro r w15 ⟨rfl, hb2⟩)
                | fail))
            have H2 : Hid _ := rr_b (by assumption)
            clear hb2 c1 c2
            rename_i hS3
            clear hS3
            have hMM : M ≤ 1000 := HK.out.2.2.2.1
            go_wp2_with fail
            have hMM : M ≤ 1000 := HK.out.2.2.2.1
            go_roundg (M - (i + 1))
            case measure => omega
            case rel => exact ⟨i + 1, rfl, by omega, by go_num, bel6m H2.out HI0.out⟩
          · have q0 : ¬ (i : Int) < (M : Int) := by omega
            obtain ⟨y0, y1, y2, y3⟩ := four_cells9 (res17 hbB H7.out.2.2.2.2.2)
            obtain ⟨x0, x1, x2, x3⟩ := four_cells9 (res17 hbB H7.out.2.2.2.2.1)
            clear hbB hb9i
            cases ok
            case' false =>
              have e1 : (ck == 0) = false := HK.out.1
              have e2 : (ck != 0) = true := by simp [bne, e1]
              obtain rfl : N = 0 := by rw [H10.out.2.2.2.2, HK.out.2.2.1 rfl]; rfl
              obtain ⟨w15, hw15⟩ : ∃ w15, w15 = wi := ⟨_, rfl⟩
              rw [← hw15]
              have H15 : Hid (Below wi.heap.size wi w15) := by rw [hw15]; exact Below.refl _ _
              rw [← hw15] at x0 x1 x2 x3 y0 y1 y2 y3
              clear hw15
              go_wp2_with fail
            case' true =>
              obtain rfl : ck = 0 := by have := HK.out.1; simpa using this
              have HCl : Hid _ := HA.out.2.2.2.1 rfl
              go_wp2_with fail
              refine Calls.mono (HCl.out _ (bel6m (bel6m HI.out.1 H7.out.2.1) H1.out.2.1)) ?_
              rintro r w14 ⟨ud, rfl, hO14, hb14⟩
              have hO10 := H10.out.1
              have hOc := (show OwnI w14 w9.heap.size (.slice ac N cc) zs from trow_at hO10 fun b hb => (bel6m hb14 (bel6m HI0.out H13.out.1)).block b (hO10.lt b hb).2)
              have hSm := sameInts_any (.slice ac N cc) ud zs w14 HK.out.2.2.2.2.1 hOc.has hO14.has
              have H14 : Hid _ := And.intro hb14 hSm
              have hbB14 := bel6m hb14 HI.out.1
              clear hb14 hSm hOc hO10 hO14 x0 x1 x2 x3 y0 y1 y2 y3
              obtain ⟨y0, y1, y2, y3⟩ := four_cells9 (res17 hbB14 H7.out.2.2.2.2.2)
              clear hbB14
              go_wp2_with fail
              refine Calls.mono H14.out.2 ?_
              rintro r w15 ⟨rfl, hb15⟩
              have H15 : Hid (Below wi.heap.size wi w15) := bel6m hb15 H14.out.1
              have hbB15 := bel6m H15.out HI.out.1
              clear y0 y1 y2 y3 hb15
              obtain ⟨y0, y1, y2, y3⟩ := four_cells9 (res17 hbB15 H7.out.2.2.2.2.2)
              clear hbB15
              go_wp2_with fail
            all_goals
              have hb9w := bel6m H15.out HI.out.2
              have hbow := bel6m hb9w H9.out.2.1
              have hE15 := WIR.E.moreRows HO.out.1 hbow (Y := fun b => (Value.slice al M cl).ownBlock = some b) (fun b hb => RowsRows.lt (RowsRows.below H9.out.1 hb9w) b hb)
              have hO15 := (show OwnI w15 w9.heap.size _ zs from trow_at H10.out.1 fun b hb => (bel6m H15.out (bel6m HI0.out H13.out.1)).block b (H10.out.1.lt b hb).2)
              have hRw := WIR.E.manyRows2 hE15 (.slice al M cl) (rowsM M S) wo.heap.size H9.out.1 hb9w H9.out.2.1.size HO.out.2.1.size (fun b hb => hb) (fun b hb => hb) (fun b hb => .inr hb) (by rw [rowsM_len]; have := HK.out.2.2.2.1; omega) (fun r hr => by have := rowsM_le hr; have := HK.out.2.2.2.1; omega)
              have H16 : Hid _ := And.intro hO15 hRw
              clear hb9w hbow hE15 hO15 hRw
              go_wp2_with fail
              refine Calls.mono H16.out.2 ?_
              rintro r w16 ⟨rfl, ⟨Z, hE16⟩, hF16⟩
              have hO16 := hF16.ownInts H16.out.1
              have hIw := WIR.E.addInts hE16 _ zs w9.heap.size hO16 (Nat.le_trans HO.out.2.1.size H9.out.2.1.size) (fun b hb => by have := (hO16.lt b hb).1; omega) HK.out.2.2.2.2.1
              have H17 : Hid _ := hIw
              clear hE16 hF16 hO16 hIw
              go_wp2_with fail
              refine Calls.mono H17.out ?_
              rintro r w17 ⟨rfl, hE17, hF17⟩
              have H18 : Hid _ := hE17
              clear hE17 hF17
              go_wp2_with fail
              go_roundg (2 - (j + 1))
              case measure => omega
              case rel => exact ⟨j + 1, _, rfl, by omega, by go_num, WIR.E.mono H18.out (fun b hb _ => hb) (fun b hb _ => hb)⟩
      · have q1 : ¬ (j : Int) < 2 := by omega
        obtain ⟨x0, x1, x2, x3⟩ := four_cells9 (res17 hbB H7.out.2.2.2.2.1)
        clear hbB
        go_wp2_with fail
        refine Calls.mono (HA.out.2.1 _ hbw) ?_
        rintro r w9 ⟨gx, rfl, hb9, hTd9⟩
        have hbB9 := bel6m hb9 HO.out.2.1
        have hE9 := WIR.E.below HO.out.1 hb9
        have he9 := res17 hbB9 H7.out.2.2.2.2.2
        have H9 : Hid _ := And.intro hTd9 (And.intro hbB9 (And.intro hE9 he9))
        obtain ⟨y0, y1, y2, y3⟩ := four_cells9 he9
        clear hTd9 hE9 hb9 he9 hbw x0 x1 x2 x3
        obtain ⟨x0, x1, x2, x3⟩ := four_cells9 (res17 hbB9 H7.out.2.2.2.2.1)
        clear hbB9
        rcases HK.out.2.2.2.2.2.1 with ⟨hok, hbv, hev⟩ | ⟨hok, hnr, hbv, hev⟩ | ⟨hok, P, Q, hP, hQ, hPM, hQM, hbv, hev⟩
        · subst hok
          subst hbv
          subst hev
          have e1 : (ck == 0) = false := HK.out.1
          go_wp2_with fail
          refine Calls.mono (HA.out.2.2.2.2 _ (bel6m (bel6m H9.out.2.1 H7.out.2.1) H1.out.2.1)) ?_
          rintro r w10 ⟨rfl, hb10⟩
          have hA11 := WIR.E.apartF (WIR.E.below H9.out.2.2.1 hb10) (res17 hb10 H9.out.2.2.2) (Kept.refl _ _)
          have H10 : Hid _ := And.intro hb10 (And.intro hA11 (bel6m hb10 H9.out.2.1))
          clear hb10 hA11 x0 x1 x2 x3 y0 y1 y2 y3
          go_wp2_with fail
          refine Calls.mono H10.out.2.1 ?_
          rintro r w11 ⟨rfl, hF11, hb11⟩
          have hbB11 : Below wc.heap.size wc w11 := H10.out.2.2.trans hb11
          have hTd11 := H9.out.1 w11 (bel6m (bel6m hbB11 H7.out.2.1) H1.out.2.1) ((FrF.of_below H10.out.1).trans hF11)
          have H11 : Hid _ := And.intro hbB11 hTd11
          obtain ⟨y0, y1, y2, y3⟩ := four_cells9 (res17 hbB11 H7.out.2.2.2.2.2)
          clear hF11 hb11 hbB11 hTd11
          go_wp2_with fail
          refine Calls.mono H11.out.2 ?_
          rintro r w12 ⟨rfl, hb12⟩
          have hbB12 := bel6m hb12 H11.out.1
          have H12 : Hid _ := hbB12
          clear y0 y1 y2 y3
          obtain ⟨y0, y1, y2, y3⟩ := four_cells9 (res17 hbB12 H7.out.2.2.2.2.2)
          clear hb12 hbB12
          go_wp2_with fail
          go_ret
          exact ⟨rfl, bel6m (bel6m H12.out H7.out.2.1) H1.out.2.1⟩
        · subst hok
          subst hbv
          have hev2 : evB = .agg #[.int .i64 3, .int .i64 0, .int .i64 0, .string smlB1] := hev
          subst hev2
          clear hev
          obtain rfl : ck = 0 := by have := HK.out.1; simpa using this
          obtain rfl : n = (M : Int) := HK.out.2.2.2.2.2.2 rfl
          have hc : p < 0 ∨ (¬ p < 0 ∧ (M : Int) ≤ p) ∨ (¬ p < 0 ∧ ¬ (M : Int) ≤ p ∧ q < 0) ∨ (¬ p < 0 ∧ ¬ (M : Int) ≤ p ∧ ¬ q < 0 ∧ (M : Int) ≤ q) := by omega
          have hsz : w.heap.size ≤ w5.heap.size := by
            have a1 := H1.out.2.1.size
            have a2 := H4.out.1.size
            have a3 := H5.out.size
            omega
          have HZ : Hid (w.heap.size ≤ w5.heap.size) := hsz
          clear hnr hsz
          rcases hc with h1 | ⟨h1, h2⟩ | ⟨h1, h2, h3⟩ | ⟨h1, h2, h3, h4⟩
          all_goals
            go_wp2_with fail
            refine Calls.mono (badSml 3 _) ?_
            rintro r w10 ⟨rfl, hb10⟩
            have he10 := res17 hb10 H9.out.2.2.2
            have hk10 : Kept (fun b => b = w5.heap.size) w9 w10 := Kept.of_below hb10
            have HD : Hid _ := And.intro hk10 (And.intro (bel6m hb10 H9.out.2.1) he10)
            clear x0 x1 x2 x3 y0 y1 y2 y3
            obtain ⟨y0, y1, y2, y3⟩ := four_cells9 he10
            have z0 := blk_free he10 0
            have z1 := blk_free he10 1
            have z2 := blk_free he10 2
            have z3 := blk_free he10 3
            clear hb10 hk10 he10
            go_upto_region 28 with fail
            have hgf := four_set (a0 := .int .i64 3) (a1 := .int .i64 0) (a2 := .int .i64 0) (a3 := .string smlB1) HD.out.2.2
            have hkf := HD.out.1.trans ((((Kept.setCell w10 w5.heap.size 0 (.int .i64 3)).trans (Kept.setCell _ w5.heap.size 1 (.int .i64 0))).trans (Kept.setCell _ w5.heap.size 2 (.int .i64 0))).trans (Kept.setCell _ w5.heap.size 3 (.string smlB1)))
            have hbf := four_below (bel6m (bel6m HD.out.2.1 H7.out.2.1) H1.out.2.1) (b := w5.heap.size) HZ.out (.int .i64 3) (.int .i64 0) (.int .i64 0) (.string smlB1)
            generalize ((((w10.setCell ⟨w5.heap.size, 0, none⟩ (.int .i64 3)).setCell ⟨w5.heap.size, 1, none⟩ (.int .i64 0)).setCell ⟨w5.heap.size, 2, none⟩ (.int .i64 0)).setCell ⟨w5.heap.size, 3, none⟩ (.string smlB1)) = wf at hgf hkf hbf ⊢
            have HF : Hid _ := And.intro hgf (And.intro hkf hbf)
            clear hgf hkf hbf y0 y1 y2 y3 z0 z1 z2 z3
            go_wp2_with fail
            refine Calls.mono (HA.out.2.2.2.2 _ HF.out.2.2) ?_
            rintro r w11 ⟨rfl, hb11⟩
            have hk11 := HF.out.2.1.trans (Kept.of_below hb11)
            have hA11 := WIR.E.apartF H9.out.2.2.1 H9.out.2.2.2 hk11
            have hfr11 := FrF.kept hk11 fun g cs hg e => WIR.typed_ne H9.out.2.2.2 hg (by decide) e
            have H11 : Hid _ := And.intro (bel6m hb11 HF.out.2.2) (And.intro hA11 (And.intro hfr11 (res17 hb11 HF.out.1)))
            clear hb11 hk11 hA11 hfr11
            go_wp2_with fail
            refine Calls.mono H11.out.2.1 ?_
            rintro r w12 ⟨rfl, hF12, hb12⟩
            have hle : w5.heap.size < wc.heap.size := t_lt H7.out.2.2.2.2.2
            have he12 := (hb12.block _ hle).trans H11.out.2.2.2
            have hbw12 : Below w.heap.size w w12 := H11.out.1.trans (hb12.mono (by have := HZ.out; omega))
            have hTd12 := H9.out.1 w12 hbw12 (H11.out.2.2.1.trans hF12)
            have H12 : Hid _ := And.intro hbw12 (And.intro hTd12 he12)
            obtain ⟨y0, y1, y2, y3⟩ := four_cells9 he12
            clear hF12 hb12 hle hbw12 hTd12 he12
            go_wp2_with fail
            refine Calls.mono H12.out.2.1 ?_
            rintro r w13 ⟨rfl, hb13⟩
            have H13 : Hid _ := bel6m hb13 H12.out.1
            clear y0 y1 y2 y3
            obtain ⟨y0, y1, y2, y3⟩ := four_cells9 (res17 hb13 H12.out.2.2)
            clear hb13
            go_wp2_with fail
            go_ret
            exact ⟨rfl, H13.out⟩
        · subst hok
          subst hbv
          subst hev
          subst hP
          subst hQ
          obtain rfl : ck = 0 := by have := HK.out.1; simpa using this
          obtain rfl : n = (M : Int) := HK.out.2.2.2.2.2.2 rfl
          have f1 : ¬ (P : Int) < 0 := by omega
          have f2 : ¬ (M : Int) ≤ (P : Int) := by omega
          have f3 : ¬ (Q : Int) < 0 := by omega
          have f4 : ¬ (M : Int) ≤ (Q : Int) := by omega
          have f5 : (P : Int) < (M : Int) := by omega
          have f6 : (Q : Int) < (M : Int) := by omega
          have f7 : (0 : Int) ≤ (P : Int) := by omega
          have f8 : (0 : Int) ≤ (Q : Int) := by omega
          go_wp2_with fail
          refine Calls.mono (HA.out.2.2.2.2 _ (bel6m (bel6m H9.out.2.1 H7.out.2.1) H1.out.2.1)) ?_
          rintro r w10 ⟨rfl, hb10⟩
          have hA11 := WIR.E.apartF (WIR.E.below H9.out.2.2.1 hb10) (res17 hb10 H9.out.2.2.2) (Kept.refl _ _)
          have H10 : Hid _ := And.intro hb10 (And.intro hA11 (bel6m hb10 H9.out.2.1))
          clear hb10 hA11 x0 x1 x2 x3 y0 y1 y2 y3
          go_wp2_with fail
          refine Calls.mono H10.out.2.1 ?_
          rintro r w11 ⟨rfl, hF11, hb11⟩
          have hbB11 : Below wc.heap.size wc w11 := H10.out.2.2.trans hb11
          have hTd11 := H9.out.1 w11 (bel6m (bel6m hbB11 H7.out.2.1) H1.out.2.1) ((FrF.of_below H10.out.1).trans hF11)
          have H11 : Hid _ := And.intro hbB11 hTd11
          obtain ⟨y0, y1, y2, y3⟩ := four_cells9 (res17 hbB11 H7.out.2.2.2.2.2)
          clear hF11 hb11 hbB11 hTd11
          go_wp2_with fail
          refine Calls.mono H11.out.2 ?_
          rintro r w12 ⟨rfl, hb12⟩
          have hbB12 := bel6m hb12 H11.out.1
          have H12 : Hid _ := hbB12
          clear y0 y1 y2 y3
          obtain ⟨y0, y1, y2, y3⟩ := four_cells9 (res17 hbB12 H7.out.2.2.2.2.2)
          obtain ⟨g, bb, hai, hcd⟩ := (H7.out.1.below hbB12) (by omega)
          subst hai
          have c1 := (hcd P hPM).1
          have c2 := (hcd P hPM).2 Q hQM
          clear hb12 hbB12 hcd
          go_wp2_with fail
          go_ret
          exact ⟨rfl, bel6m (bel6m H12.out H7.out.2.1) H1.out.2.1⟩
end
section
open Go.ChangeShapes Go.WideShapes Go.ChangeAt Go.WideMaps Go.WideElems Go.RowKit
theorem Tryz.own : ownKnob Tryz.prog.godebug = none := by kernel_rfl
theorem Tryz.laidOut : laidOutB Tryz.prog = true := by kernel_rfl
theorem Tryz.cellsE : Tryz.prog.cellsOf 264 = 1 := by kernel_rfl
theorem Tryz.cellsS : Tryz.prog.cellsOf 9 = 1 := by kernel_rfl
set_option maxRecDepth 100000 in
theorem Tryz.star : "*" ++ "errors.errorString" = "*errors.errorString" := by decide
set_option maxRecDepth 100000 in
theorem Tryz.rowE (u : TypeId) (h : Tryz.prog.typeName? 3 u = some "*errors.errorString") : u = 240 :=
  typeName_ptr_named (nm := "errors.errorString") (by rw [Tryz.star]; kernel_rfl) (by kernel_rfl) (by decide) u (by rw [Tryz.star]; exact h)
set_option maxRecDepth 100000 in
theorem laid_step {W : World} {n : String} {g : Nat} {text : List UInt8} {r : List (String × DataW Unit)} {ps : List MemPlace} (hg : Tryz.prog.globalNamed n = some g) (ht : (Tryz.prog.globals[g]?).map (·.type) = some 47)
    (h : DataW.LaidVars Tryz.prog W ((n, .iface "*errors.errorString" (.ptr (.agg [.lit (.string text)]))) :: r) ps)
    (hrows : ∀ b off, MemPlace.cell b off ∈ ps → (∃ c t, W.heap[b]? = some (.cells c t (0, 0))) ∧ ∀ u v, W.cell? ⟨b, off, none⟩ = some (.iface u v) → Value.okWide Tryz.prog W .any 0 u v) :
    ∃ a q, Sent W g a ∧ DataW.LaidVars Tryz.prog W r q ∧ ps = MemPlace.cell g 0 :: MemPlace.cell a.block a.off :: q := by
  obtain ⟨g0, t0, cs0, f0, p0, q0, hg0, ht0, hv0, hd0, hr, e0⟩ := h
  obtain rfl := Option.some.inj (hg.symm.trans hg0)
  obtain rfl := Option.some.inj (ht.symm.trans ht0)
  subst e0
  obtain ⟨l0⟩ := cs0
  have ok0 : ∀ u v, l0 = [.iface u v] → Value.okWide Tryz.prog W .any 0 u v := fun u v e => by
    subst e
    exact (hrows g 0 (by simp [MemPlace.row])).2 u v (by simpa using World.var?_cell hg0 hv0 0)
  obtain ⟨a0, s0, rfl, hc0, hs0, hz0, rfl⟩ := errorString_of_trod Tryz.underlying47 Tryz.rowE Tryz.underlying240 Tryz.underlying264 rfl rfl Tryz.underlying9 Tryz.cellsE Tryz.cellsS hd0 ok0
  refine ⟨a0, q0, ⟨by simpa using World.var?_cell hg0 hv0 0, (hrows a0.block a0.off (by simp [MemPlace.row])).1⟩, hr, ?_⟩
  simp [MemPlace.row]
abbrev LE : Type := String × Nat × List UInt8
def leV (x : LE) : String × DataW Unit := (x.1, .iface "*errors.errorString" (.ptr (.agg [.lit (.string x.2.2)])))
theorem laid_list {W : World} {r : List (String × DataW Unit)} : ∀ (xs : List LE) (ps : List MemPlace), (∀ x ∈ xs, Tryz.prog.globalNamed x.1 = some x.2.1 ∧ (Tryz.prog.globals[x.2.1]?).map (·.type) = some 47) →
    DataW.LaidVars Tryz.prog W (xs.map leV ++ r) ps → (∀ b off, MemPlace.cell b off ∈ ps → (∃ c t, W.heap[b]? = some (.cells c t (0, 0))) ∧ ∀ u v, W.cell? ⟨b, off, none⟩ = some (.iface u v) → Value.okWide Tryz.prog W .any 0 u v) →
    ∃ ads : List Addr, ads.length = xs.length ∧ (∀ (i : Nat) (x : LE) (a : Addr), xs[i]? = some x → ads[i]? = some a → Sent W x.2.1 a) ∧ (∀ a ∈ ads, MemPlace.cell a.block a.off ∈ ps) ∧ (ps.Nodup → ads.Pairwise (· ≠ ·))
  | [], ps, _, _, _ => ⟨[], rfl, fun i x a h => by simp at h, fun a h => by simp at h, fun _ => List.Pairwise.nil⟩
  | x :: xs, ps, hx, h, hr => by
    obtain ⟨a, q, hs, hq, rfl⟩ := laid_step (hx x List.mem_cons_self).1 (hx x List.mem_cons_self).2 h hr
    obtain ⟨ads, h1, h2, h3, h4⟩ := laid_list xs q (fun y hy => hx y (List.mem_cons_of_mem _ hy)) hq (fun b off hb => hr b off (List.mem_cons_of_mem _ (List.mem_cons_of_mem _ hb)))
    refine ⟨a :: ads, by simp [h1], fun i y b hy hb => ?_, fun b hb => ?_, fun hn => ?_⟩
    · cases i with
      | zero => simp at hy hb; subst hy; subst hb; exact hs
      | succ i => exact h2 i y b (by simpa using hy) (by simpa using hb)
    · rcases List.mem_cons.1 hb with rfl | hb
      · exact List.mem_cons_of_mem _ List.mem_cons_self
      · exact List.mem_cons_of_mem _ (List.mem_cons_of_mem _ (h3 b hb))
    · have hn2 := (List.nodup_cons.1 hn).2
      have hn3 := List.nodup_cons.1 hn2
      exact List.Pairwise.cons (fun b hb e => hn3.1 (by rw [e]; exact h3 b hb)) (h4 hn3.2)
theorem Tryz.g1 : Tryz.prog.globalNamed "semblance/api.ErrArg" = some 2 := by kernel_rfl
theorem Tryz.t1 : (Tryz.prog.globals[2]?).map (·.type) = some 47 := by kernel_rfl
theorem Tryz.g2 : Tryz.prog.globalNamed "semblance/api.ErrLong" = some 1 := by kernel_rfl
theorem Tryz.t2 : (Tryz.prog.globals[1]?).map (·.type) = some 47 := by kernel_rfl
theorem Tryz.g3 : Tryz.prog.globalNamed "semblance/api.ErrIndex" = some 0 := by kernel_rfl
theorem Tryz.t3 : (Tryz.prog.globals[0]?).map (·.type) = some 47 := by kernel_rfl
theorem Tryz.g4 : Tryz.prog.globalNamed "semblance/api.ErrWord" = some 3 := by kernel_rfl
theorem Tryz.t4 : (Tryz.prog.globals[3]?).map (·.type) = some 47 := by kernel_rfl
theorem Tryz.g5 : Tryz.prog.globalNamed "semblance/api.ErrSyntax" = some 4 := by kernel_rfl
theorem Tryz.t5 : (Tryz.prog.globals[4]?).map (·.type) = some 47 := by kernel_rfl
theorem Tryz.g6 : Tryz.prog.globalNamed "semblance/api.ErrDeep" = some 5 := by kernel_rfl
theorem Tryz.t6 : (Tryz.prog.globals[5]?).map (·.type) = some 47 := by kernel_rfl
theorem Tryz.g7 : Tryz.prog.globalNamed "semblance/api.ErrTwice" = some 6 := by kernel_rfl
theorem Tryz.t7 : (Tryz.prog.globals[6]?).map (·.type) = some 47 := by kernel_rfl
theorem Tryz.g8 : Tryz.prog.globalNamed "semblance/api.ErrUnknown" = some 7 := by kernel_rfl
theorem Tryz.t8 : (Tryz.prog.globals[7]?).map (·.type) = some 47 := by kernel_rfl
theorem Tryz.g9 : Tryz.prog.globalNamed "semblance/api.ErrSilent" = some 8 := by kernel_rfl
theorem Tryz.t9 : (Tryz.prog.globals[8]?).map (·.type) = some 47 := by kernel_rfl
theorem Tryz.g10 : Tryz.prog.globalNamed "semblance/api.ErrUnguarded" = some 9 := by kernel_rfl
theorem Tryz.t10 : (Tryz.prog.globals[9]?).map (·.type) = some 47 := by kernel_rfl
theorem Tryz.g11 : Tryz.prog.globalNamed "semblance/api.ErrSteps" = some 11 := by kernel_rfl
theorem Tryz.t11 : (Tryz.prog.globals[11]?).map (·.type) = some 47 := by kernel_rfl
theorem Tryz.g12 : Tryz.prog.globalNamed "semblance/api.ErrStates" = some 12 := by kernel_rfl
theorem Tryz.t12 : (Tryz.prog.globals[12]?).map (·.type) = some 47 := by kernel_rfl
theorem Tryz.g13 : Tryz.prog.globalNamed "semblance/api.ErrEdges" = some 13 := by kernel_rfl
theorem Tryz.t13 : (Tryz.prog.globals[13]?).map (·.type) = some 47 := by kernel_rfl
theorem Tryz.g14 : Tryz.prog.globalNamed "semblance/api.ErrSystem" = some 14 := by kernel_rfl
theorem Tryz.t14 : (Tryz.prog.globals[14]?).map (·.type) = some 47 := by kernel_rfl
theorem Tryz.g15 : Tryz.prog.globalNamed "semblance/api.ErrClasses" = some 15 := by kernel_rfl
theorem Tryz.t15 : (Tryz.prog.globals[15]?).map (·.type) = some 47 := by kernel_rfl
theorem Tryz.g16 : Tryz.prog.globalNamed "semblance/api.ErrFormula" = some 16 := by kernel_rfl
theorem Tryz.t16 : (Tryz.prog.globals[16]?).map (·.type) = some 47 := by kernel_rfl
theorem Tryz.g17 : Tryz.prog.globalNamed "semblance/api.ErrLimit" = some 17 := by kernel_rfl
theorem Tryz.t17 : (Tryz.prog.globals[17]?).map (·.type) = some 47 := by kernel_rfl
theorem Tryz.g18 : Tryz.prog.globalNamed "semblance/api.ErrNone" = some 18 := by kernel_rfl
theorem Tryz.t18 : (Tryz.prog.globals[18]?).map (·.type) = some 47 := by kernel_rfl
theorem Tryz.g19 : Tryz.prog.globalNamed "semblance/api.ErrScript" = some 19 := by kernel_rfl
theorem Tryz.t19 : (Tryz.prog.globals[19]?).map (·.type) = some 47 := by kernel_rfl
set_option maxRecDepth 100000 in
theorem er_of {W : World} {x1 x2 x3 x4 x5 x6 x7 x8 x9 x10 x11 x12 x13 x14 x15 x16 x17 x18 x19 : List UInt8} {r : List (String × DataW Unit)} (h : laidMet Tryz.prog (("semblance/api.ErrArg", .iface "*errors.errorString" (.ptr (.agg [.lit (.string x1)]))) :: ("semblance/api.ErrLong", .iface "*errors.errorString" (.ptr (.agg [.lit (.string x2)]))) :: ("semblance/api.ErrIndex", .iface "*errors.errorString" (.ptr (.agg [.lit (.string x3)]))) :: ("semblance/api.ErrWord", .iface "*errors.errorString" (.ptr (.agg [.lit (.string x4)]))) :: ("semblance/api.ErrSyntax", .iface "*errors.errorString" (.ptr (.agg [.lit (.string x5)]))) :: ("semblance/api.ErrDeep", .iface "*errors.errorString" (.ptr (.agg [.lit (.string x6)]))) :: ("semblance/api.ErrTwice", .iface "*errors.errorString" (.ptr (.agg [.lit (.string x7)]))) :: ("semblance/api.ErrUnknown", .iface "*errors.errorString" (.ptr (.agg [.lit (.string x8)]))) :: ("semblance/api.ErrSilent", .iface "*errors.errorString" (.ptr (.agg [.lit (.string x9)]))) :: ("semblance/api.ErrUnguarded", .iface "*errors.errorString" (.ptr (.agg [.lit (.string x10)]))) :: ("semblance/api.ErrSteps", .iface "*errors.errorString" (.ptr (.agg [.lit (.string x11)]))) :: ("semblance/api.ErrStates", .iface "*errors.errorString" (.ptr (.agg [.lit (.string x12)]))) :: ("semblance/api.ErrEdges", .iface "*errors.errorString" (.ptr (.agg [.lit (.string x13)]))) :: ("semblance/api.ErrSystem", .iface "*errors.errorString" (.ptr (.agg [.lit (.string x14)]))) :: ("semblance/api.ErrClasses", .iface "*errors.errorString" (.ptr (.agg [.lit (.string x15)]))) :: ("semblance/api.ErrFormula", .iface "*errors.errorString" (.ptr (.agg [.lit (.string x16)]))) :: ("semblance/api.ErrLimit", .iface "*errors.errorString" (.ptr (.agg [.lit (.string x17)]))) :: ("semblance/api.ErrNone", .iface "*errors.errorString" (.ptr (.agg [.lit (.string x18)]))) :: ("semblance/api.ErrScript", .iface "*errors.errorString" (.ptr (.agg [.lit (.string x19)]))) :: r) W) : ∃ e, Er 19 W e := by
  obtain ⟨ps, h0, hnd, r0⟩ := h
  obtain ⟨ads, h1, h2, _, h4⟩ := laid_list [("semblance/api.ErrArg", 2, x1), ("semblance/api.ErrLong", 1, x2), ("semblance/api.ErrIndex", 0, x3), ("semblance/api.ErrWord", 3, x4), ("semblance/api.ErrSyntax", 4, x5), ("semblance/api.ErrDeep", 5, x6), ("semblance/api.ErrTwice", 6, x7), ("semblance/api.ErrUnknown", 7, x8), ("semblance/api.ErrSilent", 8, x9), ("semblance/api.ErrUnguarded", 9, x10), ("semblance/api.ErrSteps", 11, x11), ("semblance/api.ErrStates", 12, x12), ("semblance/api.ErrEdges", 13, x13), ("semblance/api.ErrSystem", 14, x14), ("semblance/api.ErrClasses", 15, x15), ("semblance/api.ErrFormula", 16, x16), ("semblance/api.ErrLimit", 17, x17), ("semblance/api.ErrNone", 18, x18), ("semblance/api.ErrScript", 19, x19)] ps (fun x hx => by
    simp only [List.mem_cons, List.not_mem_nil, or_false] at hx
    rcases hx with rfl | rfl | rfl | rfl | rfl | rfl | rfl | rfl | rfl | rfl | rfl | rfl | rfl | rfl | rfl | rfl | rfl | rfl | rfl
    · exact ⟨Tryz.g1, Tryz.t1⟩
    · exact ⟨Tryz.g2, Tryz.t2⟩
    · exact ⟨Tryz.g3, Tryz.t3⟩
    · exact ⟨Tryz.g4, Tryz.t4⟩
    · exact ⟨Tryz.g5, Tryz.t5⟩
    · exact ⟨Tryz.g6, Tryz.t6⟩
    · exact ⟨Tryz.g7, Tryz.t7⟩
    · exact ⟨Tryz.g8, Tryz.t8⟩
    · exact ⟨Tryz.g9, Tryz.t9⟩
    · exact ⟨Tryz.g10, Tryz.t10⟩
    · exact ⟨Tryz.g11, Tryz.t11⟩
    · exact ⟨Tryz.g12, Tryz.t12⟩
    · exact ⟨Tryz.g13, Tryz.t13⟩
    · exact ⟨Tryz.g14, Tryz.t14⟩
    · exact ⟨Tryz.g15, Tryz.t15⟩
    · exact ⟨Tryz.g16, Tryz.t16⟩
    · exact ⟨Tryz.g17, Tryz.t17⟩
    · exact ⟨Tryz.g18, Tryz.t18⟩
    · exact ⟨Tryz.g19, Tryz.t19⟩) h0 r0
  have hp := h4 hnd
  have h1' : ads.length = 19 := h1
  have hg : ∀ k, 1 ≤ k → k ≤ 19 → ads[k - 1]? = some (ads.getD (k - 1) ⟨0, 0, none⟩) := fun k _ h19 => by rw [List.getD_eq_getElem?_getD, List.getElem?_eq_getElem (by omega)]; rfl
  refine ⟨fun k => ads.getD (k - 1) ⟨0, 0, none⟩, ⟨fun _ => h2 0 _ _ rfl (hg 1 (by decide) (by decide)), fun _ => h2 1 _ _ rfl (hg 2 (by decide) (by decide)), fun _ => h2 2 _ _ rfl (hg 3 (by decide) (by decide)), fun _ => h2 3 _ _ rfl (hg 4 (by decide) (by decide)), fun _ => h2 4 _ _ rfl (hg 5 (by decide) (by decide)), fun _ => h2 5 _ _ rfl (hg 6 (by decide) (by decide)), fun _ => h2 6 _ _ rfl (hg 7 (by decide) (by decide)), fun _ => h2 7 _ _ rfl (hg 8 (by decide) (by decide)), fun _ => h2 8 _ _ rfl (hg 9 (by decide) (by decide)), fun _ => h2 9 _ _ rfl (hg 10 (by decide) (by decide)), fun _ => h2 10 _ _ rfl (hg 11 (by decide) (by decide)), fun _ => h2 11 _ _ rfl (hg 12 (by decide) (by decide)), fun _ => h2 12 _ _ rfl (hg 13 (by decide) (by decide)), fun _ => h2 13 _ _ rfl (hg 14 (by decide) (by decide)), fun _ => h2 14 _ _ rfl (hg 15 (by decide) (by decide)), fun _ => h2 15 _ _ rfl (hg 16 (by decide) (by decide)), fun _ => h2 16 _ _ rfl (hg 17 (by decide) (by decide)), fun _ => h2 17 _ _ rfl (hg 18 (by decide) (by decide)), fun _ => h2 18 _ _ rfl (hg 19 (by decide) (by decide)), fun i j hi hij hj e => ?_⟩⟩
  have hpi := List.pairwise_iff_getElem.1 hp (i - 1) (j - 1) (by omega) (by omega) (by omega)
  have ei := hg i hi (by omega)
  have ej := hg j (by omega) hj
  rw [List.getElem?_eq_getElem (by omega)] at ei ej
  exact hpi ((Option.some.inj ei).trans (e.symm.trans (Option.some.inj ej).symm))
end
section
open Go.ChangeShapes Go.WideShapes Go.ChangeAt Go.WideMaps Go.WideElems Go.RowKit
theorem Tryz.cIntE : Tryz.prog.cellsOf 3 = 1 := by kernel_rfl
end
end Go.Proofs.YtibdgefjpcebkaaGreatDoor
