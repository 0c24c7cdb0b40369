/- Texts of this claim, joined: BrSev, SmPure, SyPure, SmMem, BrPart. -/
import Derived.Test.YtladdlkfnfdhaaaDoorPart0
import GoSem.Claim
import Derived.Lib.SliceRun
import Derived.Lib.Walk
namespace Go.Proofs.YtladdlkfnfdhaaaDoor
section
open Go.RowKit Go.Maps
attribute [local go_sem ↓] Go.wp_at_zero Go.wp_at_succ
/-- A block's first cells. -/
def ListAt (ty : TypeId) (w : World) (g m : Nat) (f : Nat → Value) : Prop := ∃ cs : Array Value, w.heap[g]? = some (.cells cs ty (0, 0)) ∧ ∀ i, i < m → cs[i]? = some (f i)
theorem ListAt.lt {ty : TypeId} {w : World} {g m : Nat} {f : Nat → Value} (h : ListAt ty w g m f) : g < w.heap.size := by
  obtain ⟨cs, hc, _⟩ := h
  exact t_lt hc
theorem ListAt.cell {ty : TypeId} {w : World} {g m : Nat} {f : Nat → Value} (h : ListAt ty w g m f) {i : Nat} (hi : i < m) : w.cell? ⟨g, i, none⟩ = some (f i) := by
  obtain ⟨cs, hc, hx⟩ := h
  exact cell0_of hc (hx i hi)
theorem ListAt.free {ty : TypeId} {w : World} {g m : Nat} {f : Nat → Value} (h : ListAt ty w g m f) (k : Nat) : w.frozen? ⟨g, k, none⟩ = false := by
  obtain ⟨cs, hc, _⟩ := h
  exact blk_free hc k
theorem ListAt.at {ty : TypeId} {w w' : World} {g m : Nat} {f : Nat → Value} (h : ListAt ty w g m f) (hb : w'.heap[g]? = w.heap[g]?) : ListAt ty w' g m f := by
  obtain ⟨cs, hc, hx⟩ := h
  exact ⟨cs, hb.trans hc, hx⟩
theorem ListAt.below {ty : TypeId} {w w' : World} {g m : Nat} {f : Nat → Value} (h : ListAt ty w g m f) (hb : Below w.heap.size w w') : ListAt ty w' g m f := h.at (hb.block _ h.lt)
theorem ListAt.kept {ty : TypeId} {w w' : World} {g m : Nat} {f : Nat → Value} {F : Nat → Prop} (h : ListAt ty w g m f) (hk : Kept F w w') (hF : ¬ F g) : ListAt ty w' g m f := h.at (hk.block _ h.lt hF)
theorem ListAt.congr {ty : TypeId} {w : World} {g m : Nat} {f f' : Nat → Value} (h : ListAt ty w g m f) (he : ∀ i, i < m → f i = f' i) : ListAt ty w g m f' := by
  obtain ⟨cs, hc, hx⟩ := h
  exact ⟨cs, hc, fun i hi => by rw [hx i hi, he i hi]⟩
theorem ListAt.put {ty : TypeId} {w : World} {g m : Nat} {f : Nat → Value} (h : ListAt ty w g m f) {i : Nat} (v : Value) : ListAt ty (w.setCell ⟨g, i, none⟩ v) g m (fun j => if j = i then v else f j) := by
  obtain ⟨cs, hc, hx⟩ := h
  refine ⟨_, heap_setCell_same w g i cs _ _ hc, fun j hj => ?_⟩
  rw [Array.getElem?_setIfInBounds]
  by_cases e : j = i
  · subst e
    have hl := (Array.getElem?_eq_some_iff.1 (hx j hj)).1
    rw [if_pos rfl, if_pos hl]
    simp
  · rw [if_neg (fun e2 => e e2.symm), hx j hj]
    simp [e]
theorem ListAt.other {ty : TypeId} {w : World} {g m b o : Nat} {f : Nat → Value} {v : Value} (h : ListAt ty w g m f) (hb : g ≠ b) : ListAt ty (w.setCell ⟨b, o, none⟩ v) g m f := h.at (set_other w b o g v hb)
theorem listAt_new (ty : TypeId) (z : Value) (hz : z.cells = #[z]) (w : World) (m : Nat) : ListAt ty (w.alloc (.cells (madeV z m) ty)) w.heap.size m fun _ => z := by
  refine ⟨_, heap_alloc_new w _, fun i hi => ?_⟩
  rw [← Array.getElem?_toList, madeV_eq _ hz, List.getElem?_replicate, if_pos hi]
theorem Tryd.infoRw : (Tryd.prog.info? 72).map (fun i => (i.zero, i.size, i.bytes)) = some (some (.slice none 0 0), 1, 24) := by kernel_rfl
theorem makeRw (n : Nat) (hn : n ≤ 1000000) (w : World) : (Instr.makeSlice 52 (.int .i64 (n : Int)) (.int .i64 (n : Int))).run Tryd.prog w = .ok (.slice (some ⟨w.heap.size, 0, none⟩) n n) (w.alloc (.cells (madeV (.slice none 0 0) n) 72)) := make_of _ _ _ 24 Tryd.underlying52 Tryd.infoRw n hn (by decide) w
/-- What Several has made: the words in g0, the rows in g1. -/
structure Sev (w w' : World) (g0 g1 m d : Nat) : Prop where
  wd : ∃ cs : Array Value, w'.heap[g0]? = some (.cells cs 99 (0, 0)) ∧ ∀ i, i < m * d → cs[i]? = some (.int .u64 0)
  rw : ListAt 72 w' g1 m fun i => rowV g0 (i * d) d d
  u0 : w.heap.size ≤ g0
  u1 : w.heap.size ≤ g1
  bl : Below w.heap.size w w'
theorem Sev.row {w w' : World} {g0 g1 m d : Nat} (h : Sev w w' g0 g1 m d) {p : Nat} (hp : p < m) : RowAt w' g0 (p * d) d fun _ => false := by
  obtain ⟨cs, hc, hx⟩ := h.wd
  refine ⟨cs, hc, fun i hi => ?_⟩
  have h1 : (p + 1) * d ≤ m * d := Nat.mul_le_mul_right _ hp
  rw [Nat.add_mul] at h1
  rw [row_zero _ _ fun _ => rfl]
  exact hx (p * d + i) (by omega)
theorem Sev.later {w w' w2 : World} {g0 g1 m d : Nat} (h : Sev w w' g0 g1 m d) (hb : Below w'.heap.size w' w2) : Sev w w2 g0 g1 m d := by
  obtain ⟨cs, hc, hx⟩ := h.wd
  exact ⟨⟨cs, (hb.block _ (t_lt hc)).trans hc, hx⟩, h.rw.below hb, h.u0, h.u1, h.bl.trans (hb.mono h.bl.size)⟩
set_option maxRecDepth 100000 in
set_option maxHeartbeats 4000000 in
theorem several_any (m n : Nat) (hm : m ≤ 1000) (hn : n ≤ 1000) (h0 : m = 0 ∨ 0 < n) (w : World) : Calls Tryd.prog 51 #[.int .i64 m, .int .i64 n] w fun r w' => ∃ g0 g1, r = .returned (.slice (some ⟨g1, 0, none⟩) m m) ∧ g0 ≠ g1 ∧ Sev w w' g0 g1 m (Br.wds n) := by
  have hW := wordsOf_any n (by omega) w
  have hd : Br.wds n ≤ 16 := by unfold Br.wds; omega
  have hd0 : m = 0 ∨ 0 < Br.wds n := h0.imp id fun h => by unfold Br.wds; omega
  generalize Br.wds n = d at hW hd hd0 ⊢
  have hmd : m * d ≤ 16000 := Nat.le_trans (Nat.mul_le_mul hm hd) (by decide)
  have mU := makeU (m * d) (by omega) w
  have mR := makeRw m (by omega) (w.alloc (.cells (madeV (.int .u64 0) (m * d)) 99))
  rw [Int.natCast_mul] at mU
  have HW : Hid _ := hW
  clear hW
  go_enter Tryd.func51, Tryd.ntmps51
  go_wp2_with fail
  refine Calls.mono HW.out ?_
  rintro r w1 ⟨rfl, hw1⟩
  obtain rfl := hw1.symm
  go_wp2_with fail
  clear mU mR
  have hL := listAt_new 72 (.slice none 0 0) rfl (w.alloc (.cells (madeV (.int .u64 0) (m * d)) 99)) m
  have hU := heap_alloc_new w (.cells (madeV (.int .u64 0) (m * d)) 99)
  obtain ⟨wx, hwx⟩ : ∃ wx, wx = (w.alloc (.cells (madeV (.int .u64 0) (m * d)) 99)).alloc (.cells (madeV (.slice none 0 0) m) 72) := ⟨_, rfl⟩
  have hz : (w.alloc (.cells (madeV (.int .u64 0) (m * d)) 99)).heap.size = w.heap.size + 1 := by simp
  rw [hz, ← hwx] at hL
  have hb1 : Below (w.alloc (.cells (madeV (.int .u64 0) (m * d)) 99)).heap.size (w.alloc (.cells (madeV (.int .u64 0) (m * d)) 99)) wx := by rw [hwx]; exact (Below.refl _ _).alloc (Nat.le_refl _) _
  have hbx : Below w.heap.size w wx := ((Below.refl _ w).alloc (Nat.le_refl _) _).trans (hb1.mono (by simp))
  have hU2 : wx.heap[w.heap.size]? = some (.cells (madeV (.int .u64 0) (m * d)) 99 (0, 0)) := (hb1.block _ (by simp)).trans hU
  rw [← hwx]
  have HX : Hid (ListAt 72 wx (w.heap.size + 1) m (fun _ => .slice none 0 0) ∧ wx.heap[w.heap.size]? = some (.cells (madeV (.int .u64 0) (m * d)) 99 (0, 0)) ∧ Below w.heap.size w wx) := ⟨hL, hU2, hbx⟩
  clear hL hU hwx hz hb1 hbx hU2
  go_loopg [19] m (fun k iv wr => ∃ i : Nat, k = m - i ∧ i ≤ m ∧ iv = .int .i64 i ∧ ListAt 72 wr (w.heap.size + 1) m (fun j => if j < i then rowV w.heap.size (j * d) d d else .slice none 0 0) ∧ Kept (fun b => b = w.heap.size + 1) wx wr)
  case atStart => exact ⟨0, rfl, Nat.zero_le _, rfl, HX.out.1.congr fun i _ => by simp, Kept.refl _ _⟩
  case round =>
    obtain ⟨i, rfl, hi, rfl, hA, hK⟩ := hrel
    by_cases hlt : i < m
    · have f0 := hA.free i
      have c0 := hA.cell hlt
      simp only [Nat.lt_irrefl, if_false] at c0
      have h0 : (0 : Int) ≤ (i : Int) := by omega
      have h1 : (i : Int) < (m : Int) := by omega
      have HA : Hid (ListAt 72 wr (w.heap.size + 1) m (fun j => if j < i then rowV w.heap.size (j * d) d d else .slice none 0 0) ∧ Kept (fun b => b = w.heap.size + 1) wx wr) := And.intro hA hK
      clear hA hK
      have hd1 : 0 < d := by omega
      have hy1 : (i + 1) * d ≤ m * d := Nat.mul_le_mul_right _ hlt
      obtain ⟨x, hx⟩ : ∃ x, x = i * d := ⟨_, rfl⟩
      have hy : (i + 1) * d = x + d := by rw [hx, Nat.add_mul, Nat.one_mul]
      rw [hy] at hy1
      have r0 : wrap64 ((i : Int) * (d : Int)) = (x : Int) := by
        rw [← Int.natCast_mul, ← hx]; unfold wrap64; omega
      have r1 : wrap64 (((i : Int) + 1) * (d : Int)) = (x : Int) + (d : Int) := by
        rw [show (i : Int) + 1 = ((i + 1 : Nat) : Int) from rfl, ← Int.natCast_mul, hy]; unfold wrap64; omega
      have r2 : (0 : Int) ≤ (x : Int) := by omega
      have r3 : (x : Int) ≤ (x : Int) + (d : Int) := by omega
      have r4 : (x : Int) + (d : Int) ≤ (m : Int) * (d : Int) := by rw [← Int.natCast_mul]; omega
      have r5 : (0 : Int) ≤ (x : Int) + (d : Int) := by omega
      have r6 : max ((x : Int) + (d : Int)) 0 = (x : Int) + (d : Int) := by omega
      have HX2 : Hid _ := And.intro hx (And.intro hy hy1)
      clear hx hy hy1
      go_wp2_with fail
      go_roundg (m - (i + 1))
      case measure => omega
      case rel =>
        refine ⟨i + 1, rfl, by omega, by go_num, ?_, HA.out.2.trans (Kept.setCell wr _ _ _)⟩
        refine (HA.out.1.put _).congr fun j _ => ?_
        by_cases e : j = i
        · subst e
          rw [if_pos rfl, if_pos (Nat.lt_succ_self _), HX2.out.1]; rfl
        · rw [if_neg e]
          by_cases e2 : j < i
          · rw [if_pos e2, if_pos (by omega)]
          · rw [if_neg e2, if_neg (by omega)]
    · obtain rfl : i = m := by omega
      have h1 : ¬ (i : Int) < (i : Int) := by omega
      have HA : Hid (ListAt 72 wr (w.heap.size + 1) i (fun j => if j < i then rowV w.heap.size (j * d) d d else .slice none 0 0) ∧ Kept (fun b => b = w.heap.size + 1) wx wr) := And.intro hA hK
      clear hA hK
      go_wp2_with fail
      go_ret
      have hU2 := HX.out.2.1
      refine ⟨w.heap.size, w.heap.size + 1, rfl, by omega, ⟨⟨_, (HA.out.2.block _ (t_lt hU2) (by omega)).trans hU2, fun j hj => ?_⟩, HA.out.1.congr fun j hj => if_pos hj, Nat.le_refl _, by omega, ?_⟩⟩
      · rw [← Array.getElem?_toList, madeV_eq _ rfl, List.getElem?_replicate, if_pos hj]
      · exact HX.out.2.2.trans (HA.out.2.below HX.out.2.2.size fun k hk => by omega)
end
namespace Sm
/-- A relation of states that is a simulation. -/
def Sim (E : Nat → Nat → Nat → Prop) (R : Nat → Nat → Prop) : Prop := ∀ p q, R p q → ∀ a t, E p a t → ∃ u, E q a u ∧ R t u
/-- The second one simulates the first one. -/
def Sims (E : Nat → Nat → Nat → Prop) (p q : Nat) : Prop := ∃ R, Sim E R ∧ R p q
theorem sims_sim (E : Nat → Nat → Nat → Prop) : Sim E (Sims E) := by
  rintro p q ⟨R, hR, h⟩ a t ht
  obtain ⟨u, hu, h2⟩ := hR p q h a t ht
  exact ⟨u, hu, R, hR, h2⟩
theorem sims_refl (E : Nat → Nat → Nat → Prop) (p : Nat) : Sims E p p := ⟨Eq, fun p q h a t ht => ⟨t, by rw [← h]; exact ht, rfl⟩, rfl⟩
theorem sims_trans {E : Nat → Nat → Nat → Prop} {p q r : Nat} (h1 : Sims E p q) (h2 : Sims E q r) : Sims E p r := by
  refine ⟨fun x z => ∃ y, Sims E x y ∧ Sims E y z, ?_, q, h1, h2⟩
  rintro x z ⟨y, hxy, hyz⟩ a t ht
  obtain ⟨u, hu, h3⟩ := sims_sim E x y hxy a t ht
  obtain ⟨v, hv, h4⟩ := sims_sim E y z hyz a u hu
  exact ⟨v, hv, u, h3, h4⟩
theorem sims_iff (E : Nat → Nat → Nat → Prop) (p q : Nat) : Sims E p q ↔ ∀ a t, E p a t → ∃ u, E q a u ∧ Sims E t u := by
  constructor
  · exact sims_sim E p q
  · intro h
    refine ⟨fun x y => Sims E x y ∨ x = p ∧ y = q, ?_, .inr ⟨rfl, rfl⟩⟩
    rintro x y (hxy | ⟨rfl, rfl⟩) a t ht
    · obtain ⟨u, hu, h3⟩ := sims_sim E x y hxy a t ht
      exact ⟨u, hu, .inl h3⟩
    · obtain ⟨u, hu, h3⟩ := h a t ht
      exact ⟨u, hu, .inl h3⟩
/-- Those above each, and those that each has lost. -/
structure Inv (n : Nat) (E : Nat → Nat → Nat → Prop) (A L : Nat → Nat → Bool) : Prop where
  all : ∀ p q, p < n → q < n → Sims E p q → A p q = true
  met : ∀ p q, p < n → q < n → A p q = true → ∀ a t, E p a t → ∃ u, E q a u ∧ (A t u = true ∨ L t u = true)
  two : ∀ p q, ¬ (A p q = true ∧ L p q = true)
/-- The states of a graph are below a bound. -/
def In (n : Nat) (E : Nat → Nat → Nat → Prop) : Prop := ∀ p a t, E p a t → p < n ∧ t < n
theorem Inv.start {n : Nat} {E : Nat → Nat → Nat → Prop} {A L : Nat → Nat → Bool} (hE : In n E) (hA : ∀ p q, p < n → q < n → (A p q = true ↔ ∀ a t, E p a t → ∃ u, E q a u)) (hL : ∀ p q, p < n → q < n → L p q = !A p q) (h0 : ∀ p q, ¬ (p < n ∧ q < n) → A p q = false ∧ L p q = false) : Inv n E A L := by
  refine ⟨fun p q hp hq h => (hA p q hp hq).2 fun a t ht => ?_, fun p q hp hq h a t ht => ?_, fun p q h => ?_⟩
  · obtain ⟨u, hu, _⟩ := sims_sim E p q h a t ht
    exact ⟨u, hu⟩
  · obtain ⟨u, hu⟩ := (hA p q hp hq).1 h a t ht
    refine ⟨u, hu, ?_⟩
    rw [hL t u (hE p a t ht).2 (hE q a u hu).2]
    cases A t u <;> simp
  · by_cases hb : p < n ∧ q < n
    · rw [hL p q hb.1 hb.2] at h
      revert h
      cases A p q <;> simp
    · rw [(h0 p q hb).1] at h
      simp at h
/-- When none is lost any more: those above are those that simulate. -/
theorem Inv.done {n : Nat} {E : Nat → Nat → Nat → Prop} {A L : Nat → Nat → Bool} (hE : In n E) (h : Inv n E A L) (hL : ∀ p q, p < n → q < n → L p q = false) {p q : Nat} (hp : p < n) (hq : q < n) : A p q = true ↔ Sims E p q := by
  refine ⟨fun h1 => ⟨fun x y => x < n ∧ y < n ∧ A x y = true, ?_, hp, hq, h1⟩, h.all p q hp hq⟩
  rintro x y ⟨hx, hy, hxy⟩ a t ht
  obtain ⟨u, hu, h2⟩ := h.met x y hx hy hxy a t ht
  have b1 := (hE x a t ht).2
  have b2 := (hE y a u hu).2
  refine ⟨u, hu, b1, b2, ?_⟩
  rw [hL t u b1 b2] at h2
  simpa using h2
/-- One state is being followed: t0, that had lost lo; the steps to it that are done. -/
structure Mid (n : Nat) (E : Nat → Nat → Nat → Prop) (A L : Nat → Nat → Bool) (t0 : Nat) (lo : Nat → Bool) (dn : Nat → Nat → Prop) : Prop where
  all : ∀ p q, p < n → q < n → Sims E p q → A p q = true
  met : ∀ p q, p < n → q < n → A p q = true → ∀ a t, E p a t → ∃ u, E q a u ∧ (A t u = true ∨ L t u = true ∨ t = t0 ∧ lo u = true ∧ ¬ dn a p)
  two : ∀ p q, ¬ (A p q = true ∧ L p q = true)
def clr (L : Nat → Nat → Bool) (t0 : Nat) : Nat → Nat → Bool := fun p q => if p = t0 then false else L p q
theorem Inv.mid {n : Nat} {E : Nat → Nat → Nat → Prop} {A L : Nat → Nat → Bool} (h : Inv n E A L) (t0 : Nat) : Mid n E A (clr L t0) t0 (L t0) fun _ _ => False := by
  refine ⟨h.all, fun p q hp hq h1 a t ht => ?_, fun p q h1 => ?_⟩
  · obtain ⟨u, hu, h2⟩ := h.met p q hp hq h1 a t ht
    refine ⟨u, hu, ?_⟩
    rcases h2 with h2 | h2
    · exact .inl h2
    · by_cases e : t = t0
      · subst e; exact .inr (.inr ⟨rfl, h2, id⟩)
      · exact .inr (.inl (by unfold clr; rw [if_neg e]; exact h2))
  · unfold clr at h1
    split at h1
    · simp at h1
    · exact h.two p q h1
theorem Mid.inv {n : Nat} {E : Nat → Nat → Nat → Prop} {A L : Nat → Nat → Bool} {t0 : Nat} {lo : Nat → Bool} {dn : Nat → Nat → Prop} (h : Mid n E A L t0 lo dn) (hd : ∀ p a, E p a t0 → dn a p) : Inv n E A L := by
  refine ⟨h.all, fun p q hp hq h1 a t ht => ?_, h.two⟩
  obtain ⟨u, hu, h2⟩ := h.met p q hp hq h1 a t ht
  refine ⟨u, hu, ?_⟩
  rcases h2 with h2 | h2 | ⟨e, _, h2⟩
  · exact .inl h2
  · exact .inr h2
  · subst e; exact absurd (hd p a ht) h2
def tkA (A : Nat → Nat → Bool) (p : Nat) (U : Nat → Bool) : Nat → Nat → Bool := fun x q => if x = p then A p q && !U q else A x q
def tkL (A L : Nat → Nat → Bool) (p : Nat) (U : Nat → Bool) : Nat → Nat → Bool := fun x q => if x = p then L p q || A p q && U q else L x q
/-- What is above or lost stays so. -/
theorem tk_or (A L : Nat → Nat → Bool) (p : Nat) (U : Nat → Bool) (x q : Nat) : (tkA A p U x q || tkL A L p U x q) = (A x q || L x q) := by
  unfold tkA tkL
  by_cases e : x = p
  · subst e
    rw [if_pos rfl, if_pos rfl]
    cases A x q <;> cases L x q <;> cases U q <;> rfl
  · rw [if_neg e, if_neg e]
theorem or_iff2 {a b c d : Bool} (h : (a || b) = (c || d)) : (a = true ∨ b = true) ↔ (c = true ∨ d = true) := by
  revert h; cases a <;> cases b <;> cases c <;> cases d <;> simp
/-- The set U of those that have steps with label a to what t0 had lost, but none to what was above t0 at A0. -/
def Una (E : Nat → Nat → Nat → Prop) (A0 : Nat → Nat → Bool) (t0 : Nat) (lo : Nat → Bool) (a : Nat) (U : Nat → Bool) : Prop := ∀ q, U q = true ↔ (∃ s, lo s = true ∧ E q a s) ∧ ¬ ∃ u, E q a u ∧ A0 t0 u = true
theorem Mid.take {n : Nat} {E : Nat → Nat → Nat → Prop} {A L A0 : Nat → Nat → Bool} {t0 : Nat} {lo U : Nat → Bool} {dn : Nat → Nat → Prop} {a p : Nat} (hE : In n E) (h : Mid n E A L t0 lo dn) (hU : Una E A0 t0 lo a U) (h0 : ∀ u, A t0 u = true → A0 t0 u = true) (h1 : ∀ u, A0 t0 u = true → A t0 u = true ∨ L t0 u = true) (hs : E p a t0) : Mid n E (tkA A p U) (tkL A L p U) t0 lo fun b x => dn b x ∨ b = a ∧ x = p := by
  have hor := fun x q => or_iff2 (tk_or A L p U x q)
  have hsub : ∀ x q, tkA A p U x q = true → A x q = true := fun x q hx => by
    unfold tkA at hx
    split at hx
    · next e => subst e; revert hx; cases A x q <;> simp
    · exact hx
  refine ⟨fun x q hx hq hsm => ?_, fun x q hx hq h2 b t ht => ?_, fun x q h2 => ?_⟩
  · have h2 := h.all x q hx hq hsm
    unfold tkA
    split
    · next e =>
      subst e
      rw [h2]
      cases hu : U q with
      | false => rfl
      | true =>
        exfalso
        obtain ⟨u, hu2, hu3⟩ := sims_sim E x q hsm a t0 hs
        exact ((hU q).1 hu).2 ⟨u, hu2, h0 u (h.all t0 u (hE _ _ _ hs).2 (hE _ _ _ hu2).2 hu3)⟩
    · exact h2
  · obtain ⟨u, hu, h3⟩ := h.met x q hx hq (hsub x q h2) b t ht
    have key : (A t u = true ∨ L t u = true) → ∃ u, E q b u ∧ (tkA A p U t u = true ∨ tkL A L p U t u = true ∨ t = t0 ∧ lo u = true ∧ ¬ (dn b x ∨ b = a ∧ x = p)) := fun h4 => by
      rcases (hor t u).2 h4 with h5 | h5
      · exact ⟨u, hu, .inl h5⟩
      · exact ⟨u, hu, .inr (.inl h5)⟩
    rcases h3 with h3 | h3 | ⟨e, h3, h4⟩
    · exact key (.inl h3)
    · exact key (.inr h3)
    · by_cases e2 : b = a ∧ x = p
      · obtain ⟨rfl, rfl⟩ := e2
        subst e
        have hnu : U q = false := by
          unfold tkA at h2
          rw [if_pos rfl] at h2
          revert h2; cases U q <;> simp
        have h5 : ∃ v, E q b v ∧ A0 t v = true := by
          apply Classical.byContradiction
          intro hno
          have := (hU q).2 ⟨⟨u, h3, hu⟩, hno⟩
          rw [hnu] at this; cases this
        obtain ⟨v, hv, hv2⟩ := h5
        rcases (hor t v).2 (h1 v hv2) with h6 | h6
        · exact ⟨v, hv, .inl h6⟩
        · exact ⟨v, hv, .inr (.inl h6)⟩
      · exact ⟨u, hu, .inr (.inr ⟨e, h3, fun h5 => h5.elim h4 e2⟩)⟩
  · have h3 := h.two x q
    unfold tkA tkL at h2
    split at h2
    · next e => subst e; revert h2 h3; cases A x q <;> cases L x q <;> cases U q <;> simp
    · exact h3 h2
/-- How many pairs are above or lost. -/
def mu (n : Nat) (A L : Nat → Nat → Bool) : Nat := (List.range (n * n)).countP fun i => A (i / n) (i % n) || L (i / n) (i % n)
theorem countP_le (f g : Nat → Bool) (l : List Nat) (h : ∀ x ∈ l, f x = true → g x = true) : l.countP f ≤ l.countP g := by
  induction l with
  | nil => simp
  | cons a r ih =>
    have h1 := ih fun x hx => h x (List.mem_cons_of_mem _ hx)
    have h2 := h a List.mem_cons_self
    rw [List.countP_cons, List.countP_cons]
    cases hf : f a <;> cases hg : g a <;> simp <;> first | omega | (rw [h2 hf] at hg; cases hg)
theorem countP_lt (f g : Nat → Bool) (l : List Nat) (h : ∀ x ∈ l, f x = true → g x = true) (y : Nat) (hy : y ∈ l) (hf : f y = false) (hg : g y = true) : l.countP f < l.countP g := by
  induction l with
  | nil => simp at hy
  | cons a r ih =>
    rw [List.countP_cons, List.countP_cons]
    rcases List.mem_cons.1 hy with rfl | hy
    · have h1 := countP_le f g r fun x hx => h x (List.mem_cons_of_mem _ hx)
      rw [hf, hg]; simp; omega
    · have h1 := ih (fun x hx => h x (List.mem_cons_of_mem _ hx)) hy
      have h2 := h a List.mem_cons_self
      cases hf : f a <;> cases hg : g a <;> simp <;> first | omega | (rw [h2 hf] at hg; cases hg)
theorem mu_clr {n : Nat} {E : Nat → Nat → Nat → Prop} {A L : Nat → Nat → Bool} (h : Inv n E A L) {t0 q : Nat} (ht : t0 < n) (hq : q < n) (hl : L t0 q = true) : mu n A (clr L t0) < mu n A L := by
  have hA : A t0 q = false := by
    have := h.two t0 q
    rw [hl] at this
    revert this; cases A t0 q <;> simp
  have e1 : (t0 * n + q) / n = t0 := by rw [Nat.mul_comm, Nat.mul_add_div (by omega), Nat.div_eq_of_lt hq]; rfl
  have e2 : (t0 * n + q) % n = q := by rw [Nat.mul_comm, Nat.mul_add_mod]; exact Nat.mod_eq_of_lt hq
  refine countP_lt _ _ _ (fun x _ h1 => ?_) (t0 * n + q) (List.mem_range.2 ?_) ?_ ?_
  · unfold clr at h1
    split at h1
    · rw [Bool.or_false] at h1; rw [h1]; rfl
    · exact h1
  · have : (t0 + 1) * n ≤ n * n := Nat.mul_le_mul_right _ ht
    rw [Nat.add_mul] at this; omega
  · simp only [e1, e2]; rw [hA]; unfold clr; rw [if_pos rfl]; rfl
  · simp only [e1, e2]; rw [hl, Bool.or_true]
theorem mu_tk (n : Nat) (A L : Nat → Nat → Bool) (p : Nat) (U : Nat → Bool) : mu n (tkA A p U) (tkL A L p U) = mu n A L := by
  unfold mu
  congr 1
  funext i
  exact tk_or A L p U _ _
end Sm
namespace Sy
/-- An edge: where it comes from, its label, where it leads. -/
abbrev Ed : Type := Int × Int × Int
def lt (a b : Ed) : Bool := if a.1 != b.1 then decide (a.1 < b.1) else if a.2.1 != b.2.1 then decide (a.2.1 < b.2.1) else decide (a.2.2 < b.2.2)
theorem lt_iff (a b : Ed) : lt a b = true ↔ a.1 < b.1 ∨ a.1 = b.1 ∧ (a.2.1 < b.2.1 ∨ a.2.1 = b.2.1 ∧ a.2.2 < b.2.2) := by
  unfold lt
  by_cases h1 : a.1 = b.1
  · by_cases h2 : a.2.1 = b.2.1 <;> simp [h1, h2]
  · simp [h1]
theorem lt_irrefl (a : Ed) : lt a a = false := by
  cases h : lt a a with
  | false => rfl
  | true => rw [lt_iff] at h; omega
theorem lt_trans {a b c : Ed} (h1 : lt a b = true) (h2 : lt b c = true) : lt a c = true := by
  rw [lt_iff] at *; omega
theorem lt_asymm {a b : Ed} (h : lt a b = true) : lt b a = false := by
  cases h2 : lt b a with
  | false => rfl
  | true => rw [lt_iff] at h h2; omega
theorem eq_of_not {a b : Ed} (h1 : lt a b = false) (h2 : lt b a = false) : a = b := by
  have h3 : ¬ lt a b = true := by rw [h1]; simp
  have h4 : ¬ lt b a = true := by rw [h2]; simp
  rw [lt_iff] at h3 h4
  obtain ⟨x, y, z⟩ := a
  obtain ⟨u, v, w⟩ := b
  simp only at h3 h4
  have e1 : x = u := by omega
  have e2 : y = v := by omega
  have e3 : z = w := by omega
  rw [e1, e2, e3]
/-- Edges in order, each once. -/
def Str : List Ed → Prop
  | [] => True
  | [_] => True
  | a :: b :: r => lt a b = true ∧ Str (b :: r)
theorem Str.tail {a : Ed} {r : List Ed} (h : Str (a :: r)) : Str r := by
  cases r with
  | nil => trivial
  | cons b s => exact h.2
theorem Str.head {a : Ed} {r : List Ed} (h : Str (a :: r)) : ∀ x ∈ r, lt a x = true := by
  induction r generalizing a with
  | nil => intro x hx; simp at hx
  | cons b s ih =>
    intro x hx
    rcases List.mem_cons.1 hx with rfl | hx
    · exact h.1
    · exact lt_trans h.1 (ih h.2 x hx)
theorem Str.cons {a : Ed} {r : List Ed} (h : Str r) (h2 : ∀ x ∈ r, lt a x = true) : Str (a :: r) := by
  cases r with
  | nil => trivial
  | cons b s => exact ⟨h2 b List.mem_cons_self, h⟩
theorem Str.snoc {l : List Ed} {x : Ed} (h : Str l) (h2 : ∀ y ∈ l, lt y x = true) : Str (l ++ [x]) := by
  induction l with
  | nil => trivial
  | cons a r ih =>
    refine Str.cons (ih h.tail fun y hy => h2 y (List.mem_cons_of_mem _ hy)) fun y hy => ?_
    rcases List.mem_append.1 hy with hy | hy
    · exact h.head y hy
    · rw [List.mem_singleton.1 hy]; exact h2 a List.mem_cons_self
/-- Two such lists of the same edges are one. -/
theorem Str.unique {l m : List Ed} (hl : Str l) (hm : Str m) (h : ∀ x, x ∈ l ↔ x ∈ m) : l = m := by
  induction l generalizing m with
  | nil =>
    cases m with
    | nil => rfl
    | cons b s => exact absurd ((h b).2 List.mem_cons_self) (by simp)
  | cons a r ih =>
    cases m with
    | nil => exact absurd ((h a).1 List.mem_cons_self) (by simp)
    | cons b s =>
      have e : a = b := by
        rcases List.mem_cons.1 ((h a).1 List.mem_cons_self) with e | ha
        · exact e
        · rcases List.mem_cons.1 ((h b).2 List.mem_cons_self) with e | hb
          · exact e.symm
          · have h1 := hm.head a ha
            have h2 := hl.head b hb
            rw [lt_asymm h1] at h2
            cases h2
      subst e
      congr 1
      refine ih hl.tail hm.tail fun x => ⟨fun hx => ?_, fun hx => ?_⟩
      · rcases List.mem_cons.1 ((h x).1 (List.mem_cons_of_mem _ hx)) with e | hx2
        · subst e; have h1 := hl.head x hx; rw [lt_irrefl] at h1; cases h1
        · exact hx2
      · rcases List.mem_cons.1 ((h x).2 (List.mem_cons_of_mem _ hx)) with e | hx2
        · subst e; have h1 := hm.head x hx; rw [lt_irrefl] at h1; cases h1
        · exact hx2
/-- An edge goes to its place. -/
def ins (x : Ed) : List Ed → List Ed
  | [] => [x]
  | a :: r => if lt x a then x :: a :: r else if lt a x then a :: ins x r else a :: r
theorem ins_mem (x y : Ed) (l : List Ed) : y ∈ ins x l ↔ y = x ∨ y ∈ l := by
  induction l with
  | nil => simp [ins]
  | cons a r ih =>
    unfold ins
    cases h1 : lt x a with
    | true => simp
    | false =>
      cases h2 : lt a x with
      | true =>
        simp only [Bool.false_eq_true, if_false, if_true, List.mem_cons, ih]
        constructor
        · rintro (h | h | h) <;> simp [h]
        · rintro (h | h | h) <;> simp [h]
      | false =>
        have e := eq_of_not h1 h2
        subst e
        simp
theorem ins_str (x : Ed) (l : List Ed) (h : Str l) : Str (ins x l) := by
  induction l with
  | nil => trivial
  | cons a r ih =>
    unfold ins
    cases h1 : lt x a with
    | true => exact ⟨h1, h⟩
    | false =>
      cases h2 : lt a x with
      | true =>
        simp only [Bool.false_eq_true, if_false, if_true]
        refine Str.cons (ih h.tail) fun y hy => ?_
        rcases (ins_mem x y r).1 hy with rfl | hy
        · exact h2
        · exact h.head y hy
      | false => exact h
/-- The one form of a list of edges. -/
def nf : List Ed → List Ed
  | [] => []
  | a :: r => ins a (nf r)
theorem nf_mem (l : List Ed) (x : Ed) : x ∈ nf l ↔ x ∈ l := by
  induction l with
  | nil => simp [nf]
  | cons a r ih => simp [nf, ins_mem, ih]
theorem nf_str (l : List Ed) : Str (nf l) := by
  induction l with
  | nil => trivial
  | cons a r ih => exact ins_str a _ ih
theorem nf_of {l m : List Ed} (h : Str m) (hm : ∀ x, x ∈ m ↔ x ∈ l) : m = nf l := h.unique (nf_str l) fun x => (hm x).trans (nf_mem l x).symm
theorem nf_congr {l m : List Ed} (h : ∀ x, x ∈ l ↔ x ∈ m) : nf l = nf m := nf_of (nf_str l) fun x => (nf_mem l x).trans (h x)
theorem nf_idem (l : List Ed) : nf (nf l) = nf l := (nf_of (nf_str l) fun _ => Iff.rfl).symm
theorem ins_len (x : Ed) (l : List Ed) : (ins x l).length ≤ l.length + 1 := by
  induction l with
  | nil => simp [ins]
  | cons a r ih =>
    unfold ins
    cases h1 : lt x a <;> cases h2 : lt a x <;> simp <;> omega
theorem nf_len (l : List Ed) : (nf l).length ≤ l.length := by
  induction l with
  | nil => simp [nf]
  | cons a r ih => have := ins_len a (nf r); simp only [nf, List.length_cons]; omega
theorem str_len {m l : List Ed} (h : Str m) (hs : ∀ x ∈ m, x ∈ l) : m.length ≤ l.length := by
  have e : m = nf m := nf_of h fun _ => Iff.rfl
  induction m generalizing l with
  | nil => simp
  | cons a r ih =>
    have ha := hs a List.mem_cons_self
    have h1 : r.length ≤ (l.erase a).length := by
      refine ih h.tail (fun x hx => ?_) (nf_of h.tail fun _ => Iff.rfl)
      have h2 := h.head x hx
      have hne : x ≠ a := fun e => by rw [e, lt_irrefl] at h2; cases h2
      exact (List.mem_erase_of_ne hne).2 (hs x (List.mem_cons_of_mem _ hx))
    rw [List.length_erase_of_mem ha] at h1
    have := List.length_pos_of_mem ha
    simp only [List.length_cons]
    omega
/-- An edge goes behind others, unless the last one is the same. -/
def put (out : List Ed) (e : Ed) : List Ed := if out.getLast? = some e then out else out ++ [e]
theorem put_str {out : List Ed} {e : Ed} (h : Str out) (hle : ∀ x ∈ out, lt e x = false) : Str (put out e) := by
  unfold put
  split
  · exact h
  · rename_i hne
    refine h.snoc fun y hy => ?_
    have hys : ∀ (l : List Ed) (z : Ed), Str l → l.getLast? = some z → ∀ y ∈ l, y = z ∨ lt y z = true := fun l => by
      induction l with
      | nil => intro z _ hz; simp at hz
      | cons a r ih =>
        intro z hs hz y hy
        cases r with
        | nil => simp at hz hy; subst hz; exact .inl hy
        | cons b s =>
          rw [List.getLast?_cons_cons] at hz
          rcases List.mem_cons.1 hy with rfl | hy
          · have hzm := List.mem_of_getLast? hz
            exact .inr (hs.head z hzm)
          · exact ih z hs.tail hz y hy
    cases hl : out.getLast? with
    | none => rw [List.getLast?_eq_none_iff] at hl; subst hl; simp at hy
    | some z =>
      have hzm := List.mem_of_getLast? hl
      have hz1 : lt z e = true := by
        cases h1 : lt z e with
        | true => rfl
        | false => exact absurd (by rw [hl, eq_of_not h1 (hle z hzm)]) hne
      rcases hys out z h hl y hy with rfl | h2
      · exact hz1
      · exact lt_trans h2 hz1
theorem put_mem (out : List Ed) (e x : Ed) : x ∈ put out e ↔ x ∈ out ∨ x = e := by
  unfold put
  split
  · rename_i h
    have := List.mem_of_getLast? h
    constructor
    · exact .inl
    · rintro (h | rfl)
      · exact h
      · exact this
  · simp
/-- Two lists in order are being merged: out has what is behind. -/
structure Mg (a b : List Ed) (i k : Nat) (out : List Ed) : Prop where
  s : Str out
  m : ∀ x, x ∈ out ↔ x ∈ a.take i ∨ x ∈ b.take k
  ha : ∀ x ∈ out, ∀ y ∈ a.drop i, lt y x = false
  hb : ∀ x ∈ out, ∀ y ∈ b.drop k, lt y x = false
theorem Mg.start (a b : List Ed) : Mg a b 0 0 [] := ⟨trivial, fun x => by simp, fun x hx => by simp at hx, fun x hx => by simp at hx⟩
theorem Mg.swap {a b : List Ed} {i k : Nat} {out : List Ed} (h : Mg a b i k out) : Mg b a k i out := ⟨h.s, fun x => (h.m x).trans or_comm, h.hb, h.ha⟩
theorem Mg.left {a b : List Ed} {i k : Nat} {out : List Ed} (h : Mg a b i k out) (hsa : Str a) (hsb : Str b) {e : Ed} (he : a[i]? = some e) (hk : ∀ f, b[k]? = some f → lt f e = false) : Mg a b (i + 1) k (put out e) := by
  obtain ⟨hl, rfl⟩ := List.getElem?_eq_some_iff.1 he
  have hd : a.drop i = a[i] :: a.drop (i + 1) := List.drop_eq_getElem_cons hl
  have hstr : ∀ (l : List Ed) (n : Nat), Str l → Str (l.drop n) := fun l n hs => by
    induction n generalizing l with
    | zero => exact hs
    | succ n ih =>
      cases l with
      | nil => exact hs
      | cons c r => exact ih r hs.tail
  have h1 : Str (a[i] :: a.drop (i + 1)) := by rw [← hd]; exact hstr a i hsa
  have hbk : ∀ y ∈ b.drop k, lt y a[i] = false := fun y hy => by
    cases hb : b.drop k with
    | nil => rw [hb] at hy; simp at hy
    | cons f r =>
      have hkl : k < b.length := by
        rcases Nat.lt_or_ge k b.length with h2 | h2
        · exact h2
        · rw [List.drop_eq_nil_of_le h2] at hb; cases hb
      have hf : f = b[k] := by rw [List.drop_eq_getElem_cons hkl] at hb; exact (List.cons.inj hb).1.symm
      have h2 := hk f (by rw [hf]; exact List.getElem?_eq_getElem hkl)
      have h3 : Str (f :: r) := by rw [← hb]; exact hstr b k hsb
      rw [hb] at hy
      rcases List.mem_cons.1 hy with rfl | hy
      · exact h2
      · cases h4 : lt y a[i] with
        | false => rfl
        | true => have h5 := lt_trans (h3.head y hy) h4; rw [h2] at h5; cases h5
  have hout : ∀ x ∈ out, lt a[i] x = false := fun x hx => h.ha x hx _ (by rw [hd]; exact List.mem_cons_self)
  refine ⟨put_str h.s hout, fun x => ?_, fun x hx y hy => ?_, fun x hx y hy => ?_⟩
  · rw [put_mem, h.m, List.take_succ_eq_append_getElem hl]
    simp only [List.mem_append, List.mem_singleton]
    constructor
    · rintro ((h | h) | h) <;> simp [h]
    · rintro ((h | h) | h) <;> simp [h]
  · rcases (put_mem _ _ _).1 hx with hx | rfl
    · exact h.ha x hx y (by rw [hd]; exact List.mem_cons_of_mem _ hy)
    · exact lt_asymm (h1.head y hy)
  · rcases (put_mem _ _ _).1 hx with hx | rfl
    · exact h.hb x hx y hy
    · exact hbk y hy
/-- Is it a system? -/
def right (n k s : Int) (es : List Ed) : Bool :=
  decide (0 ≤ n ∧ n ≤ 1000 ∧ 1 ≤ k ∧ k ≤ 201 ∧ es.length ≤ 10000) && decide ((n = 0 → s = 0) ∧ (0 < n → 0 ≤ s ∧ s < n)) && es.all fun e => decide (0 ≤ e.1 ∧ e.1 < n ∧ 0 ≤ e.2.2 ∧ e.2.2 < n ∧ 0 ≤ e.2.1 ∧ e.2.1 < k)
/-- An edge turned round. -/
def turn (e : Ed) : Ed := (e.2.2, e.2.1, e.1)
/-- The place of a number in a list; the list's length, if it is not there. -/
def place (c : Int) : List Int → Nat
  | [] => 0
  | a :: r => if a = c then 0 else place c r + 1
theorem place_le (c : Int) (l : List Int) : place c l ≤ l.length := by
  induction l with
  | nil => simp [place]
  | cons a r ih => unfold place; split <;> simp <;> omega
/-- The one form of classes, behind those that were seen. -/
def canonG : List Int → List Int → List Nat
  | _, [] => []
  | seen, c :: r => place c seen :: canonG (if place c seen < seen.length then seen else seen ++ [c]) r
def canon (l : List Int) : List Nat := canonG [] l
def seenG : List Int → List Int → List Int
  | seen, [] => seen
  | seen, c :: r => seenG (if place c seen < seen.length then seen else seen ++ [c]) r
theorem canonG_len (l : List Int) : ∀ seen, (canonG seen l).length = l.length := by
  induction l with
  | nil => intro _; rfl
  | cons c r ih => intro seen; simp [canonG, ih]
theorem canonG_app (a b : List Int) : ∀ seen, canonG seen (a ++ b) = canonG seen a ++ canonG (seenG seen a) b := by
  induction a with
  | nil => intro _; rfl
  | cons c r ih => intro seen; simp only [List.cons_append, canonG, seenG]; rw [ih]
theorem seenG_app (a b : List Int) : ∀ seen, seenG seen (a ++ b) = seenG (seenG seen a) b := by
  induction a with
  | nil => intro _; rfl
  | cons c r ih => intro seen; simp only [List.cons_append, seenG]; rw [ih]
theorem seenG_len (l : List Int) : ∀ seen, (seenG seen l).length ≤ seen.length + l.length := by
  induction l with
  | nil => intro _; simp [seenG]
  | cons c r ih =>
    intro seen
    simp only [seenG]
    have h1 := ih (if place c seen < seen.length then seen else seen ++ [c])
    have h2 : (if place c seen < seen.length then seen else seen ++ [c]).length ≤ seen.length + 1 := by split <;> simp
    simp only [List.length_cons]
    omega
/-- How many classes there are. -/
def top : List Nat → Nat
  | [] => 0
  | k :: r => max (k + 1) (top r)
def together (l : List Int) : Nat := top (canon l)
/-- Are they in the one form? -/
def formG : Nat → List Int → Bool
  | _, [] => true
  | n, c :: r => decide (0 ≤ c ∧ c ≤ n) && formG (if c = (n : Int) then n + 1 else n) r
end Sy
section
open Go.RowKit Go.Maps
/-- Where a row lies. -/
structure Lc where
  b : Nat
  o : Nat
  c : Nat
def Lc.v (x : Lc) (d : Nat) : Value := rowV x.b x.o d x.c
/-- Two rows have no cell in common. -/
def Lc.off (d : Nat) (x y : Lc) : Prop := x.b ≠ y.b ∨ x.o + d ≤ y.o ∨ y.o + d ≤ x.o
theorem Lc.off.symm {d : Nat} {x y : Lc} (h : Lc.off d x y) : Lc.off d y x := by
  unfold Lc.off at h ⊢
  rcases h with h | h | h
  · exact .inl fun e => h e.symm
  · exact .inr (.inr h)
  · exact .inr (.inl h)
def upd {α : Type} (f : Nat → α) (p : Nat) (x : α) : Nat → α := fun q => if q = p then x else f q
theorem upd_same {α : Type} (f : Nat → α) (p : Nat) (x : α) : upd f p x p = x := by simp [upd]
theorem upd_ne {α : Type} (f : Nat → α) {p q : Nat} (x : α) (h : q ≠ p) : upd f p x q = f q := by simp [upd, h]
theorem row_list_ne {ty : TypeId} {w : World} {b o d g m i : Nat} {S : Nat → Bool} {f : Nat → Value} (h : RowAt w b o d S) (k : ListAt ty w g m f) (ht : ty ≠ 99) (_ : i = i) : g ≠ b := fun e => by
  obtain ⟨cs, hc, _⟩ := h
  obtain ⟨c2, hc2, _⟩ := k
  rw [e, hc] at hc2
  injection hc2 with e2
  injection e2 with _ e3
  exact ht e3.symm
/-- A list of rows in memory. -/
structure Rws (w : World) (B g n d : Nat) (r : Nat → Lc) (X : Nat → Nat → Bool) : Prop where
  lst : ListAt 72 w g n fun p => (r p).v d
  row : ∀ p, p < n → RowAt w (r p).b (r p).o d (X p)
  ug : B ≤ g
  ur : ∀ p, p < n → B ≤ (r p).b
theorem Rws.below {w w' : World} {B g n d : Nat} {r : Nat → Lc} {X : Nat → Nat → Bool} (h : Rws w B g n d r X) (hb : Below w.heap.size w w') : Rws w' B g n d r X := ⟨h.lst.below hb, fun p hp => (h.row p hp).below hb, h.ug, h.ur⟩
theorem Rws.congr {w : World} {B g n d : Nat} {r : Nat → Lc} {X Y : Nat → Nat → Bool} (h : Rws w B g n d r X) (hX : ∀ p q, p < n → q / 64 < d → X p q = Y p q) : Rws w B g n d r Y := ⟨h.lst, fun p hp => (h.row p hp).congr fun q hq => hX p q hp hq, h.ug, h.ur⟩
/-- Another row turned. -/
theorem Rws.wr {w w' : World} {B g n d b o : Nat} {r : Nat → Lc} {X : Nat → Nat → Bool} {S : Nat → Bool} (h : Rws w B g n d r X) (hw : Wr b o d w w') (hS : RowAt w b o d S) (ha : ∀ p, p < n → (r p).b ≠ b ∨ (r p).o + d ≤ o ∨ o + d ≤ (r p).o) : Rws w' B g n d r X :=
  ⟨h.lst.kept hw.kp (row_list_ne (i := 0) hS h.lst (by decide) rfl), fun p hp => (h.row p hp).wr hw (ha p hp), h.ug, h.ur⟩
/-- One of its rows turned. -/
theorem Rws.put {w w' : World} {B g n d p : Nat} {r : Nat → Lc} {X : Nat → Nat → Bool} {T : Nat → Bool} (h : Rws w B g n d r X) (hp : p < n) (hw : Wr (r p).b (r p).o d w w') (hT : RowAt w' (r p).b (r p).o d T) (ha : ∀ q, q < n → q ≠ p → Lc.off d (r q) (r p)) : Rws w' B g n d r (upd X p T) := by
  refine ⟨h.lst.kept hw.kp (row_list_ne (i := 0) (h.row p hp) h.lst (by decide) rfl), fun q hq => ?_, h.ug, h.ur⟩
  by_cases e : q = p
  · subst e; rw [upd_same]; exact hT
  · rw [upd_ne _ _ e]; exact (h.row q hq).wr hw (ha q hq e)
/-- A cell of a list of rows, or of lists, turned: rows stay. -/
theorem RowAt.lists {ty : TypeId} {w : World} {b o d g m i : Nat} {S : Nat → Bool} {f : Nat → Value} {v : Value} (h : RowAt w b o d S) (k : ListAt ty w g m f) (ht : ty ≠ 99) : RowAt (w.setCell ⟨g, i, none⟩ v) b o d S := h.at (set_other w g i b v fun e => row_list_ne (i := 0) h k ht rfl e.symm)
theorem Rws.other {ty : TypeId} {w : World} {B g n d h m i : Nat} {r : Nat → Lc} {X : Nat → Nat → Bool} {f : Nat → Value} {v : Value} (hR : Rws w B g n d r X) (k : ListAt ty w h m f) (ht : ty ≠ 99) (hne : g ≠ h) : Rws (w.setCell ⟨h, i, none⟩ v) B g n d r X := ⟨hR.lst.other hne, fun p hp => (hR.row p hp).lists k ht, hR.ug, hR.ur⟩
/-- One of its rows is another one now. -/
theorem Rws.set {w : World} {B g n d p : Nat} {r : Nat → Lc} {X : Nat → Nat → Bool} {T : Nat → Bool} (h : Rws w B g n d r X) (y : Lc) (hT : RowAt w y.b y.o d T) (hy : B ≤ y.b) : Rws (w.setCell ⟨g, p, none⟩ (y.v d)) B g n d (upd r p y) (upd X p T) := by
  refine ⟨(h.lst.put (y.v d)).congr fun q hq => ?_, fun q hq => ?_, h.ug, fun q hq => ?_⟩
  · by_cases e : q = p
    · subst e; rw [if_pos rfl, upd_same]
    · rw [if_neg e, upd_ne _ _ e]
  · by_cases e : q = p
    · subst e; rw [upd_same, upd_same]; exact hT.lists h.lst (by decide)
    · rw [upd_ne _ _ e, upd_ne _ _ e]; exact (h.row q hq).lists h.lst (by decide)
  · by_cases e : q = p
    · subst e; rw [upd_same]; exact hy
    · rw [upd_ne _ _ e]; exact h.ur q hq
/-- The blocks of a sieve that do not change. -/
structure Ml where
  ge : Nat
  ga : Nat
  gl : Nat
  er : Nat → Nat
  ew : Nat → Nat
/-- Where steps with a label lead. -/
def Ez (es : List Sy.Ed) (a : Nat) : Nat → Nat → Bool := fun p t => decide (((p : Int), (a : Int), (t : Int)) ∈ es)
structure SvM (w : World) (B gv gr n k d : Nat) (m : Ml) (ra rl : Nat → Lc) (es : List Sy.Ed) (A L : Nat → Nat → Bool) : Prop where
  box : w.heap[gv]? = some (.cells #[.pointer (some ⟨gr, 0, none⟩), .slice (some ⟨m.ge, 0, none⟩) k k, .slice (some ⟨m.ga, 0, none⟩) n n, .slice (some ⟨m.gl, 0, none⟩) n n] 82 (0, 0))
  uv : B ≤ gv
  ends : ListAt 52 w m.ge k fun a => .slice (some ⟨m.er a, 0, none⟩) n n
  end1 : ∀ a, a < k → Rws w B (m.er a) n d (fun p => ⟨m.ew a, p * d, d⟩) (Ez es a)
  above : Rws w B m.ga n d ra A
  lost : Rws w B m.gl n d rl L
  apll : ∀ p q, p < n → q < n → p ≠ q → Lc.off d (rl p) (rl q)
  apla : ∀ p q, p < n → q < n → Lc.off d (rl p) (ra q)
  aple : ∀ p a, p < n → a < k → (rl p).b ≠ m.ew a
  gal : m.ga ≠ m.gl
  gea : ∀ a, a < k → m.er a ≠ m.ga ∧ m.er a ≠ m.gl
theorem SvM.below {w w' : World} {B gv gr n k d : Nat} {m : Ml} {ra rl : Nat → Lc} {es : List Sy.Ed} {A L : Nat → Nat → Bool} (h : SvM w B gv gr n k d m ra rl es A L) (hb : Below w.heap.size w w') : SvM w' B gv gr n k d m ra rl es A L :=
  ⟨(hb.block _ (t_lt h.box)).trans h.box, h.uv, h.ends.below hb, fun a ha => (h.end1 a ha).below hb, h.above.below hb, h.lost.below hb, h.apll, h.apla, h.aple, h.gal, h.gea⟩
theorem SvM.congr {w : World} {B gv gr n k d : Nat} {m : Ml} {ra rl : Nat → Lc} {es : List Sy.Ed} {A L A' L' : Nat → Nat → Bool} (h : SvM w B gv gr n k d m ra rl es A L) (hA : ∀ p q, p < n → q / 64 < d → A p q = A' p q) (hL : ∀ p q, p < n → q / 64 < d → L p q = L' p q) : SvM w B gv gr n k d m ra rl es A' L' :=
  ⟨h.box, h.uv, h.ends, h.end1, h.above.congr hA, h.lost.congr hL, h.apll, h.apla, h.aple, h.gal, h.gea⟩
theorem SvM.cells {w : World} {B gv gr n k d : Nat} {m : Ml} {ra rl : Nat → Lc} {es : List Sy.Ed} {A L : Nat → Nat → Bool} (h : SvM w B gv gr n k d m ra rl es A L) : w.cell? ⟨gv, 0, none⟩ = some (.pointer (some ⟨gr, 0, none⟩)) ∧ w.cell? ⟨gv, 1, none⟩ = some (.slice (some ⟨m.ge, 0, none⟩) k k) ∧ w.cell? ⟨gv, 2, none⟩ = some (.slice (some ⟨m.ga, 0, none⟩) n n) ∧ w.cell? ⟨gv, 3, none⟩ = some (.slice (some ⟨m.gl, 0, none⟩) n n) := ⟨cell0_of h.box rfl, cell0_of h.box rfl, cell0_of h.box rfl, cell0_of h.box rfl⟩
theorem box_list_ne {ty : TypeId} {w : World} {gv g m : Nat} {cs : Array Value} {t : TypeId} {f : Nat → Value} (h : w.heap[gv]? = some (.cells cs t (0, 0))) (k : ListAt ty w g m f) (ht : ty ≠ t) : gv ≠ g := fun e => by
  obtain ⟨c2, hc2, _⟩ := k
  rw [← e, h] at hc2
  injection hc2 with e2
  injection e2 with _ e3
  exact ht e3.symm
theorem list_list_ne {ty t : TypeId} {w : World} {g m g2 m2 : Nat} {f f2 : Nat → Value} (h : ListAt t w g2 m2 f2) (k : ListAt ty w g m f) (ht : ty ≠ t) : g2 ≠ g := by
  obtain ⟨c2, hc2, _⟩ := h
  exact box_list_ne hc2 k ht
theorem box_row_ne {w : World} {gv b o d : Nat} {cs : Array Value} {t : TypeId} {S : Nat → Bool} (h : w.heap[gv]? = some (.cells cs t (0, 0))) (k : RowAt w b o d S) (ht : t ≠ 99) : gv ≠ b := fun e => by
  obtain ⟨c2, hc2, _⟩ := k
  rw [← e, h] at hc2
  injection hc2 with e2
  injection e2 with _ e3
  exact ht e3
/-- A state has another row above it now. -/
theorem SvM.setAbove {w : World} {B gv gr n k d p : Nat} {m : Ml} {ra rl : Nat → Lc} {es : List Sy.Ed} {A L : Nat → Nat → Bool} {T : Nat → Bool} (h : SvM w B gv gr n k d m ra rl es A L) (hp : p < n) (y : Lc) (hT : RowAt w y.b y.o d T) (hy : B ≤ y.b) (hf : ∀ q, q < n → Lc.off d (rl q) y) : SvM (w.setCell ⟨m.ga, p, none⟩ (y.v d)) B gv gr n k d m (upd ra p y) rl es (upd A p T) L := by
  have k1 := h.above.lst
  refine ⟨(set_other w _ _ _ _ (box_list_ne h.box k1 (by decide))).trans h.box, h.uv, h.ends.other (list_list_ne h.ends k1 (by decide)), fun a ha => (h.end1 a ha).other k1 (by decide) (h.gea a ha).1, h.above.set y hT hy, h.lost.other k1 (by decide) fun e => h.gal e.symm, h.apll, fun x q hx hq => ?_, h.aple, h.gal, h.gea⟩
  by_cases e : q = p
  · subst e; rw [upd_same]; exact hf x hx
  · rw [upd_ne _ _ e]; exact h.apla x q hx hq
/-- A state has another row of lost ones now. -/
theorem SvM.setLost {w : World} {B gv gr n k d p : Nat} {m : Ml} {ra rl : Nat → Lc} {es : List Sy.Ed} {A L : Nat → Nat → Bool} {T : Nat → Bool} (h : SvM w B gv gr n k d m ra rl es A L) (y : Lc) (hT : RowAt w y.b y.o d T) (hy : B ≤ y.b) (hl : ∀ q, q < n → q ≠ p → Lc.off d y (rl q)) (ha : ∀ q, q < n → Lc.off d y (ra q)) (he : ∀ a, a < k → y.b ≠ m.ew a) : SvM (w.setCell ⟨m.gl, p, none⟩ (y.v d)) B gv gr n k d m ra (upd rl p y) es A (upd L p T) := by
  have k1 := h.lost.lst
  refine ⟨(set_other w _ _ _ _ (box_list_ne h.box k1 (by decide))).trans h.box, h.uv, h.ends.other (list_list_ne h.ends k1 (by decide)), fun a ha => (h.end1 a ha).other k1 (by decide) (h.gea a ha).2, h.above.other k1 (by decide) h.gal, h.lost.set y hT hy, fun x q hx hq hne => ?_, fun x q hx hq => ?_, fun x a hx ha2 => ?_, h.gal, h.gea⟩
  · by_cases e : x = p
    · subst e
      rw [upd_same, upd_ne _ _ fun e => hne e.symm]
      exact hl q hq fun e => hne e.symm
    · rw [upd_ne _ _ e]
      by_cases e2 : q = p
      · subst e2; rw [upd_same]; exact (hl x hx e).symm
      · rw [upd_ne _ _ e2]; exact h.apll x q hx hq hne
  · by_cases e : x = p
    · subst e; rw [upd_same]; exact ha q hq
    · rw [upd_ne _ _ e]; exact h.apla x q hx hq
  · by_cases e : x = p
    · subst e; rw [upd_same]; exact he a ha2
    · rw [upd_ne _ _ e]; exact h.aple x a hx ha2
/-- A state's row of lost ones turned. -/
theorem SvM.join {w w' : World} {B gv gr n k d p : Nat} {m : Ml} {ra rl : Nat → Lc} {es : List Sy.Ed} {A L : Nat → Nat → Bool} {T : Nat → Bool} (h : SvM w B gv gr n k d m ra rl es A L) (hp : p < n) (hw : Wr (rl p).b (rl p).o d w w') (hT : RowAt w' (rl p).b (rl p).o d T) : SvM w' B gv gr n k d m ra rl es A (upd L p T) := by
  have hS := h.lost.row p hp
  refine ⟨(hw.kp.block _ (t_lt h.box) (box_row_ne h.box hS (by decide))).trans h.box, h.uv, h.ends.kept hw.kp (row_list_ne (i := 0) hS h.ends (by decide) rfl), fun a ha => (h.end1 a ha).wr hw hS fun q hq => .inl fun e => h.aple p a hp ha e.symm, h.above.wr hw hS fun q hq => (h.apla p q hp hq).symm, h.lost.put hp hw hT fun q hq hne => h.apll q p hq hp hne, h.apll, h.apla, h.aple, h.gal, h.gea⟩
/-- Rows that are new have no cell in common with those of before. -/
theorem SvM.fresh {w : World} {B gv gr n k d : Nat} {m : Ml} {ra rl : Nat → Lc} {es : List Sy.Ed} {A L : Nat → Nat → Bool} (h : SvM w B gv gr n k d m ra rl es A L) {y : Lc} (hy : w.heap.size ≤ y.b) : (∀ q, q < n → Lc.off d y (rl q)) ∧ (∀ q, q < n → Lc.off d y (ra q)) ∧ (0 < n → ∀ a, a < k → y.b ≠ m.ew a) :=
  ⟨fun q hq => .inl (by have := (h.lost.row q hq).lt; omega), fun q hq => .inl (by have := (h.above.row q hq).lt; omega), fun h0 a ha => by have := ((h.end1 a ha).row 0 h0).lt; show y.b ≠ m.ew a; dsimp only at this; omega⟩
end
section
open Go.RowKit Go.Maps
attribute [local go_sem ↓] Go.wp_at_zero Go.wp_at_succ
def rowC (S : Nat → Bool) (d : Nat) : List Value := (List.range d).map fun i => .int .u64 (Br.wd S i : Nat)
theorem rowC_len (S : Nat → Bool) (d : Nat) : (rowC S d).length = d := by simp [rowC]
theorem rowC_at {S : Nat → Bool} {d i : Nat} {u : Value} (h : (rowC S d)[i]? = some u) : i < d ∧ u = .int .u64 (Br.wd S i : Nat) := by
  have hl := (List.getElem?_eq_some_iff.1 h).1
  rw [rowC_len] at hl
  refine ⟨hl, ?_⟩
  unfold rowC at h
  rw [List.getElem?_map, List.getElem?_range hl] at h
  simpa using h.symm
theorem rowC_get {S : Nat → Bool} {d i : Nat} (h : i < d) : (rowC S d)[i]? = some (.int .u64 (Br.wd S i : Nat)) := by
  unfold rowC
  rw [List.getElem?_map, List.getElem?_range h]; rfl
/-- A row of the call's own as words. -/
theorem row_of_owns {w : World} {B d : Nat} {v : Value} {S : Nat → Bool} (h : w.ownsRow B 99 1 v d (rowC S d)) (hd : 0 < d) : ∃ g c, v = rowV g 0 d c ∧ RowAt w g 0 d S ∧ B ≤ g := by
  rcases _root_.id h.2 with ⟨_, h0⟩ | ⟨g, cap, cur, rfl, h3, hg, _⟩
  · omega
  · refine ⟨g, cap, rfl, ⟨cur, hg, fun i hi => ?_⟩, h3⟩
    have h5 := h.cellAt i (by omega)
    rw [rowC_get hi] at h5
    simp only [World.cell?, hg] at h5
    rw [Nat.zero_add]
    exact h5
theorem Tryd.eqClRow (w : World) (a : Option Addr) (n c n' c' : Nat) : (binOp .eql 72 (.slice a n c) (.slice none n' c')).run Tryd.prog w = .ok (.bool a.isNone) w := Lib.run_eql_slice_nil w _ _ a n c n' c' Tryd.underlying72
set_option maxRecDepth 100000 in
set_option maxHeartbeats 1000000 in
theorem cloneRow_any (b o d c : Nat) (S : Nat → Bool) (w : World) (hd0 : 0 < d) (hd : d ≤ 10000) (hR : RowAt w b o d S) :
    Calls Tryd.prog 85 #[rowV b o d c] w fun r w' => ∃ g c', r = .returned (rowV g 0 d c') ∧ RowAt w' g 0 d S ∧ w.heap.size ≤ g ∧ Below w.heap.size w w' := by
  obtain ⟨i0, hi0, hz0, hz1, hz2⟩ := info_parts Tryd.infoU64
  have hq := Tryd.eqClRow
  have hl := rowC_len S d
  have hcs : ∀ j u, (rowC S d)[j]? = some u → w.cell? ((⟨b, o, none⟩ : Addr).add j) = some u := fun j u hj => by
    obtain ⟨h1, rfl⟩ := rowC_at hj
    rw [Addr.add_lit]
    exact hR.cell h1
  have A : Aside (∀ j u, (rowC S d)[j]? = some u → w.cell? ((⟨b, o, none⟩ : Addr).add j) = some u) := hcs
  clear hR hcs
  unfold rowV
  go_enter Tryd.func85, Tryd.ntmps85
  go_wp2_with (at_builtin; refine wpList_append_own _ rfl _ _ 72 rfl w.heap.size 99 i0 (.int .u64 0) 1 8 Tryd.underlying72 hi0 hz0 hz1 hz2 rfl (by decide) _ _ _ rfl (World.ownsRow_made w #[] 0 (Nat.le_refl _) (Nat.zero_le _) (by simp)) ⟨b, o, none⟩ d c (rowC S d) rfl ?qc1 ?qc2 ?qc3 ?qc4 ?qc5 ?qc6 ?_)
  case qc1 => rw [hl]; omega
  case qc2 =>
    intro j u hj
    have h1 := A.out j u hj
    exact (((Below.refl _ w).alloc (Nat.le_refl _) _).cell (World.block_lt_of_cell? w _ h1)).trans h1
  case qc3 =>
    intro u hu
    obtain ⟨j, hj⟩ := List.mem_iff_getElem?.1 hu
    obtain ⟨_, rfl⟩ := rowC_at hj
    rfl
  case qc4 => unfold maxLen; omega
  case qc5 => omega
  case qc6 => simp
  intro v' w1 hown hgrow hnil
  go_wp2
  go_ret
  have h2 : w1.ownsRow w.heap.size 99 1 v' d (rowC S d) := by have := hown; simpa using this
  obtain ⟨g, c', rfl, h3, h4⟩ := row_of_owns h2 hd0
  exact ⟨g, c', rfl, h3, h4, ((Below.refl _ w).alloc (Nat.le_refl _) _).grown hgrow (by simp) (by intro k hk; simp [Value.ownBlock] at hk; omega)⟩
def andS (S T : Nat → Bool) (i : Nat) : Nat → Bool := fun q => S q && (T q || !decide (q / 64 < i))
def notS (S T : Nat → Bool) (i : Nat) : Nat → Bool := fun q => S q && !(T q && decide (q / 64 < i))
set_option maxRecDepth 100000 in
set_option maxHeartbeats 4000000 in
theorem partedRow_any (b o d c b2 o2 c2 : Nat) (S T : Nat → Bool) (w : World) (hd0 : 0 < d) (hd : d ≤ 10000) (hR : RowAt w b o d S) (hT : RowAt w b2 o2 d T) : Calls Tryd.prog 78 #[rowV b o d c, rowV b2 o2 d c2] w fun r w' => ∃ g1 c1 g2 c2', r = .returned (.tuple #[rowV g1 0 d c1, rowV g2 0 d c2']) ∧ RowAt w' g1 0 d (fun q => S q && T q) ∧ RowAt w' g2 0 d (fun q => S q && !T q) ∧ g1 ≠ g2 ∧ w.heap.size ≤ g1 ∧ w.heap.size ≤ g2 ∧ Below w.heap.size w w' := by
  have hC1 := cloneRow_any b o d c S w hd0 hd hR
  have HC1 : Hid _ := hC1
  have HR : Hid (RowAt w b o d S ∧ RowAt w b2 o2 d T) := And.intro hR hT
  clear hR hT hC1
  unfold rowV at HC1 ⊢
  go_enter Tryd.func78, Tryd.ntmps78
  go_wp2_with fail
  refine Calls.mono HC1.out ?_
  rintro r w1 ⟨g1, c1, rfl, hR1, hu1, hb1⟩
  have hC2 := cloneRow_any b o d c S w1 hd0 hd (HR.out.1.below hb1)
  have H1 : Hid (RowAt w1 g1 0 d S ∧ w.heap.size ≤ g1 ∧ Below w.heap.size w w1) := ⟨hR1, hu1, hb1⟩
  have HC2 : Hid _ := hC2
  clear hR1 hu1 hb1 hC2 HC1
  unfold rowV at HC2
  go_wp2_with fail
  refine Calls.mono HC2.out ?_
  rintro r w2 ⟨g2, c2', rfl, hR2, hu2, hb2⟩
  have hne : g1 ≠ g2 := by have := H1.out.1.lt; omega
  have H2 : Hid (RowAt w2 g1 0 d S ∧ RowAt w2 g2 0 d S ∧ RowAt w2 b2 o2 d T ∧ w.heap.size ≤ g1 ∧ w.heap.size ≤ g2 ∧ Below w.heap.size w w2) :=
    ⟨H1.out.1.below hb2, hR2, (HR.out.2.below H1.out.2.2).below hb2, H1.out.2.1, Nat.le_trans H1.out.2.2.size hu2, H1.out.2.2.trans (hb2.mono H1.out.2.2.size)⟩
  have HT : b2 < w.heap.size := HR.out.2.lt
  clear hR2 hu2 hb2 HC2 H1 HR
  go_wp2_with fail
  go_loopg [16] d (fun k iv wr => ∃ i : Nat, k = d - i ∧ i ≤ d ∧ iv = .int .i64 i ∧ RowAt wr g1 0 d (andS S T i) ∧ RowAt wr g2 0 d (notS S T i) ∧ Kept (fun g => g = g1 ∨ g = g2) w2 wr)
  case atStart => exact ⟨0, rfl, Nat.zero_le _, rfl, H2.out.1.congr fun q _ => by simp [andS], H2.out.2.1.congr fun q _ => by simp [notS], Kept.refl _ _⟩
  case round =>
    obtain ⟨i, rfl, hi, rfl, hA, hB, hK⟩ := hrel
    by_cases hlt : i < d
    · have hB2 := H2.out.2.2.1.kept hK (by have := H2.out.2.2.2.1; have := H2.out.2.2.2.2.1; omega)
      have c0 := hA.cell hlt
      have c1 := hB.cell hlt
      have c3 := hB2.cell hlt
      rw [Nat.zero_add] at c0 c1
      have f0 := hA.free i
      have f1 := hB.free i
      have h0 : (0 : Int) ≤ (i : Int) := by omega
      have h1 : (i : Int) < (d : Int) := by omega
      have HA : Hid (RowAt wr g1 0 d (andS S T i) ∧ RowAt wr g2 0 d (notS S T i) ∧ Kept (fun g => g = g1 ∨ g = g2) w2 wr) := ⟨hA, hB, hK⟩
      clear hA hB hK hB2
      go_wp2_with (simp only [Br.b_and, Br.wd_andNot])
      go_roundg (d - (i + 1))
      case measure => omega
      case rel =>
        have e1 : Br.wd (fun q => andS S T i q && T q) i = Br.wd (andS S T (i + 1)) i := Br.wd_congr fun q hq => by
          have e2 : decide (q / 64 < i) = false := by simp; omega
          have e3 : decide (q / 64 < i + 1) = true := by simp; omega
          simp [andS, e2, e3]
        have e4 : Br.wd (fun q => notS S T i q && !T q) i = Br.wd (notS S T (i + 1)) i := Br.wd_congr fun q hq => by
          have e2 : decide (q / 64 < i) = false := by simp; omega
          have e3 : decide (q / 64 < i + 1) = true := by simp; omega
          simp [notS, e2, e3]
        rw [e1, e4]
        have p1 := HA.out.1.put hlt (andS S T (i + 1)) fun q hq => by
          have : decide (q / 64 < i + 1) = decide (q / 64 < i) := by simp only [decide_eq_decide]; omega
          simp only [andS, this]
        rw [Nat.zero_add] at p1
        have k1 := Kept.setCell wr g1 i (.int .u64 (Br.wd (andS S T (i + 1)) i : Nat))
        have p2 := (HA.out.2.1.kept k1 fun e => hne e.symm).put hlt (notS S T (i + 1)) fun q hq => by
          have : decide (q / 64 < i + 1) = decide (q / 64 < i) := by simp only [decide_eq_decide]; omega
          simp only [notS, this]
        rw [Nat.zero_add] at p2
        have k2 := Kept.setCell (wr.setCell ⟨g1, i, none⟩ (.int .u64 (Br.wd (andS S T (i + 1)) i : Nat))) g2 i (.int .u64 (Br.wd (notS S T (i + 1)) i : Nat))
        exact ⟨i + 1, rfl, by omega, by go_num, p1.kept k2 hne, p2, HA.out.2.2.trans ((k1.mono fun _ _ h => .inl h).trans (k2.mono fun _ _ h => .inr h))⟩
    · obtain rfl : i = d := by omega
      have h1 : ¬ (i : Int) < (i : Int) := by omega
      have HA : Hid (RowAt wr g1 0 i (andS S T i) ∧ RowAt wr g2 0 i (notS S T i) ∧ Kept (fun g => g = g1 ∨ g = g2) w2 wr) := ⟨hA, hB, hK⟩
      clear hA hB hK
      go_wp2_with fail
      go_ret2
      have k4 := H2.out.2.2.2.2.1
      have k3 := H2.out.2.2.2.1
      refine ⟨g1, _, g2, ⟨_, rfl⟩, HA.out.1.congr fun q hq => ?_, HA.out.2.1.congr fun q hq => ?_, hne, k3, k4, H2.out.2.2.2.2.2.trans (HA.out.2.2.below H2.out.2.2.2.2.2.size fun k hk => by rcases hk with rfl | rfl <;> omega)⟩
      · simp [andS, hq]
      · simp [notS, hq]
end
end Go.Proofs.YtladdlkfnfdhaaaDoor
