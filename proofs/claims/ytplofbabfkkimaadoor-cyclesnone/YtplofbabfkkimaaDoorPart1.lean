/- Texts of this claim, joined: TsPure, TsMem, TsNum, TsClose0, TsPath, TsAhead0, TsInv, TsPass, TsLeave, TsAbs, TsOpen. -/
import Derived.Test.YtplofbabfkkimaaDoorPart0
import Derived.BigRegion
/- Cycles of silent steps by one walk: the walk as a plain state, and what always stands. Nothing of the program is in it. -/
namespace Go.Proofs.YtplofbabfkkimaaDoor.Ts
/-- Steps, none or more. -/
inductive Rt (out : Nat → List Nat) : Nat → Nat → Prop
  | refl (v : Nat) : Rt out v v
  | step {u v w : Nat} : Rt out u v → w ∈ out v → Rt out u w
theorem Rt.trans {out : Nat → List Nat} {a b c : Nat} (h : Rt out a b) (k : Rt out b c) : Rt out a c := by
  induction k with
  | refl => exact h
  | step _ hw ih => exact ih.step hw
theorem Rt.one {out : Nat → List Nat} {a b : Nat} (h : b ∈ out a) : Rt out a b := (Rt.refl a).step h
/-- From a set that steps do not leave, no steps leave it. -/
theorem Rt.stay {out : Nat → List Nat} {P : Nat → Prop} (hP : ∀ v, P v → ∀ t ∈ out v, P t) {a b : Nat} (h : Rt out a b) (ha : P a) : P b := by
  induction h with
  | refl => exact ha
  | step _ hw ih => exact hP _ ih _ hw
/-- The walk: its path (the last state first, each with the number of its steps that are gone), how many states it has come to, of each state its number, its low, its class (-1: none). -/
structure St where
  path : List (Nat × Nat)
  cnt : Int
  num : Nat → Int
  low : Nat → Int
  cls : Nat → Int
/-- Open: it has a number, and no class. -/
def St.op (s : St) (v : Nat) : Prop := 0 ≤ s.num v ∧ s.cls v = -1
def St.on (s : St) (v : Nat) : Prop := ∃ i, (v, i) ∈ s.path
/-- How many of a state's steps are gone. -/
def St.gone (s : St) (out : Nat → List Nat) (v j : Nat) : Prop := j < (out v).length ∧ ∀ i, (v, i) ∈ s.path → j < i
/-- What always stands. (pd: the state from which the walk has just come back, if its step was not gone again yet.) -/
structure Inv (n : Nat) (out : Nat → List Nat) (s : St) (pd : Nat → Prop) : Prop where
  rng : ∀ v, 0 ≤ s.num v → v < n
  cnt : ∀ v, s.num v < s.cnt
  cnt0 : 0 ≤ s.cnt
  neg : ∀ v, s.num v = -1 ∨ 0 ≤ s.num v
  inj : ∀ u v, 0 ≤ s.num u → s.num u = s.num v → u = v
  clsn : ∀ v, s.cls v ≠ -1 → 0 ≤ s.num v
  pth : s.path.Pairwise fun x y => s.num y.1 < s.num x.1
  pop : ∀ x ∈ s.path, s.op x.1 ∧ x.2 ≤ (out x.1).length
  lown : ∀ v, s.op v → s.low v ≤ s.num v
  lowr : ∀ v, s.op v → ∃ u, s.op u ∧ s.num u = s.low v ∧ Rt out v u
  edge : ∀ v, s.op v → ∀ j t, s.gone out v j → (out v)[j]? = some t → 0 ≤ s.num t ∧ (s.cls t = -1 → s.low v ≤ s.num t)
  shut : ∀ v, s.cls v ≠ -1 → ∀ t ∈ out v, s.cls t ≠ -1
  cyc : ∀ u v, s.cls u ≠ -1 → s.cls v ≠ -1 → (s.cls u = s.cls v ↔ Rt out u v ∧ Rt out v u)
  root : ∀ v, s.cls v ≠ -1 → ∃ u : Nat, s.cls v = (u : Int) ∧ s.cls u ≠ -1 ∧ Rt out u v ∧ Rt out v u
  down : ∀ x ∈ s.path, ∀ v, s.op v → s.num x.1 ≤ s.num v → Rt out x.1 v
  off : ∀ v, s.op v → ¬ s.on v → s.low v < s.num v
  lows : ∀ v, s.op v → ¬ s.on v → ∃ x ∈ s.path, s.num x.1 < s.num v ∧ (∀ y ∈ s.path, s.num y.1 < s.num v → s.num y.1 ≤ s.num x.1) ∧ (s.low x.1 ≤ s.low v ∨ (s.path.head? = some x ∧ ∃ c, pd c ∧ s.op c ∧ (out x.1)[x.2]? = some c ∧ s.low c ≤ s.low v))
  link : ∀ (x y : Nat × Nat) (r : List (Nat × Nat)) (l : List (Nat × Nat)), s.path = l ++ x :: y :: r → (out y.1)[y.2]? = some x.1
/-- The walk comes to a state. -/
def St.enter (s : St) (v : Nat) : St := ⟨(v, 0) :: s.path, s.cnt + 1, fun u => if u = v then s.cnt else s.num u, fun u => if u = v then s.cnt else s.low u, s.cls⟩
/-- A step is gone that leads to a state that has a number. -/
def St.pass (s : St) (v i t : Nat) (r : List (Nat × Nat)) : St := ⟨(v, i + 1) :: r, s.cnt, s.num, fun u => if u = v ∧ s.cls t = -1 then min (s.low v) (s.low t) else s.low u, s.cls⟩
/-- The walk leaves a state; its cycle is whole, or not. -/
def St.leave (s : St) (v : Nat) (r : List (Nat × Nat)) : St := ⟨r, s.cnt, s.num, s.low, fun u => if s.num v ≤ s.low v ∧ s.num v ≤ s.num u ∧ s.cls u = -1 then (v : Int) else s.cls u⟩
theorem cls_or {s : St} {v : Nat} (hv : 0 ≤ s.num v) : s.op v ∨ s.cls v ≠ -1 := by
  by_cases hc : s.cls v = -1
  · exact .inl ⟨hv, hc⟩
  · exact .inr hc
/-- An open state's number is its own. -/
theorem Inv.head {n : Nat} {out : Nat → List Nat} {s : St} {pd : Nat → Prop} (h : Inv n out s pd) {v i : Nat} {r : List (Nat × Nat)} (hp : s.path = (v, i) :: r) : s.op v ∧ ∀ x ∈ r, s.num x.1 < s.num v := by
  refine ⟨(h.pop (v, i) (by rw [hp]; exact List.mem_cons_self)).1, fun x hx => ?_⟩
  have h1 := h.pth
  rw [hp] at h1
  exact (List.pairwise_cons.1 h1).1 x hx
theorem Inv.on_head {n : Nat} {out : Nat → List Nat} {s : St} {pd : Nat → Prop} (h : Inv n out s pd) {v i : Nat} {r : List (Nat × Nat)} (hp : s.path = (v, i) :: r) {j : Nat} (hj : (v, j) ∈ s.path) : j = i := by
  rw [hp] at hj
  rcases List.mem_cons.1 hj with e | e
  · exact (Prod.mk.inj e).2
  · have := (h.head hp).2 _ e
    simp at this
theorem Inv.start (n : Nat) (out : Nat → List Nat) {pd : Nat → Prop} : Inv n out ⟨[], 0, fun _ => -1, fun _ => 0, fun _ => -1⟩ pd where
  rng := fun v h => by simp at h
  cnt := fun v => by simp
  cnt0 := Int.le_refl _
  neg := fun v => .inl rfl
  inj := fun u v h => by simp at h
  clsn := fun v h => absurd rfl h
  pth := .nil
  pop := fun x h => by simp at h
  lown := fun v h => by simp [St.op] at h
  lowr := fun v h => by simp [St.op] at h
  edge := fun v h => by simp [St.op] at h
  shut := fun v h => absurd rfl h
  cyc := fun u v h => absurd rfl h
  root := fun v h => absurd rfl h
  down := fun x h => by simp at h
  off := fun v h => by simp [St.op] at h
  lows := fun v h => by simp [St.op] at h
  link := fun x y r l h => by simp at h
end Go.Proofs.YtplofbabfkkimaaDoor.Ts
/- The walk in memory: its box, its path, its lists of numbers. -/
namespace Go.Proofs.YtplofbabfkkimaaDoor.Ts
open Go.RowKit Go.Maps
/-- What the walk's fields hold. (ps: the path; of each entry the state, the stage, the step.) -/
structure Wk where
  vs : Value
  vp : Value
  vo : Value
  cnt : Int
  vn : Value
  vl : Value
  vc : Value
  ps : List (Nat × Nat × Nat)
  os : List Int
  ns : List Int
  ls : List Int
  cs : List Int
def Wk.L (x : Wk) : List (Value × List Int) := [(x.vo, x.os), (x.vn, x.ns), (x.vl, x.ls), (x.vc, x.cs)]
def pC (ps : List (Nat × Nat × Nat)) : List Value := ps.flatMap fun p => [.int .i64 (p.1 : Int), .int .i64 (p.2.1 : Int), .int .i64 (p.2.2 : Int)]
theorem pC_length (ps : List (Nat × Nat × Nat)) : (pC ps).length = ps.length * 3 := by
  unfold pC
  induction ps with
  | nil => rfl
  | cons p r ih => rw [List.flatMap_cons, List.length_append, ih, List.length_cons]; simp; omega
theorem pC_snoc (ps : List (Nat × Nat × Nat)) (p : Nat × Nat × Nat) : pC (ps ++ [p]) = pC ps ++ [.int .i64 (p.1 : Int), .int .i64 (p.2.1 : Int), .int .i64 (p.2.2 : Int)] := by simp [pC]
theorem pC_at (ps : List (Nat × Nat × Nat)) (i : Nat) (p : Nat × Nat × Nat) (h : ps[i]? = some p) : (pC ps)[i * 3]? = some (.int .i64 (p.1 : Int)) ∧ (pC ps)[i * 3 + 1]? = some (.int .i64 (p.2.1 : Int)) ∧ (pC ps)[i * 3 + 2]? = some (.int .i64 (p.2.2 : Int)) := by
  induction ps generalizing i with
  | nil => simp at h
  | cons q r ih =>
    have e : pC (q :: r) = [.int .i64 (q.1 : Int), .int .i64 (q.2.1 : Int), .int .i64 (q.2.2 : Int)] ++ pC r := by simp [pC]
    rw [e]
    cases i with
    | zero =>
      simp only [List.getElem?_cons_zero, Option.some.injEq] at h
      subst h
      exact ⟨rfl, rfl, rfl⟩
    | succ i =>
      rw [List.getElem?_cons_succ] at h
      obtain ⟨h1, h2, h3⟩ := ih i h
      refine ⟨?_, ?_, ?_⟩
      · rw [List.getElem?_append_right (by simp; omega), ← h1]; congr 1; simp; omega
      · rw [List.getElem?_append_right (by simp; omega), ← h2]; congr 1; simp; omega
      · rw [List.getElem?_append_right (by simp; omega), ← h3]; congr 1; simp; omega
/-- The blocks of the walk, its own box aside. -/
def Wk.foot (x : Wk) (b : Nat) : Prop := x.vp.ownBlock = some b ∨ Foot x.L b
structure WkM (w : World) (B r : Nat) (x : Wk) : Prop where
  box : w.heap[r]? = some (.cells #[x.vs, x.vp, x.vo, .int .i64 x.cnt, x.vn, x.vl, x.vc] 91 (0, 0))
  pa : w.ownsRow B 111 3 x.vp x.ps.length (pC x.ps)
  q : QueAll w B x.L
  up : B ≤ r
theorem WkM.r_foot {w : World} {B r : Nat} {x : Wk} (h : WkM w B r x) : ¬ x.foot r := fun hf => by
  rcases hf with hf | hf
  · exact own_bk h.pa h.box (by decide) hf
  · obtain ⟨c2, hc⟩ := h.q.typed hf
    have hb := h.box
    rw [hb] at hc
    injection hc with e
    injection e with _ e
    exact absurd e (by decide)
theorem WkM.path_list {w : World} {B r : Nat} {x : Wk} (h : WkM w B r x) {b : Nat} (h1 : x.vp.ownBlock = some b) : ¬ Foot x.L b := fun hf => by
  obtain ⟨c2, hc⟩ := h.q.typed hf
  exact own_bk h.pa hc (by decide) h1
theorem WkM.foot_lt {w : World} {B r : Nat} {x : Wk} (h : WkM w B r x) {b : Nat} (hb : x.foot b) : B ≤ b ∧ b < w.heap.size := hb.elim (fun e => h.pa.lt b e) fun e => h.q.lt e
theorem WkM.kept {w w' : World} {B r : Nat} {x : Wk} {F : Nat → Prop} (h : WkM w B r x) (hk : Kept F w w') (hr : ¬ F r) (hF : ∀ b, x.foot b → ¬ F b) : WkM w' B r x :=
  ⟨(hk.block r (t_lt h.box) hr).trans h.box, own_up h.pa hk fun b hb => hF b (.inl hb), h.q.kept hk fun b hb => hF b (.inr hb), h.up⟩
theorem WkM.below {w w' : World} {B r : Nat} {x : Wk} (h : WkM w B r x) (hb : Below w.heap.size w w') : WkM w' B r x := h.kept (F := fun _ => False) (Kept.of_below hb) (fun h => h) fun _ _ h => h
/-- How far the walk has come: its blocks are those of before, or new. -/
structure Grew (w w' : World) (r : Nat) (x x' : Wk) : Prop where
  kp : Kept (fun b => b = r ∨ x.foot b) w w'
  ft : ∀ b, x'.foot b → x.foot b ∨ w.heap.size ≤ b
theorem Grew.refl (w : World) (r : Nat) (x : Wk) : Grew w w r x x := ⟨Kept.refl _ _, fun _ h => .inl h⟩
theorem Grew.trans {w w1 w2 : World} {r : Nat} {x x1 x2 : Wk} (h : Grew w w1 r x x1) (k : Grew w1 w2 r x1 x2) : Grew w w2 r x x2 :=
  ⟨h.kp.trans2 k.kp fun b hb => by
    rcases hb with hb | hb
    · exact .inl (.inl hb)
    · exact (h.ft b hb).imp .inr id, fun b hb => by
    rcases k.ft b hb with h1 | h1
    · exact h.ft b h1
    · have := h.kp.size; exact .inr (by omega)⟩
theorem Grew.below {w w1 w2 : World} {r : Nat} {x x1 : Wk} (h : Grew w w1 r x x1) (hb : Below w1.heap.size w1 w2) : Grew w w2 r x x1 := ⟨h.kp.trans (Kept.of_below hb), h.ft⟩
/-- One of the lists stands anew, at its place or in new memory. -/
theorem WkM.parts {w w1 : World} {B r k : Nat} {x : Wk} {v v' : Value} {zs zs' : List Int} (h : WkM w B r x) (hL : x.L[k]? = some (v, zs)) (hk : Kept (fun b => v.ownBlock = some b) w w1) (hq : Que w1 B v' zs') (hat : v'.ownBlock = v.ownBlock ∨ ∀ b, v'.ownBlock = some b → w.heap.size ≤ b) :
    w1.heap[r]? = w.heap[r]? ∧ w1.ownsRow B 111 3 x.vp x.ps.length (pC x.ps) ∧ QueAll w1 B (x.L.set k (v', zs')) ∧ (∀ b, Foot (x.L.set k (v', zs')) b → b ≠ r) ∧ (∀ b, Foot (x.L.set k (v', zs')) b → Foot x.L b ∨ w.heap.size ≤ b) := by
  have hm : (v, zs) ∈ x.L := List.mem_of_getElem? hL
  have hfv : ∀ b, v.ownBlock = some b → Foot x.L b := fun b hb => ⟨_, hm, hb⟩
  have hnew : ∀ b, Foot (x.L.set k (v', zs')) b → Foot x.L b ∨ w.heap.size ≤ b := fun b hb => by
    rcases foot_set hb with h1 | h1
    · exact .inl h1
    · rcases hat with h2 | h2
      · exact .inl (hfv b (by rw [← h2]; exact h1))
      · exact .inr (h2 b h1)
  refine ⟨hk.block r (t_lt h.box) fun e => h.r_foot (.inr (hfv r e)), own_up h.pa hk fun b hb e => h.path_list hb (hfv b e), h.q.put hL hk hq hat, fun b hb e => ?_, hnew⟩
  rcases hnew b hb with h1 | h1
  · exact h.r_foot (.inr (by rw [← e]; exact h1))
  · have := t_lt h.box; omega
/-- A number of one of the lists is another now. -/
theorem WkM.set {w : World} {B r k g off n cap i : Nat} {x x' : Wk} {zs : List Int} (h : WkM w B r x) (hL : x.L[k]? = some (.slice (some ⟨g, off, none⟩) n cap, zs)) (hi : i < zs.length) (z : Int) (hx : x'.L = x.L.set k (.slice (some ⟨g, off, none⟩) n cap, zs.set i z)) (hb : #[x'.vs, x'.vp, x'.vo, .int .i64 x'.cnt, x'.vn, x'.vl, x'.vc] = #[x.vs, x.vp, x.vo, .int .i64 x.cnt, x.vn, x.vl, x.vc]) (hp : x'.vp = x.vp ∧ x'.ps = x.ps) :
    WkM (w.setCell ⟨g, off + i, none⟩ (.int .i64 z)) B r x' ∧ Grew w (w.setCell ⟨g, off + i, none⟩ (.int .i64 z)) r x x' := by
  have hk := Kept.setCell w g (off + i) (.int .i64 z)
  have hf : Foot x.L g := ⟨_, List.mem_of_getElem? hL, rfl⟩
  obtain ⟨h1, h2, h3, h4, h5⟩ := h.parts hL (hk.mono fun b _ e => by rw [e]; rfl) (que_set (h.q.q k _ hL) hi z) (.inl rfl)
  refine ⟨⟨?_, ?_, ?_, h.up⟩, ⟨hk.mono fun b _ e => .inr (.inr (by rw [e]; exact hf)), fun b hb2 => ?_⟩⟩
  · rw [h1, hb]; exact h.box
  · rw [hp.1, hp.2]; exact h2
  · rw [hx]; exact h3
  · rcases hb2 with hb2 | hb2
    · exact .inl (.inl (by rw [← hp.1]; exact hb2))
    · rw [hx] at hb2
      exact (h5 b hb2).imp .inr id
/-- The open list stands anew, and the box tells it. -/
theorem WkM.putOpen {w w1 : World} {B r : Nat} {x : Wk} {v' : Value} {zs' : List Int} (h : WkM w B r x) (hk : Kept (fun b => x.vo.ownBlock = some b) w w1) (hq : Que w1 B v' zs') (hat : v'.ownBlock = x.vo.ownBlock ∨ ∀ b, v'.ownBlock = some b → w.heap.size ≤ b) :
    WkM (w1.setCell ⟨r, 2, none⟩ v') B r { x with vo := v', os := zs' } ∧ Grew w (w1.setCell ⟨r, 2, none⟩ v') r x { x with vo := v', os := zs' } := by
  obtain ⟨h1, h2, h3, h4, h5⟩ := h.parts (k := 0) rfl hk hq hat
  refine ⟨⟨box_put (h1.trans h.box) v', own_up h2 (Kept.setCell w1 r 2 v') fun b hb e => h.r_foot (.inl (by rw [← e]; exact hb)), qall_box h3 h4 v', h.up⟩, ⟨(hk.mono fun b _ e => .inr (.inr ⟨(x.vo, x.os), by simp [Wk.L], e⟩)).trans ((Kept.setCell w1 r 2 v').mono fun b _ e => .inl e), fun b hb => ?_⟩⟩
  rcases hb with hb | hb
  · exact .inl (.inl hb)
  · exact (h5 b hb).imp .inr id
/-- The count is another now. -/
theorem WkM.putCnt {w : World} {B r : Nat} {x : Wk} (h : WkM w B r x) (z : Int) : WkM (w.setCell ⟨r, 3, none⟩ (.int .i64 z)) B r { x with cnt := z } ∧ Grew w (w.setCell ⟨r, 3, none⟩ (.int .i64 z)) r x { x with cnt := z } :=
  ⟨⟨box_put h.box _, own_up h.pa (Kept.setCell w r 3 _) fun b hb e => h.r_foot (.inl (by rw [← e]; exact hb)), h.q.kept (Kept.setCell w r 3 _) fun b hb e => h.r_foot (.inr (by rw [← e]; exact hb)), h.up⟩, ⟨(Kept.setCell w r 3 _).mono fun b _ e => .inl e, fun b hb => .inl hb⟩⟩
end Go.Proofs.YtplofbabfkkimaaDoor.Ts
/- tauscc: contract of the walk's number. -/
namespace Go.Proofs.YtplofbabfkkimaaDoor.Ts
open Go.RowKit Go.Maps
attribute [local go_sem ↓] Go.wp_at_zero Go.wp_at_succ
def Wk.numd (x : Wk) (v : Nat) (vo : Value) : Wk := { x with vo := vo, os := x.os ++ [(v : Int)], cnt := x.cnt + 1, ns := x.ns.set v x.cnt, ls := x.ls.set v x.cnt }
set_option linter.unusedSimpArgs false in
set_option maxRecDepth 100000 in
set_option maxHeartbeats 4000000 in
theorem number_any (B r : Nat) (x : Wk) (v : Nat) (w : World) (hM : WkM w B r x) (hv : v < x.ns.length) (hl : x.ls.length = x.ns.length) (hc : 0 ≤ x.cnt ∧ x.cnt ≤ 100000) (ho : x.os.length ≤ 100000) :
    Calls Tryd.prog 65 #[.pointer (some ⟨r, 0, none⟩), .int .i64 v] w fun e w' => e = .returned (.tuple #[]) ∧ ∃ vo, WkM w' B r (x.numd v vo) ∧ Grew w w' r x (x.numd v vo) := by
  obtain ⟨_, _, _, c3, c4, _, _⟩ := seven_cells hM.box
  obtain ⟨z0, hz0⟩ : ∃ z, x.ns[v]? = some z := ⟨_, List.getElem?_eq_getElem hv⟩
  obtain ⟨z1, hz1⟩ : ∃ z, x.ls[v]? = some z := ⟨_, List.getElem?_eq_getElem (by omega)⟩
  obtain ⟨gn, on, cn, hvn, _, cnn, fnn⟩ := que_cell (hM.q.q 1 (x.vn, x.ns) rfl) hz0
  obtain ⟨gl, ol, cl, hvl, _, _, _⟩ := que_cell (hM.q.q 2 (x.vl, x.ls) rfl) hz1
  simp only at hvn hvl
  obtain ⟨N, hN⟩ : ∃ N, N = x.ns.length := ⟨_, rfl⟩
  obtain ⟨ct, hct⟩ : ∃ ct, ct = x.cnt := ⟨_, rfl⟩
  rw [hl] at hvl
  rw [← hN] at hvl hvn
  rw [hvn] at c4
  rw [← hct] at c3
  have p0 : (0 : Int) ≤ (v : Int) := by omega
  have p1 : (v : Int) < (N : Int) := by omega
  have p2 : IntKind.i64.wrap (ct + 1) = ct + 1 := by rw [IntKind.wrap_i64]; omega
  have H : Hid _ := And.intro hM (And.intro hv (And.intro hl (And.intro ho (And.intro hvn (And.intro hvl (And.intro hN hct))))))
  have H1 : Hid _ := hz1
  clear hM hv hl ho hvn hvl hN hct hc hz0 hz1
  go_enter Tryd.func65, Tryd.ntmps65
  go_upto_region 0 with fail
  go_region
  obtain ⟨w1, hw1⟩ : ∃ w1, w1 = (w.setCell ⟨gn, on + v, none⟩ (.int .i64 ct)).drew := ⟨_, rfl⟩
  rw [← hw1]
  obtain ⟨x1, hx1⟩ : ∃ x1 : Wk, x1 = { x with ns := x.ns.set v x.cnt } := ⟨_, rfl⟩
  have h1 : WkM w1 B r x1 ∧ Grew w w1 r x x1 := by
    obtain ⟨e1, e2⟩ := H.out.1.set (x' := x1) (k := 1) (g := gn) (off := on) (n := N) (cap := cn) (zs := x.ns) (i := v) (by show some (x.vn, x.ns) = _; rw [H.out.2.2.2.2.1]) H.out.2.1 x.cnt (by rw [hx1]; show [_, _, _, _] = [_, _, _, _]; simp only; rw [H.out.2.2.2.2.1]) (by rw [hx1]) ⟨by rw [hx1], by rw [hx1]⟩
    rw [hw1, H.out.2.2.2.2.2.2.2]
    exact ⟨e1.below (Below.refl _ _).drew, e2.below (Below.refl _ _).drew⟩
  have hl1 : x1.ls[v]? = some z1 := by rw [hx1]; exact H1.out
  have hv1 : x1.vl = .slice (some ⟨gl, ol, none⟩) N cl := by rw [hx1]; exact H.out.2.2.2.2.2.1
  obtain ⟨_, _, _, d3, _, d5, _⟩ := seven_cells h1.1.box
  obtain ⟨g', o', c', hv', _, dll, dfl⟩ := que_cell (h1.1.q.q 2 (x1.vl, x1.ls) rfl) hl1
  simp only at hv'
  rw [hv1] at hv' d5
  injection hv' with e1 e2 e3
  injection e1 with e1
  injection e1 with e4 e5
  subst e4; subst e5
  rw [show x1.cnt = ct by rw [hx1]; exact H.out.2.2.2.2.2.2.2.symm] at d3
  have H2 : Hid _ := And.intro h1 (And.intro hx1 (And.intro hv1 e3))
  clear h1 hx1 hv1 hl1 e2 e3 hw1 c3 c4 cnn fnn
  go_upto_region 1 with fail
  go_region
  obtain ⟨w2, hw2⟩ : ∃ w2, w2 = (w1.setCell ⟨gl, ol + v, none⟩ (.int .i64 ct)).drew := ⟨_, rfl⟩
  rw [← hw2]
  obtain ⟨x2, hx2⟩ : ∃ x2 : Wk, x2 = { x1 with ls := x1.ls.set v x.cnt } := ⟨_, rfl⟩
  have h2 : WkM w2 B r x2 ∧ Grew w w2 r x x2 := by
    obtain ⟨e1, e2⟩ := H2.out.1.1.set (x' := x2) (k := 2) (g := gl) (off := ol) (n := N) (cap := cl) (zs := x1.ls) (i := v) (by show some (x1.vl, x1.ls) = _; rw [H2.out.2.2.1]) (by rw [H2.out.2.1]; show v < x.ls.length; rw [H.out.2.2.1]; exact H.out.2.1) x.cnt (by rw [hx2]; show [_, _, _, _] = [_, _, _, _]; simp only; rw [H2.out.2.2.1]) (by rw [hx2]) ⟨by rw [hx2], by rw [hx2]⟩
    rw [hw2, H.out.2.2.2.2.2.2.2]
    exact ⟨e1.below (Below.refl _ _).drew, H2.out.1.2.trans (e2.below (Below.refl _ _).drew)⟩
  obtain ⟨_, _, _, f3, _, _, _⟩ := seven_cells h2.1.box
  rw [show x2.cnt = ct by rw [hx2, H2.out.2.1]; exact H.out.2.2.2.2.2.2.2.symm] at f3
  have ff := blk_free h2.1.box 3
  have H3 : Hid _ := And.intro h2 hx2
  clear h2 hx2 hw2 d3 d5 dll dfl
  go_upto_region 3 with fail
  obtain ⟨w3, hw3⟩ : ∃ w3, w3 = w2.setCell ⟨r, 3, none⟩ (.int .i64 (ct + 1)) := ⟨_, rfl⟩
  rw [← hw3]
  obtain ⟨x3, hx3⟩ : ∃ x3 : Wk, x3 = { x2 with cnt := ct + 1 } := ⟨_, rfl⟩
  have h3 : WkM w3 B r x3 ∧ Grew w w3 r x x3 := by
    obtain ⟨e1, e2⟩ := H3.out.1.1.putCnt (ct + 1)
    rw [hw3, hx3]
    exact ⟨e1, H3.out.1.2.trans e2⟩
  have hvo : x3.vo = x.vo ∧ x3.os = x.os := by rw [hx3, H3.out.2, H2.out.2.1]; exact ⟨rfl, rfl⟩
  obtain ⟨b0, b1, b2, b3, b4, b5, b6⟩ := seven_cells h3.1.box
  have hQ := h3.1.q.q 0 (x3.vo, x3.os) rfl
  obtain ⟨ao, no, co, hoe⟩ := que_slice hQ
  simp only at hoe hQ
  rw [hoe] at b2 hQ
  have hB : B ≤ (w3.alloc (.cells #[.int .i64 (v : Int)] 3)).heap.size := by have := t_lt h3.1.box; have := h3.1.up; rw [World.size_alloc]; omega
  have hlen : x3.os.length ≤ 1000000 := by rw [hvo.2]; have := H.out.2.2.2.1; omega
  have HQ : Hid _ := And.intro hQ (And.intro h3 (And.intro hx3 hoe))
  clear hQ h3 hx3 hoe hvo hw3 f3 ff b0 b1 b3 b4 b5 b6
  go_wp2_with (at_builtin; refine wpList_que_append _ rfl _ _ rfl (.slice ao no co) x3.os B rfl (que_alloc HQ.out.1 _) ⟨w3.heap.size, 0, none⟩ 1 (v : Int) rfl (one_cell _ _) hlen hB ?_; intro vn wn hqn hgn han ha0; clear ha0; obtain ⟨an, nn, cn', rfl⟩ := que_slice hqn; have hkn := grown_alloc hgn; have hbx := (hkn.block r (t_lt HQ.out.2.1.1.box) fun e => HQ.out.2.1.1.r_foot (.inr ⟨(x3.vo, x3.os), by simp [Wk.L], by rw [HQ.out.2.2.2]; exact e⟩)).trans HQ.out.2.1.1.box; have bc := (seven_cells hbx).2.2.1; have bf := blk_free hbx 2; have HN : Hid _ := And.intro hqn (And.intro hkn (que_up han)); clear hqn hgn han hkn hbx)
  go_end0
  have hfin := HQ.out.2.1.1.putOpen (w1 := wn) (v' := .slice an nn cn') (zs' := x3.os ++ [(v : Int)]) (by rw [HQ.out.2.2.2]; exact HN.out.2.1) HN.out.1 (by rw [HQ.out.2.2.2]; exact HN.out.2.2)
  have hx : x.numd v (.slice an nn cn') = { x3 with vo := .slice an nn cn', os := x3.os ++ [(v : Int)] } := by
    rw [HQ.out.2.2.1, H3.out.2, H2.out.2.1, H.out.2.2.2.2.2.2.2]
    rfl
  refine ⟨rfl, .slice an nn cn', ?_, ?_⟩
  · rw [hx]; exact hfin.1
  · rw [hx]; exact HQ.out.2.1.2.trans hfin.2
end Go.Proofs.YtplofbabfkkimaaDoor.Ts
/- Open states get their class: plain facts. -/
namespace Go.Proofs.YtplofbabfkkimaaDoor.Ts
def setAll (cs : List Int) (l : List Nat) (z : Int) : List Int := l.foldr (fun u c => c.set u z) cs
theorem setAll_length (cs : List Int) (l : List Nat) (z : Int) : (setAll cs l z).length = cs.length := by
  induction l with
  | nil => rfl
  | cons u l ih => show ((setAll cs l z).set u z).length = _; rw [List.length_set, ih]
theorem setAll_not (cs : List Int) (l : List Nat) (z : Int) {u : Nat} (h : u ∉ l) : (setAll cs l z)[u]? = cs[u]? := by
  induction l with
  | nil => rfl
  | cons q l ih =>
    show ((setAll cs l z).set q z)[u]? = _
    rw [List.getElem?_set_ne (fun e => h (by rw [e]; exact List.mem_cons_self)), ih fun e => h (List.mem_cons_of_mem _ e)]
theorem setAll_in (cs : List Int) (l : List Nat) (z : Int) {u : Nat} (h : u ∈ l) (hu : u < cs.length) : (setAll cs l z)[u]? = some z := by
  induction l with
  | nil => cases h
  | cons q l ih =>
    show ((setAll cs l z).set q z)[u]? = _
    by_cases e : q = u
    · subst e
      rw [List.getElem?_set_self (by rw [setAll_length]; exact hu)]
    · rw [List.getElem?_set_ne e]
      rcases List.mem_cons.1 h with h1 | h1
      · exact absurd h1.symm e
      · exact ih h1
def cast (l : List Nat) : List Int := l.map fun (u : Nat) => (u : Int)
theorem cast_snoc (l : List Nat) (u : Nat) : cast (l ++ [u]) = cast l ++ [(u : Int)] := by simp [cast]
theorem cast_length (l : List Nat) : (cast l).length = l.length := by simp [cast]
/-- The walk between two states that go from the open list. -/
def Wk.pop (x : Wk) (v : Nat) (rest popped : List Nat) (vo : Value) : Wk := { x with vo := vo, os := cast rest, cs := setAll x.cs popped (v : Int) }
structure ClAt (w wr : World) (B r : Nat) (x : Wk) (v : Nat) (pre post rest popped : List Nat) (vo : Value) : Prop where
  all : rest ++ popped = pre ++ v :: post
  le : pre.length ≤ rest.length
  m : WkM wr B r (x.pop v rest popped vo)
  gw : Grew w wr r x (x.pop v rest popped vo)
theorem ClAt.end {w wr : World} {B r : Nat} {x : Wk} {v : Nat} {pre post rest popped : List Nat} {vo : Value} (h : ClAt w wr B r x v pre post rest popped vo) (he : rest.length = pre.length) : rest = pre ∧ popped = v :: post := List.append_inj h.all he
/-- One more goes. -/
theorem ClAt.more {w wr : World} {B r : Nat} {x : Wk} {v : Nat} {pre post rest popped : List Nat} {vo : Value} (h : ClAt w wr B r x v pre post rest popped vo) (hlt : pre.length < rest.length) : ∃ rest' u, rest = rest' ++ [u] ∧ pre.length ≤ rest'.length ∧ rest' ++ (u :: popped) = pre ++ v :: post := by
  have hl : rest.length - 1 + 1 = rest.length := by omega
  obtain ⟨u, hu⟩ : ∃ u, rest[rest.length - 1]? = some u := ⟨_, List.getElem?_eq_getElem (by omega)⟩
  have e : rest = rest.take (rest.length - 1) ++ [u] := by
    rw [← take_succ_of hu, hl, List.take_length]
  refine ⟨rest.take (rest.length - 1), u, e, by rw [List.length_take]; omega, ?_⟩
  rw [← h.all, show rest.take (rest.length - 1) ++ u :: popped = (rest.take (rest.length - 1) ++ [u]) ++ popped by simp, ← e]
theorem ClAt.in_rest {w wr : World} {B r : Nat} {x : Wk} {v : Nat} {pre post rest popped : List Nat} {vo : Value} (h : ClAt w wr B r x v pre post rest popped vo) (hn : (pre ++ v :: post).Nodup) (hlt : pre.length < rest.length) : v ∉ popped := fun hp => by
  have h1 : (pre ++ v :: post)[pre.length]? = some v := by simp
  rw [← h.all, List.getElem?_append_left hlt] at h1
  rw [← h.all] at hn
  exact (List.nodup_append.1 hn).2.2 v (List.mem_of_getElem? h1) v hp rfl
end Go.Proofs.YtplofbabfkkimaaDoor.Ts
/- The walk's path in memory: the stage and the step of an entry are others now; where silent steps lead. -/
namespace Go.Proofs.YtplofbabfkkimaaDoor.Ts
open Go.RowKit Go.Maps
theorem pC_cons (q : Nat × Nat × Nat) (r : List (Nat × Nat × Nat)) : pC (q :: r) = .int .i64 (q.1 : Int) :: .int .i64 (q.2.1 : Int) :: .int .i64 (q.2.2 : Int) :: pC r := by simp [pC]
theorem pC_set (ps : List (Nat × Nat × Nat)) (i s st k : Nat) (h : ps[i]? = some (s, st, k)) (st' k' : Nat) : (pC ps).set (i * 3 + 1) (.int .i64 (st' : Int)) = pC (ps.set i (s, st', k)) ∧ (pC ps).set (i * 3 + 2) (.int .i64 (k' : Int)) = pC (ps.set i (s, st, k')) := by
  induction ps generalizing i with
  | nil => simp at h
  | cons q r ih =>
    cases i with
    | zero =>
      simp only [List.getElem?_cons_zero, Option.some.injEq] at h
      subst h
      simp only [List.set_cons_zero, pC_cons]
      exact ⟨rfl, rfl⟩
    | succ i =>
      rw [List.getElem?_cons_succ] at h
      obtain ⟨h1, h2⟩ := ih i h
      rw [show (i + 1) * 3 + 1 = i * 3 + 1 + 1 + 1 + 1 by omega, show (i + 1) * 3 + 2 = i * 3 + 2 + 1 + 1 + 1 by omega]
      simp only [List.set_cons_succ, pC_cons]
      rw [h1, h2]
      exact ⟨rfl, rfl⟩
theorem WkM.entry {w : World} {B r i s st k : Nat} {x : Wk} (h : WkM w B r x) (hp : x.ps[i]? = some (s, st, k)) : ∃ gp cap, x.vp = .slice (some ⟨gp, 0, none⟩) x.ps.length cap ∧ x.ps.length ≤ cap ∧ w.cell? ⟨gp, i * 3, none⟩ = some (.int .i64 (s : Int)) ∧ w.cell? ⟨gp, i * 3 + 1, none⟩ = some (.int .i64 (st : Int)) ∧ w.cell? ⟨gp, i * 3 + 2, none⟩ = some (.int .i64 (k : Int)) ∧ ∀ j, w.frozen? ⟨gp, j, none⟩ = false := by
  have hl := (List.getElem?_eq_some_iff.1 hp).1
  obtain ⟨gp, cap, h1, h2⟩ := h.pa.form (by omega)
  have hr := h.pa
  rw [h1] at hr
  have hcap : x.ps.length ≤ cap := by
    rcases hr.2 with ⟨e, _⟩ | ⟨_, _, _, e, _, _, h4, _⟩
    · cases e
    · cases e; exact h4
  obtain ⟨h3, h4, h5⟩ := pC_at x.ps i _ hp
  exact ⟨gp, cap, h1, hcap, (hr.cellAt (i * 3) (by omega)).trans h3, (hr.cellAt (i * 3 + 1) (by omega)).trans h4, (hr.cellAt (i * 3 + 2) (by omega)).trans h5, fun j => hr.frozenAt j⟩
/-- A cell of the path is another now. -/
theorem WkM.setPath {w : World} {B r gp cap j : Nat} {x : Wk} (h : WkM w B r x) (hv : x.vp = .slice (some ⟨gp, 0, none⟩) x.ps.length cap) (u : Value) {ps' : List (Nat × Nat × Nat)} (hl : ps'.length = x.ps.length) (hp : (pC x.ps).set j u = pC ps') :
    WkM (w.setCell ⟨gp, j, none⟩ u) B r { x with ps := ps' } ∧ Grew w (w.setCell ⟨gp, j, none⟩ u) r x { x with ps := ps' } := by
  have hb : x.vp.ownBlock = some gp := by rw [hv]; rfl
  have hr : r ≠ gp := fun e => h.r_foot (.inl (by rw [e]; exact hb))
  refine ⟨⟨(set_other _ _ _ _ _ hr).trans h.box, ?_, h.q.kept (Kept.setCell w gp _ _) fun b hf e => h.path_list hb (by rw [← e]; exact hf), h.up⟩, ⟨(Kept.setCell w gp j u).mono fun b _ e => .inr (.inl (by rw [e]; exact hb)), fun b hf => .inl hf⟩⟩
  have h6 := h.pa
  rw [hv] at h6
  have h7 := (h6.stored j u).1
  rw [hp, ← hl] at h7
  show World.ownsRow _ _ _ _ x.vp _ _
  rw [hv, ← hl]
  exact h7
theorem WkM.setStage {w : World} {B r gp cap i s st k : Nat} {x : Wk} (h : WkM w B r x) (hv : x.vp = .slice (some ⟨gp, 0, none⟩) x.ps.length cap) (hp : x.ps[i]? = some (s, st, k)) (st' : Nat) :
    WkM (w.setCell ⟨gp, i * 3 + 1, none⟩ (.int .i64 (st' : Int))) B r { x with ps := x.ps.set i (s, st', k) } ∧ Grew w (w.setCell ⟨gp, i * 3 + 1, none⟩ (.int .i64 (st' : Int))) r x { x with ps := x.ps.set i (s, st', k) } := h.setPath hv _ (by rw [List.length_set]) (pC_set x.ps i s st k hp st' 0).1
theorem WkM.setStep {w : World} {B r gp cap i s st k : Nat} {x : Wk} (h : WkM w B r x) (hv : x.vp = .slice (some ⟨gp, 0, none⟩) x.ps.length cap) (hp : x.ps[i]? = some (s, st, k)) (k' : Nat) :
    WkM (w.setCell ⟨gp, i * 3 + 2, none⟩ (.int .i64 (k' : Int))) B r { x with ps := x.ps.set i (s, st, k') } ∧ Grew w (w.setCell ⟨gp, i * 3 + 2, none⟩ (.int .i64 (k' : Int))) r x { x with ps := x.ps.set i (s, st, k') } := h.setPath hv _ (by rw [List.length_set]) (pC_set x.ps i s st k hp 0 k').2
/-- Of each state where its silent steps lead; none of it in the walk's own blocks. -/
structure Sil (w : World) (r : Nat) (x : Wk) (n : Nat) (out : Nat → List Nat) (gs os cap : Nat) : Prop where
  vs : x.vs = .slice (some ⟨gs, os, none⟩) n cap
  lt : gs < w.heap.size
  far : gs ≠ r ∧ ¬ x.foot gs
  at_ : ∀ q, q < n → ∃ vq, w.cell? ⟨gs, os + q, none⟩ = some vq ∧ HasI w vq (cast (out q)) ∧ (out q ≠ [] → ∀ b, vq.ownBlock = some b → b ≠ r ∧ ¬ x.foot b)
theorem Sil.grew {w w' : World} {r : Nat} {x x' : Wk} {n : Nat} {out : Nat → List Nat} {gs os cap : Nat} (h : Sil w r x n out gs os cap) (hg : Grew w w' r x x') (hv : x'.vs = x.vs) : Sil w' r x' n out gs os cap := by
  have hf : ∀ b, b < w.heap.size → ¬ x.foot b → ¬ x'.foot b := fun b hb hn hf => by
    rcases hg.ft b hf with h1 | h1
    · exact hn h1
    · omega
  refine ⟨hv.trans h.vs, Nat.lt_of_lt_of_le h.lt hg.kp.size, ⟨h.far.1, hf _ h.lt h.far.2⟩, fun q hq => ?_⟩
  obtain ⟨vq, h1, h2, h3⟩ := h.at_ q hq
  have hne : cast (out q) ≠ [] → out q ≠ [] := fun h e => h (by rw [e]; rfl)
  refine ⟨vq, (World.cell?_of_block (a := ⟨gs, os + q, none⟩) (hg.kp.block gs h.lt fun e => e.elim h.far.1 h.far.2)).trans h1, h2.kept hg.kp fun hn b hb e => e.elim (h3 (hne hn) b hb).1 (h3 (hne hn) b hb).2, fun hn b hb => ⟨(h3 hn b hb).1, hf b (made_far h2 (fun e => hn (by cases ho : out q with
    | nil => rfl
    | cons a l => rw [ho] at e; simp [cast] at e)) hb) (h3 hn b hb).2⟩⟩
end Go.Proofs.YtplofbabfkkimaaDoor.Ts
/- A state's steps are gone one by one: plain facts, and the walk between two of them. -/
namespace Go.Proofs.YtplofbabfkkimaaDoor.Ts
open Go.RowKit Go.Maps
/-- A step that leads to a state that has a number is gone. -/
def pass1 (cs : List Int) (s : Nat) (ls : List Int) (t : Nat) : List Int := if cs[t]? = some (-1) then ls.set s (min (ls[s]?.getD 0) (ls[t]?.getD 0)) else ls
theorem pass1_length (cs : List Int) (s : Nat) (ls : List Int) (t : Nat) : (pass1 cs s ls t).length = ls.length := by
  unfold pass1
  split
  · rw [List.length_set]
  · rfl
theorem passes_length (cs : List Int) (s : Nat) (l : List Nat) (ls : List Int) : (l.foldl (pass1 cs s) ls).length = ls.length := by
  induction l generalizing ls with
  | nil => rfl
  | cons t l ih => rw [List.foldl_cons, ih, pass1_length]
def Wk.gone (x : Wk) (out : Nat → List Nat) (i s st k j : Nat) : Wk := { x with ps := x.ps.set i (s, st, k + j), ls := (((out s).drop k).take j).foldl (pass1 x.cs s) x.ls }
theorem gone_zero (x : Wk) (out : Nat → List Nat) {i s st k : Nat} (h : x.ps[i]? = some (s, st, k)) : x.gone out i s st k 0 = x := by
  unfold Wk.gone
  rw [Nat.add_zero, set_same h]
  rfl
theorem gone_ls (x : Wk) (out : Nat → List Nat) {i s st k j t : Nat} (h : (out s)[k + j]? = some t) : (x.gone out i s st k (j + 1)).ls = pass1 x.cs s (x.gone out i s st k j).ls t := by
  unfold Wk.gone
  simp only
  rw [take_succ_of (x := t) (by rw [List.getElem?_drop]; exact h), List.foldl_append]
  rfl
structure AhAt (w wr : World) (B r : Nat) (x : Wk) (out : Nat → List Nat) (i s st k j : Nat) : Prop where
  le : k + j ≤ (out s).length
  num : ∀ m t, k ≤ m → m < k + j → (out s)[m]? = some t → x.ns[t]? ≠ some (-1)
  m : WkM wr B r (x.gone out i s st k j)
  gw : Grew w wr r x (x.gone out i s st k j)
/-- What ahead tells. -/
def Ahead (e : Ending) (x : Wk) (out : Nat → List Nat) (s k j : Nat) : Prop := (∃ t : Nat, e = .returned (.tuple #[.int .i64 (t : Int), .bool true]) ∧ (out s)[k + j]? = some t ∧ x.ns[t]? = some (-1)) ∨ (e = .returned (.tuple #[.int .i64 0, .bool false]) ∧ k + j = (out s).length)
theorem gone_shut (x : Wk) (out : Nat → List Nat) {i s st k j t : Nat} (h : (out s)[k + j]? = some t) (hc : x.cs[t]? ≠ some (-1)) : x.gone out i s st k (j + 1) = { x.gone out i s st k j with ps := (x.gone out i s st k j).ps.set i (s, st, k + (j + 1)) } := by
  have h1 := gone_ls x out (i := i) (st := st) h
  unfold pass1 at h1
  rw [if_neg hc] at h1
  unfold Wk.gone at h1 ⊢
  simp only at h1 ⊢
  rw [h1, List.set_set]
theorem gone_open (x : Wk) (out : Nat → List Nat) {i s st k j t : Nat} {zs zt : Int} (h : (out s)[k + j]? = some t) (hc : x.cs[t]? = some (-1)) (hs : (x.gone out i s st k j).ls[s]? = some zs) (ht : (x.gone out i s st k j).ls[t]? = some zt) : x.gone out i s st k (j + 1) = { x.gone out i s st k j with ls := (x.gone out i s st k j).ls.set s (min zs zt), ps := (x.gone out i s st k j).ps.set i (s, st, k + (j + 1)) } := by
  have h1 := gone_ls x out (i := i) (st := st) h
  unfold pass1 at h1
  rw [if_pos hc, hs, ht] at h1
  unfold Wk.gone at h1 ⊢
  simp only [Option.getD_some] at h1 ⊢
  rw [h1, List.set_set]
theorem AhAt.next {w wr w2 : World} {B r : Nat} {x x' : Wk} {out : Nat → List Nat} {i s st k j t : Nat} (h : AhAt w wr B r x out i s st k j) (ht : (out s)[k + j]? = some t) (hn : x.ns[t]? ≠ some (-1)) (hm : WkM w2 B r x') (hg : Grew w w2 r x x') (hx : x' = x.gone out i s st k (j + 1)) : AhAt w w2 B r x out i s st k (j + 1) := by
  subst hx
  refine ⟨?_, fun m u h1 h2 h3 => ?_, hm, hg⟩
  · have := (List.getElem?_eq_some_iff.1 ht).1
    omega
  · by_cases e : m = k + j
    · subst e
      rw [ht] at h3
      cases h3
      exact hn
    · exact h.num m u h1 (by omega) h3
theorem AhAt.below {w wr w2 : World} {B r : Nat} {x : Wk} {out : Nat → List Nat} {i s st k j : Nat} (h : AhAt w wr B r x out i s st k j) (hb : Below wr.heap.size wr w2) : AhAt w w2 B r x out i s st k j := ⟨h.le, h.num, h.m.below hb, h.gw.below hb⟩
end Go.Proofs.YtplofbabfkkimaaDoor.Ts
/- What always stands in the walk stays so: it comes to a state, goes a step, leaves a state. -/
namespace Go.Proofs.YtplofbabfkkimaaDoor.Ts
theorem Inv.enter {n : Nat} {out : Nat → List Nat} {s : St} {pd pd' : Nat → Prop} (h : Inv n out s pd) {v : Nat} (hvn : v < n) (hv : s.num v = -1) (hp : s.path = [] ∨ ∃ p i r, s.path = (p, i) :: r ∧ (out p)[i]? = some v) : Inv n out (s.enter v) pd' := by
  have hcv : s.cls v = -1 := Classical.byContradiction fun hc => by have := h.clsn v hc; omega
  have hc0 := h.cnt0
  have hnv : (s.enter v).num v = s.cnt := by simp [St.enter]
  have hnu : ∀ u, u ≠ v → (s.enter v).num u = s.num u := fun u hu => by simp [St.enter, hu]
  have hlv : (s.enter v).low v = s.cnt := by simp [St.enter]
  have hlu : ∀ u, u ≠ v → (s.enter v).low u = s.low u := fun u hu => by simp [St.enter, hu]
  have hcl : ∀ u, (s.enter v).cls u = s.cls u := fun u => rfl
  have hpa : (s.enter v).path = (v, 0) :: s.path := rfl
  have hne : ∀ u, s.op u → u ≠ v := fun u hu e => by rw [e] at hu; have := hu.1; omega
  have hop : ∀ u, (s.enter v).op u → u = v ∨ (u ≠ v ∧ s.op u) := fun u hu => by
    by_cases e : u = v
    · exact .inl e
    · exact .inr ⟨e, by rw [← hnu u e]; exact hu.1, hu.2⟩
  have hop2 : ∀ u, s.op u → (s.enter v).op u := fun u hu => ⟨by rw [hnu u (hne u hu)]; exact hu.1, hu.2⟩
  have hov : (s.enter v).op v := ⟨by rw [hnv]; exact hc0, hcv⟩
  have hxv : ∀ x ∈ s.path, x.1 ≠ v := fun x hx => hne _ (h.pop x hx).1
  have hgone : ∀ u, u ≠ v → ∀ j, (s.enter v).gone out u j → s.gone out u j := fun u hu j hg => ⟨hg.1, fun i hi => hg.2 i (by rw [hpa]; exact List.mem_cons_of_mem _ hi)⟩
  have hlow2 : ∀ u, s.op u → ¬ s.on u → ∃ x ∈ s.path, s.num x.1 < s.num u ∧ (∀ y ∈ s.path, s.num y.1 < s.num u → s.num y.1 ≤ s.num x.1) ∧ s.low x.1 ≤ s.low u := fun u hu hon => by
    obtain ⟨x, hx, h1, h2, h3 | ⟨hh, c, _, hc, ho, _⟩⟩ := h.lows u hu hon
    · exact ⟨x, hx, h1, h2, h3⟩
    · rcases hp with e | ⟨p, i, r, e, hv2⟩
      · rw [e] at hh; cases hh
      · rw [e] at hh
        cases hh
        rw [hv2] at ho
        have e2 : v = c := Option.some.inj ho
        exact absurd e2.symm (hne c hc)
  exact {
    rng := fun u hu => by
      by_cases e : u = v
      · rw [e]; exact hvn
      · rw [hnu u e] at hu; exact h.rng u hu
    cnt := fun u => by
      show (s.enter v).num u < s.cnt + 1
      by_cases e : u = v
      · rw [e, hnv]; omega
      · rw [hnu u e]; have := h.cnt u; omega
    cnt0 := by show 0 ≤ s.cnt + 1; omega
    neg := fun u => by
      by_cases e : u = v
      · rw [e, hnv]; exact .inr hc0
      · rw [hnu u e]; exact h.neg u
    inj := fun a b ha hab => by
      by_cases e : a = v
      · by_cases e2 : b = v
        · rw [e, e2]
        · rw [e, hnv, hnu b e2] at hab; have := h.cnt b; omega
      · by_cases e2 : b = v
        · rw [e2, hnv, hnu a e] at hab; have := h.cnt a; omega
        · rw [hnu a e] at ha hab; rw [hnu b e2] at hab; exact h.inj a b ha hab
    clsn := fun u hu => by
      by_cases e : u = v
      · rw [e, hnv]; exact hc0
      · rw [hnu u e]; exact h.clsn u hu
    pth := by
      rw [hpa]
      refine List.pairwise_cons.2 ⟨fun y hy => ?_, h.pth.imp_of_mem fun {a b} ha hb hab => ?_⟩
      · rw [hnv, hnu _ (hxv y hy)]; exact h.cnt _
      · rw [hnu _ (hxv a ha), hnu _ (hxv b hb)]; exact hab
    pop := fun x hx => by
      rw [hpa] at hx
      rcases List.mem_cons.1 hx with rfl | hx
      · exact ⟨hov, Nat.zero_le _⟩
      · exact ⟨hop2 _ (h.pop x hx).1, (h.pop x hx).2⟩
    lown := fun u hu => by
      rcases hop u hu with rfl | ⟨e, hu⟩
      · rw [hlv, hnv]; exact Int.le_refl _
      · rw [hlu u e, hnu u e]; exact h.lown u hu
    lowr := fun u hu => by
      rcases hop u hu with rfl | ⟨e, hu⟩
      · exact ⟨u, hov, by rw [hlv, hnv], .refl _⟩
      · obtain ⟨x, h1, h2, h3⟩ := h.lowr u hu
        exact ⟨x, hop2 x h1, by rw [hlu u e, hnu x (hne x h1)]; exact h2, h3⟩
    edge := fun u hu j t hg ht => by
      rcases hop u hu with rfl | ⟨e, hu⟩
      · have := hg.2 0 (by rw [hpa]; exact List.mem_cons_self)
        omega
      · obtain ⟨h1, h2⟩ := h.edge u hu j t (hgone u e j hg) ht
        have et : t ≠ v := fun e2 => by rw [e2] at h1; omega
        rw [hnu t et, hlu u e]
        exact ⟨h1, h2⟩
    shut := h.shut
    cyc := h.cyc
    root := h.root
    down := fun x hx u hu hle => by
      rw [hpa] at hx
      rcases List.mem_cons.1 hx with rfl | hx1
      · rcases hop u hu with rfl | ⟨e, hu⟩
        · exact .refl _
        · simp only at hle
          rw [hnv, hnu u e] at hle
          have := h.cnt u
          omega
      · rcases hop u hu with rfl | ⟨e, hu⟩
        · rcases hp with e | ⟨p, i, r, e, hv2⟩
          · rw [e] at hx1; simp at hx1
          · have h1 : Rt out x.1 p := by
              rw [e] at hx1
              rcases List.mem_cons.1 hx1 with rfl | hx2
              · exact .refl _
              · exact h.down x (by rw [e]; exact List.mem_cons_of_mem _ hx2) p (h.head e).1 (Int.le_of_lt ((h.head e).2 x hx2))
            exact h1.step (List.mem_of_getElem? hv2)
        · rw [hnu _ (hxv x hx1), hnu u e] at hle
          exact h.down x hx1 u hu hle
    off := fun u hu hon => by
      rcases hop u hu with rfl | ⟨e, hu⟩
      · exact absurd ⟨0, by rw [hpa]; exact List.mem_cons_self⟩ hon
      · rw [hlu u e, hnu u e]
        exact h.off u hu fun ⟨i, hi⟩ => hon ⟨i, by rw [hpa]; exact List.mem_cons_of_mem _ hi⟩
    lows := fun u hu hon => by
      rcases hop u hu with rfl | ⟨e, hu⟩
      · exact absurd ⟨0, by rw [hpa]; exact List.mem_cons_self⟩ hon
      · obtain ⟨x, hx, h1, h2, h3⟩ := hlow2 u hu fun ⟨i, hi⟩ => hon ⟨i, by rw [hpa]; exact List.mem_cons_of_mem _ hi⟩
        refine ⟨x, by rw [hpa]; exact List.mem_cons_of_mem _ hx, by rw [hnu _ (hxv x hx), hnu u e]; exact h1, fun y hy hlt => ?_, .inl (by rw [hlu _ (hxv x hx), hlu u e]; exact h3)⟩
        rw [hpa] at hy
        rcases List.mem_cons.1 hy with rfl | hy
        · simp only at hlt
          rw [hnv, hnu u e] at hlt
          have := h.cnt u
          omega
        · rw [hnu _ (hxv y hy), hnu u e] at hlt
          rw [hnu _ (hxv y hy), hnu _ (hxv x hx)]
          exact h2 y hy hlt
    link := fun x y r l hl => by
      rw [hpa] at hl
      cases l with
      | nil =>
        injection hl with e1 e2
        subst e1
        rcases hp with e | ⟨p, i, r', e, hv2⟩
        · rw [e] at e2; cases e2
        · rw [e] at e2
          injection e2 with e3 _
          rw [← e3]
          exact hv2
      | cons a l =>
        injection hl with _ e2
        exact h.link x y r l e2 }
end Go.Proofs.YtplofbabfkkimaaDoor.Ts
/- A step is gone that leads to a state with a number: what always stands stays so. -/
namespace Go.Proofs.YtplofbabfkkimaaDoor.Ts
theorem Inv.pass {n : Nat} {out : Nat → List Nat} {s : St} {pd pd' : Nat → Prop} (h : Inv n out s pd) {v i t : Nat} {r : List (Nat × Nat)} (hp : s.path = (v, i) :: r) (ht : (out v)[i]? = some t) (htn : 0 ≤ s.num t) : Inv n out (s.pass v i t r) pd' := by
  obtain ⟨hov, hless⟩ := h.head hp
  have hpa : (s.pass v i t r).path = (v, i + 1) :: r := rfl
  have hil := (List.getElem?_eq_some_iff.1 ht).1
  have hnum : ∀ u, (s.pass v i t r).num u = s.num u := fun _ => rfl
  have hcls : ∀ u, (s.pass v i t r).cls u = s.cls u := fun _ => rfl
  have hop : ∀ u, (s.pass v i t r).op u ↔ s.op u := fun _ => Iff.rfl
  have hlu : ∀ u, u ≠ v → (s.pass v i t r).low u = s.low u := fun u hu => by simp [St.pass, hu]
  have hlle : ∀ u, (s.pass v i t r).low u ≤ s.low u := fun u => by
    by_cases e : u = v
    · subst e
      show (if u = u ∧ s.cls t = -1 then min (s.low u) (s.low t) else s.low u) ≤ s.low u
      split <;> omega
    · rw [hlu u e]; exact Int.le_refl _
  have hlt : s.cls t = -1 → (s.pass v i t r).low v ≤ s.low t := fun hc => by
    show (if v = v ∧ s.cls t = -1 then min (s.low v) (s.low t) else s.low v) ≤ s.low t
    rw [if_pos ⟨rfl, hc⟩]
    omega
  have hlor : (s.pass v i t r).low v = s.low v ∨ (s.cls t = -1 ∧ (s.pass v i t r).low v = s.low t) := by
    show (if v = v ∧ s.cls t = -1 then min (s.low v) (s.low t) else s.low v) = s.low v ∨ (s.cls t = -1 ∧ (if v = v ∧ s.cls t = -1 then min (s.low v) (s.low t) else s.low v) = s.low t)
    by_cases hc : s.cls t = -1
    · rw [if_pos ⟨rfl, hc⟩]
      rcases Int.le_total (s.low v) (s.low t) with h1 | h1
      · exact .inl (Int.min_eq_left h1)
      · exact .inr ⟨hc, Int.min_eq_right h1⟩
    · rw [if_neg (fun h => hc h.2)]
      exact .inl rfl
  have hrv : ∀ x ∈ r, x.1 ≠ v := fun x hx e => by have := hless x hx; rw [e] at this; omega
  have hon : ∀ u, (s.pass v i t r).on u ↔ s.on u := fun u => by
    constructor
    · rintro ⟨j, hj⟩
      rw [hpa] at hj
      rcases List.mem_cons.1 hj with e | e
      · exact ⟨i, by rw [hp, (Prod.mk.inj e).1]; exact List.mem_cons_self⟩
      · exact ⟨j, by rw [hp]; exact List.mem_cons_of_mem _ e⟩
    · rintro ⟨j, hj⟩
      rw [hp] at hj
      rcases List.mem_cons.1 hj with e | e
      · exact ⟨i + 1, by rw [hpa, (Prod.mk.inj e).1]; exact List.mem_cons_self⟩
      · exact ⟨j, by rw [hpa]; exact List.mem_cons_of_mem _ e⟩
  exact {
    rng := h.rng
    cnt := h.cnt
    cnt0 := h.cnt0
    neg := h.neg
    inj := h.inj
    clsn := h.clsn
    pth := by
      have h1 := h.pth
      rw [hp] at h1
      rw [hpa]
      exact List.pairwise_cons.2 ⟨fun y hy => hless y hy, (List.pairwise_cons.1 h1).2⟩
    pop := fun x hx => by
      rw [hpa] at hx
      rcases List.mem_cons.1 hx with rfl | hx
      · exact ⟨hov, hil⟩
      · exact h.pop x (by rw [hp]; exact List.mem_cons_of_mem _ hx)
    lown := fun u hu => Int.le_trans (hlle u) (h.lown u hu)
    lowr := fun u hu => by
      by_cases e : u = v
      · subst e
        rcases hlor with h1 | ⟨hc, h1⟩
        · rw [h1]; exact h.lowr u hu
        · rw [h1]
          obtain ⟨x, h2, h3, h4⟩ := h.lowr t ⟨htn, hc⟩
          exact ⟨x, h2, h3, (Rt.one (List.mem_of_getElem? ht)).trans h4⟩
      · rw [hlu u e]; exact h.lowr u hu
    edge := fun u hu j w hg hw => by
      by_cases e : u = v
      · subst e
        have hj := hg.2 (i + 1) (by rw [hpa]; exact List.mem_cons_self)
        rcases Nat.lt_or_ge j i with h1 | h1
        · obtain ⟨h2, h3⟩ := h.edge u hu j w ⟨hg.1, fun k hk => by rw [h.on_head hp hk]; exact h1⟩ hw
          exact ⟨h2, fun hc => Int.le_trans (hlle u) (h3 hc)⟩
        · obtain rfl : j = i := by omega
          rw [ht] at hw
          cases hw
          exact ⟨htn, fun hc => Int.le_trans (hlt hc) (h.lown t ⟨htn, hc⟩)⟩
      · obtain ⟨h2, h3⟩ := h.edge u hu j w ⟨hg.1, fun k hk => by
          rw [hp] at hk
          rcases List.mem_cons.1 hk with e2 | e2
          · exact absurd (Prod.mk.inj e2).1 e
          · exact hg.2 k (by rw [hpa]; exact List.mem_cons_of_mem _ e2)⟩ hw
        exact ⟨h2, fun hc => by rw [hlu u e]; exact h3 hc⟩
    shut := h.shut
    cyc := h.cyc
    root := h.root
    down := fun x hx u hu hle => by
      rw [hpa] at hx
      rcases List.mem_cons.1 hx with rfl | hx1
      · exact h.down (v, i) (by rw [hp]; exact List.mem_cons_self) u hu hle
      · exact h.down x (by rw [hp]; exact List.mem_cons_of_mem _ hx1) u hu hle
    off := fun u hu ho => by
      have ho2 : ¬ s.on u := fun h1 => ho ((hon u).2 h1)
      have e : u ≠ v := fun e => ho2 ⟨i, by rw [hp, e]; exact List.mem_cons_self⟩
      rw [hlu u e]
      exact h.off u hu ho2
    lows := fun u hu ho => by
      have ho2 : ¬ s.on u := fun h1 => ho ((hon u).2 h1)
      have e : u ≠ v := fun e => ho2 ⟨i, by rw [hp, e]; exact List.mem_cons_self⟩
      obtain ⟨x, hx, h1, h2, h3⟩ := h.lows u hu ho2
      have hmax : ∀ y ∈ (s.pass v i t r).path, (s.pass v i t r).num y.1 < (s.pass v i t r).num u → s.num y.1 ≤ s.num x.1 := fun y hy hlt2 => by
        rw [hpa] at hy
        rcases List.mem_cons.1 hy with rfl | hy1
        · exact h2 (v, i) (by rw [hp]; exact List.mem_cons_self) hlt2
        · exact h2 y (by rw [hp]; exact List.mem_cons_of_mem _ hy1) hlt2
      rw [hp] at hx
      rcases List.mem_cons.1 hx with rfl | hx1
      · refine ⟨(v, i + 1), by rw [hpa]; exact List.mem_cons_self, h1, hmax, .inl ?_⟩
        rw [hlu u e]
        rcases h3 with h4 | ⟨_, c, _, hc, ho3, h5⟩
        · exact Int.le_trans (hlle v) h4
        · simp only at ho3
          rw [ht] at ho3
          cases ho3
          exact Int.le_trans (hlt hc.2) h5
      · refine ⟨x, by rw [hpa]; exact List.mem_cons_of_mem _ hx1, h1, hmax, .inl ?_⟩
        rw [hlu u e, hlu _ (hrv x hx1)]
        rcases h3 with h4 | ⟨hh, _⟩
        · exact h4
        · rw [hp] at hh
          injection hh with hh
          exact absurd (by rw [← hh]) (hrv x hx1)
    link := fun x y r' l hl => by
      rw [hpa] at hl
      cases l with
      | nil =>
        injection hl with e1 e2
        subst e1
        exact h.link (v, i) y r' [] (by rw [hp, e2]; rfl)
      | cons a l =>
        injection hl with _ e2
        exact h.link x y r' ((v, i) :: l) (by rw [hp, e2]; rfl) }
end Go.Proofs.YtplofbabfkkimaaDoor.Ts
/- The walk leaves a state whose steps are all gone: what always stands stays so; a cycle that is whole is told. -/
namespace Go.Proofs.YtplofbabfkkimaaDoor.Ts
/-- No open state has a lesser number than the path's first one. -/
theorem Inv.bottom {n : Nat} {out : Nat → List Nat} {s : St} {pd : Nat → Prop} (h : Inv n out s pd) {v i : Nat} (hp : s.path = [(v, i)]) {u : Nat} (hu : s.op u) : s.num v ≤ s.num u := by
  by_cases ho : s.on u
  · obtain ⟨j, hj⟩ := ho
    rw [hp] at hj
    rw [(Prod.mk.inj (List.mem_singleton.1 hj)).1]
    exact Int.le_refl _
  · obtain ⟨x, hx, h1, _⟩ := h.lows u hu ho
    rw [hp] at hx
    rw [List.mem_singleton.1 hx] at h1
    exact Int.le_of_lt h1
/-- Where all steps of the last state are gone, the lows above it are no less than its own. -/
theorem Inv.above {n : Nat} {out : Nat → List Nat} {s : St} {pd : Nat → Prop} (h : Inv n out s pd) {v i : Nat} {r : List (Nat × Nat)} (hp : s.path = (v, i) :: r) (hi : (out v).length ≤ i) {u : Nat} (hu : s.op u) (hlt : s.num v < s.num u) : ¬ s.on u ∧ s.low v ≤ s.low u := by
  have hoff : ¬ s.on u := fun ⟨j, hj⟩ => by
    rw [hp] at hj
    rcases List.mem_cons.1 hj with e | e
    · rw [(Prod.mk.inj e).1] at hlt; omega
    · have := (h.head hp).2 _ e; simp only at this; omega
  refine ⟨hoff, ?_⟩
  obtain ⟨x, hx, h1, h2, h3⟩ := h.lows u hu hoff
  have hmx := h2 (v, i) (by rw [hp]; exact List.mem_cons_self) hlt
  have hxv : x = (v, i) := by
    rw [hp] at hx
    rcases List.mem_cons.1 hx with e | e
    · exact e
    · have := (h.head hp).2 _ e; simp only at hmx; omega
  subst hxv
  rcases h3 with h4 | ⟨_, c, _, _, ho, _⟩
  · exact h4
  · simp only at ho
    rw [List.getElem?_eq_none hi] at ho
    cases ho
theorem Inv.leave_on {n : Nat} {out : Nat → List Nat} {s : St} {pd : Nat → Prop} (h : Inv n out s pd) {v i : Nat} {r : List (Nat × Nat)} (hp : s.path = (v, i) :: r) (hi : (out v).length ≤ i) (hlow : s.low v < s.num v) : Inv n out (s.leave v r) (fun c => c = v) := by
  obtain ⟨hov, hless⟩ := h.head hp
  have hpa : (s.leave v r).path = r := rfl
  have hcls : ∀ u, (s.leave v r).cls u = s.cls u := fun u => by
    show (if s.num v ≤ s.low v ∧ s.num v ≤ s.num u ∧ s.cls u = -1 then (v : Int) else s.cls u) = s.cls u
    rw [if_neg (fun hc => by have := hc.1; omega)]
  have hop : ∀ u, (s.leave v r).op u ↔ s.op u := fun u => by unfold St.op; rw [hcls]; exact Iff.rfl
  have hrp : ∀ x ∈ r, x ∈ s.path := fun x hx => by rw [hp]; exact List.mem_cons_of_mem _ hx
  have hpr := h.pth
  rw [hp] at hpr
  have hpr2 := (List.pairwise_cons.1 hpr).2
  obtain ⟨y, r', hr⟩ : ∃ y r', r = y :: r' := by
    cases r with
    | nil =>
      obtain ⟨u, h1, h2, _⟩ := h.lowr v hov
      have := h.bottom hp h1
      omega
    | cons y r' => exact ⟨y, r', rfl⟩
  have hylt : s.num y.1 < s.num v := hless y (by rw [hr]; exact List.mem_cons_self)
  have hymax : ∀ z ∈ r, s.num z.1 ≤ s.num y.1 := fun z hz => by
    rw [hr] at hz hpr2
    rcases List.mem_cons.1 hz with e | e
    · rw [e]; exact Int.le_refl _
    · exact Int.le_of_lt ((List.pairwise_cons.1 hpr2).1 z e)
  have hlk : (out y.1)[y.2]? = some v := h.link (v, i) y r' [] (by rw [hp, hr]; rfl)
  have hyh : (s.leave v r).path.head? = some y := by rw [hpa, hr]; rfl
  have hym : y ∈ (s.leave v r).path := by rw [hpa, hr]; exact List.mem_cons_self
  have hon : ∀ u, u ≠ v → ¬ (s.leave v r).on u → ¬ s.on u := fun u hu ho ⟨j, hj⟩ => by
    rw [hp] at hj
    rcases List.mem_cons.1 hj with e | e
    · exact hu (Prod.mk.inj e).1
    · exact ho ⟨j, e⟩
  exact {
    rng := h.rng
    cnt := h.cnt
    cnt0 := h.cnt0
    neg := h.neg
    inj := h.inj
    clsn := fun u hu => h.clsn u (by rw [← hcls]; exact hu)
    pth := hpr2
    pop := fun x hx => ⟨(hop _).2 (h.pop x (hrp x hx)).1, (h.pop x (hrp x hx)).2⟩
    lown := fun u hu => h.lown u ((hop u).1 hu)
    lowr := fun u hu => by
      obtain ⟨x, h1, h2, h3⟩ := h.lowr u ((hop u).1 hu)
      exact ⟨x, (hop x).2 h1, h2, h3⟩
    edge := fun u hu j t hg ht => by
      rw [hcls]
      by_cases e : u = v
      · subst e
        exact h.edge u ((hop u).1 hu) j t ⟨hg.1, fun k hk => by rw [h.on_head hp hk]; have := hg.1; omega⟩ ht
      · exact h.edge u ((hop u).1 hu) j t ⟨hg.1, fun k hk => by
          rw [hp] at hk
          rcases List.mem_cons.1 hk with e2 | e2
          · exact absurd (Prod.mk.inj e2).1 e
          · exact hg.2 k e2⟩ ht
    shut := fun u hu t ht => by rw [hcls] at hu ⊢; exact h.shut u hu t ht
    cyc := fun a b ha hb => by rw [hcls] at ha hb; rw [hcls, hcls]; exact h.cyc a b ha hb
    root := fun u hu => by
      rw [hcls] at hu
      obtain ⟨x, h1, h2, h3⟩ := h.root u hu
      exact ⟨x, by rw [hcls]; exact h1, by rw [hcls]; exact h2, h3⟩
    down := fun x hx u hu hle => h.down x (hrp x hx) u ((hop u).1 hu) hle
    off := fun u hu ho => by
      by_cases e : u = v
      · subst e; exact hlow
      · exact h.off u ((hop u).1 hu) (hon u e ho)
    lows := fun u hu ho => by
      have hu1 := (hop u).1 hu
      by_cases e : u = v
      · subst e
        exact ⟨y, hym, hylt, fun z hz _ => hymax z hz, .inr ⟨hyh, u, rfl, hu, hlk, Int.le_refl _⟩⟩
      · obtain ⟨x, hx, h1, h2, h3⟩ := h.lows u hu1 (hon u e ho)
        rw [hp] at hx
        rcases List.mem_cons.1 hx with rfl | hx1
        · simp only at h1
          have h4 := (h.above hp hi hu1 h1).2
          exact ⟨y, hym, Int.lt_trans hylt h1, fun z hz _ => hymax z hz, .inr ⟨hyh, v, rfl, (hop v).2 hov, hlk, h4⟩⟩
        · refine ⟨x, hx1, h1, fun z hz hlt => h2 z (hrp z hz) hlt, .inl ?_⟩
          rcases h3 with h4 | ⟨hh, _⟩
          · exact h4
          · rw [hp] at hh
            injection hh with hh
            have := hless x hx1
            rw [← hh] at this
            simp at this
    link := fun x z r2 l hl => h.link x z r2 ((v, i) :: l) (by rw [hp, ← hpa, hl]; rfl) }
theorem Inv.leave_whole {n : Nat} {out : Nat → List Nat} {s : St} {pd pd' : Nat → Prop} (h : Inv n out s pd) {v i : Nat} {r : List (Nat × Nat)} (hp : s.path = (v, i) :: r) (hi : (out v).length ≤ i) (hlow : s.num v ≤ s.low v) : Inv n out (s.leave v r) pd' := by
  obtain ⟨hov, hless⟩ := h.head hp
  have hpa : (s.leave v r).path = r := rfl
  have hrp : ∀ x ∈ r, x ∈ s.path := fun x hx => by rw [hp]; exact List.mem_cons_of_mem _ hx
  have hvp : (v, i) ∈ s.path := by rw [hp]; exact List.mem_cons_self
  have hpr := h.pth
  rw [hp] at hpr
  have hpr2 := (List.pairwise_cons.1 hpr).2
  obtain ⟨C, hC⟩ : ∃ C : Nat → Prop, C = fun u => s.op u ∧ s.num v ≤ s.num u := ⟨_, rfl⟩
  have hCi : ∀ u, C u ↔ s.op u ∧ s.num v ≤ s.num u := fun u => by rw [hC]
  have hin : ∀ u, C u → (s.leave v r).cls u = (v : Int) := fun u hu => by
    show (if s.num v ≤ s.low v ∧ s.num v ≤ s.num u ∧ s.cls u = -1 then (v : Int) else s.cls u) = _
    rw [if_pos ⟨hlow, ((hCi u).1 hu).2, ((hCi u).1 hu).1.2⟩]
  have hold : ∀ u, s.cls u ≠ -1 → (s.leave v r).cls u = s.cls u := fun u hu => by
    show (if s.num v ≤ s.low v ∧ s.num v ≤ s.num u ∧ s.cls u = -1 then (v : Int) else s.cls u) = _
    rw [if_neg (fun hc => hu hc.2.2)]
  have hsome : ∀ u, (s.leave v r).cls u ≠ -1 → C u ∨ s.cls u ≠ -1 := fun u hu => by
    have h1 : (if s.num v ≤ s.low v ∧ s.num v ≤ s.num u ∧ s.cls u = -1 then (v : Int) else s.cls u) ≠ -1 := hu
    by_cases hc : s.num v ≤ s.low v ∧ s.num v ≤ s.num u ∧ s.cls u = -1
    · refine .inl ((hCi u).2 ⟨⟨?_, hc.2.2⟩, hc.2.1⟩)
      have := hov.1
      omega
    · rw [if_neg hc] at h1
      exact .inr h1
  have hsome2 : ∀ u, C u ∨ s.cls u ≠ -1 → (s.leave v r).cls u ≠ -1 := fun u hu => by
    rcases hu with hu | hu
    · rw [hin u hu]; omega
    · rw [hold u hu]; exact hu
  have hop : ∀ u, (s.leave v r).op u ↔ s.op u ∧ s.num u < s.num v := fun u => by
    constructor
    · rintro ⟨h1, h2⟩
      have h1' : 0 ≤ s.num u := h1
      have hc : s.cls u = -1 := Classical.byContradiction fun hc => hsome2 u (.inr hc) h2
      refine ⟨⟨h1', hc⟩, Classical.byContradiction fun hn => hsome2 u (.inl ((hCi u).2 ⟨⟨h1', hc⟩, by omega⟩)) h2⟩
    · rintro ⟨h1, h2⟩
      refine ⟨h1.1, Classical.byContradiction fun hc => ?_⟩
      rcases hsome u hc with h3 | h3
      · have := ((hCi u).1 h3).2; omega
      · exact h3 h1.2
  have hCv : C v := (hCi v).2 ⟨hov, Int.le_refl _⟩
  have hlowC : ∀ u, C u → s.num v ≤ s.low u := fun u hu => by
    obtain ⟨h1, h2⟩ := (hCi u).1 hu
    by_cases e : s.num v = s.num u
    · rw [← h.inj v u hov.1 e]; exact hlow
    · have := (h.above hp hi h1 (by omega)).2
      omega
  have hto : ∀ u, C u → Rt out v u := fun u hu => h.down (v, i) hvp u ((hCi u).1 hu).1 ((hCi u).1 hu).2
  have hfrom : ∀ (k : Nat) (u : Nat), C u → s.num u ≤ s.num v + (k : Int) → Rt out u v := fun k => by
    induction k with
    | zero =>
      intro u hu hle
      have h1 := ((hCi u).1 hu).2
      rw [h.inj v u hov.1 (by omega)]
      exact .refl _
    | succ k ih =>
      intro u hu hle
      by_cases e : s.num u ≤ s.num v + (k : Int)
      · exact ih u hu e
      · obtain ⟨h1, h2⟩ := (hCi u).1 hu
        have h3 := h.off u h1 (h.above hp hi h1 (by omega)).1
        obtain ⟨x, h4, h5, h6⟩ := h.lowr u h1
        have h7 := hlowC u hu
        exact h6.trans (ih x ((hCi x).2 ⟨h4, by omega⟩) (by omega))
  have hback : ∀ u, C u → Rt out u v := fun u hu => hfrom (s.num u - s.num v).toNat u hu (by have := ((hCi u).1 hu).2; omega)
  have hstay : ∀ u, (C u ∨ s.cls u ≠ -1) → ∀ t ∈ out u, (C t ∨ s.cls t ≠ -1) := fun u hu t ht => by
    rcases hu with hu | hu
    · obtain ⟨h1, h2⟩ := (hCi u).1 hu
      obtain ⟨j, hj⟩ := List.mem_iff_getElem?.1 ht
      have hjl := (List.getElem?_eq_some_iff.1 hj).1
      have hg : s.gone out u j := ⟨hjl, fun k hk => by
        by_cases e : u = v
        · subst e
          rw [h.on_head hp hk]; omega
        · have h3 : s.num v < s.num u := by
            rcases Int.lt_or_le (s.num v) (s.num u) with h4 | h4
            · exact h4
            · exact absurd (h.inj u v h1.1 (by omega)) e
          exact absurd ⟨k, hk⟩ (h.above hp hi h1 h3).1⟩
      obtain ⟨h3, h4⟩ := h.edge u h1 j t hg hj
      by_cases hc : s.cls t = -1
      · have h5 := h4 hc
        have h6 := hlowC u hu
        exact .inl ((hCi t).2 ⟨⟨h3, hc⟩, by omega⟩)
      · exact .inr hc
    · exact .inr (h.shut u hu t ht)
  have hmix : ∀ a b, s.cls a ≠ -1 → C b → ¬ (s.leave v r).cls a = (s.leave v r).cls b ∧ ¬ Rt out a b := fun a b ha hb => by
    refine ⟨fun e => ?_, fun hr => ?_⟩
    · rw [hold a ha, hin b hb] at e
      obtain ⟨x, h1, h2, _⟩ := h.root a ha
      rw [h1] at e
      have : x = v := by omega
      rw [this] at h2
      exact h2 hov.2
    · exact Rt.stay (P := fun w => s.cls w ≠ -1) h.shut hr ha ((hCi b).1 hb).1.2
  exact {
    rng := h.rng
    cnt := h.cnt
    cnt0 := h.cnt0
    neg := h.neg
    inj := h.inj
    clsn := fun u hu => by
      rcases hsome u hu with h1 | h1
      · exact ((hCi u).1 h1).1.1
      · exact h.clsn u h1
    pth := hpr2
    pop := fun x hx => ⟨(hop _).2 ⟨(h.pop x (hrp x hx)).1, hless x hx⟩, (h.pop x (hrp x hx)).2⟩
    lown := fun u hu => h.lown u ((hop u).1 hu).1
    lowr := fun u hu => by
      obtain ⟨h1, h2⟩ := (hop u).1 hu
      obtain ⟨x, h3, h4, h5⟩ := h.lowr u h1
      have h6 := h.lown u h1
      exact ⟨x, (hop x).2 ⟨h3, by omega⟩, h4, h5⟩
    edge := fun u hu j t hg ht => by
      obtain ⟨h1, h2⟩ := (hop u).1 hu
      have e : u ≠ v := fun e => by rw [e] at h2; omega
      obtain ⟨h3, h4⟩ := h.edge u h1 j t ⟨hg.1, fun k hk => by
        rw [hp] at hk
        rcases List.mem_cons.1 hk with e2 | e2
        · exact absurd (Prod.mk.inj e2).1 e
        · exact hg.2 k e2⟩ ht
      refine ⟨h3, fun hc => h4 (Classical.byContradiction fun hn => hsome2 t (.inr hn) hc)⟩
    shut := fun u hu t ht => hsome2 t (hstay u (hsome u hu) t ht)
    cyc := fun a b ha hb => by
      rcases hsome a ha with h1 | h1
      · rcases hsome b hb with h2 | h2
        · rw [hin a h1, hin b h2]
          exact ⟨fun _ => ⟨(hback a h1).trans (hto b h2), (hback b h2).trans (hto a h1)⟩, fun _ => rfl⟩
        · have h3 := hmix b a h2 h1
          exact ⟨fun e => absurd e.symm h3.1, fun e => absurd e.2 h3.2⟩
      · rcases hsome b hb with h2 | h2
        · have h3 := hmix a b h1 h2
          exact ⟨fun e => absurd e h3.1, fun e => absurd e.1 h3.2⟩
        · rw [hold a h1, hold b h2]
          exact h.cyc a b h1 h2
    root := fun u hu => by
      rcases hsome u hu with h1 | h1
      · exact ⟨v, hin u h1, by rw [hin v hCv]; omega, hto u h1, hback u h1⟩
      · obtain ⟨x, h2, h3, h4⟩ := h.root u h1
        exact ⟨x, by rw [hold u h1]; exact h2, by rw [hold x h3]; exact h3, h4⟩
    down := fun x hx u hu hle => h.down x (hrp x hx) u ((hop u).1 hu).1 hle
    off := fun u hu ho => by
      obtain ⟨h1, h2⟩ := (hop u).1 hu
      refine h.off u h1 fun ⟨j, hj⟩ => ?_
      rw [hp] at hj
      rcases List.mem_cons.1 hj with e | e
      · rw [(Prod.mk.inj e).1] at h2; omega
      · exact ho ⟨j, e⟩
    lows := fun u hu ho => by
      obtain ⟨h1, h2⟩ := (hop u).1 hu
      obtain ⟨x, hx, h3, h4, h5⟩ := h.lows u h1 fun ⟨j, hj⟩ => by
        rw [hp] at hj
        rcases List.mem_cons.1 hj with e | e
        · rw [(Prod.mk.inj e).1] at h2; omega
        · exact ho ⟨j, e⟩
      rw [hp] at hx
      rcases List.mem_cons.1 hx with rfl | hx1
      · simp only at h3; omega
      · refine ⟨x, hx1, h3, fun z hz hlt => h4 z (hrp z hz) hlt, .inl ?_⟩
        rcases h5 with h6 | ⟨hh, _⟩
        · exact h6
        · rw [hp] at hh
          injection hh with hh
          have := hless x hx1
          rw [← hh] at this
          simp at this
    link := fun x z r2 l hl => h.link x z r2 ((v, i) :: l) (by rw [hp, ← hpa, hl]; rfl) }
/-- Behind a walk that has left all of its path, a state that has a number has a class. -/
theorem Inv.whole {n : Nat} {out : Nat → List Nat} {s : St} {pd : Nat → Prop} (h : Inv n out s pd) (hp : s.path = []) {v : Nat} (hv : 0 ≤ s.num v) : s.cls v ≠ -1 := fun hc => by
  obtain ⟨x, hx, _⟩ := h.lows v ⟨hv, hc⟩ fun ⟨j, hj⟩ => by rw [hp] at hj; simp at hj
  rw [hp] at hx
  simp at hx
end Go.Proofs.YtplofbabfkkimaaDoor.Ts
/- What the walk's lists in memory say as a plain state; its moves are the plain ones. -/
namespace Go.Proofs.YtplofbabfkkimaaDoor.Ts
def Wk.st (x : Wk) (path : List (Nat × Nat)) : St := ⟨path, x.cnt, fun u => x.ns[u]?.getD (-1), fun u => x.ls[u]?.getD 0, fun u => x.cs[u]?.getD (-1)⟩
theorem getD_set (l : List Int) (v u : Nat) (z d : Int) (hv : v < l.length) : (l.set v z)[u]?.getD d = if u = v then z else l[u]?.getD d := by
  by_cases e : u = v
  · subst e
    rw [if_pos rfl, List.getElem?_set_self hv]
    rfl
  · rw [if_neg e, List.getElem?_set_ne (fun h => e h.symm)]
theorem st_enter (x : Wk) (path : List (Nat × Nat)) (v : Nat) (vo : Value) (hn : v < x.ns.length) (hl : v < x.ls.length) : (x.numd v vo).st ((v, 0) :: path) = (x.st path).enter v := by
  unfold Wk.st St.enter Wk.numd
  simp only
  congr 1
  · funext u; exact getD_set _ _ _ _ _ hn
  · funext u; exact getD_set _ _ _ _ _ hl
theorem st_pass (x : Wk) (out : Nat → List Nat) (r : List (Nat × Nat)) {i s st k j t : Nat} (h : (out s)[k + j]? = some t) (hs : s < x.ls.length) (ht : t < x.cs.length) : (x.gone out i s st k (j + 1)).st ((s, k + j + 1) :: r) = ((x.gone out i s st k j).st ((s, k + j) :: r)).pass s (k + j) t r := by
  have h1 := gone_ls x out (i := i) (st := st) h
  obtain ⟨z, hz⟩ : ∃ z, x.cs[t]? = some z := ⟨_, List.getElem?_eq_getElem ht⟩
  unfold Wk.st St.pass
  simp only
  rw [h1]
  have hs2 : s < (x.gone out i s st k j).ls.length := Nat.lt_of_lt_of_eq hs (passes_length _ _ _ _).symm
  have e2 : (x.gone out i s st k j).cs = x.cs := rfl
  congr 1
  funext u
  rw [e2, hz]
  unfold pass1
  simp only [Option.getD_some]
  by_cases hc : z = -1
  · rw [if_pos (by rw [hz, hc]), getD_set _ _ _ _ _ hs2]
    by_cases e : u = s
    · rw [if_pos e, if_pos ⟨e, hc⟩]
    · rw [if_neg e, if_neg (fun h => e h.1)]
  · rw [if_neg (by rw [hz]; intro e; exact hc (Option.some.inj e)), if_neg (fun h => hc h.2)]
theorem st_leave (x : Wk) (pre post : List Nat) (vo : Value) {v i : Nat} (r : List (Nat × Nat)) (hlow : (x.st ((v, i) :: r)).num v ≤ (x.st ((v, i) :: r)).low v) (hm : ∀ u, u ∈ v :: post ↔ (x.st ((v, i) :: r)).num v ≤ (x.st ((v, i) :: r)).num u ∧ (x.st ((v, i) :: r)).cls u = -1) (hl : ∀ u ∈ v :: post, u < x.cs.length) : (x.pop v pre (v :: post) vo).st r = (x.st ((v, i) :: r)).leave v r := by
  unfold St.leave
  show St.mk _ _ _ _ _ = St.mk _ _ _ _ _
  congr 1
  funext u
  by_cases hu : u ∈ v :: post
  · rw [if_pos ⟨hlow, (hm u).1 hu⟩]
    show (setAll x.cs (v :: post) (v : Int))[u]?.getD (-1) = _
    rw [setAll_in _ _ _ hu (hl u hu)]
    rfl
  · rw [if_neg (fun h => hu ((hm u).2 h.2))]
    show (setAll x.cs (v :: post) (v : Int))[u]?.getD (-1) = _
    rw [setAll_not _ _ _ hu]
    rfl
theorem st_stay (x : Wk) {v i : Nat} (r : List (Nat × Nat)) (hlow : (x.st ((v, i) :: r)).low v < (x.st ((v, i) :: r)).num v) : x.st r = (x.st ((v, i) :: r)).leave v r := by
  unfold St.leave
  show St.mk _ _ _ _ _ = St.mk _ _ _ _ _
  congr 1
  funext u
  rw [if_neg (fun h => by have := h.1; omega)]
  rfl
end Go.Proofs.YtplofbabfkkimaaDoor.Ts
/- The open states, by rising numbers: what the walk's moves make of their list. Plain facts. -/
namespace Go.Proofs.YtplofbabfkkimaaDoor.Ts
structure OpL (s : St) (os : List Nat) : Prop where
  mem : ∀ u, u ∈ os ↔ s.op u
  ord : os.Pairwise fun a b => s.num a < s.num b
theorem OpL.nodup {s : St} {os : List Nat} (h : OpL s os) : os.Nodup := h.ord.imp fun hab e => by rw [e] at hab; omega
theorem OpL.start : OpL ⟨[], 0, fun _ => -1, fun _ => 0, fun _ => -1⟩ [] := ⟨fun u => by simp [St.op], .nil⟩
theorem OpL.enter {n : Nat} {out : Nat → List Nat} {s : St} {pd : Nat → Prop} {os : List Nat} (h : OpL s os) (hI : Inv n out s pd) {v : Nat} (hv : s.num v = -1) : OpL (s.enter v) (os ++ [v]) := by
  have hcv : s.cls v = -1 := Classical.byContradiction fun hc => by have := hI.clsn v hc; omega
  have hnu : ∀ u, u ≠ v → (s.enter v).num u = s.num u := fun u hu => by simp [St.enter, hu]
  have hnv : (s.enter v).num v = s.cnt := by simp [St.enter]
  have hne : ∀ u ∈ os, u ≠ v := fun u hu e => by have := ((h.mem u).1 hu).1; rw [e] at this; omega
  refine ⟨fun u => ?_, List.pairwise_append.2 ⟨h.ord.imp_of_mem fun {a b} ha hb hab => ?_, by simp, fun a ha b hb => ?_⟩⟩
  · rw [List.mem_append, List.mem_singleton]
    by_cases e : u = v
    · subst e
      exact ⟨fun _ => ⟨by rw [hnv]; exact hI.cnt0, hcv⟩, fun _ => .inr rfl⟩
    · constructor
      · rintro (h1 | h1)
        · have h2 := (h.mem u).1 h1
          exact ⟨by rw [hnu u e]; exact h2.1, h2.2⟩
        · exact absurd h1 e
      · rintro ⟨h1, h2⟩
        rw [hnu u e] at h1
        exact .inl ((h.mem u).2 ⟨h1, h2⟩)
  · rw [hnu a (hne a ha), hnu b (hne b hb)]; exact hab
  · rw [List.mem_singleton.1 hb, hnv, hnu a (hne a ha)]; exact hI.cnt a
theorem OpL.pass {s : St} {os : List Nat} (h : OpL s os) (v i t : Nat) (r : List (Nat × Nat)) : OpL (s.pass v i t r) os := ⟨h.mem, h.ord⟩
/-- An open state parts the list: from it on stand just the open ones whose numbers are no less. -/
theorem OpL.split {s : St} {os : List Nat} (h : OpL s os) {v : Nat} (hv : s.op v) : ∃ pre post, os = pre ++ v :: post ∧ (∀ u, u ∈ v :: post ↔ s.num v ≤ s.num u ∧ s.cls u = -1) ∧ ∀ u ∈ pre, s.num u < s.num v := by
  obtain ⟨pre, post, rfl⟩ := List.append_of_mem ((h.mem v).2 hv)
  obtain ⟨_, h2, h3⟩ := List.pairwise_append.1 h.ord
  have hpre : ∀ u ∈ pre, s.num u < s.num v := fun u hu => h3 u hu v List.mem_cons_self
  refine ⟨pre, post, rfl, fun u => ⟨fun hu => ?_, fun hu => ?_⟩, hpre⟩
  · have hop := (h.mem u).1 (List.mem_append.2 (.inr hu))
    rcases List.mem_cons.1 hu with e | e
    · rw [e]; exact ⟨Int.le_refl _, hv.2⟩
    · exact ⟨Int.le_of_lt ((List.pairwise_cons.1 h2).1 u e), hop.2⟩
  · have hop : s.op u := ⟨Int.le_trans hv.1 hu.1, hu.2⟩
    rcases List.mem_append.1 ((h.mem u).2 hop) with h1 | h1
    · have := hpre u h1; omega
    · exact h1
theorem OpL.leave_on {s : St} {os : List Nat} (h : OpL s os) {v : Nat} (r : List (Nat × Nat)) (hlow : s.low v < s.num v) : OpL (s.leave v r) os := by
  have hcls : ∀ u, (s.leave v r).cls u = s.cls u := fun u => by
    show (if s.num v ≤ s.low v ∧ s.num v ≤ s.num u ∧ s.cls u = -1 then (v : Int) else s.cls u) = s.cls u
    rw [if_neg (fun hc => by have := hc.1; omega)]
  exact ⟨fun u => by rw [h.mem u]; unfold St.op; rw [hcls]; exact Iff.rfl, h.ord⟩
theorem OpL.leave_whole {s : St} {pre post : List Nat} {v : Nat} (h : OpL s (pre ++ v :: post)) (r : List (Nat × Nat)) (hlow : s.num v ≤ s.low v) (hm : ∀ u, u ∈ v :: post ↔ s.num v ≤ s.num u ∧ s.cls u = -1) (hpre : ∀ u ∈ pre, s.num u < s.num v) : OpL (s.leave v r) pre := by
  refine ⟨fun u => ?_, (List.pairwise_append.1 h.ord).1⟩
  have hc : (s.leave v r).cls u = if s.num v ≤ s.low v ∧ s.num v ≤ s.num u ∧ s.cls u = -1 then (v : Int) else s.cls u := rfl
  constructor
  · intro hu
    have hop := (h.mem u).1 (List.mem_append.2 (.inl hu))
    refine ⟨hop.1, ?_⟩
    rw [hc, if_neg (fun e => by have := hpre u hu; have := e.2.1; omega)]
    exact hop.2
  · rintro ⟨h1, h2⟩
    rw [hc] at h2
    by_cases e : s.num v ≤ s.low v ∧ s.num v ≤ s.num u ∧ s.cls u = -1
    · rw [if_pos e] at h2; omega
    · rw [if_neg e] at h2
      rcases List.mem_append.1 ((h.mem u).2 ⟨h1, h2⟩) with h3 | h3
      · exact h3
      · exact absurd ⟨hlow, (hm u).1 h3⟩ e
end Go.Proofs.YtplofbabfkkimaaDoor.Ts
