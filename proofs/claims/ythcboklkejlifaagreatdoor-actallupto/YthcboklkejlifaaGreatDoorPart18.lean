/- Texts of this claim, joined: PlayAll, PlayLaw. -/
import Derived.Test.YthcboklkejlifaaGreatDoorPart17
/- The play of two tables, from its start to its end. -/
namespace Go.Proofs.YthcboklkejlifaaGreatDoor
open Go.RowKit Go.Maps
attribute [local go_sem ↓] Go.wp_at_zero Go.wp_at_succ
structure Opt where
  k : Int
  who : Int
  n : Int
  s : ByteArray
structure OneO (w : World) (a : Addr) (i : Nat) (op : Opt) : Prop where
  c0 : w.cell? (a.add (i * 4)) = some (.int .i64 op.k)
  c1 : w.cell? ⟨(a.add (i * 4)).block, (a.add (i * 4)).off + 1, none⟩ = some (.int .i64 op.who)
  c2 : w.cell? ⟨(a.add (i * 4)).block, (a.add (i * 4)).off + 2, none⟩ = some (.int .i64 op.n)
  c3 : w.cell? ⟨(a.add (i * 4)).block, (a.add (i * 4)).off + 3, none⟩ = some (.string op.s)
  sz : op.s.size ≤ maxLen
theorem OneO.below {w w' : World} {a : Addr} {i : Nat} {op : Opt} (h : OneO w a i op) (hb : Below w.heap.size w w') : OneO w' a i op :=
  ⟨(hb.cell (World.block_lt_of_cell? w _ h.c0)).trans h.c0, (hb.cell (World.block_lt_of_cell? w _ h.c1)).trans h.c1, (hb.cell (World.block_lt_of_cell? w _ h.c2)).trans h.c2, (hb.cell (World.block_lt_of_cell? w _ h.c3)).trans h.c3, h.sz⟩
/-- The value is a list of these operations. -/
def HasO (w : World) (v : Value) (ops : List Opt) : Prop := ∃ ao cap, v = .slice ao ops.length cap ∧ ∀ (i : Nat) (op : Opt), ops[i]? = some op → ∃ a, ao = some a ∧ OneO w a i op
theorem PSE.swap {w0 wr : World} {g bk : Nat} {who : Bool} {b : Nat} {vn vm v : Value} {ns : List ByteArray} {b' : Nat} {vn' vm' v' : Value} {ns' : List ByteArray} (h : PSE w0 wr g bk who b vn vm v ns b' vn' vm' v' ns') : PSE w0 wr g bk (!who) b' vn' vm' v' ns' b vn vm v ns := by
  obtain ⟨vi, vw, ls, ws, zss, h⟩ := h
  exact ⟨vi, vw, ls, ws, zss, h.swap⟩
/-- The state of a play, whoever is who. -/
def Pl (w0 wr : World) (g bk : Nat) : Prop := ∃ (b : Nat) (vn vm v : Value) (ns : List ByteArray) (b' : Nat) (vn' vm' v' : Value) (ns' : List ByteArray), PSE w0 wr g bk false b vn vm v ns b' vn' vm' v' ns'
theorem pl_of {w0 wr : World} {g bk : Nat} {who : Bool} {b : Nat} {vn vm v : Value} {ns : List ByteArray} {b' : Nat} {vn' vm' v' : Value} {ns' : List ByteArray} (h : PSE w0 wr g bk who b vn vm v ns b' vn' vm' v' ns') : Pl w0 wr g bk := by
  cases who with
  | false => exact ⟨_, _, _, _, _, _, _, _, _, _, h⟩
  | true => exact ⟨_, _, _, _, _, _, _, _, _, _, h.swap⟩
theorem Pl.at {w0 wr : World} {g bk : Nat} (h : Pl w0 wr g bk) (who : Bool) : ∃ (b : Nat) (vn vm v : Value) (ns : List ByteArray) (b' : Nat) (vn' vm' v' : Value) (ns' : List ByteArray), PSE w0 wr g bk who b vn vm v ns b' vn' vm' v' ns' := by
  obtain ⟨b, vn, vm, v, ns, b', vn', vm', v', ns', h⟩ := h
  cases who with
  | false => exact ⟨_, _, _, _, _, _, _, _, _, _, h⟩
  | true => exact ⟨_, _, _, _, _, _, _, _, _, _, h.swap⟩
theorem Pl.below {w0 wr w' : World} {g bk : Nat} (h : Pl w0 wr g bk) (hb : Below wr.heap.size wr w') : Pl w0 w' g bk := by
  obtain ⟨b, vn, vm, v, ns, b', vn', vm', v', ns', h⟩ := h
  exact ⟨_, _, _, _, _, _, _, _, _, _, h.below hb⟩
theorem Pl.bl {w0 wr : World} {g bk : Nat} (h : Pl w0 wr g bk) : Below w0.heap.size w0 wr := by
  obtain ⟨b, vn, vm, v, ns, b', vn', vm', v', ns', h⟩ := h
  exact h.this.2.2.2.2
theorem Pl.step {w0 wr : World} {g bk : Nat} (h : Pl w0 wr g bk) (who : Bool) (kz wz nz : Int) (s : ByteArray) (e : Nat → Addr) (hE : Nn w0 e) (hs : s.size ≤ maxLen) :
    Calls Tryz.prog 79 #[.pointer (some ⟨g, oW who, none⟩), opV kz wz nz s] wr fun r w' => r = .returned (.bool true) ∧ Pl w0 w' g bk := by
  obtain ⟨b, vn, vm, v, ns, b', vn', vm', v', ns', h⟩ := h.at who
  refine (step_any w0 wr g bk who b vn vm v ns b' vn' vm' v' ns' kz wz nz s e h hE hs).mono ?_
  rintro r w' ⟨rfl, _, _, _, _, h2⟩
  exact ⟨rfl, pl_of h2⟩
theorem Pl.looks {w0 wr : World} {g bk : Nat} (h : Pl w0 wr g bk) (who : Bool) :
    Calls Tryz.prog 80 #[.pointer (some ⟨g, oW who, none⟩)] wr fun r w' => r = .returned (.bool true) ∧ Pl w0 w' g bk := by
  obtain ⟨b, vn, vm, v, ns, b', vn', vm', v', ns', h⟩ := h.at who
  refine (looks_any w0 wr g bk who b vn vm v ns b' vn' vm' v' ns' h).mono ?_
  rintro r w' ⟨rfl, h2⟩
  exact ⟨rfl, pl_of h2⟩
theorem Pl.apart {w0 wr : World} {g bk : Nat} (h : Pl w0 wr g bk) :
    Calls Tryz.prog 14 #[.pointer (some ⟨bk, 0, none⟩)] wr fun r w' => r = .returned (.bool true) ∧ Below w0.heap.size w0 w' := by
  obtain ⟨b, vn, vm, v, ns, b', vn', vm', v', ns', vi, vw, ls, ws, zss, h⟩ := h
  refine (ApT.apart_any bk vi vw ls ws zss wr h.bs h.ot).mono ?_
  rintro r w' ⟨rfl, hk⟩
  exact ⟨rfl, h.bl.trans (hk.below h.bl.size fun i hi => h.lo i (.inr (.inr (.inr (.inr (.inr (.inr hi)))))))⟩
def bookZ : Array Value := Array.replicate 22 (.slice none 0 0)
/-- The state at the start. -/
theorem ps_start (w0 w1 w3 : World) (hb1 : Below w0.heap.size w0 w1) (hT : Tab w3 (w1.heap.size + 1) (.slice none 0 0) (.map none) []) (hb3 : Below (w1.alloc (.cells bookZ 37)).heap.size (w1.alloc (.cells bookZ 37)) w3) :
    PSE w0 ((w3.alloc (.cells #[.slice none 0 0, .map none] 104)).alloc (.cells (cellsOf false (w1.heap.size + 1) (.slice none 0 0) w1.heap.size w3.heap.size (.slice none 0 0)) 105)) (w3.heap.size + 1) w1.heap.size false (w1.heap.size + 1) (.slice none 0 0) (.map none) (.slice none 0 0) [] w3.heap.size (.slice none 0 0) (.map none) (.slice none 0 0) [] := by
  have hz1 := hb1.size
  have hz4 := tab_lt hT.cell
  have hz3 : w1.heap.size + 1 ≤ w3.heap.size := by have := hb3.size; simp at this; omega
  have hbk := (hb3.block w1.heap.size (by simp)).trans (MapKept.heap_alloc w1 (.cells bookZ 37)).1
  obtain ⟨wE, hwE⟩ : ∃ wE, wE = (w3.alloc (.cells #[.slice none 0 0, .map none] 104)).alloc (.cells (cellsOf false (w1.heap.size + 1) (.slice none 0 0) w1.heap.size w3.heap.size (.slice none 0 0)) 105) := ⟨_, rfl⟩
  have hbE : Below w3.heap.size w3 wE := by rw [hwE]; exact ((Below.refl _ _).alloc (Nat.le_refl _) _).alloc (by simp) _
  have hg : wE.heap[w3.heap.size + 1]? = some (.cells (cellsOf false (w1.heap.size + 1) (.slice none 0 0) w1.heap.size w3.heap.size (.slice none 0 0)) 105 (0, 0)) := by rw [hwE]; exact two_alloc w3 _ _
  have ht : wE.heap[w3.heap.size]? = some (.cells #[.slice none 0 0, .map none] 104 (0, 0)) := by
    rw [hwE]
    exact ((MapKept.heap_alloc (w3.alloc (.cells #[.slice none 0 0, .map none] 104)) _).2 _ (by simp)).trans (MapKept.heap_alloc w3 _).1
  have hbkE := (hbE.block w1.heap.size (by omega)).trans hbk
  rw [← hwE]
  have hc : ∀ k, k < 22 → wE.cell? ⟨w1.heap.size, k, none⟩ = some (.slice none 0 0) := fun k hk => by
    have h2 : bookZ[k]? = some (.slice none 0 0) := by unfold bookZ; rw [Array.getElem?_replicate, if_pos hk]
    exact cell0_of hbkE h2
  have hfoot : ∀ (b i : Nat), Foot b (.slice none 0 0) (.map none) i → i = b := fun b i hi => by
    rcases hi with e | e | e
    · exact e
    · simp [Value.ownBlock] at e
    · cases e
  have hno : ∀ i, ¬ St ([] : List Value) [] (.slice none 0 0) (.slice none 0 0) i := fun i hS => by
    rcases hS with ⟨x, hx, _⟩ | ⟨x, hx, _⟩ | hS | hS
    · simp at hx
    · simp at hx
    · simp [Value.ownBlock] at hS
    · simp [Value.ownBlock] at hS
  refine ⟨.slice none 0 0, .slice none 0 0, [], [], [], hg, hT.below hbE, ⟨ht, World.ownsRow_nil _ _ _ _, .inl ⟨rfl, rfl⟩, by simp, by simp⟩, World.ownsRow_nil _ _ _ _, World.ownsRow_nil _ _ _ _, ?_, ?_, fun i hi hj => ?_, fun i _ hS => hno i hS, fun i _ hS => hno i hS, fun s hs => by simp at hs, fun s hs => by simp at hs, fun i hi => ?_, ?_⟩
  · exact ⟨⟨hc _ (by omega), World.ownsRow_nil _ _ _ _, fun k l zs h1 => by simp at h1, ⟨fun l hl => by simp at hl, fun l hl => by simp at hl, by simp [Value.ownBlock], fun i j l m hl => by simp at hl⟩, by simp, fun zs h => by simp at h⟩, hc _ (by omega), World.ownsRow_nil _ _ _ _, fun k l zs h1 => by simp at h1, ⟨_, hbkE, by unfold bookZ; simp⟩, fun k hk => by simp [Value.ownBlock] at hk⟩
  · exact ⟨hc _ (by omega), hc _ (by omega), hc _ (by omega), hc _ (by omega), hc _ (by omega), hc _ (by omega), hc _ (by omega), hc _ (by omega), hc _ (by omega), hc _ (by omega)⟩
  · have e1 := hfoot _ _ hi
    have e2 := hfoot _ _ hj
    omega
  · rcases hi with hi | hi | hi | hi | hi | hi | ⟨x, hx, _⟩
    · have := hfoot _ _ hi; omega
    · have := hfoot _ _ hi; omega
    · omega
    · omega
    · simp [Value.ownBlock] at hi
    · simp [Value.ownBlock] at hi
    · simp at hx
  · have hA : Below w1.heap.size w1 (w1.alloc (.cells bookZ 37)) := (Below.refl _ _).alloc (Nat.le_refl _) _
    have hB : Below w1.heap.size w1 w3 := hA.trans (hb3.mono hA.size)
    exact hb1.trans ((hB.trans (hbE.mono hB.size)).mono hz1)
set_option maxRecDepth 100000 in
set_option maxHeartbeats 16000000 in
theorem play_short (v : Value) (ops : List Opt) (each : Bool) (e : Nat → Addr) (w : World) (hO : HasO w v ops) (hl : ops.length ≤ 300) (hE : Nn w e) :
    Calls Tryz.prog 15 #[v, .bool each] w fun r w' => r = .returned (.bool true) ∧ Below w.heap.size w w' := by
  obtain ⟨ao, cap, rfl, hC⟩ := hO
  obtain ⟨n, hn⟩ : ∃ n, n = ops.length := ⟨_, rfl⟩
  rw [← hn] at hl ⊢
  have q1 : ¬ (300 : Int) < (n : Int) := by omega
  have hAl := alive2_any (e 8) w hE.U.1
  have HO : Hid _ := And.intro hC (And.intro hE hn)
  have HA : Hid _ := hAl
  clear hC hE hn hAl
  go_enter Tryz.func15, Tryz.ntmps15
  go_wp2_with fail
  refine Calls.mono HA.out ?_
  rintro r w1 ⟨rfl, hb1⟩
  have H1 : Hid _ := hb1
  clear hb1 HA
  go_wp2_with fail
  refine (new_any _).mono ?_
  rintro r w3 ⟨rfl, hT3, hb3⟩
  have e2 : ∀ o, (w1.alloc o).heap.size = w1.heap.size + 1 := fun o => by simp
  rw [e2] at hT3
  have HP : Hid _ := ps_start w w1 w3 H1.out hT3 hb3
  clear hT3 hb3 e2 H1
  unfold cellsOf pB at HP
  go_wp2_with fail
  generalize w3.heap.size + 1 = g, w1.heap.size = bk at HP ⊢
  have HP2 : Hid (Pl w _ g bk) := pl_of HP.out
  clear HP
  go_loopg [7] n (fun q iv wr => ∃ (i : Nat), q = n - i ∧ i ≤ n ∧ iv = .int .i64 i ∧ Pl w wr g bk)
  case atStart => exact ⟨0, rfl, Nat.zero_le _, rfl, HP2.out⟩
  case round =>
    obtain ⟨i, rfl, hi, rfl, hPS⟩ := hrel
    clear HP2
    by_cases hlt : i < n
    · obtain ⟨op, hop⟩ : ∃ op, ops[i]? = some op := ⟨ops[i]'(by have := HO.out.2.2; omega), List.getElem?_eq_getElem _⟩
      obtain ⟨a, rfl, h1⟩ := HO.out.1 i op hop
      obtain ⟨c0, c1, c2, c3, hsz⟩ := h1.below hPS.bl
      have p0 : (0 : Int) ≤ (i : Int) := by omega
      have p1 : (i : Int) < (n : Int) := by omega
      have HQ : Hid _ := And.intro hPS hsz
      obtain ⟨kz, wz, nz, s⟩ := op
      simp only at c0 c1 c2 c3
      have HS : Hid (s.size ≤ maxLen) := hsz
      obtain ⟨wb, hw⟩ : ∃ wb : Bool, bits BinOp.and IntKind.i64 wz 1 = (if wb then 1 else 0) := (and_one wz).elim (fun h => ⟨false, h⟩) (fun h => ⟨true, h⟩)
      obtain ⟨W, hW⟩ : ∃ W, W = wr.alloc (.cells #[.int .i64 kz, .int .i64 wz, .int .i64 nz, .string s] 107) := ⟨_, rfl⟩
      have hbW : Below wr.heap.size wr W := by rw [hW]; exact (Below.refl _ _).alloc (Nat.le_refl _) _
      have hbx : W.heap[wr.heap.size]? = some (.cells #[.int .i64 kz, .int .i64 wz, .int .i64 nz, .string s] 107 (0, 0)) := by rw [hW]; exact (MapKept.heap_alloc wr _).1
      obtain ⟨x0, x1, x2, x3⟩ := box4 hbx
      have HW : Hid _ := hW
      have HP : Hid (Pl w W g bk) := hPS.below hbW
      clear hPS hsz h1 hop hbx hbW hW HQ
      cases wb with
      | false =>
        simp only [Bool.false_eq_true, if_false] at hw
        by_cases h7 : kz = 7
        · subst h7
          obtain ⟨b, vn, vm, v, ns, b', vn', vm', v', ns', vi, vw, ls, ws, zss, hPS⟩ := HP.out.at false
          obtain ⟨ar, kr, rfl⟩ := row_shape hPS.r
          obtain ⟨y0, y1, _⟩ := cells_this hPS.arr
          have htw := fun W' (hb : Below W.heap.size W W') => twin2_any b vn vm ns W' (hPS.t.below hb)
          have HT : Hid _ := And.intro htw hPS
          unfold oW at y0 y1
          unfold pB at y0
          simp only [Bool.false_eq_true, if_false] at y0 y1
          clear htw hPS
          go_upto_region 13 with fail
          rw [← HW.out]
          have wr1 : IntKind.i64.wrap 1 = 1 := by decide
          have wr0 : IntKind.i64.wrap 0 = 0 := by decide
          go_cut [43] (fun s43 wx => Pl w wx g bk)
          case first =>
            go_region_law
              ((first
                | (go_simp; go_at_call 78; refine (HT.out.1 _ (by repeat (first | exact Below.refl _ _ | assumption | refine Below.drew ?_ | refine Below.setCell ?_ (by simp) _ | refine Below.alloc ?_ (by simp) _))).mono ?_; rintro r8 w8 ⟨b2, vn2, vm2, rfl, hT8, hf8, hb8'⟩; have hb8 := below_of_drew3 hb8'; have y1 := cell_up y1 hb8; have har := (HT.out.2.below hb8).swap.arr; obtain ⟨z0, z1, z2⟩ := cells_this har; have f0 := blk_free har 3; have f1 := blk_free har 4; have f2 := blk_free har 5; have hTw := HT.out.2.twin hT8 hf8 hb8; have hPl : Pl w (((w8.setCell ⟨g, 3, none⟩ (.pointer (some ⟨b2, 0, none⟩))).setCell ⟨g, 4, none⟩ (.slice ar ns.length kr)).setCell ⟨g, 5, none⟩ (.pointer (some ⟨bk, 0, none⟩))) g bk := pl_of ⟨_, _, _, _, _, hTw⟩; have H8 : Hid (Pl w (((w8.setCell ⟨g, 3, none⟩ (.pointer (some ⟨b2, 0, none⟩))).setCell ⟨g, 4, none⟩ (.slice ar ns.length kr)).setCell ⟨g, 5, none⟩ (.pointer (some ⟨bk, 0, none⟩))) g bk) := hPl; have z0' : w8.cell? ⟨g, 3, none⟩ = some (pB b') := z0; have z1' : w8.cell? ⟨g, 4, none⟩ = some v' := z1; have z2' : w8.cell? ⟨g, 5, none⟩ = some (pB bk) := z2; clear hT8 hf8 hb8 hb8' har hTw hPl z0 z1 z2)
                | fail))
            all_goals ((try go_simp); refine Met.intro ?_; apply_assumption; refine Met.intro ?_; apply_assumption; (repeat apply Exists.intro); refine ⟨?rel, rfl⟩; case rel => exact H8.out)
          case rest =>
            have HX : Hid (Pl w wc g bk) := hcut
            clear hcut HT HP y0 y1
            cases each with
            | false =>
              go_wp2_with fail
              go_roundg (n - (i + 1))
              case measure => omega
              case rel => exact ⟨i + 1, rfl, by omega, by go_num, HX.out⟩
            | true =>
              have HQ1 : Hid _ := HX.out.looks false
              unfold oW at HQ1
              go_wp2_with fail
              refine Calls.mono HQ1.out ?_
              rintro r w4 ⟨rfl, hP4⟩
              have HQ2 : Hid _ := hP4.looks true
              clear HQ1 hP4
              unfold oW at HQ2
              go_wp2_with fail
              refine Calls.mono HQ2.out ?_
              rintro r w5 ⟨rfl, hP5⟩
              have HQ3 : Hid (Pl w w5 g bk) := hP5
              clear HQ2 hP5
              go_wp2_with fail
              go_roundg (n - (i + 1))
              case measure => omega
              case rel => exact ⟨i + 1, rfl, by omega, by go_num, HQ3.out⟩
        · have e7 : (kz == 7) = false := by simpa using h7
          have hst := fun W' (hb : Below W.heap.size W W') => (HP.out.below hb).step false kz wz nz s e HO.out.2.1 HS.out
          unfold oW opV at hst
          simp only [Bool.false_eq_true, if_false] at hst
          have HT : Hid _ := hst
          clear hst h7
          go_upto_region 14 with fail
          rw [← HW.out]
          go_cut [60] (fun s60 wx => s60 = .bool false ∧ Pl w wx g bk)
          case first =>
            go_region_law
              ((first
                | (go_simp; go_at_call 79; refine (HT.out _ (by repeat (first | exact Below.refl _ _ | assumption | refine Below.drew ?_ | refine Below.setCell ?_ (by simp) _ | refine Below.alloc ?_ (by simp) _))).mono ?_; rintro r8 w8 ⟨rfl, hP8⟩; have H8 : Hid (Pl w w8 g bk) := hP8; clear hP8)
                | fail))
            all_goals ((try go_simp); refine Met.intro ?_; apply_assumption; refine Met.intro ?_; apply_assumption; (repeat apply Exists.intro); refine ⟨?rel, rfl⟩; case rel => exact ⟨rfl, H8.out⟩)
          case rest =>
            obtain ⟨rfl, hX⟩ := hcut
            have HX : Hid (Pl w wc g bk) := hX
            clear hX HT HP
            cases each with
            | false =>
              go_wp2_with fail
              go_roundg (n - (i + 1))
              case measure => omega
              case rel => exact ⟨i + 1, rfl, by omega, by go_num, HX.out⟩
            | true =>
              have HQ1 : Hid _ := HX.out.looks false
              unfold oW at HQ1
              go_wp2_with fail
              refine Calls.mono HQ1.out ?_
              rintro r w4 ⟨rfl, hP4⟩
              have HQ2 : Hid _ := hP4.looks true
              clear HQ1 hP4
              unfold oW at HQ2
              go_wp2_with fail
              refine Calls.mono HQ2.out ?_
              rintro r w5 ⟨rfl, hP5⟩
              have HQ3 : Hid (Pl w w5 g bk) := hP5
              clear HQ2 hP5
              go_wp2_with fail
              go_roundg (n - (i + 1))
              case measure => omega
              case rel => exact ⟨i + 1, rfl, by omega, by go_num, HQ3.out⟩
      | true =>
        simp only [if_true] at hw
        by_cases h7 : kz = 7
        · subst h7
          obtain ⟨b, vn, vm, v, ns, b', vn', vm', v', ns', vi, vw, ls, ws, zss, hPS⟩ := HP.out.at true
          obtain ⟨ar, kr, rfl⟩ := row_shape hPS.r
          obtain ⟨y0, y1, _⟩ := cells_this hPS.arr
          have htw := fun W' (hb : Below W.heap.size W W') => twin2_any b vn vm ns W' (hPS.t.below hb)
          have HT : Hid _ := And.intro htw hPS
          unfold oW at y0 y1
          unfold pB at y0
          simp only [if_true] at y0 y1
          clear htw hPS
          go_upto_region 13 with fail
          rw [← HW.out]
          have wr1 : IntKind.i64.wrap 1 = 1 := by decide
          have wr0 : IntKind.i64.wrap 0 = 0 := by decide
          go_cut [43] (fun s43 wx => Pl w wx g bk)
          case first =>
            go_region_law
              ((first
                | (go_simp; go_at_call 78; refine (HT.out.1 _ (by repeat (first | exact Below.refl _ _ | assumption | refine Below.drew ?_ | refine Below.setCell ?_ (by simp) _ | refine Below.alloc ?_ (by simp) _))).mono ?_; rintro r8 w8 ⟨b2, vn2, vm2, rfl, hT8, hf8, hb8'⟩; have hb8 := below_of_drew3 hb8'; have y1 := cell_up y1 hb8; have har := (HT.out.2.below hb8).swap.arr; obtain ⟨z0, z1, z2⟩ := cells_this har; have f0 := blk_free har 0; have f1 := blk_free har 1; have f2 := blk_free har 2; have hTw := HT.out.2.twin hT8 hf8 hb8; have hPl : Pl w (((w8.setCell ⟨g, 0, none⟩ (.pointer (some ⟨b2, 0, none⟩))).setCell ⟨g, 1, none⟩ (.slice ar ns.length kr)).setCell ⟨g, 2, none⟩ (.pointer (some ⟨bk, 0, none⟩))) g bk := pl_of ⟨_, _, _, _, _, hTw⟩; have H8 : Hid (Pl w (((w8.setCell ⟨g, 0, none⟩ (.pointer (some ⟨b2, 0, none⟩))).setCell ⟨g, 1, none⟩ (.slice ar ns.length kr)).setCell ⟨g, 2, none⟩ (.pointer (some ⟨bk, 0, none⟩))) g bk) := hPl; have z0' : w8.cell? ⟨g, 0, none⟩ = some (pB b') := z0; have z1' : w8.cell? ⟨g, 1, none⟩ = some v' := z1; have z2' : w8.cell? ⟨g, 2, none⟩ = some (pB bk) := z2; clear hT8 hf8 hb8 hb8' har hTw hPl z0 z1 z2)
                | fail))
            all_goals ((try go_simp); refine Met.intro ?_; apply_assumption; refine Met.intro ?_; apply_assumption; (repeat apply Exists.intro); refine ⟨?rel, rfl⟩; case rel => exact H8.out)
          case rest =>
            have HX : Hid (Pl w wc g bk) := hcut
            clear hcut HT HP y0 y1
            cases each with
            | false =>
              go_wp2_with fail
              go_roundg (n - (i + 1))
              case measure => omega
              case rel => exact ⟨i + 1, rfl, by omega, by go_num, HX.out⟩
            | true =>
              have HQ1 : Hid _ := HX.out.looks false
              unfold oW at HQ1
              go_wp2_with fail
              refine Calls.mono HQ1.out ?_
              rintro r w4 ⟨rfl, hP4⟩
              have HQ2 : Hid _ := hP4.looks true
              clear HQ1 hP4
              unfold oW at HQ2
              go_wp2_with fail
              refine Calls.mono HQ2.out ?_
              rintro r w5 ⟨rfl, hP5⟩
              have HQ3 : Hid (Pl w w5 g bk) := hP5
              clear HQ2 hP5
              go_wp2_with fail
              go_roundg (n - (i + 1))
              case measure => omega
              case rel => exact ⟨i + 1, rfl, by omega, by go_num, HQ3.out⟩
        · have e7 : (kz == 7) = false := by simpa using h7
          have hst := fun W' (hb : Below W.heap.size W W') => (HP.out.below hb).step true kz wz nz s e HO.out.2.1 HS.out
          unfold oW opV at hst
          simp only [if_true] at hst
          have HT : Hid _ := hst
          clear hst h7
          go_upto_region 14 with fail
          rw [← HW.out]
          go_cut [60] (fun s60 wx => s60 = .bool false ∧ Pl w wx g bk)
          case first =>
            go_region_law
              ((first
                | (go_simp; go_at_call 79; refine (HT.out _ (by repeat (first | exact Below.refl _ _ | assumption | refine Below.drew ?_ | refine Below.setCell ?_ (by simp) _ | refine Below.alloc ?_ (by simp) _))).mono ?_; rintro r8 w8 ⟨rfl, hP8⟩; have H8 : Hid (Pl w w8 g bk) := hP8; clear hP8)
                | fail))
            all_goals ((try go_simp); refine Met.intro ?_; apply_assumption; refine Met.intro ?_; apply_assumption; (repeat apply Exists.intro); refine ⟨?rel, rfl⟩; case rel => exact ⟨rfl, H8.out⟩)
          case rest =>
            obtain ⟨rfl, hX⟩ := hcut
            have HX : Hid (Pl w wc g bk) := hX
            clear hX HT HP
            cases each with
            | false =>
              go_wp2_with fail
              go_roundg (n - (i + 1))
              case measure => omega
              case rel => exact ⟨i + 1, rfl, by omega, by go_num, HX.out⟩
            | true =>
              have HQ1 : Hid _ := HX.out.looks false
              unfold oW at HQ1
              go_wp2_with fail
              refine Calls.mono HQ1.out ?_
              rintro r w4 ⟨rfl, hP4⟩
              have HQ2 : Hid _ := hP4.looks true
              clear HQ1 hP4
              unfold oW at HQ2
              go_wp2_with fail
              refine Calls.mono HQ2.out ?_
              rintro r w5 ⟨rfl, hP5⟩
              have HQ3 : Hid (Pl w w5 g bk) := hP5
              clear HQ2 hP5
              go_wp2_with fail
              go_roundg (n - (i + 1))
              case measure => omega
              case rel => exact ⟨i + 1, rfl, by omega, by go_num, HQ3.out⟩
    · obtain rfl : i = n := by omega
      have p1 : ¬ (i : Int) < (i : Int) := by omega
      have HQ : Hid _ := hPS.looks false
      have HB : Hid _ := hPS.bl
      clear hPS
      unfold oW at HQ
      go_wp2_with fail
      refine Calls.mono HQ.out ?_
      rintro r w4 ⟨rfl, hP4⟩
      have HQ2 : Hid _ := hP4.looks true
      clear HQ hP4
      unfold oW at HQ2
      go_wp2_with fail
      refine Calls.mono HQ2.out ?_
      rintro r w5 ⟨rfl, hP5⟩
      have HA5 : Hid _ := And.intro hP5.apart hP5.bl
      clear HQ2 hP5
      cases each with
      | false =>
        go_wp2_with fail
        go_ret
        exact ⟨rfl, HA5.out.2⟩
      | true =>
        go_wp2_with fail
        refine Calls.mono HA5.out.1 ?_
        rintro r w6 ⟨rfl, hb6⟩
        have H6 : Hid _ := hb6
        clear hb6
        go_wp2_with fail
        go_ret
        exact ⟨rfl, H6.out⟩
end Go.Proofs.YthcboklkejlifaaGreatDoor
/- The play of a script of any length, and the statements ActPlays and ActAll as calls. -/
namespace Go.Proofs.YthcboklkejlifaaGreatDoor
open Go.RowKit Go.Maps
set_option maxRecDepth 100000 in
set_option maxHeartbeats 1000000 in
theorem play_long (v : Value) (ops : List Opt) (each : Bool) (e : Nat → Addr) (w : World) (hO : HasO w v ops) (hl : 300 < ops.length) (hE : Nn w e) :
    Calls Tryz.prog 15 #[v, .bool each] w fun r w' => r = .returned (.bool true) ∧ Below w.heap.size w w' := by
  obtain ⟨ao, cap, rfl, hC⟩ := hO
  clear hC
  generalize ops.length = n at hl ⊢
  have q1 : (300 : Int) < (n : Int) := by omega
  have HA : Hid _ := alive2_any (e 8) w hE.U.1
  clear hE
  go_enter Tryz.func15, Tryz.ntmps15
  go_wp2_with fail
  refine Calls.mono HA.out ?_
  rintro r w1 ⟨rfl, hb1⟩
  have H1 : Hid _ := hb1
  clear hb1 HA
  go_wp2_with fail
  go_ret
  exact ⟨rfl, H1.out⟩
theorem play_any (v : Value) (ops : List Opt) (each : Bool) (e : Nat → Addr) (w : World) (hO : HasO w v ops) (hE : Nn w e) :
    Calls Tryz.prog 15 #[v, .bool each] w fun r w' => r = .returned (.bool true) ∧ Below w.heap.size w w' := by
  by_cases hl : ops.length ≤ 300
  · exact play_short v ops each e w hO hl hE
  · exact play_long v ops each e w hO (by omega) hE
set_option maxRecDepth 100000 in
set_option maxHeartbeats 1000000 in
theorem lawPlays_any (v : Value) (ops : List Opt) (e : Nat → Addr) (w : World) (hO : HasO w v ops) (hE : Nn w e) :
    Calls Tryz.prog 4 #[v] w fun r w' => r = .returned (.bool true) ∧ Below w.heap.size w w' := by
  have HA : Hid _ := play_any v ops false e w hO hE
  clear hO hE
  go_enter Tryz.func4, Tryz.ntmps4
  go_wp2_with fail
  refine Calls.mono HA.out ?_
  rintro r w1 ⟨rfl, hb1⟩
  have H1 : Hid _ := hb1
  clear hb1 HA
  go_wp2_with fail
  go_ret
  exact ⟨rfl, H1.out⟩
set_option maxRecDepth 100000 in
set_option maxHeartbeats 1000000 in
theorem lawActAll_any (v : Value) (ops : List Opt) (e : Nat → Addr) (w : World) (hO : HasO w v ops) (hE : Nn w e) :
    Calls Tryz.prog 5 #[v] w fun r w' => r = .returned (.bool true) ∧ Below w.heap.size w w' := by
  have HA : Hid _ := play_any v ops true e w hO hE
  clear hO hE
  go_enter Tryz.func5, Tryz.ntmps5
  go_wp2_with fail
  refine Calls.mono HA.out ?_
  rintro r w1 ⟨rfl, hb1⟩
  have H1 : Hid _ := hb1
  clear hb1 HA
  go_wp2_with fail
  go_ret
  exact ⟨rfl, H1.out⟩
end Go.Proofs.YthcboklkejlifaaGreatDoor
