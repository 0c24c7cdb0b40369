/- Texts of this claim, joined: SmOf, SyNew, SmTop. -/
import Derived.Test.YtibdgefjpcebkaaGreatDoorPart8
import Derived.Deep.RegionWith
import Derived.Test.YtibdgefjpcebkaaGreatDoorPart6
import Derived.Test.YtibdgefjpcebkaaGreatDoorPart7
namespace Go.Proofs.YtibdgefjpcebkaaGreatDoor
section
open Go.RowKit Go.Maps
attribute [local go_sem ↓] Go.wp_at_zero Go.wp_at_succ
theorem Tryz.infoRR : (Tryz.prog.info? 70).map (fun i => (i.zero, i.size, i.bytes)) = some (some (.slice none 0 0), 1, 24) := by kernel_rfl
theorem makeRR (n : Nat) (hn : n ≤ 1000000) (w : World) : (Instr.makeSlice 121 (.int .i64 (n : Int)) (.int .i64 (n : Int))).run Tryz.prog w = .ok (.slice (some ⟨w.heap.size, 0, none⟩) n n) (w.alloc (.cells (madeV (.slice none 0 0) n) 70)) := make_of _ _ _ 24 Tryz.underlying121 Tryz.infoRR n hn (by decide) w
theorem Sev.lt0 {w w' : World} {g0 g1 m d : Nat} (h : Sev w w' g0 g1 m d) : g0 < w'.heap.size := by
  obtain ⟨cs, hc, _⟩ := h.wd
  exact t_lt hc
theorem bld0 {w w5 : World} {gr n k d ge ga gl aw lw : Nat} (hb : Below w.heap.size w w5) (hge : ListAt 70 w5 ge k fun _ => .slice none 0 0) (ue : w.heap.size ≤ ge) (hA : Rws w5 w.heap.size ga n d (fun p => ⟨aw, p * d, d⟩) fun _ _ => false) (hL : Rws w5 w.heap.size gl n d (fun p => ⟨lw, p * d, d⟩) fun _ _ => false) (nal : aw ≠ lw) (gal : ga ≠ gl) (l1 : aw < w5.heap.size) (l2 : lw < w5.heap.size) :
    Bld w (w5.alloc (.cells #[.pointer (some ⟨gr, 0, none⟩), .slice (some ⟨ge, 0, none⟩) k k, .slice (some ⟨ga, 0, none⟩) n n, .slice (some ⟨gl, 0, none⟩) n n] 123)) w5.heap.size gr n k d ⟨ge, ga, gl, fun _ => 0, fun _ => 0⟩ aw lw 0 (fun _ _ _ => false) (fun _ _ => false) (fun _ _ => false) := by
  have hn : Below w5.heap.size w5 (w5.alloc (.cells #[.pointer (some ⟨gr, 0, none⟩), .slice (some ⟨ge, 0, none⟩) k k, .slice (some ⟨ga, 0, none⟩) n n, .slice (some ⟨gl, 0, none⟩) n n] 123)) := (Below.refl _ _).alloc (Nat.le_refl _) _
  exact ⟨hb.trans (hn.mono hb.size), heap_alloc_new w5 _, hb.size, ue, (hge.below hn).congr fun a _ => by simp, fun a ha => by omega, hA.below hn, hL.below hn, nal, gal, fun a ha => by omega, fun a _ ha => by omega, by simp; omega⟩
theorem sev_two {w W1 w2 W2 w3 : World} {n d g0 g1 h0 h1 : Nat} (hb1 : Below w.heap.size w W1) (h1s : Sev W1 w2 g0 g1 n d) (hb2 : Below w2.heap.size w2 W2) (h2s : Sev W2 w3 h0 h1 n d) : Below w.heap.size w w3 ∧ Rws w3 w.heap.size g1 n d (fun p => ⟨g0, p * d, d⟩) (fun _ _ => false) ∧ Rws w3 w.heap.size h1 n d (fun p => ⟨h0, p * d, d⟩) (fun _ _ => false) ∧ g0 ≠ h0 ∧ g1 ≠ h1 ∧ g0 < w3.heap.size ∧ h0 < w3.heap.size := by
  have b2 := hb2.size
  have b3 := h2s.bl.size
  have b1 := h1s.bl.size
  have l0 := h1s.lt0
  have l1 := h1s.rw.lt
  have u0 := h2s.u0
  have u1 := h2s.u1
  have k0 := h2s.lt0
  have hb12 := hb1.trans (h1s.bl.mono hb1.size)
  have hb13 := hb12.trans (hb2.mono hb12.size)
  exact ⟨hb13.trans (h2s.bl.mono hb13.size), (rws_of_sev h1s hb1.size).below (hb2.trans (h2s.bl.mono hb2.size)), rws_of_sev h2s hb13.size, by omega, by omega, by omega, by omega⟩
theorem Bld.congr {w wr : World} {gv gr n k d : Nat} {m : Ml} {aw lw i : Nat} {Z Z' : Nat → Nat → Nat → Bool} {A L A' L' : Nat → Nat → Bool} (h : Bld w wr gv gr n k d m aw lw i Z A L) (hZ : ∀ a p q, Z a p q = Z' a p q) (hA : ∀ p q, p < n → q / 64 < d → A p q = A' p q) (hL : ∀ p q, p < n → q / 64 < d → L p q = L' p q) : Bld w wr gv gr n k d m aw lw i Z' A' L' :=
  ⟨h.bl, h.box, h.uv, h.ue, h.ends, fun a ha => (h.end1 a ha).congr fun p q _ _ => hZ a p q, h.above.congr hA, h.lost.congr hL, h.nal, h.gal, h.nea, h.nee, h.lt⟩
def LbS (l : List Sy.Ed) (p a : Nat) : Bool := l.any fun e => decide (e.1 = (p : Int)) && decide (e.2.1 = (a : Int))
theorem LbS_iff (l : List Sy.Ed) (p a : Nat) : LbS l p a = true ↔ ∃ t : Int, ((p : Int), (a : Int), t) ∈ l := by
  unfold LbS
  rw [List.any_eq_true]
  constructor
  · rintro ⟨⟨x, y, z⟩, he, h⟩
    simp only [Bool.and_eq_true, decide_eq_true_eq] at h
    obtain ⟨rfl, rfl⟩ := h
    exact ⟨z, he⟩
  · rintro ⟨t, h⟩
    exact ⟨_, h, by simp⟩
theorem ez_next {l : List Sy.Ed} {j p a t : Nat} (h : l[j]? = some ((p : Int), (a : Int), (t : Int))) (x y z : Nat) : upm (Ez (l.take j)) a (upm (Ez (l.take j) a) p fun q => Ez (l.take j) a p q || decide (q = t)) x y z = Ez (l.take (j + 1)) x y z := by
  have e : Ez (l.take (j + 1)) x y z = (Ez (l.take j) x y z || decide (x = a ∧ y = p ∧ z = t)) := by
    unfold Ez
    rw [take_succ9 h, Bool.eq_iff_iff]
    simp only [List.mem_append, List.mem_singleton, Prod.mk.injEq, Bool.or_eq_true, decide_eq_true_eq]
    constructor
    · rintro (h | ⟨h1, h2, h3⟩)
      · exact .inl h
      · exact .inr ⟨by omega, by omega, by omega⟩
    · rintro (h | ⟨h1, h2, h3⟩)
      · exact .inl h
      · exact .inr ⟨by omega, by omega, by omega⟩
  rw [e]
  by_cases e1 : x = a
  · subst e1
    rw [upm_same]
    by_cases e2 : y = p
    · subst e2; rw [upm_same]; simp
    · rw [upm_ne _ _ e2]; simp [e2]
  · rw [upm_ne _ _ e1]; simp [e1]
theorem lb_next {l : List Sy.Ed} {j p a t : Nat} (h : l[j]? = some ((p : Int), (a : Int), (t : Int))) (y z : Nat) : upm (LbS (l.take j)) p (fun q => LbS (l.take j) p q || decide (q = a)) y z = LbS (l.take (j + 1)) y z := by
  have e : LbS (l.take (j + 1)) y z = (LbS (l.take j) y z || decide (y = p ∧ z = a)) := by
    unfold LbS
    rw [take_succ9 h, List.any_append, List.any_cons, List.any_nil, Bool.or_false, Bool.eq_iff_iff]
    simp only [Bool.or_eq_true, Bool.and_eq_true, decide_eq_true_eq]
    refine or_congr Iff.rfl ⟨fun h => ⟨by omega, by omega⟩, fun h => ⟨by omega, by omega⟩⟩
  rw [e]
  by_cases e1 : y = p
  · subst e1; rw [upm_same]; simp
  · rw [upm_ne _ _ e1]; simp [e1]
theorem nf_nat {n : Nat} {k s : Int} {es : List Sy.Ed} (hq : Sy.right n k s es = true) {j : Nat} {e : Sy.Ed} (h : (Sy.nf es)[j]? = some e) : ∃ p a t : Nat, e = ((p : Int), (a : Int), (t : Int)) ∧ p < n ∧ (a : Int) < k ∧ t < n := by
  have h1 := (Sy.nf_mem es e).1 (List.mem_of_getElem? h)
  have h2 := (right_parts hq).2.2.2.2.2 _ h1
  obtain ⟨x, y, z⟩ := e
  simp only at h2
  refine ⟨x.toNat, y.toNat, z.toNat, ?_, by omega, by omega, by omega⟩
  rw [show ((x.toNat : Nat) : Int) = x by omega, show ((y.toNat : Nat) : Int) = y by omega, show ((z.toNat : Nat) : Int) = z by omega]
structure Lp2 (w wr : World) (gv gr n k d dk : Nat) (m : Ml) (aw lw gb bw : Nat) (l : List Sy.Ed) (uv : Value) (j : Nat) (A L : Nat → Nat → Bool) : Prop where
  b : Bld w wr gv gr n k d m aw lw k (Ez (l.take j)) A L
  lab : Rws wr w.heap.size gb n dk (fun p => ⟨bw, p * dk, dk⟩) (LbS (l.take j))
  far : bw ≠ aw ∧ bw ≠ lw ∧ ∀ a, a < k → bw ≠ m.ew a
theorem Lp2.below {w wr w' : World} {gv gr n k d dk : Nat} {m : Ml} {aw lw gb bw : Nat} {l : List Sy.Ed} {uv : Value} {j : Nat} {A L : Nat → Nat → Bool} (h : Lp2 w wr gv gr n k d dk m aw lw gb bw l uv j A L) (hb : Below wr.heap.size wr w') : Lp2 w w' gv gr n k d dk m aw lw gb bw l uv j A L := ⟨h.b.below hb, h.lab.below hb, h.far⟩
theorem Lp2.edge {w wb w4 w5 : World} {gv gr n k d dk : Nat} {m : Ml} {aw lw gb bw : Nat} {l : List Sy.Ed} {uv : Value} {j p a t : Nat} {A L : Nat → Nat → Bool} (h : Lp2 w wb gv gr n k d dk m aw lw gb bw l uv j A L) (hz : l[j]? = some ((p : Int), (a : Int), (t : Int))) (hp : p < n) (ha : a < k) (h4 : RowAt w4 (m.ew a) (p * d) d fun z => Ez (l.take j) a p z || decide (z = t)) (hw4 : Wr (m.ew a) (p * d) d wb w4) (h5 : RowAt w5 bw (p * dk) dk fun z => LbS (l.take j) p z || decide (z = a)) (hw5 : Wr bw (p * dk) dk w4 w5) : Lp2 w w5 gv gr n k d dk m aw lw gb bw l uv (j + 1) A L := by
  have hS := (h.b.end1 a ha).row p hp
  have hL4 : Rws w4 w.heap.size gb n dk (fun p => ⟨bw, p * dk, dk⟩) (LbS (l.take j)) := ⟨h.lab.lst.kept hw4.kp (row_list_ne (i := 0) hS h.lab.lst (by decide) rfl), fun q hq => (h.lab.row q hq).kept hw4.kp (h.far.2.2 a ha), h.lab.ug, h.lab.ur⟩
  have hB4 := h.b.end_ ha hp hw4 h4
  refine ⟨(hB4.away hw5 (hL4.row p hp) (h.lab.ur p hp) h.far.1 h.far.2.1 h.far.2.2).congr (fun x y z => ez_next hz x y z) (fun _ _ _ _ => rfl) fun _ _ _ _ => rfl, (hL4.put hp hw5 h5 fun q _ hne => off_mul hne).congr fun y z _ _ => lb_next hz y z, h.far⟩
theorem Lp2.congr {w wr : World} {gv gr n k d dk : Nat} {m : Ml} {aw lw gb bw : Nat} {l : List Sy.Ed} {uv : Value} {j : Nat} {A L A' L' : Nat → Nat → Bool} (h : Lp2 w wr gv gr n k d dk m aw lw gb bw l uv j A L) (hA : ∀ p q, p < n → q / 64 < d → A p q = A' p q) (hL : ∀ p q, p < n → q / 64 < d → L p q = L' p q) : Lp2 w wr gv gr n k d dk m aw lw gb bw l uv j A' L' := ⟨h.b.congr (fun _ _ _ => rfl) hA hL, h.lab, h.far⟩
theorem Lp2.ab {w wr w' : World} {gv gr n k d dk : Nat} {m : Ml} {aw lw gb bw : Nat} {l : List Sy.Ed} {uv : Value} {j p : Nat} {A L : Nat → Nat → Bool} {T : Nat → Bool} (h : Lp2 w wr gv gr n k d dk m aw lw gb bw l uv j A L) (hp : p < n) (hw : Wr aw (p * d) d wr w') (hT : RowAt w' aw (p * d) d T) : Lp2 w w' gv gr n k d dk m aw lw gb bw l uv j (upm A p T) L :=
  ⟨h.b.ab hp hw hT, ⟨h.lab.lst.kept hw.kp (row_list_ne (i := 0) (h.b.above.row p hp) h.lab.lst (by decide) rfl), fun q hq => (h.lab.row q hq).kept hw.kp h.far.1, h.lab.ug, h.lab.ur⟩, h.far⟩
theorem Lp2.lo {w wr w' : World} {gv gr n k d dk : Nat} {m : Ml} {aw lw gb bw : Nat} {l : List Sy.Ed} {uv : Value} {j p : Nat} {A L : Nat → Nat → Bool} {T : Nat → Bool} (h : Lp2 w wr gv gr n k d dk m aw lw gb bw l uv j A L) (hp : p < n) (hw : Wr lw (p * d) d wr w') (hT : RowAt w' lw (p * d) d T) : Lp2 w w' gv gr n k d dk m aw lw gb bw l uv j A (upm L p T) :=
  ⟨h.b.lo hp hw hT, ⟨h.lab.lst.kept hw.kp (row_list_ne (i := 0) (h.b.lost.row p hp) h.lab.lst (by decide) rfl), fun q hq => (h.lab.row q hq).kept hw.kp h.far.2.1, h.lab.ug, h.lab.ur⟩, h.far⟩
def st9 (n : Nat) (inc : Nat → Nat → Bool) (p q x y : Nat) : Bool := (decide (x < p) || decide (x = p) && decide (y < q)) && (decide (y < n) && inc x y)
theorem st9_row (n : Nat) (inc : Nat → Nat → Bool) (p x y : Nat) : st9 n inc p n x y = st9 n inc (p + 1) 0 x y := by
  unfold st9
  by_cases h1 : x < p
  · have h2 : x < p + 1 := by omega
    simp [h1, h2]
  · by_cases h2 : x = p
    · subst h2
      by_cases h3 : y < n <;> simp [h3]
    · have h3 : ¬ x < p + 1 := by omega
      simp [h1, h2, h3]
theorem st9_yes {n : Nat} {inc : Nat → Nat → Bool} {p q : Nat} (hq : q < n) (h : inc p q = true) (x y : Nat) : upm (st9 n inc p q) p (fun z => st9 n inc p q p z || decide (z = q)) x y = st9 n inc p (q + 1) x y := by
  by_cases e : x = p
  · subst e
    rw [upm_same]
    unfold st9
    by_cases e2 : y = q
    · subst e2; simp [hq, h]
    · have : decide (y < q + 1) = decide (y < q) := by simp only [decide_eq_decide]; omega
      simp [e2, this]
  · rw [upm_ne _ _ e]; unfold st9; simp [e]
theorem st9_no {n : Nat} {inc : Nat → Nat → Bool} {p q : Nat} (h : inc p q = false) (x y : Nat) : st9 n inc p q x y = st9 n inc p (q + 1) x y := by
  unfold st9
  by_cases e : x = p
  · subst e
    by_cases e2 : y = q
    · subst e2; simp [h]
    · have : decide (y < q + 1) = decide (y < q) := by simp only [decide_eq_decide]; omega
      simp [this]
  · simp [e]
def incS (l : List Sy.Ed) (dk x y : Nat) : Bool := withS (LbS l x) (LbS l y) (64 * dk)
theorem inc_iff {n : Nat} {kk s : Int} {es : List Sy.Ed} (hq : Sy.right n kk s es = true) {k dk : Nat} (hk : kk = (k : Int)) (hd : k ≤ 64 * dk) (x y : Nat) : incS (Sy.nf es) dk x y = true ↔ ∀ a t, EE es x a t → ∃ u, EE es y a u := by
  have hnat : ∀ (p a : Nat), LbS (Sy.nf es) p a = true ↔ ∃ u, EE es p a u := fun p a => by
    rw [LbS_iff]
    constructor
    · rintro ⟨t, ht⟩
      have h1 := (Sy.nf_mem es _).1 ht
      have h2 := (right_parts hq).2.2.2.2.2 _ h1
      simp only at h2
      refine ⟨t.toNat, ?_⟩
      unfold EE
      rw [show ((t.toNat : Nat) : Int) = t by omega]
      exact h1
    · rintro ⟨u, hu⟩
      exact ⟨_, (Sy.nf_mem es _).2 hu⟩
  unfold incS withS
  rw [List.all_eq_true]
  constructor
  · intro h a t ht
    have h3 := (right_parts hq).2.2.2.2.2 _ ht
    simp only at h3
    have h4 := h a (List.mem_range.2 (by omega))
    have h5 := (hnat x a).2 ⟨t, ht⟩
    rw [h5] at h4
    exact (hnat y a).1 (by simpa using h4)
  · intro h a _
    cases h1 : LbS (Sy.nf es) x a with
    | false => simp
    | true =>
      obtain ⟨t, ht⟩ := (hnat x a).1 h1
      rw [(hnat y a).2 (h a t ht)]
      simp
set_option linter.unusedSimpArgs false in
set_option maxRecDepth 100000 in
set_option maxHeartbeats 16000000 in
theorem sieveOf_any {w : World} {B0 gr bs bb cs cb n k d : Nat} {kk s : Int} {es : List Sy.Ed} (hd : d = Br.wds n) (hkk : kk = (k : Int)) (hG : Gr w B0 gr bs bb cs cb n kk s es) (hT : TabW w) :
    Calls Tryz.prog 84 #[.pointer (some ⟨gr, 0, none⟩)] w fun r w' => ∃ gv m ra rl A L, r = .returned (.pointer (some ⟨gv, 0, none⟩)) ∧ SfAt w w' B0 gr bs bb cs cb n kk s gv k d m es ra rl A L := by
  have hp := right_parts hG.right
  have hn : n ≤ 1000 := by omega
  have hk : k ≤ 201 ∧ 0 < k := by omega
  have hSt := states_any w hG
  have hLb := fun W (hb : Below w.heap.size w W) => labelsG_any W (hG.below hb)
  have hSv := fun W => several_any n n hn hn (by omega) W
  have hSk := fun W => several_any n k hn (by omega) (.inr hk.2) W
  have hEd := fun W (hb : Below w.heap.size w W) => edges_any W (hG.below hb)
  have mk := fun W => makeRR k (by omega) W
  rw [← hd] at hSv
  subst hkk
  have H : Hid _ := And.intro hSt (And.intro hLb (And.intro hSv (And.intro hSk (And.intro hEd (And.intro hG hT)))))
  have HD : Hid (d = Br.wds n ∧ k ≤ 201 ∧ 0 < k) := ⟨hd, hk⟩
  have hk201 : k ≤ 201 := hk.1
  clear hp hSt hLb hSv hSk hEd hG hT hd hk
  go_enter Tryz.func84, Tryz.ntmps84
  go_upto_region 2 with (go_at_call 118; refine Calls.mono H.out.1 ?_; rintro r w1 ⟨rfl, hw⟩; obtain rfl := hw.symm)
  go_cut [4] (fun s4 wx => ∃ (gv : Nat) (m : Ml) (aw lw : Nat), s4 = .pointer (some ⟨gv, 0, none⟩) ∧ Bld w wx gv gr n k d m aw lw 0 (fun _ _ _ => false) (fun _ _ => false) (fun _ _ => false))
  case first =>
    go_region_with (first
      | (go_at_call 119; refine Calls.mono (H.out.2.1 _ (by repeat (first | exact Below.refl _ _ | refine Below.drew ?_))) ?_; rintro r w1 ⟨rfl, hw⟩; obtain rfl := hw.symm; clear hw)
      | (have hq := hS1; go_at_call 120; refine Calls.mono (H.out.2.2.1 _) ?_; rintro r w3 ⟨h0, h1, rfl, hg2, hS2⟩; clear hq)
      | (go_at_call 120; refine Calls.mono (H.out.2.2.1 _) ?_; rintro r w2 ⟨g0, g1, rfl, hg1, hS1⟩))
    all_goals go_wp2_with fail
    all_goals
      go_meet
      first
        | exact (by
            have h2 := sev_two ((Below.refl _ _).alloc (Nat.le_refl _) _).drew hS1 (Below.refl _ _) hS2
            have hge := listAt_new 70 (.slice none 0 0) rfl w k
            exact ⟨w3.heap.size, ⟨w.heap.size, g1, h1, fun _ => 0, fun _ => 0⟩, g0, h0, rfl, bld0 h2.1 (hge.below ((below_of_drew3 hS1.bl).trans (hS2.bl.mono (below_of_drew3 hS1.bl).size))) (Nat.le_refl _) h2.2.1 h2.2.2.1 h2.2.2.2.1 h2.2.2.2.2.1 h2.2.2.2.2.2.1 h2.2.2.2.2.2.2⟩)
        | exact (by
            have h2 := sev_two (Below.refl _ _).drew hS1 ((Below.refl _ w2).alloc (Nat.le_refl _) _) hS2
            have hge := listAt_new 70 (.slice none 0 0) rfl w2 k
            exact ⟨w3.heap.size, ⟨w2.heap.size, g1, h1, fun _ => 0, fun _ => 0⟩, g0, h0, rfl, bld0 h2.1 (hge.below hS2.bl) hS1.bl.size h2.2.1 h2.2.2.1 h2.2.2.2.1 h2.2.2.2.2.1 h2.2.2.2.2.2.1 h2.2.2.2.2.2.2⟩)
        | exact (by
            have h2 := sev_two (Below.refl _ _).drew hS1 (Below.refl _ _) hS2
            have hge := listAt_new 70 (.slice none 0 0) rfl w3 k
            have hb3 : Below w3.heap.size w3 (w3.alloc (.cells (madeV (.slice none 0 0) k) 70)) := (Below.refl _ _).alloc (Nat.le_refl _) _
            have hz := hb3.size
            have hB := bld0 (gr := gr) (h2.1.trans (hb3.mono h2.1.size)) hge h2.1.size (h2.2.1.below hb3) (h2.2.2.1.below hb3) h2.2.2.2.1 h2.2.2.2.2.1 (Nat.lt_of_lt_of_le h2.2.2.2.2.2.1 hz) (Nat.lt_of_lt_of_le h2.2.2.2.2.2.2 hz)
            rw [World.size_alloc] at hB
            exact ⟨_, ⟨w3.heap.size, g1, h1, fun _ => 0, fun _ => 0⟩, g0, h0, rfl, hB⟩)
  case rest =>
    obtain ⟨gv, m, aw, lw, rfl, hB⟩ := hcut
    clear mk
    have v1 := hB.cells.1
    have HB0 : Hid (Bld w wc gv gr n k d m aw lw 0 (fun _ _ _ => false) (fun _ _ => false) (fun _ _ => false)) := hB
    clear hB
    go_wp2_with fail
    go_loopg [30] k (fun q iv wr => ∃ (i : Nat) (m' : Ml), q = k - i ∧ i ≤ k ∧ iv = .int .i64 i ∧ m'.ge = m.ge ∧ m'.ga = m.ga ∧ m'.gl = m.gl ∧ Bld w wr gv gr n k d m' aw lw i (fun _ _ _ => false) (fun _ _ => false) (fun _ _ => false))
    case atStart => exact ⟨0, m, rfl, Nat.zero_le _, rfl, rfl, rfl, rfl, HB0.out⟩
    case round =>
      obtain ⟨i, m', rfl, hi, rfl, e1, e2, e3, hB⟩ := hrel
      by_cases hlt : i < k
      · have q0 : (0 : Int) ≤ (i : Int) := by omega
        have q1 : (i : Int) < (k : Int) := by omega
        have x1 := hB.cells.1
        have HB : Hid (Bld w wr gv gr n k d m' aw lw i (fun _ _ _ => false) (fun _ _ => false) (fun _ _ => false) ∧ m'.ge = m.ge ∧ m'.ga = m.ga ∧ m'.gl = m.gl) := ⟨hB, e1, e2, e3⟩
        clear hB e1 e2 e3 v1
        go_wp2_with fail
        refine wp_region_held_drew (S := (fun w' => (w'.cell? ⟨gv, 1, none⟩ = some (.slice (some ⟨m'.ge, 0, none⟩) k k) ∧ w'.cell? ⟨gv, 1, none⟩ = some (.slice (some ⟨m'.ge, 0, none⟩) k k)) ∧ Hid True)) (by kernel_rfl) ?_ (fun hHeld => ?_)
        · exact ⟨⟨x1, x1⟩, trivial⟩
        refine wpAnyH_take (i := 0) (oi := _) (v := ?_) rfl (by kernel_rfl) (by kernel_rfl) (by kernel_rfl) (fun _ _ _ h => h) (Or.inl ⟨by rfl, ?_⟩) (by assumption) ?_; rotate_left; (focus (intro w hSw; (try dsimp only at hSw); go_simp; (try with_reducible rfl))); (try simp only [List.getElem_toArray, List.getElem_cons_succ, List.getElem_cons_zero, Act.put, List.setIfInBounds_toArray, List.set_cons_zero, List.set_cons_succ])
        refine wpAnyH_take (i := 1) (oi := _) (v := ?_) rfl (by kernel_rfl) (by kernel_rfl) (by kernel_rfl) (fun _ _ _ h => h) (Or.inl ⟨by rfl, ?_⟩) (by assumption) ?_; rotate_left; (focus (intro w hSw; (try dsimp only at hSw); go_simp; (try with_reducible rfl))); (try simp only [List.getElem_toArray, List.getElem_cons_succ, List.getElem_cons_zero, Act.put, List.setIfInBounds_toArray, List.set_cons_zero, List.set_cons_succ])
        refine wpAnyH_take (i := 2) (oi := _) (v := ?_) rfl (by kernel_rfl) (by kernel_rfl) (by kernel_rfl) (fun _ _ _ h => h) (Or.inl ⟨by rfl, ?_⟩) (by assumption) ?_; rotate_left; (focus (intro w hSw; (try dsimp only at hSw); go_simp; (try with_reducible rfl))); (try simp only [List.getElem_toArray, List.getElem_cons_succ, List.getElem_cons_zero, Act.put, List.setIfInBounds_toArray, List.set_cons_zero, List.set_cons_succ])
        refine wpAnyH_take (i := 3) (oi := _) (v := ?_) rfl (by kernel_rfl) (by kernel_rfl) (by kernel_rfl) (fun _ _ _ h => h) (Or.inl ⟨by rfl, ?_⟩) (by assumption) ?_; rotate_left; (focus (intro w hSw; (try dsimp only at hSw); go_simp; (try with_reducible rfl))); (try simp only [List.getElem_toArray, List.getElem_cons_succ, List.getElem_cons_zero, Act.put, List.setIfInBounds_toArray, List.set_cons_zero, List.set_cons_succ])
        refine wpAnyH_take (i := 4) (oi := _) (v := ?_) rfl (by kernel_rfl) (by kernel_rfl) (by kernel_rfl) (fun _ _ _ h => h) (Or.inl ⟨by rfl, ?_⟩) (by assumption) ?_; rotate_left; (focus (intro w hSw; (try dsimp only at hSw); go_simp; (try with_reducible rfl))); (try simp only [List.getElem_toArray, List.getElem_cons_succ, List.getElem_cons_zero, Act.put, List.setIfInBounds_toArray, List.set_cons_zero, List.set_cons_succ])
        refine wpAnyH_take (i := 5) (oi := _) (v := ?_) rfl (by kernel_rfl) (by kernel_rfl) (by kernel_rfl) (fun _ _ _ h => h) (Or.inl ⟨by rfl, ?_⟩) (by assumption) ?_; rotate_left; (focus (intro w hSw; (try dsimp only at hSw); go_simp; (try with_reducible rfl))); (try simp only [List.getElem_toArray, List.getElem_cons_succ, List.getElem_cons_zero, Act.put, List.setIfInBounds_toArray, List.set_cons_zero, List.set_cons_succ])
        refine wpAnyH_take (i := 6) (oi := _) (v := ?_) rfl (by kernel_rfl) (by kernel_rfl) (by kernel_rfl) (fun _ _ _ h => h) (Or.inl ⟨by rfl, ?_⟩) (by assumption) ?_; rotate_left; (focus (intro w hSw; (try dsimp only at hSw); go_simp; (try with_reducible rfl))); (try simp only [List.getElem_toArray, List.getElem_cons_succ, List.getElem_cons_zero, Act.put, List.setIfInBounds_toArray, List.set_cons_zero, List.set_cons_succ])
        refine wpAnyH_ready (rs := [7]) (by kernel_rfl) (by simp) ?_
        refine AllReadyH.cons (o := _) rfl (fun K hK => ?_) ?_
        · (go_simp; go_at_call 120; refine Calls.mono (H.out.2.2.1 _) ?_; rintro r4 w4 ⟨g0, g1, rfl, hg1, hS1⟩; have hb4 := below_of_drew3 hS1.bl; have x3 : w4.cell? ⟨gv, 1, none⟩ = some (.slice (some ⟨m'.ge, 0, none⟩) k k) := cell_up x1 hb4; have x4 := (HB.out.1.below hb4).ends.cell hlt; have x5 := (HB.out.1.below hb4).ends.free i; simp only [Nat.lt_irrefl, if_false] at x4; have H4 : Hid _ := And.intro hS1 (box_list_ne (HB.out.1.below hb4).box (HB.out.1.below hb4).ends (by decide)); clear hS1 hb4 hg1)
          (try go_wp2_with fail)
          refine hK.out _ _ ?_ (fun hHeld => ?_)
          · exact ⟨⟨x3, x3⟩, trivial⟩
          clear hK K
          (try simp only [List.getElem_toArray, List.getElem_cons_succ, List.getElem_cons_zero, Act.put, List.setIfInBounds_toArray, List.set_cons_zero, List.set_cons_succ])
          refine wpAnyH_take (i := 8) (oi := _) (v := ?_) rfl (by kernel_rfl) (by kernel_rfl) (by kernel_rfl) (fun _ _ _ h => h) (Or.inl ⟨by rfl, ?_⟩) (by assumption) ?_; rotate_left; (focus (intro w hSw; (try dsimp only at hSw); go_simp; (try with_reducible rfl))); (try simp only [List.getElem_toArray, List.getElem_cons_succ, List.getElem_cons_zero, Act.put, List.setIfInBounds_toArray, List.set_cons_zero, List.set_cons_succ])
          refine wpAnyH_ready (rs := [9]) (by kernel_rfl) (by simp) ?_
          refine AllReadyH.cons (o := _) rfl (fun K hK => ?_) ?_
          · (go_simp)
            (try go_wp2_with fail)
            refine hK.out _ _ ?_ (fun hHeld => ?_)
            · exact ⟨⟨(World.cell?_of_block (a := ⟨gv, 1, none⟩) (set_other _ _ _ _ _ H4.out.2)).trans x3, (World.cell?_of_block (a := ⟨gv, 1, none⟩) (set_other _ _ _ _ _ H4.out.2)).trans x3⟩, trivial⟩
            clear hK K
            (try simp only [List.getElem_toArray, List.getElem_cons_succ, List.getElem_cons_zero, Act.put, List.setIfInBounds_toArray, List.set_cons_zero, List.set_cons_succ])
            refine wpAnyH_done (by kernel_rfl) ?_ _
            (try go_simp)
            clear hHeld x3 x4 x5
            have hM := HB.out.1.more (show Sev wr w4 g0 g1 n d from ⟨H4.out.1.wd, H4.out.1.rw, H4.out.1.u0, H4.out.1.u1, below_of_drew3 H4.out.1.bl⟩) H4.out.1.lt0
            have HM : Hid _ := hM
            clear hM
            go_wp2_with fail
            go_roundg (k - (i + 1))
            case measure => omega
            case rel => exact ⟨i + 1, { m' with er := upm m'.er i g1, ew := upm m'.ew i g0 }, rfl, by omega, by go_num, HB.out.2.1, HB.out.2.2.1, HB.out.2.2.2, HM.out⟩
          exact AllReadyH.nil
        exact AllReadyH.nil
      · obtain rfl : k = i := by omega
        have q1 : ¬ (k : Int) < (k : Int) := by omega
        have HB : Hid (Bld w wr gv gr n k d m' aw lw k (fun _ _ _ => false) (fun _ _ => false) (fun _ _ => false)) := hB
        clear hB e1 e2 e3 v1
        go_upto_region 8 with fail
        go_wp2_with (first
          | (go_at_call 119; refine Calls.mono (H.out.2.1 _ HB.out.bl) ?_; rintro r w8 ⟨rfl, hw8⟩; obtain rfl := hw8.symm; clear hw8)
          | (have hq := HB.out; go_at_call 120; refine Calls.mono (H.out.2.2.2.1 _) ?_; rintro r w9 ⟨bw, gb, rfl, hg9, hS9⟩; clear hq; have H9 : Hid _ := hS9; clear hS9)
          | (have hq := H9.out; go_at_call 121; refine Calls.mono (H.out.2.2.2.2.1 _ (HB.out.bl.trans (H9.out.bl.mono HB.out.bl.size))) ?_; rintro r w10 ⟨u, rfl, hO10, hb10⟩; clear hq; obtain ⟨au, cu, rfl⟩ := row_shape hO10; have H10 : Hid _ := And.intro hO10 hb10; clear hO10 hb10))
        obtain ⟨l, hl⟩ : ∃ l, l = Sy.nf es := ⟨_, rfl⟩
        obtain ⟨N2, hN2⟩ : ∃ N2, N2 = (Sy.nf es).length := ⟨_, rfl⟩
        obtain ⟨dk, hdk⟩ : ∃ dk, dk = Br.wds k := ⟨_, rfl⟩
        rw [← hN2]
        have hN2s : N2 ≤ 10000 := by
          rw [hN2]
          have h2 := Sy.nf_len es
          have h3 := (right_parts H.out.2.2.2.2.2.1.right).2.2.1
          omega
        have hdks : dk ≤ 10000 := by rw [hdk]; unfold Br.wds; omega
        have hK64 : k ≤ 64 * dk := by rw [hdk]; unfold Br.wds; omega
        have hN64 : n ≤ 64 * d := by rw [HD.out.1]; unfold Br.wds; omega
        have hdd : d ≤ 10000 := by rw [HD.out.1]; unfold Br.wds; omega
        have hB9 := HB.out.below H9.out.bl
        have l9 := HB.out.lt
        have u9 := H9.out.u0
        have h2 : Lp2 w w10 gv gr n k d dk m' aw lw gb bw l (.slice au N2 cu) 0 (fun _ _ => false) (fun _ _ => false) :=
          ⟨(hB9.below H10.out.2).congr (fun a p q => by unfold Ez; simp) (fun _ _ _ _ => rfl) fun _ _ _ _ => rfl, by rw [hdk]; exact ((rws_of_sev H9.out HB.out.bl.size).below H10.out.2).congr fun p q _ _ => by unfold LbS; simp, by omega, by omega, fun a ha => by have := l9.2.2 a ha; omega⟩
        have hO2 : BEdges.Own w10 w.heap.size (.slice au N2 cu) l := by
          rw [hN2, hl]
          exact row_base H10.out.1 (Nat.le_trans HB.out.bl.size H9.out.bl.size)
        have H2 : Hid (Lp2 w w10 gv gr n k d dk m' aw lw gb bw l (.slice au N2 cu) 0 (fun _ _ => false) (fun _ _ => false) ∧ BEdges.Own w10 w.heap.size (.slice au N2 cu) l ∧ N2 = l.length ∧ l = Sy.nf es ∧ k ≤ 64 * dk ∧ n ≤ 64 * d) := ⟨h2, hO2, by rw [hN2, hl], hl, hK64, hN64⟩
        clear h2 hO2 hN2 hl hdk hB9 l9 u9 H9 H10 hK64 hN64 HB hg9
        go_loopg [50] N2 (fun q iv wr => ∃ j : Nat, q = N2 - j ∧ j ≤ N2 ∧ iv = .int .i64 j ∧ Lp2 w wr gv gr n k d dk m' aw lw gb bw l (.slice au N2 cu) j (fun _ _ => false) (fun _ _ => false) ∧ BEdges.Own wr w.heap.size (.slice au N2 cu) l)
        case atStart => exact ⟨0, rfl, Nat.zero_le _, rfl, H2.out.1, H2.out.2.1⟩
        case round =>
          obtain ⟨j, rfl, hj, rfl, hP, hO⟩ := hrel
          by_cases hlt : j < N2
          · obtain ⟨e, he⟩ : ∃ e, l[j]? = some e := ⟨_, List.getElem?_eq_getElem (by have := H2.out.2.2.1; omega)⟩
            obtain ⟨p, a, t, rfl, hpn, hak, htn⟩ := nf_nat H.out.2.2.2.2.2.1.right (by rw [← H2.out.2.2.2.1]; exact he)
            have hak : a < k := by omega
            obtain ⟨a9, rfl, d0, d1, d2⟩ := edge_at (BEdges.Own.has hO) he
            dsimp only at d0 d1 d2
            obtain ⟨wb, hwb⟩ : ∃ wb, wb = wr.alloc (.cells #[.int .i64 p, .int .i64 a, .int .i64 t] 66) := ⟨_, rfl⟩
            have hbb : Below wr.heap.size wr wb := by rw [hwb]; exact (Below.refl _ _).alloc (Nat.le_refl _) _
            have hgb : wb.heap[wr.heap.size]? = some (.cells #[.int .i64 p, .int .i64 a, .int .i64 t] 66 (0, 0)) := by rw [hwb]; exact heap_alloc_new wr _
            have f0 : wb.cell? ⟨wr.heap.size, 0, none⟩ = some (.int .i64 p) := cell0_of hgb rfl
            have f1 : wb.cell? ⟨wr.heap.size, 1, none⟩ = some (.int .i64 a) := cell0_of hgb rfl
            have f2 : wb.cell? ⟨wr.heap.size, 2, none⟩ = some (.int .i64 t) := cell0_of hgb rfl
            have hPb := hP.below hbb
            have hOb : BEdges.Own wb w.heap.size (.slice (some a9) N2 cu) l := trow_at hO fun b hb => hbb.block b (hO.lt b hb).2
            have x1 := hPb.b.cells.1
            have x2 := hPb.b.ends.cell hak
            rw [if_pos hak] at x2
            have x3 := (hPb.b.end1 a hak).lst.cell hpn
            have x4 := hPb.lab.lst.cell hpn
            have hA1 := fun W (hb : Below wb.heap.size wb W) => addRow_any (m'.ew a) (p * d) d d t _ W hdd (by have := H2.out.2.2.2.2.2; omega) (((hPb.b.end1 a hak).row p hpn).below hb)
            have hA2 := fun W (hR : RowAt W bw (p * dk) dk (LbS (l.take j) p)) => addRow_any bw (p * dk) dk dk a _ W hdks (by have := H2.out.2.2.2.2.1; omega) hR
            have hS1 := (hPb.b.end1 a hak).row p hpn
            have y1 := box_row_ne hgb hS1 (by decide)
            have y2 := row_list_ne (i := 0) hS1 hPb.lab.lst (by decide) rfl
            have HP : Hid _ := And.intro hPb (And.intro hOb (And.intro he (And.intro hA1 (And.intro hA2 (And.intro hwb (And.intro hS1 (And.intro y1 (And.intro y2 hgb))))))))
            clear hP hO he hPb hOb hbb hgb hA1 hA2 hwb hS1 y1 y2
            unfold Lc.v rowV at x3 x4
            unfold rowV at HP
            dsimp only at x3 x4
            have q0 : (0 : Int) ≤ (j : Int) := by omega
            have q1 : (j : Int) < (N2 : Int) := by omega
            have q2 : (0 : Int) ≤ (a : Int) := by omega
            have q3 : (a : Int) < (k : Int) := by omega
            have q4 : (0 : Int) ≤ (p : Int) := by omega
            have q5 : (p : Int) < (n : Int) := by omega
            go_upto_region 12 with fail
            rw [← HP.out.2.2.2.2.2.1]
            refine wp_region_held_drew (S := (fun w' => ((w'.cell? ⟨gv, 1, none⟩ = some (.slice (some ⟨m'.ge, 0, none⟩) k k) ∧ w'.cell? ⟨m'.ge, a, none⟩ = some (.slice (some ⟨m'.er a, 0, none⟩) n n) ∧ w'.cell? ⟨m'.er a, p, none⟩ = some (.slice (some ⟨m'.ew a, p * d, none⟩) d d)) ∧ w'.cell? ⟨wr.heap.size, 0, none⟩ = some (.int .i64 p) ∧ w'.cell? ⟨wr.heap.size, 1, none⟩ = some (.int .i64 a) ∧ w'.cell? ⟨wr.heap.size, 2, none⟩ = some (.int .i64 t)) ∧ Hid True)) (by kernel_rfl) ?_ (fun hHeld => ?_)
            · exact ⟨⟨⟨x1, x2, x3⟩, f0, f1, f2⟩, trivial⟩
            refine wpAnyH_take (i := 0) (oi := _) (v := ?_) rfl (by kernel_rfl) (by kernel_rfl) (by kernel_rfl) (fun _ _ _ h => h) (Or.inl ⟨by rfl, ?_⟩) (by assumption) ?_; rotate_left; (focus (intro w hSw; (try dsimp only at hSw); go_simp; (try with_reducible rfl))); (try simp only [List.getElem_toArray, List.getElem_cons_succ, List.getElem_cons_zero, Act.put, List.setIfInBounds_toArray, List.set_cons_zero, List.set_cons_succ])
            refine wpAnyH_take (i := 1) (oi := _) (v := ?_) rfl (by kernel_rfl) (by kernel_rfl) (by kernel_rfl) (fun _ _ _ h => h) (Or.inl ⟨by rfl, ?_⟩) (by assumption) ?_; rotate_left; (focus (intro w hSw; (try dsimp only at hSw); go_simp; (try with_reducible rfl))); (try simp only [List.getElem_toArray, List.getElem_cons_succ, List.getElem_cons_zero, Act.put, List.setIfInBounds_toArray, List.set_cons_zero, List.set_cons_succ])
            refine wpAnyH_take (i := 2) (oi := _) (v := ?_) rfl (by kernel_rfl) (by kernel_rfl) (by kernel_rfl) (fun _ _ _ h => h) (Or.inl ⟨by rfl, ?_⟩) (by assumption) ?_; rotate_left; (focus (intro w hSw; (try dsimp only at hSw); go_simp; (try with_reducible rfl))); (try simp only [List.getElem_toArray, List.getElem_cons_succ, List.getElem_cons_zero, Act.put, List.setIfInBounds_toArray, List.set_cons_zero, List.set_cons_succ])
            refine wpAnyH_take (i := 3) (oi := _) (v := ?_) rfl (by kernel_rfl) (by kernel_rfl) (by kernel_rfl) (fun _ _ _ h => h) (Or.inl ⟨by rfl, ?_⟩) (by assumption) ?_; rotate_left; (focus (intro w hSw; (try dsimp only at hSw); go_simp; (try with_reducible rfl))); (try simp only [List.getElem_toArray, List.getElem_cons_succ, List.getElem_cons_zero, Act.put, List.setIfInBounds_toArray, List.set_cons_zero, List.set_cons_succ])
            refine wpAnyH_take (i := 4) (oi := _) (v := ?_) rfl (by kernel_rfl) (by kernel_rfl) (by kernel_rfl) (fun _ _ _ h => h) (Or.inl ⟨by rfl, ?_⟩) (by assumption) ?_; rotate_left; (focus (intro w hSw; (try dsimp only at hSw); go_simp; (try with_reducible rfl))); (try simp only [List.getElem_toArray, List.getElem_cons_succ, List.getElem_cons_zero, Act.put, List.setIfInBounds_toArray, List.set_cons_zero, List.set_cons_succ])
            refine wpAnyH_take (i := 5) (oi := _) (v := ?_) rfl (by kernel_rfl) (by kernel_rfl) (by kernel_rfl) (fun _ _ _ h => h) (Or.inl ⟨by rfl, ?_⟩) (by assumption) ?_; rotate_left; (focus (intro w hSw; (try dsimp only at hSw); go_simp; (try with_reducible rfl))); (try simp only [List.getElem_toArray, List.getElem_cons_succ, List.getElem_cons_zero, Act.put, List.setIfInBounds_toArray, List.set_cons_zero, List.set_cons_succ])
            refine wpAnyH_take (i := 6) (oi := _) (v := ?_) rfl (by kernel_rfl) (by kernel_rfl) (by kernel_rfl) (fun _ _ _ h => h) (Or.inl ⟨by rfl, ?_⟩) (by assumption) ?_; rotate_left; (focus (intro w hSw; (try dsimp only at hSw); go_simp; (try with_reducible rfl))); (try simp only [List.getElem_toArray, List.getElem_cons_succ, List.getElem_cons_zero, Act.put, List.setIfInBounds_toArray, List.set_cons_zero, List.set_cons_succ])
            refine wpAnyH_take (i := 7) (oi := _) (v := ?_) rfl (by kernel_rfl) (by kernel_rfl) (by kernel_rfl) (fun _ _ _ h => h) (Or.inl ⟨by rfl, ?_⟩) (by assumption) ?_; rotate_left; (focus (intro w hSw; (try dsimp only at hSw); go_simp; (try with_reducible rfl))); (try simp only [List.getElem_toArray, List.getElem_cons_succ, List.getElem_cons_zero, Act.put, List.setIfInBounds_toArray, List.set_cons_zero, List.set_cons_succ])
            refine wpAnyH_take (i := 8) (oi := _) (v := ?_) rfl (by kernel_rfl) (by kernel_rfl) (by kernel_rfl) (fun _ _ _ h => h) (Or.inl ⟨by rfl, ?_⟩) (by assumption) ?_; rotate_left; (focus (intro w hSw; (try dsimp only at hSw); go_simp; (try with_reducible rfl))); (try simp only [List.getElem_toArray, List.getElem_cons_succ, List.getElem_cons_zero, Act.put, List.setIfInBounds_toArray, List.set_cons_zero, List.set_cons_succ])
            refine wpAnyH_take (i := 9) (oi := _) (v := ?_) rfl (by kernel_rfl) (by kernel_rfl) (by kernel_rfl) (fun _ _ _ h => h) (Or.inl ⟨by rfl, ?_⟩) (by assumption) ?_; rotate_left; (focus (intro w hSw; (try dsimp only at hSw); go_simp; (try with_reducible rfl))); (try simp only [List.getElem_toArray, List.getElem_cons_succ, List.getElem_cons_zero, Act.put, List.setIfInBounds_toArray, List.set_cons_zero, List.set_cons_succ])
            refine wpAnyH_take (i := 10) (oi := _) (v := ?_) rfl (by kernel_rfl) (by kernel_rfl) (by kernel_rfl) (fun _ _ _ h => h) (Or.inl ⟨by rfl, ?_⟩) (by assumption) ?_; rotate_left; (focus (intro w hSw; (try dsimp only at hSw); go_simp; (try with_reducible rfl))); (try simp only [List.getElem_toArray, List.getElem_cons_succ, List.getElem_cons_zero, Act.put, List.setIfInBounds_toArray, List.set_cons_zero, List.set_cons_succ])
            refine wpAnyH_take (i := 11) (oi := _) (v := ?_) rfl (by kernel_rfl) (by kernel_rfl) (by kernel_rfl) (fun _ _ _ h => h) (Or.inl ⟨by rfl, ?_⟩) (by assumption) ?_; rotate_left; (focus (intro w hSw; (try dsimp only at hSw); go_simp; (try with_reducible rfl))); (try simp only [List.getElem_toArray, List.getElem_cons_succ, List.getElem_cons_zero, Act.put, List.setIfInBounds_toArray, List.set_cons_zero, List.set_cons_succ])
            refine wpAnyH_take (i := 12) (oi := _) (v := ?_) rfl (by kernel_rfl) (by kernel_rfl) (by kernel_rfl) (fun _ _ _ h => h) (Or.inl ⟨by rfl, ?_⟩) (by assumption) ?_; rotate_left; (focus (intro w hSw; (try dsimp only at hSw); go_simp; (try with_reducible rfl))); (try simp only [List.getElem_toArray, List.getElem_cons_succ, List.getElem_cons_zero, Act.put, List.setIfInBounds_toArray, List.set_cons_zero, List.set_cons_succ])
            refine wpAnyH_take (i := 13) (oi := _) (v := ?_) rfl (by kernel_rfl) (by kernel_rfl) (by kernel_rfl) (fun _ _ _ h => h) (Or.inl ⟨by rfl, ?_⟩) (by assumption) ?_; rotate_left; (focus (intro w hSw; (try dsimp only at hSw); go_simp; (try with_reducible rfl))); (try simp only [List.getElem_toArray, List.getElem_cons_succ, List.getElem_cons_zero, Act.put, List.setIfInBounds_toArray, List.set_cons_zero, List.set_cons_succ])
            refine wpAnyH_ready (rs := [14]) (by kernel_rfl) (by simp) ?_
            refine AllReadyH.cons (o := _) rfl (fun K hK => ?_) ?_
            · (go_simp; go_at_call 122; refine Calls.mono (HP.out.2.2.2.1 _ (Below.refl _ _).drew) ?_; rintro r4 w4 ⟨⟨v4, rfl⟩, hR4, hW4⟩; have H4 : Hid (RowAt w4 (m'.ew a) (p * d) d (fun z => Ez (l.take j) a p z || decide (z = t)) ∧ Wr (m'.ew a) (p * d) d wb.drew w4) := ⟨hR4, hW4⟩; have hkc : ∀ {g o : Nat} {v : Value}, g ≠ m'.ew a → wb.cell? ⟨g, o, none⟩ = some v → w4.cell? ⟨g, o, none⟩ = some v := (fun {g o : Nat} {v : Value} (hg : g ≠ m'.ew a) (hv : wb.cell? ⟨g, o, none⟩ = some v) => (World.cell?_of_block (a := ⟨g, o, none⟩) (hW4.kp.block g (World.block_lt_of_cell? wb.drew _ hv) hg)).trans hv); have n1 := box_row_ne HP.out.1.b.box HP.out.2.2.2.2.2.2.1 (by decide); have n2 := row_list_ne (i := 0) HP.out.2.2.2.2.2.2.1 HP.out.1.b.ends (by decide) rfl; have n3 := row_list_ne (i := 0) HP.out.2.2.2.2.2.2.1 (HP.out.1.b.end1 a hak).lst (by decide) rfl; have z0 := hkc HP.out.2.2.2.2.2.2.2.1 f0; have z1 := hkc HP.out.2.2.2.2.2.2.2.1 f1; have z2 := hkc HP.out.2.2.2.2.2.2.2.1 f2; have z4 := hkc HP.out.2.2.2.2.2.2.2.2.1 x4; have z5 := hkc n1 x1; have z6 := hkc n2 x2; have z7 := hkc n3 x3; clear hR4 hW4 hkc n1 n2 n3)
              (try go_wp2_with fail)
              refine hK.out _ _ ?_ (fun hHeld => ?_)
              · exact ⟨⟨⟨z5, z6, z7⟩, z0, z1, z2⟩, trivial⟩
              clear hK K
              (try simp only [List.getElem_toArray, List.getElem_cons_succ, List.getElem_cons_zero, Act.put, List.setIfInBounds_toArray, List.set_cons_zero, List.set_cons_succ])
              refine wpAnyH_done (by kernel_rfl) ?_ _
              (try go_simp)
              clear hHeld x1 x2 x3 x4 f0 f1 f2 z2 z5 z6 z7 d0 d1 d2
              have hL0 : RowAt wb bw (p * dk) dk (LbS (l.take j) p) := HP.out.1.lab.row p hpn
              have hL4 : RowAt w4 bw (p * dk) dk (LbS (l.take j) p) := hL0.drew9.kept H4.out.2.kp (HP.out.1.far.2.2 a hak)
              have hA5 := HP.out.2.2.2.2.1 _ hL4.drew9
              have HL : Hid _ := And.intro (box_row_ne HP.out.2.2.2.2.2.2.2.2.2 hL0 (by decide)) (And.intro (row_list_ne (i := 0) hL0 HP.out.1.lab.lst (by decide) rfl) hL0)
              have H5 : Hid _ := hA5
              clear hL4 hA5 hL0
              go_upto_region 13 with fail
              refine wp_region_held_drew (S := (fun w' => ((w'.cell? ⟨wr.heap.size, 0, none⟩ = some (.int .i64 p) ∧ w'.cell? ⟨wr.heap.size, 1, none⟩ = some (.int .i64 a)) ∧ w'.cell? ⟨gb, p, none⟩ = some (.slice (some ⟨bw, p * dk, none⟩) dk dk)) ∧ Hid True)) (by kernel_rfl) ?_ (fun hHeld => ?_)
              · exact ⟨⟨⟨z0, z1⟩, z4⟩, trivial⟩
              refine wpAnyH_take (i := 0) (oi := _) (v := ?_) rfl (by kernel_rfl) (by kernel_rfl) (by kernel_rfl) (fun _ _ _ h => h) (Or.inl ⟨by rfl, ?_⟩) (by assumption) ?_; rotate_left; (focus (intro w hSw; (try dsimp only at hSw); go_simp; (try with_reducible rfl))); (try simp only [List.getElem_toArray, List.getElem_cons_succ, List.getElem_cons_zero, Act.put, List.setIfInBounds_toArray, List.set_cons_zero, List.set_cons_succ])
              refine wpAnyH_take (i := 1) (oi := _) (v := ?_) rfl (by kernel_rfl) (by kernel_rfl) (by kernel_rfl) (fun _ _ _ h => h) (Or.inl ⟨by rfl, ?_⟩) (by assumption) ?_; rotate_left; (focus (intro w hSw; (try dsimp only at hSw); go_simp; (try with_reducible rfl))); (try simp only [List.getElem_toArray, List.getElem_cons_succ, List.getElem_cons_zero, Act.put, List.setIfInBounds_toArray, List.set_cons_zero, List.set_cons_succ])
              refine wpAnyH_take (i := 2) (oi := _) (v := ?_) rfl (by kernel_rfl) (by kernel_rfl) (by kernel_rfl) (fun _ _ _ h => h) (Or.inl ⟨by rfl, ?_⟩) (by assumption) ?_; rotate_left; (focus (intro w hSw; (try dsimp only at hSw); go_simp; (try with_reducible rfl))); (try simp only [List.getElem_toArray, List.getElem_cons_succ, List.getElem_cons_zero, Act.put, List.setIfInBounds_toArray, List.set_cons_zero, List.set_cons_succ])
              refine wpAnyH_take (i := 3) (oi := _) (v := ?_) rfl (by kernel_rfl) (by kernel_rfl) (by kernel_rfl) (fun _ _ _ h => h) (Or.inl ⟨by rfl, ?_⟩) (by assumption) ?_; rotate_left; (focus (intro w hSw; (try dsimp only at hSw); go_simp; (try with_reducible rfl))); (try simp only [List.getElem_toArray, List.getElem_cons_succ, List.getElem_cons_zero, Act.put, List.setIfInBounds_toArray, List.set_cons_zero, List.set_cons_succ])
              refine wpAnyH_take (i := 4) (oi := _) (v := ?_) rfl (by kernel_rfl) (by kernel_rfl) (by kernel_rfl) (fun _ _ _ h => h) (Or.inl ⟨by rfl, ?_⟩) (by assumption) ?_; rotate_left; (focus (intro w hSw; (try dsimp only at hSw); go_simp; (try with_reducible rfl))); (try simp only [List.getElem_toArray, List.getElem_cons_succ, List.getElem_cons_zero, Act.put, List.setIfInBounds_toArray, List.set_cons_zero, List.set_cons_succ])
              refine wpAnyH_take (i := 5) (oi := _) (v := ?_) rfl (by kernel_rfl) (by kernel_rfl) (by kernel_rfl) (fun _ _ _ h => h) (Or.inl ⟨by rfl, ?_⟩) (by assumption) ?_; rotate_left; (focus (intro w hSw; (try dsimp only at hSw); go_simp; (try with_reducible rfl))); (try simp only [List.getElem_toArray, List.getElem_cons_succ, List.getElem_cons_zero, Act.put, List.setIfInBounds_toArray, List.set_cons_zero, List.set_cons_succ])
              refine wpAnyH_take (i := 6) (oi := _) (v := ?_) rfl (by kernel_rfl) (by kernel_rfl) (by kernel_rfl) (fun _ _ _ h => h) (Or.inl ⟨by rfl, ?_⟩) (by assumption) ?_; rotate_left; (focus (intro w hSw; (try dsimp only at hSw); go_simp; (try with_reducible rfl))); (try simp only [List.getElem_toArray, List.getElem_cons_succ, List.getElem_cons_zero, Act.put, List.setIfInBounds_toArray, List.set_cons_zero, List.set_cons_succ])
              refine wpAnyH_ready (rs := [7]) (by kernel_rfl) (by simp) ?_
              refine AllReadyH.cons (o := _) rfl (fun K hK => ?_) ?_
              · (go_simp; go_at_call 122; refine Calls.mono H5.out ?_; rintro r5 w5 ⟨⟨v5, rfl⟩, hR5, hW5⟩; have H6 : Hid (RowAt w5 bw (p * dk) dk (fun z => LbS (l.take j) p z || decide (z = a)) ∧ Wr bw (p * dk) dk w4.drew w5) := ⟨hR5, hW5⟩; have hkc : ∀ {g o : Nat} {v : Value}, g ≠ bw → w4.cell? ⟨g, o, none⟩ = some v → w5.cell? ⟨g, o, none⟩ = some v := (fun {g o : Nat} {v : Value} (hg : g ≠ bw) (hv : w4.cell? ⟨g, o, none⟩ = some v) => (World.cell?_of_block (a := ⟨g, o, none⟩) (hW5.kp.block g (World.block_lt_of_cell? w4.drew _ hv) hg)).trans hv); have y0 := hkc HL.out.1 z0; have y1 := hkc HL.out.1 z1; have y4 := hkc HL.out.2.1 z4; clear hR5 hW5 hkc)
                (try go_wp2_with fail)
                refine hK.out _ _ ?_ (fun hHeld => ?_)
                · exact ⟨⟨⟨y0, y1⟩, y4⟩, trivial⟩
                clear hK K
                (try simp only [List.getElem_toArray, List.getElem_cons_succ, List.getElem_cons_zero, Act.put, List.setIfInBounds_toArray, List.set_cons_zero, List.set_cons_succ])
                refine wpAnyH_done (by kernel_rfl) ?_ _
                (try go_simp)
                clear hHeld y0 y1 y4 z0 z1 z4
                have hP5 := HP.out.1.edge HP.out.2.2.1 hpn hak H4.out.1 H4.out.2.undrew H6.out.1 H6.out.2.undrew
                have hO5 : BEdges.Own w5 w.heap.size (.slice (some a9) N2 cu) l := trow_at HP.out.2.1 fun b hb => by
                  obtain ⟨c, hc⟩ := row_cells HP.out.2.1 hb
                  have e4 := H4.out.2.kp.block b (t_lt hc) (box_row_ne hc HP.out.2.2.2.2.2.2.1 (by decide))
                  exact (H6.out.2.kp.block b (t_lt (e4.trans hc)) (box_row_ne hc HL.out.2.2 (by decide))).trans e4
                have H7 : Hid _ := And.intro hP5 hO5
                clear hP5 hO5
                go_wp2_with fail
                go_roundg (N2 - (j + 1))
                case measure => omega
                case rel => exact ⟨j + 1, rfl, by omega, by go_num, H7.out.1, H7.out.2⟩
              exact AllReadyH.nil
            exact AllReadyH.nil
          · obtain rfl : N2 = j := by omega
            have q1 : ¬ (N2 : Int) < (N2 : Int) := by omega
            have HP : Hid (Lp2 w wr gv gr n k d dk m' aw lw gb bw l (.slice au N2 cu) N2 (fun _ _ => false) (fun _ _ => false)) := hP
            clear hP hO
            go_wp2_with fail
            obtain ⟨inc, hinc⟩ : ∃ inc, inc = incS l dk := ⟨_, rfl⟩
            have hP0 : Lp2 w wr gv gr n k d dk m' aw lw gb bw l (.slice au N2 cu) N2 (st9 n inc 0 0) (st9 n (fun x y => !inc x y) 0 0) := HP.out.congr (fun x y _ _ => by simp [st9]) fun x y _ _ => by simp [st9]
            have e9 : l.take N2 = l := List.take_of_length_le (by have := H2.out.2.2.1; omega)
            have HQ : Hid (Lp2 w wr gv gr n k d dk m' aw lw gb bw l (.slice au N2 cu) N2 (st9 n inc 0 0) (st9 n (fun x y => !inc x y) 0 0) ∧ inc = incS l dk ∧ l.take N2 = l) := ⟨hP0, hinc, e9⟩
            clear hP0 hinc e9 HP
            go_loopg [79] n (fun q iv wr => ∃ p : Nat, q = n - p ∧ p ≤ n ∧ iv = .int .i64 p ∧ Lp2 w wr gv gr n k d dk m' aw lw gb bw l (.slice au N2 cu) N2 (st9 n inc p 0) (st9 n (fun x y => !inc x y) p 0))
            case atStart => exact ⟨0, rfl, Nat.zero_le _, rfl, HQ.out.1⟩
            case round =>
              obtain ⟨p, rfl, hp, rfl, hP⟩ := hrel
              obtain ⟨wo, rfl⟩ : ∃ wo, wo = wr := ⟨_, rfl⟩
              by_cases hlt : p < n
              · have q0 : (0 : Int) ≤ (p : Int) := by omega
                have q1 : (p : Int) < (n : Int) := by omega
                have HP : Hid (Lp2 w wo gv gr n k d dk m' aw lw gb bw l (.slice au N2 cu) N2 (st9 n inc p 0) (st9 n (fun x y => !inc x y) p 0)) := hP
                clear hP
                go_wp2_with fail
                go_loopg [83] n (fun z iv wr => ∃ q : Nat, z = n - q ∧ q ≤ n ∧ iv = .int .i64 q ∧ Lp2 w wr gv gr n k d dk m' aw lw gb bw l (.slice au N2 cu) N2 (st9 n inc p q) (st9 n (fun x y => !inc x y) p q))
                case atStart => exact ⟨0, rfl, Nat.zero_le _, rfl, HP.out⟩
                case round =>
                  obtain ⟨q, rfl, hq, rfl, hP⟩ := hrel
                  by_cases hlq : q < n
                  · have q2 : (0 : Int) ≤ (q : Int) := by omega
                    have q3 : (q : Int) < (n : Int) := by omega
                    have x1 := hP.lab.lst.cell hlt
                    have x2 := hP.lab.lst.cell hlq
                    have x3 := hP.b.cells.2.1
                    have x4 := hP.b.cells.2.2
                    have x5 := hP.b.above.lst.cell hlt
                    have x6 := hP.b.lost.lst.cell hlt
                    have hW := fun W (hb : Below wr.heap.size wr W) => withinRow_any bw (p * dk) dk dk bw (q * dk) dk _ _ W hdks ((hP.lab.row p hlt).below hb) ((hP.lab.row q hlq).below hb)
                    rw [HQ.out.2.2] at hW
                    have hA1 := fun W (hb : Below wr.heap.size wr W) => addRow_any aw (p * d) d d q _ W hdd (by have := H2.out.2.2.2.2.2; omega) ((hP.b.above.row p hlt).below hb)
                    have hA2 := fun W (hb : Below wr.heap.size wr W) => addRow_any lw (p * d) d d q _ W hdd (by have := H2.out.2.2.2.2.2; omega) ((hP.b.lost.row p hlt).below hb)
                    obtain ⟨ic, hic⟩ : ∃ ic, ic = inc p q := ⟨_, rfl⟩
                    rw [show withS (LbS l p) (LbS l q) (64 * dk) = ic by rw [hic, HQ.out.2.1]; rfl] at hW
                    have HR : Hid _ := And.intro hP (And.intro hW (And.intro hA1 (And.intro hA2 hic)))
                    clear hP hW hA1 hA2 hic
                    unfold Lc.v rowV at x1 x2 x5 x6
                    unfold rowV at HR
                    dsimp only at x1 x2 x5 x6
                    go_wp2_with fail
                    refine wp_region_held_drew (S := (fun w' => (w'.cell? ⟨gb, p, none⟩ = some (.slice (some ⟨bw, p * dk, none⟩) dk dk) ∧ w'.cell? ⟨gb, q, none⟩ = some (.slice (some ⟨bw, q * dk, none⟩) dk dk)) ∧ Hid True)) (by kernel_rfl) ?_ (fun hHeld => ?_)
                    · exact ⟨⟨x1, x2⟩, trivial⟩
                    refine wpAnyH_take (i := 0) (oi := _) (v := ?_) rfl (by kernel_rfl) (by kernel_rfl) (by kernel_rfl) (fun _ _ _ h => h) (Or.inl ⟨by rfl, ?_⟩) (by assumption) ?_; rotate_left; (focus (intro w hSw; (try dsimp only at hSw); go_simp; (try with_reducible rfl))); (try simp only [List.getElem_toArray, List.getElem_cons_succ, List.getElem_cons_zero, Act.put, List.setIfInBounds_toArray, List.set_cons_zero, List.set_cons_succ])
                    refine wpAnyH_take (i := 1) (oi := _) (v := ?_) rfl (by kernel_rfl) (by kernel_rfl) (by kernel_rfl) (fun _ _ _ h => h) (Or.inl ⟨by rfl, ?_⟩) (by assumption) ?_; rotate_left; (focus (intro w hSw; (try dsimp only at hSw); go_simp; (try with_reducible rfl))); (try simp only [List.getElem_toArray, List.getElem_cons_succ, List.getElem_cons_zero, Act.put, List.setIfInBounds_toArray, List.set_cons_zero, List.set_cons_succ])
                    refine wpAnyH_take (i := 2) (oi := _) (v := ?_) rfl (by kernel_rfl) (by kernel_rfl) (by kernel_rfl) (fun _ _ _ h => h) (Or.inl ⟨by rfl, ?_⟩) (by assumption) ?_; rotate_left; (focus (intro w hSw; (try dsimp only at hSw); go_simp; (try with_reducible rfl))); (try simp only [List.getElem_toArray, List.getElem_cons_succ, List.getElem_cons_zero, Act.put, List.setIfInBounds_toArray, List.set_cons_zero, List.set_cons_succ])
                    refine wpAnyH_take (i := 3) (oi := _) (v := ?_) rfl (by kernel_rfl) (by kernel_rfl) (by kernel_rfl) (fun _ _ _ h => h) (Or.inl ⟨by rfl, ?_⟩) (by assumption) ?_; rotate_left; (focus (intro w hSw; (try dsimp only at hSw); go_simp; (try with_reducible rfl))); (try simp only [List.getElem_toArray, List.getElem_cons_succ, List.getElem_cons_zero, Act.put, List.setIfInBounds_toArray, List.set_cons_zero, List.set_cons_succ])
                    refine wpAnyH_take (i := 4) (oi := _) (v := ?_) rfl (by kernel_rfl) (by kernel_rfl) (by kernel_rfl) (fun _ _ _ h => h) (Or.inl ⟨by rfl, ?_⟩) (by assumption) ?_; rotate_left; (focus (intro w hSw; (try dsimp only at hSw); go_simp; (try with_reducible rfl))); (try simp only [List.getElem_toArray, List.getElem_cons_succ, List.getElem_cons_zero, Act.put, List.setIfInBounds_toArray, List.set_cons_zero, List.set_cons_succ])
                    refine wpAnyH_take (i := 5) (oi := _) (v := ?_) rfl (by kernel_rfl) (by kernel_rfl) (by kernel_rfl) (fun _ _ _ h => h) (Or.inl ⟨by rfl, ?_⟩) (by assumption) ?_; rotate_left; (focus (intro w hSw; (try dsimp only at hSw); go_simp; (try with_reducible rfl))); (try simp only [List.getElem_toArray, List.getElem_cons_succ, List.getElem_cons_zero, Act.put, List.setIfInBounds_toArray, List.set_cons_zero, List.set_cons_succ])
                    refine wpAnyH_take (i := 6) (oi := _) (v := ?_) rfl (by kernel_rfl) (by kernel_rfl) (by kernel_rfl) (fun _ _ _ h => h) (Or.inl ⟨by rfl, ?_⟩) (by assumption) ?_; rotate_left; (focus (intro w hSw; (try dsimp only at hSw); go_simp; (try with_reducible rfl))); (try simp only [List.getElem_toArray, List.getElem_cons_succ, List.getElem_cons_zero, Act.put, List.setIfInBounds_toArray, List.set_cons_zero, List.set_cons_succ])
                    refine wpAnyH_take (i := 7) (oi := _) (v := ?_) rfl (by kernel_rfl) (by kernel_rfl) (by kernel_rfl) (fun _ _ _ h => h) (Or.inl ⟨by rfl, ?_⟩) (by assumption) ?_; rotate_left; (focus (intro w hSw; (try dsimp only at hSw); go_simp; (try with_reducible rfl))); (try simp only [List.getElem_toArray, List.getElem_cons_succ, List.getElem_cons_zero, Act.put, List.setIfInBounds_toArray, List.set_cons_zero, List.set_cons_succ])
                    refine wpAnyH_ready (rs := [8]) (by kernel_rfl) (by simp) ?_
                    refine AllReadyH.cons (o := _) rfl (fun K hK => ?_) ?_
                    · (go_simp; go_at_call 123; refine Calls.mono (HR.out.2.1 _ (Below.refl _ _).drew) ?_; rintro r3 w3 ⟨rfl, hw3⟩; obtain rfl := hw3.symm; clear hw3)
                      (try go_wp2_with fail)
                      refine hK.out _ _ ?_ (fun hHeld => ?_)
                      · exact ⟨⟨x1, x2⟩, trivial⟩
                      clear hK K
                      (try simp only [List.getElem_toArray, List.getElem_cons_succ, List.getElem_cons_zero, Act.put, List.setIfInBounds_toArray, List.set_cons_zero, List.set_cons_succ])
                      refine wpAnyH_done (by kernel_rfl) ?_ _
                      (try go_simp)
                      clear hHeld
                      cases ic
                      · go_wp2_with fail
                        refine Calls.mono (HR.out.2.2.2.1 _ (Below.refl _ _).drew) ?_
                        rintro r4 w4 ⟨⟨v4, rfl⟩, hR4, hW4⟩
                        have H4 : Hid _ := And.intro hR4 hW4.undrew
                        clear hR4 hW4 x1 x2 x3 x4 x5 x6
                        go_wp2_with fail
                        go_roundg (n - (q + 1))
                        case measure => omega
                        case rel => exact ⟨q + 1, rfl, by omega, by go_num, (HR.out.1.lo hlt H4.out.2 H4.out.1).congr (fun x y _ _ => st9_no HR.out.2.2.2.2.symm x y) (fun x y _ _ => st9_yes hlq (by rw [← HR.out.2.2.2.2]; rfl) x y)⟩
                      · go_wp2_with fail
                        refine Calls.mono (HR.out.2.2.1 _ (Below.refl _ _).drew) ?_
                        rintro r4 w4 ⟨⟨v4, rfl⟩, hR4, hW4⟩
                        have H4 : Hid _ := And.intro hR4 hW4.undrew
                        clear hR4 hW4 x1 x2 x3 x4 x5 x6
                        go_wp2_with fail
                        go_roundg (n - (q + 1))
                        case measure => omega
                        case rel => exact ⟨q + 1, rfl, by omega, by go_num, (HR.out.1.ab hlt H4.out.2 H4.out.1).congr (fun x y _ _ => st9_yes hlq HR.out.2.2.2.2.symm x y) (fun x y _ _ => st9_no (by rw [← HR.out.2.2.2.2]; rfl) x y)⟩
                    exact AllReadyH.nil
                  · obtain rfl : n = q := by omega
                    have q3 : ¬ (n : Int) < (n : Int) := by omega
                    have HR : Hid (Lp2 w wr gv gr n k d dk m' aw lw gb bw l (.slice au N2 cu) N2 (st9 n inc p n) (st9 n (fun x y => !inc x y) p n)) := hP
                    clear hP
                    go_wp2_with fail
                    go_roundg (n - (p + 1))
                    case measure => omega
                    case rel => exact ⟨p + 1, rfl, by omega, by go_num, HR.out.congr (fun x y _ _ => st9_row n inc p x y) fun x y _ _ => st9_row n _ p x y⟩
              · obtain rfl : n = p := by omega
                have q1 : ¬ (n : Int) < (n : Int) := by omega
                have HP : Hid (Lp2 w wo gv gr n k d dk m' aw lw gb bw l (.slice au N2 cu) N2 (st9 n inc n 0) (st9 n (fun x y => !inc x y) n 0)) := hP
                clear hP
                go_wp2_with fail
                go_ret
                have hb := HP.out.b
                have hr := H.out.2.2.2.2.2.1.right
                have hi9 := HQ.out.2.1
                rw [H2.out.2.2.2.1] at hi9
                have hAf : ∀ x y, x < n → y < n → st9 n inc n 0 x y = inc x y := fun x y hx hy => by unfold st9; simp [hx, hy]
                have hLf : ∀ x y, x < n → y < n → st9 n (fun x y => !inc x y) n 0 x y = !inc x y := fun x y hx hy => by unfold st9; simp [hx, hy]
                refine ⟨gv, rfl, m', fun p => ⟨aw, p * d, d⟩, fun p => ⟨lw, p * d, d⟩, st9 n inc n 0, st9 n (fun x y => !inc x y) n 0, ⟨⟨H.out.2.2.2.2.2.1, H.out.2.2.2.2.2.2, hb.bl⟩, ⟨hb.box, hb.uv, hb.ends.congr fun a ha => if_pos ha, fun a ha => (hb.end1 a ha).congr fun p q _ _ => ?_, hb.above, hb.lost, fun p q _ _ hne => off_mul hne, fun p q _ _ => .inl fun e => hb.nal e.symm, fun p a _ ha e => (hb.nea a ha).2.1 e.symm, hb.gal, fun a ha => (hb.nea a ha).2.2⟩, Sm.Inv.start (ee_in hr) (fun x y hx hy => ?_) (fun x y hx hy => ?_) (fun x y hxy => ?_), fun x y hxy => ?_⟩⟩
                · rw [HQ.out.2.2, H2.out.2.2.2.1]
                  unfold Ez
                  simp only [Sy.nf_mem]
                · rw [hAf x y hx hy, hi9]
                  exact inc_iff hr rfl H2.out.2.2.2.2.1 x y
                · rw [hAf x y hx hy, hLf x y hx hy]
                · unfold st9
                  by_cases h1 : x < n
                  · have h2 : ¬ y < n := fun h2 => hxy ⟨h1, h2⟩
                    simp [h2]
                  · simp [h1]
                · unfold st9 at hxy
                  by_cases h1 : y < n
                  · exact h1
                  · simp [h1] at hxy
end
section
open Go.RowKit Go.Maps
attribute [local go_sem ↓] Go.wp_at_zero Go.wp_at_succ
theorem inOrder_turn {es os : List Sy.Ed} (h : InOrder Sy.turn (Sy.nf es) os) : os.map Sy.turn = Sy.nf ((Sy.nf es).map Sy.turn) := by
  refine Sy.nf_of ?_ fun x => ?_
  · have hnd : os.Nodup := by
      rw [h.1.nodup_iff]
      have hs := Sy.nf_str es
      generalize Sy.nf es = l at hs
      induction l with
      | nil => exact List.nodup_nil
      | cons a r ih =>
        refine List.nodup_cons.2 ⟨fun ha => ?_, ih hs.tail⟩
        have h1 := hs.head a ha
        rw [Sy.lt_irrefl] at h1
        cases h1
    have hp := h.2
    clear h
    induction os with
    | nil => trivial
    | cons a r ih =>
      obtain ⟨h1, h2⟩ := List.pairwise_cons.1 hp
      obtain ⟨h3, h4⟩ := List.nodup_cons.1 hnd
      rw [List.map_cons]
      refine Sy.Str.cons (ih h4 h2) fun x hx => ?_
      obtain ⟨b, hb, rfl⟩ := List.mem_map.1 hx
      have h5 := h1 b hb
      cases h6 : Sy.lt (Sy.turn a) (Sy.turn b) with
      | true => rfl
      | false =>
        have h7 := congrArg Sy.turn (Sy.eq_of_not h6 h5)
        rw [turn_turn, turn_turn] at h7
        rw [h7] at h3
        exact absurd hb h3
  · rw [List.mem_map, List.mem_map]
    constructor
    · rintro ⟨a, ha, rfl⟩; exact ⟨a, h.1.mem_iff.1 ha, rfl⟩
    · rintro ⟨a, ha, rfl⟩; exact ⟨a, h.1.mem_iff.2 ha, rfl⟩
theorem rg_up4' {w2 wa wb : World} {a0 a1 a2 a3 : Addr} {x0 x1 x2 x3 : Value} (h : (wa.cell? a0 = some x0 ∧ wa.cell? a1 = some x1 ∧ wa.cell? a2 = some x2 ∧ wa.cell? a3 = some x3) ∧ Hid (Below w2.heap.size w2 wa)) (hb : Below wa.heap.size wa wb) : (wb.cell? a0 = some x0 ∧ wb.cell? a1 = some x1 ∧ wb.cell? a2 = some x2 ∧ wb.cell? a3 = some x3) ∧ Hid (Below w2.heap.size w2 wb) := rg_up4 hb h
def NewAt (a : Addr) (n k s : Int) (es : List Sy.Ed) (w : World) (r : Ending) (w' : World) : Prop :=
  if Sy.right n k s es = true then ∃ (g bs bb cs cb m : Nat), n = (m : Int) ∧ r = .returned (.tuple #[.pointer (some ⟨g, 0, none⟩), .nilIface]) ∧ Gr w' w.heap.size g bs bb cs cb m k s es ∧ Below w.heap.size w w'
  else ∃ x, r = .returned (.tuple #[.pointer none, x]) ∧ Chain w' 0 0 a [sysB] x ∧ Below w.heap.size w w'
set_option maxRecDepth 100000 in
set_option maxHeartbeats 8000000 in
theorem new_any {M : Nat} (hS : SortOk M) (n k s : Int) (v : Value) (es : List Sy.Ed) (a : Addr) (w : World) (hA : Sent w 14 a) (hv : BEdges.Has w v es) (hM : es.length ≤ M) (hm : es.length ≤ 100000) :
    Calls Tryz.prog 83 #[sysV n k s v] w (NewAt a n k s es w) := by
  obtain ⟨w1, hw1⟩ : ∃ w1, w1 = w.alloc (.cells #[.int .i64 n, .int .i64 k, .int .i64 s, v] 24) := ⟨_, rfl⟩
  have hb1 : Below w.heap.size w w1 := by rw [hw1]; exact (Below.refl _ _).alloc (Nat.le_refl _) _
  have hg1 : w1.heap[w.heap.size]? = some (.cells #[.int .i64 n, .int .i64 k, .int .i64 s, v] 24 (0, 0)) := by rw [hw1]; exact heap_alloc_new w _
  have hN := normal_any hS n k s v es a w1 (hA.below hb1) (hv.below hb1) hM (by omega)
  obtain ⟨ao, cap, rfl, _⟩ := hv
  obtain ⟨m0, hm0⟩ : ∃ m0, m0 = es.length := ⟨_, rfl⟩
  rw [← hm0] at hN hg1 hw1 ⊢
  unfold sysV at hN ⊢
  have H1 : Hid _ := And.intro hN (And.intro hb1 (And.intro hg1 (And.intro hw1 hS)))
  have HM : Hid _ := And.intro hM hm
  cases hq : Sy.right n k s es with
  | false =>
    rw [hq] at H1
    unfold NewAt
    rw [hq]
    clear hN hb1 hg1 hw1 hS hA hq hm0 hM hm
    go_enter Tryz.func83, Tryz.ntmps83
    go_wp2_with fail
    rw [← H1.out.2.2.2.1]
    refine Calls.mono H1.out.1 ?_
    rintro r w2 ⟨x, u, rfl, hx, _, hb2⟩
    have hch : Chain w2 0 0 a [sysB] x := by simpa [SErr] using hx
    obtain ⟨T, y, rfl⟩ := hch.iface
    have hg2 := (hb2.block _ (t_lt H1.out.2.2.1)).trans H1.out.2.2.1
    obtain ⟨y0, y1, y2, y3⟩ := four_cells hg2
    have z0 := blk_free hg2 0
    have z1 := blk_free hg2 1
    have z2 := blk_free hg2 2
    have z3 := blk_free hg2 3
    have hbw := H1.out.2.1.trans (hb2.mono H1.out.2.1.size)
    have H2 : Hid _ := And.intro hch (And.intro hbw hg2)
    clear hb2 hg2 hbw hch hx
    go_wp2_with fail
    have hbf := four_below H2.out.2.1 (b := w.heap.size) (Nat.le_refl _) (.int .i64 0) (.int .i64 0) (.int .i64 0) (.slice none 0 0)
    have hcf := chain_st4 H2.out.1 H2.out.2.2 (.int .i64 0) (.int .i64 0) (.int .i64 0) (.slice none 0 0)
    unfold st4 at hcf
    go_ret2
    exact ⟨_, rfl, hcf, hbf⟩
  | true =>
    rw [hq] at H1
    have hrp := right_parts hq
    obtain ⟨q, rfl⟩ : ∃ q : Nat, n = (q : Int) := ⟨n.toNat, by omega⟩
    have HQ : Hid _ := And.intro hq hrp
    unfold NewAt
    rw [hq]
    clear hN hb1 hg1 hw1 hS hA hq hm0 hM hm hrp
    go_enter Tryz.func83, Tryz.ntmps83
    go_wp2_with fail
    rw [← H1.out.2.2.2.1]
    refine Calls.mono H1.out.1 ?_
    rintro r w2 ⟨x, u, rfl, hx, hO, hb2⟩
    have hO := hO trivial
    obtain rfl : x = .nilIface := by simpa [SErr] using hx
    obtain ⟨au, cu, rfl⟩ := row_shape hO
    have hg2 := (hb2.block _ (t_lt H1.out.2.2.1)).trans H1.out.2.2.1
    obtain ⟨y0, y1, y2, y3⟩ := four_cells hg2
    have z0 := blk_free hg2 0
    have z1 := blk_free hg2 1
    have z2 := blk_free hg2 2
    have z3 := blk_free hg2 3
    have hbw := H1.out.2.1.trans (hb2.mono H1.out.2.1.size)
    obtain ⟨L, hL⟩ : ∃ L, L = (Sy.nf es).length := ⟨_, rfl⟩
    obtain ⟨w3, hw3⟩ : ∃ w3, w3 = (((w2.setCell ⟨w.heap.size, 0, none⟩ (.int .i64 q)).setCell ⟨w.heap.size, 1, none⟩ (.int .i64 k)).setCell ⟨w.heap.size, 2, none⟩ (.int .i64 s)).setCell ⟨w.heap.size, 3, none⟩ (.slice au L cu) := ⟨_, rfl⟩
    rw [← hL]
    have hg3 : w3.heap[w.heap.size]? = some (.cells #[.int .i64 q, .int .i64 k, .int .i64 s, .slice au L cu] 24 (0, 0)) := by rw [hw3]; exact four_set hg2
    have hb3 : Below w.heap.size w w3 := by rw [hw3]; exact four_below hbw (Nat.le_refl _) _ _ _ _
    have hO3 : BEdges.Own w3 w.heap.size (.slice au (Sy.nf es).length cu) (Sy.nf es) := by
      rw [hw3]
      refine row_base (trow_at hO fun b hb => ?_) H1.out.2.1.size
      have n1 : b ≠ w.heap.size := fun e => own_bk hO hg2 (by decide) (e ▸ hb)
      rw [set_other _ _ _ _ _ n1, set_other _ _ _ _ _ n1, set_other _ _ _ _ _ n1, set_other _ _ _ _ _ n1]
    have H3 : Hid _ := And.intro hb3 (And.intro hO3 (And.intro hg3 (And.intro hw3 hL)))
    clear hO hb2 hg2 hbw hx hg3 hb3 hO3 hw3 hL
    have hle : L ≤ 10000 := by have := HQ.out.2.2.2.1; have := Sy.nf_len es; have := H3.out.2.2.2.2; omega
    have hqn : q ≤ 1000 := by have := HQ.out.2.1; omega
    have hnr : ∀ e ∈ Sy.nf es, 0 ≤ e.1 ∧ e.1 < (q : Int) ∧ 0 ≤ e.2.2 ∧ e.2.2 < (q : Int) := fun e he => by
      have := HQ.out.2.2.2.2.2.2 e ((Sy.nf_mem es e).1 he)
      exact ⟨this.1, this.2.1, this.2.2.1, this.2.2.2.1⟩
    have hTf : ∀ W, Below w3.heap.size w3 W → Calls Tryz.prog 114 #[.int .i64 q, .slice au L cu, .func (.func 115) #[] #[]] W fun r w' => ∃ bs bb, r = .returned (.agg #[.slice (some ⟨bs, 0, none⟩) L L, .slice (some ⟨bb, 0, none⟩) (q + 1) (q + 1)]) ∧ Tb w' w.heap.size bs bb q (Sy.nf es) ∧ Below W.heap.size W w' := fun W hb => by
      have hLL := H3.out.2.2.2.2
      have hOW : BEdges.Has W (.slice au (Sy.nf es).length cu) (Sy.nf es) := H3.out.2.1.has.below hb
      have h9 := tableOf_any _ _ forward_at q (.slice au (Sy.nf es).length cu) (Sy.nf es) W (by omega) (by omega) hOW (by rw [List.map_id']; exact fun e he => ⟨(hnr e he).1, (hnr e he).2.1⟩) (by rw [List.map_id']; exact nf_rows es)
      rw [List.map_id'] at h9
      rw [← hLL] at h9
      refine h9.mono fun r w' ⟨bs, bb, hr, h1, h2⟩ => ⟨bs, bb, hr, ⟨(Blk.of_arr h1).base ?_, (Blk.of_arr h2).base ?_⟩, h1.bl⟩
      · have := H3.out.1.size; have := hb.size; omega
      · have := H3.out.1.size; have := hb.size; omega
    have hOr : ∀ W, Below w3.heap.size w3 W → Calls Tryz.prog 116 #[.slice au L cu, .func (.func 117) #[] #[]] W fun r w' => ∃ u os, r = .returned u ∧ InOrder Sy.turn (Sy.nf es) os ∧ BEdges.Own w' W.heap.size u os ∧ Below W.heap.size W w' := fun W hb => by
      have hLL := H3.out.2.2.2.2
      have hOW : BEdges.Has W (.slice au (Sy.nf es).length cu) (Sy.nf es) := H3.out.2.1.has.below hb
      have h9 := ordered_any H1.out.2.2.2.2 _ _ backward_at (.slice au (Sy.nf es).length cu) (Sy.nf es) W (by have := Sy.nf_len es; have := HM.out.1; omega) (by omega) hOW
      rw [← hLL] at h9
      exact h9
    have hTb : ∀ W u os B, Below w3.heap.size w3 W → InOrder Sy.turn (Sy.nf es) os → BEdges.Own W B u os → Calls Tryz.prog 114 #[.int .i64 q, u, .func (.func 117) #[] #[]] W fun r w' => ∃ bs bb, r = .returned (.agg #[.slice (some ⟨bs, 0, none⟩) L L, .slice (some ⟨bb, 0, none⟩) (q + 1) (q + 1)]) ∧ Tb w' w.heap.size bs bb q (Sy.nf ((Sy.nf es).map Sy.turn)) ∧ Below W.heap.size W w' := fun W u os B hb hI hO => by
      have hLL := H3.out.2.2.2.2
      have hlo := hI.1.length_eq
      have het := inOrder_turn hI
      have h9 := tableOf_any _ _ backward_at q u os W (by omega) (by omega) hO.has (by
        rw [het]
        intro e he
        rw [Sy.nf_mem] at he
        obtain ⟨x, hx, rfl⟩ := List.mem_map.1 he
        exact ⟨(hnr x hx).2.2.1, (hnr x hx).2.2.2⟩) (by rw [het]; exact nf_rows _)
      rw [het, hlo, ← hLL] at h9
      refine h9.mono fun r w' ⟨bs, bb, hr, h1, h2⟩ => ⟨bs, bb, hr, ⟨(Blk.of_arr h1).base ?_, (Blk.of_arr h2).base ?_⟩, h1.bl⟩
      · have := H3.out.1.size; have := hb.size; omega
      · have := H3.out.1.size; have := hb.size; omega
    have HT : Hid _ := And.intro hTf (And.intro hOr hTb)
    clear hTf hOr hTb hnr
    go_upto_region 4 with fail
    rw [← H3.out.2.2.2.1]
    clear y0 y1 y2 y3 z0 z1 z2 z3
    obtain ⟨x0, x1, x2, x3⟩ := four_cells H3.out.2.2.1
    go_region_held3 (fun w' => (w'.cell? ⟨w.heap.size, 0, none⟩ = some (.int .i64 q) ∧ w'.cell? ⟨w.heap.size, 1, none⟩ = some (.int .i64 k) ∧ w'.cell? ⟨w.heap.size, 2, none⟩ = some (.int .i64 s) ∧ w'.cell? ⟨w.heap.size, 3, none⟩ = some (.slice au L cu)) ∧ Hid (Below w3.heap.size w3 w')) (first | exact rg_up4' (by assumption) hba | exact rg_up4' (by assumption) hbb | exact rg_up4' (by assumption) hbc | exact rg_up4' (by assumption) ((Below.refl _ _).alloc (Nat.le_refl _) _) | exact ⟨⟨x0, x1, x2, x3⟩, ((Below.refl _ _).drew : Below w3.heap.size w3 w3.drew)⟩ | go_keep)
      ((first
        | (go_at_call_of 114 (Value.slice au L cu); refine (HT.out.1 _ (rg_b (by assumption))).mono ?_; rintro r wa ⟨bs, bb, rfl, hTa, hba⟩)
        | (go_at_call 116; refine (HT.out.2.1 _ (rg_b (by assumption))).mono ?_; rintro r wb ⟨u5, os, rfl, hIo, hOb, hbb⟩)
        | (go_at_call_of 114 u5; refine (HT.out.2.2 _ _ os _ (rg_b (by assumption)) hIo (by first | exact hOb | exact trow_at hOb fun b hb => hba.block _ (hOb.lt b hb).2)).mono ?_; rintro r wc ⟨cs, cb, rfl, hTc, hbc⟩)
        | fail))
    have hal : Below wc.heap.size wc (wc.alloc (.cells #[.int .i64 q, .int .i64 k, .int .i64 s, .slice (some ⟨bs, 0, none⟩) L L, .slice (some ⟨bb, 0, none⟩) (q + 1) (q + 1), .slice (some ⟨cs, 0, none⟩) L L, .slice (some ⟨cb, 0, none⟩) (q + 1) (q + 1)] 169)) := (Below.refl _ _).alloc (Nat.le_refl _) _
    have hbx := heap_alloc_new wc (.cells #[.int .i64 q, .int .i64 k, .int .i64 s, .slice (some ⟨bs, 0, none⟩) L L, .slice (some ⟨bb, 0, none⟩) (q + 1) (q + 1), .slice (some ⟨cs, 0, none⟩) L L, .slice (some ⟨cb, 0, none⟩) (q + 1) (q + 1)] 169)
    have hba' := below_of_drew3 hba
    have hsz : w.heap.size ≤ wc.heap.size := by have := H3.out.1.size; have := hba'.size; have := hbb.size; have := hbc.size; omega
    have hbw : Below w.heap.size w (wc.alloc (.cells #[.int .i64 q, .int .i64 k, .int .i64 s, .slice (some ⟨bs, 0, none⟩) L L, .slice (some ⟨bb, 0, none⟩) (q + 1) (q + 1), .slice (some ⟨cs, 0, none⟩) L L, .slice (some ⟨cb, 0, none⟩) (q + 1) (q + 1)] 169)) :=
      (((H3.out.1.trans (hba'.mono H3.out.1.size)).trans (hbb.mono (by have := H3.out.1.size; have := hba'.size; omega))).trans (hbc.mono (by have := H3.out.1.size; have := hba'.size; have := hbb.size; omega))).trans (hal.mono hsz)
    have hGr : Gr (wc.alloc (.cells #[.int .i64 q, .int .i64 k, .int .i64 s, .slice (some ⟨bs, 0, none⟩) L L, .slice (some ⟨bb, 0, none⟩) (q + 1) (q + 1), .slice (some ⟨cs, 0, none⟩) L L, .slice (some ⟨cb, 0, none⟩) (q + 1) (q + 1)] 169)) w.heap.size wc.heap.size bs bb cs cb q k s es :=
      ⟨by rw [← H3.out.2.2.2.2]; exact hbx, hsz, ((hTa.below hbb).below hbc).below hal, hTc.below hal, HQ.out.1⟩
    have HF : Hid _ := And.intro hGr hbw
    clear hal hbx hba' hbw hGr hba hbb hbc hTa hTc hOb hIo x0 x1 x2 x3
    rename_i hS9
    clear hS9
    go_wp2_with fail
    go_ret2
    exact ⟨_, _, _, _, _, q, rfl, rfl, HF.out.1, HF.out.2⟩
theorem new_ok {M : Nat} (hS : SortOk M) (n k s : Int) (v : Value) (es : List Sy.Ed) (a : Addr) (w : World) (hA : Sent w 14 a) (hv : BEdges.Has w v es) (hM : es.length ≤ M) (hm : es.length ≤ 100000) (hq : Sy.right n k s es = true) :
    Calls Tryz.prog 83 #[sysV n k s v] w fun r w' => ∃ (g bs bb cs cb m : Nat), n = (m : Int) ∧ r = .returned (.tuple #[.pointer (some ⟨g, 0, none⟩), .nilIface]) ∧ Gr w' w.heap.size g bs bb cs cb m k s es ∧ Below w.heap.size w w' :=
  (new_any hS n k s v es a w hA hv hM hm).mono fun r w' h => by unfold NewAt at h; rw [if_pos hq] at h; exact h
theorem new_bad {M : Nat} (hS : SortOk M) (n k s : Int) (v : Value) (es : List Sy.Ed) (a : Addr) (w : World) (hA : Sent w 14 a) (hv : BEdges.Has w v es) (hM : es.length ≤ M) (hm : es.length ≤ 100000) (hq : Sy.right n k s es = false) :
    Calls Tryz.prog 83 #[sysV n k s v] w fun r w' => ∃ x, r = .returned (.tuple #[.pointer none, x]) ∧ Chain w' 0 0 a [sysB] x ∧ Below w.heap.size w w' :=
  (new_any hS n k s v es a w hA hv hM hm).mono fun r w' h => by unfold NewAt at h; rw [if_neg (by rw [hq]; simp)] at h; exact h
end
section
open Go.RowKit Go.Maps
attribute [local go_sem ↓] Go.wp_at_zero Go.wp_at_succ
theorem four_cells9 {w : World} {b : Nat} {x0 x1 x2 x3 : Value} {ty : TypeId} (h : w.heap[b]? = some (.cells #[x0, x1, x2, x3] ty (0, 0))) : w.cell? ⟨b, 0, none⟩ = some x0 ∧ w.cell? ⟨b, 1, none⟩ = some x1 ∧ w.cell? ⟨b, 2, none⟩ = some x2 ∧ w.cell? ⟨b, 3, none⟩ = some x3 := ⟨cell0_of h rfl, cell0_of h rfl, cell0_of h rfl, cell0_of h rfl⟩
structure AbAt (w w' : World) (n d : Nat) (es : List Sy.Ed) (ga : Nat) (ra : Nat → Lc) (A : Nat → Nat → Bool) : Prop where
  r : Rws w' w.heap.size ga n d ra A
  sim : ∀ p q, p < n → q < n → (A p q = true ↔ Sm.Sims (EE es) p q)
  bd : ∀ p q, A p q = true → q < n
  bl : Below w.heap.size w w'
theorem AbAt.below {w w' w2 : World} {n d : Nat} {es : List Sy.Ed} {ga : Nat} {ra : Nat → Lc} {A : Nat → Nat → Bool} (h : AbAt w w' n d es ga ra A) (hb : Below w'.heap.size w' w2) : AbAt w w2 n d es ga ra A := ⟨h.r.below hb, h.sim, h.bd, h.bl.trans (hb.mono h.bl.size)⟩
theorem AbAt.els {w w' : World} {n d : Nat} {es : List Sy.Ed} {ga : Nat} {ra : Nat → Lc} {A : Nat → Nat → Bool} (h : AbAt w w' n d es ga ra A) (hd : n ≤ 64 * d) (p : Nat) : Br.els (A p) (64 * d) = Br.els (A p) n := Br.els_skip hd fun z h1 _ => by
  cases h3 : A p z with
  | false => rfl
  | true => have := h.bd p z h3; omega
set_option linter.unusedSimpArgs false in
set_option maxRecDepth 100000 in
set_option maxHeartbeats 4000000 in
theorem aboveOf_ok (hS : SortOk 1000000) (m kk : Nat) (s : Int) (v : Value) (es : List Sy.Ed) (a : Addr) (w : World) (hA : Sent w 14 a) (hT : TabW w) (hv : BEdges.Has w v es) (hm : es.length ≤ 100000) (hq : Sy.right m kk s es = true) (hn : m ≤ 300) :
    Calls Tryz.prog 25 #[sysV m kk s v] w fun r w' => ∃ ga ra A, r = .returned (.tuple #[.slice (some ⟨ga, 0, none⟩) m m, .nilIface]) ∧ AbAt w w' m (Br.wds m) es ga ra A := by
  have hv0 := hv
  obtain ⟨ao, cap, rfl, _⟩ := hv0
  obtain ⟨L, hL⟩ : ∃ L, L = es.length := ⟨_, rfl⟩
  obtain ⟨w1, hw1⟩ : ∃ w1, w1 = w.alloc (.cells #[.int .i64 m, .int .i64 kk, .int .i64 s, .slice ao L cap] 24) := ⟨_, rfl⟩
  have hb1 : Below w.heap.size w w1 := by rw [hw1]; exact (Below.refl _ _).alloc (Nat.le_refl _) _
  have hg1 : w1.heap[w.heap.size]? = some (.cells #[.int .i64 m, .int .i64 kk, .int .i64 s, .slice ao L cap] 24 (0, 0)) := by rw [hw1]; exact heap_alloc_new w _
  have hN := new_ok hS m kk s _ es a w1 (hA.below hb1) (hv.below hb1) (by omega) hm hq
  rw [← hL] at hN ⊢
  unfold sysV at hN ⊢
  obtain ⟨x0, x1, x2, x3⟩ := four_cells9 hg1
  have H1 : Hid _ := And.intro hN (And.intro hb1 (And.intro hw1 (hT.below hT.lt hb1)))
  have HQ : Hid (Sy.right m kk s es = true) := hq
  have hm3 : ¬ (300 : Int) < (m : Int) := by omega
  clear hA hT hv hm hq hN hb1 hw1 hL
  go_enter Tryz.func25, Tryz.ntmps25
  go_upto_region 1 with fail
  rw [← H1.out.2.2.1]
  go_upto_region 2 with (go_at_call 83; refine Calls.mono H1.out.1 ?_; rintro r2 w2 ⟨g, bs, bb, cs, cb, m', hmm, rfl, hG, hb2⟩; obtain rfl : m = m' := (by omega); have H2 : Hid _ := And.intro hG hb2; have y0 := cell_up x0 hb2; clear hmm hG hb2)
  have hT2 := H1.out.2.2.2.below H1.out.2.2.2.lt H2.out.2
  have hOf := sieveOf_any (d := Br.wds m) rfl rfl H2.out.1 hT2
  have HO : Hid _ := hOf
  clear hOf hT2 x0 x1 x2 x3 hg1
  go_upto_region 7 with (go_at_call 84; refine Calls.mono HO.out ?_; rintro r3 w3 ⟨gv, mm, ra, rl, A, L9, rfl, hF⟩; have H3 : Hid (SfAt w2 w3 w1.heap.size g bs bb cs cb m kk s gv kk (Br.wds m) mm es ra rl A L9) := hF; clear hF)
  have hSi := smSift_any (fun h0 => by unfold Br.wds; omega) rfl (by omega) rfl H3.out
  have HSi : Hid _ := hSi
  clear hSi
  go_upto_region 8 with (go_at_call 85; refine Calls.mono HSi.out ?_; rintro r4 w4 ⟨⟨v4, rfl⟩, ra4, rl4, A4, L4, hF4, hno⟩; have z2 := hF4.sv.cells.2.2.1; have H4 : Hid (SfAt w2 w4 w1.heap.size g bs bb cs cb m kk s gv kk (Br.wds m) mm es ra4 rl4 A4 L4 ∧ ∀ p q, p < m → q < m → L4 p q = false) := ⟨hF4, hno⟩; clear hF4 hno)
  go_wp2_with fail
  go_ret2
  have hb04 := H1.out.2.1.trans ((H2.out.2.trans (H4.out.1.e.b.mono H2.out.2.size)).mono H1.out.2.1.size)
  have hab := H4.out.1.sv.above
  have hle : w.heap.size ≤ w2.heap.size := Nat.le_trans H1.out.2.1.size H2.out.2.size
  exact ⟨mm.ga, ra4, A4, rfl, ⟨hab.lst, hab.row, Nat.le_trans hle hab.ug, fun p hp => Nat.le_trans hle (hab.ur p hp)⟩, fun p q hp hq => H4.out.1.inv.done (ee_in HQ.out) H4.out.2 hp hq, fun p q h => H4.out.1.bd p q (by rw [h]; rfl), hb04⟩
theorem Tryz.infoLL : (Tryz.prog.info? 50).map (fun i => (i.zero, i.size, i.bytes)) = some (some (.slice none 0 0), 1, 24) := by kernel_rfl
theorem makeLL (n : Nat) (hn : n ≤ 1000000) (w : World) : (Instr.makeSlice 34 (.int .i64 (n : Int)) (.int .i64 (n : Int))).run Tryz.prog w = .ok (.slice (some ⟨w.heap.size, 0, none⟩) n n) (w.alloc (.cells (madeV (.slice none 0 0) n) 50)) := make_of _ _ _ 24 Tryz.underlying34 Tryz.infoLL n hn (by decide) w
structure AlAt (w w' : World) (n : Nat) (es : List Sy.Ed) (g : Nat) (f : Nat → Value) (i : Nat) : Prop where
  lst : ListAt 50 w' g n fun p => if p < i then f p else .slice none 0 0
  own : ∀ p, p < i → ∃ S : Nat → Bool, OwnI w' w.heap.size (f p) (natI (Br.els S n)) ∧ ∀ q, q < n → (S q = true ↔ Sm.Sims (EE es) p q)
  ug : w.heap.size ≤ g
  bl : Below w.heap.size w w'
  ap : ∀ p q b, p < i → q < i → p ≠ q → (f p).ownBlock = some b → (f q).ownBlock ≠ some b
  sz : ∃ cs : Array Value, w'.heap[g]? = some (.cells cs 50 (0, 0)) ∧ cs.size = n
theorem own_list {w : World} {B g m p : Nat} {u v : Value} {zs : List Int} {f : Nat → Value} (h : OwnI w B u zs) (k : ListAt 50 w g m f) : OwnI (w.setCell ⟨g, p, none⟩ v) B u zs := trow_at h fun b hb => set_other w g p b v fun e => by
  obtain ⟨c, hc⟩ := row_cells h hb
  obtain ⟨c2, hc2, _⟩ := k
  rw [e, hc2] at hc
  injection hc with e2
  injection e2 with _ e3
  exact absurd e3 (by decide)
theorem AlAt.more {w wo w5 : World} {n g p B : Nat} {es : List Sy.Ed} {f : Nat → Value} {u : Value} {S : Nat → Bool} (h : AlAt w wo n es g f p) (hb : Below wo.heap.size wo w5) (hO : OwnI w5 B u (natI (Br.els S n))) (hBo : wo.heap.size ≤ B) (hS : ∀ q, q < n → (S q = true ↔ Sm.Sims (EE es) p q)) : AlAt w (w5.setCell ⟨g, p, none⟩ u) n es g (upm f p u) (p + 1) := by
  have hl := h.lst.below hb
  have hB : w.heap.size ≤ B := Nat.le_trans h.bl.size hBo
  have old : ∀ q b, q < p → (f q).ownBlock = some b → b < wo.heap.size := fun q b hq e => by
    obtain ⟨T, h1, _⟩ := h.own q hq
    exact (h1.lt b e).2
  refine ⟨(hl.put u).congr fun q _ => ?_, fun q hq => ?_, h.ug, (h.bl.trans (hb.mono h.bl.size)).trans ((Kept.setCell w5 g p u).below (Nat.le_trans h.bl.size hb.size) fun i hi => by have := h.ug; omega), fun x y b hx hy hxy e1 e2 => ?_, by
    obtain ⟨cs, h1, h2⟩ := h.sz
    refine ⟨_, heap_setCell_same w5 g p _ _ u ((hb.block _ (t_lt h1)).trans h1), ?_⟩
    simpa using h2⟩
  · show (if q = p then u else _) = _
    by_cases e : q = p
    · subst e; rw [if_pos rfl, if_pos (by omega), upm_same]
    · rw [if_neg e, upm_ne _ _ e]
      by_cases e2 : q < p
      · rw [if_pos e2, if_pos (by omega)]
      · rw [if_neg e2, if_neg (by omega)]
  · by_cases e : q = p
    · subst e; rw [upm_same]; exact ⟨S, own_list (row_base hO hB) hl, hS⟩
    · rw [upm_ne _ _ e]
      obtain ⟨T, h1, h2⟩ := h.own q (by omega)
      exact ⟨T, own_list (trow_at h1 fun b hx => hb.block b (h1.lt b hx).2) hl, h2⟩
  · by_cases ex : x = p
    · subst ex
      rw [upm_same] at e1
      rw [upm_ne _ _ fun e => hxy e.symm] at e2
      have := (hO.lt b e1).1
      have := old y b (by omega) e2
      omega
    · rw [upm_ne _ _ ex] at e1
      by_cases ey : y = p
      · subst ey
        rw [upm_same] at e2
        have := (hO.lt b e2).1
        have := old x b (by omega) e1
        omega
      · rw [upm_ne _ _ ey] at e2
        exact h.ap x y b (by omega) (by omega) hxy e1 e2
theorem AbAt.other {w w5 : World} {n d g m p : Nat} {es : List Sy.Ed} {ga : Nat} {ra : Nat → Lc} {A : Nat → Nat → Bool} {f : Nat → Value} {u : Value} (h : AbAt w w5 n d es ga ra A) (k : ListAt 50 w5 g m f) (hg : w.heap.size ≤ g) : AbAt w (w5.setCell ⟨g, p, none⟩ u) n d es ga ra A :=
  ⟨h.r.other k (by decide) (list_list_ne h.r.lst k (by decide)), h.sim, h.bd, h.bl.trans ((Kept.setCell w5 g p u).below h.bl.size fun i hi => by omega)⟩
set_option linter.unusedSimpArgs false in
set_option maxRecDepth 100000 in
set_option maxHeartbeats 8000000 in
theorem above_ok (hS : SortOk 1000000) (m kk : Nat) (s : Int) (v : Value) (es : List Sy.Ed) (a : Addr) (w : World) (hA : Sent w 14 a) (hT : TabW w) (hv : BEdges.Has w v es) (hm : es.length ≤ 100000) (hq : Sy.right m kk s es = true) (hn : m ≤ 300) :
    Calls Tryz.prog 9 #[sysV m kk s v] w fun r w' => ∃ g f, r = .returned (.tuple #[.slice (some ⟨g, 0, none⟩) m m, .nilIface]) ∧ AlAt w w' m es g f m := by
  have hv0 := hv
  obtain ⟨ao, cap, rfl, _⟩ := hv0
  obtain ⟨L, hL⟩ : ∃ L, L = es.length := ⟨_, rfl⟩
  obtain ⟨w1, hw1⟩ : ∃ w1, w1 = w.alloc (.cells #[.int .i64 m, .int .i64 kk, .int .i64 s, .slice ao L cap] 24) := ⟨_, rfl⟩
  have hb1 : Below w.heap.size w w1 := by rw [hw1]; exact (Below.refl _ _).alloc (Nat.le_refl _) _
  have hg1 : w1.heap[w.heap.size]? = some (.cells #[.int .i64 m, .int .i64 kk, .int .i64 s, .slice ao L cap] 24 (0, 0)) := by rw [hw1]; exact heap_alloc_new w _
  have hN := aboveOf_ok hS m kk s _ es a w1 (hA.below hb1) (hT.below hT.lt hb1) (hv.below hb1) hm hq hn
  rw [← hL] at hN ⊢
  unfold sysV at hN ⊢
  obtain ⟨x0, x1, x2, x3⟩ := four_cells9 hg1
  have H1 : Hid _ := And.intro hN (And.intro hb1 (And.intro hw1 hT))
  have mk := fun W => makeLL m (by omega) W
  clear hA hT hv hm hq hN hb1 hw1 hL
  go_enter Tryz.func9, Tryz.ntmps9
  go_upto_region 1 with fail
  rw [← H1.out.2.2.1]
  go_upto_region 5 with (go_at_call 25; refine Calls.mono H1.out.1 ?_; rintro r2 w2 ⟨ga, ra, A, rfl, hAb⟩; have H2 : Hid (AbAt w1 w2 m (Br.wds m) es ga ra A) := hAb; have y0 := cell_up x0 hAb.bl; clear hAb)
  clear mk x0 x1 x2 x3 hg1 y0
  obtain ⟨w3, hw3⟩ : ∃ w3, w3 = w2.alloc (.cells (madeV (.slice none 0 0) m) 50) := ⟨_, rfl⟩
  have hb3 : Below w2.heap.size w2 w3 := by rw [hw3]; exact (Below.refl _ _).alloc (Nat.le_refl _) _
  have hb02 := H1.out.2.1.trans (H2.out.bl.mono H1.out.2.1.size)
  have hL0 : AlAt w w3 m es w2.heap.size (fun _ => .slice none 0 0) 0 := ⟨by rw [hw3]; exact (listAt_new 50 (.slice none 0 0) rfl w2 m).congr fun p _ => by simp, fun p hp => by omega, hb02.size, hb02.trans (hb3.mono hb02.size), fun p q b hp => by omega, _, by rw [hw3]; exact heap_alloc_new w2 _, by rw [← Array.length_toList, madeV_eq _ rfl, List.length_replicate]⟩
  rw [← hw3]
  have H3 : Hid (AlAt w w3 m es w2.heap.size (fun _ => .slice none 0 0) 0 ∧ AbAt w1 w3 m (Br.wds m) es ga ra A ∧ w2.heap.size < w3.heap.size ∧ Below w.heap.size w w2) := ⟨hL0, H2.out.below hb3, by rw [hw3]; simp, hb02⟩
  clear hw3 hb3 hb02 hL0
  go_wp2_with fail
  go_loopg [23] m (fun q iv wr => ∃ (p : Nat) (f : Nat → Value), q = m - p ∧ p ≤ m ∧ iv = .int .i64 p ∧ AlAt w wr m es w2.heap.size f p ∧ AbAt w1 wr m (Br.wds m) es ga ra A)
  case atStart => exact ⟨0, _, rfl, Nat.zero_le _, rfl, H3.out.1, H3.out.2.1⟩
  case round =>
    obtain ⟨p, f, rfl, hp, rfl, hL, hB⟩ := hrel
    obtain ⟨wo, rfl⟩ : ∃ wo, wo = wr := ⟨_, rfl⟩
    by_cases hlt : p < m
    · have q0 : (0 : Int) ≤ (p : Int) := by omega
      have q1 : (p : Int) < (m : Int) := by omega
      have c0 := hB.r.lst.cell hlt
      have hAl := allRow_any (ra p).b (ra p).o (Br.wds m) (ra p).c wo
      have hT0 : TabW wo := H1.out.2.2.2.below H1.out.2.2.2.lt hL.bl
      obtain ⟨wx, hwx⟩ : ∃ wx, wx = wo.alloc (.cells #[rowV (ra p).b (ra p).o (Br.wds m) (ra p).c] 75) := ⟨_, rfl⟩
      have hbx : Below wo.heap.size wo wx := by rw [hwx]; exact (Below.refl _ _).alloc (Nat.le_refl _) _
      have hcx : wx.cell? ⟨wo.heap.size, 0, none⟩ = some (rowV (ra p).b (ra p).o (Br.wds m) (ra p).c) := by rw [hwx]; exact (Boxed.new wo _ _).cell
      have hCo := collect_any (ra p).b (ra p).o (Br.wds m) (ra p).c wo.heap.size (A p) wx (by unfold Br.wds; omega) hcx ((hB.r.row p hlt).below hbx) (hT0.below hT0.lt hbx)
      rw [hB.els (by unfold Br.wds; omega) p] at hCo
      have HP : Hid _ := And.intro hAl (And.intro hCo (And.intro hwx (And.intro hbx (And.intro hL hB))))
      clear hAl hCo hwx hbx hcx hL hB hT0
      unfold Lc.v at c0
      unfold rowV at c0 HP
      have hlen : (Br.els (A p) m).length ≤ m := Br.els_len _ _
      go_wp2_with (first
        | (have hq := HP.out.1; go_at_call 28; refine Calls.mono HP.out.1 ?_; rintro r3 w4 ⟨rfl, hw4⟩; clear hq; rw [← HP.out.2.2.1] at hw4; obtain rfl := hw4.symm; clear hw4)
        | (go_at_call 27; refine Calls.mono HP.out.2.1 ?_; rintro r5 w5 ⟨u, rfl, hO, hb5⟩; obtain ⟨au, cu, rfl⟩ := row_shape hO; have H5 : Hid _ := And.intro hO hb5; have d0 := ((HP.out.2.2.2.2.1.lst.below HP.out.2.2.2.1).below hb5).cell hlt; have d1 := ((HP.out.2.2.2.2.1.lst.below HP.out.2.2.2.1).below hb5).free p; simp only [Nat.lt_irrefl, if_false] at d0; clear hO hb5))
      have hl5 := (HP.out.2.2.2.2.1.lst.below HP.out.2.2.2.1).below H5.out.2
      have hb5 := HP.out.2.2.2.1.trans (H5.out.2.mono HP.out.2.2.2.1.size)
      have hn := HP.out.2.2.2.2.1.more hb5 H5.out.1 HP.out.2.2.2.1.size (fun q hq => HP.out.2.2.2.2.2.sim p q hlt hq)
      have hn2 := (HP.out.2.2.2.2.2.below hb5).other (p := p) (u := .slice au (natI (Br.els (A p) m)).length cu) hl5 H2.out.bl.size
      have HF : Hid _ := And.intro hn hn2
      clear hl5 hb5 hn hn2
      go_roundg (m - (p + 1))
      case measure => omega
      case rel => exact ⟨p + 1, _, rfl, by omega, by go_num, HF.out.1, HF.out.2⟩
    · obtain rfl : m = p := by omega
      have q1 : ¬ (m : Int) < (m : Int) := by omega
      have HP : Hid _ := And.intro hL hB
      clear hL hB
      go_wp2_with fail
      go_ret2
      exact ⟨w2.heap.size, rfl, f, HP.out.1⟩
end
end Go.Proofs.YtibdgefjpcebkaaGreatDoor
