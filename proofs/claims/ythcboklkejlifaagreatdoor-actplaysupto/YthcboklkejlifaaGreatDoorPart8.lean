/- Texts of this claim, joined: BXaTexts, RefLab, Names, RefName, Once0, Read. -/
import Derived.Test.YthcboklkejlifaaGreatDoorBXwTexts
import Derived.Test.YthcboklkejlifaaGreatDoorPart3
import Derived.Test.YthcboklkejlifaaGreatDoorPart2
import Derived.Test.YthcboklkejlifaaGreatDoorPart4
import Derived.WalkSmall
import Derived.Deep.LoopGhost
/- The book's lists of Texts: what stands while other kinds turn; the marked lists behind Apart's growing. (Written by mkbx.py out of BXa.tmpl.) -/
namespace Go.Proofs.YthcboklkejlifaaGreatDoor.BTexts
open Go.RowKit Go.Maps
theorem Bp.lsf_lt {w : World} {bk : Nat} {vi : Value} {ls : List Value} {zss : List (List El)} (h : Bp w bk vi ls zss) {b : Nat} (hb : LsF ls b) : b < w.heap.size := by
  obtain ⟨l, hl, hb⟩ := hb
  obtain ⟨k, hk, rfl⟩ := List.getElem_of_mem hl
  have hz : zss[k]? = some (zss[k]'(by rw [← h.ll]; exact hk)) := List.getElem?_eq_getElem _
  exact ((h.li k _ _ (List.getElem?_eq_getElem hk) hz).lt b hb).2
theorem Bp.keep {w w' : World} {F : Nat → Prop} {bk : Nat} {vi : Value} {ls : List Value} {zss : List (List El)} (h : Bp w bk vi ls zss) (hk : Kept F w w') (hb : ¬ F bk) (hr : ∀ b, vi.ownBlock = some b → ¬ F b) (hl : ∀ b, LsF ls b → ¬ F b) : Bp w' bk vi ls zss :=
  ⟨(World.cell?_of_block (a := ⟨bk, 4, none⟩) (hk.block bk (World.block_lt_of_cell? w _ h.c0) hb)).trans h.c0, trow_at h.ri fun i hi => hk.block i (h.ri.lt i hi).2 (hr i hi), fun k l zs h1 h2 => trow_at (h.li k l zs h1 h2) fun i hi => hk.block i ((h.li k l zs h1 h2).lt i hi).2 (hl i ⟨l, List.mem_of_getElem? h1, hi⟩), h.ap, h.len, h.sz⟩
/-- A row of lists, each with its marks, all in blocks of F. -/
structure Mq (w : World) (v : Value) (ns : List Nat) (F : Nat → Prop) : Prop where
  ex : ∃ ao cap, v = .slice ao ns.length cap ∧ ∀ (k n : Nat), ns[k]? = some n → ∃ g l, ao = some ⟨g, 0, none⟩ ∧ w.cell? ⟨g, k, none⟩ = some l ∧ Has w l (marks k 0 n) ∧ (n ≠ 0 → ∀ b, l.ownBlock = some b → F b)
  row : ∀ b, v.ownBlock = some b → F b
theorem Mq.mr {w : World} {v : Value} {ns : List Nat} {F : Nat → Prop} (h : Mq w v ns F) : Mr w v ns := by
  obtain ⟨ao, cap, hv, h1⟩ := h.ex
  refine ⟨ao, cap, hv, fun k n hk => ?_⟩
  obtain ⟨g, l, ha, hc, hl, _⟩ := h1 k n hk
  exact ⟨_, l, ha, by rw [addz]; exact hc, hl⟩
theorem Mq.kept {w w' : World} {v : Value} {ns : List Nat} {F G : Nat → Prop} (h : Mq w v ns F) (hk : Kept G w w') (hd : ∀ b, F b → ¬ G b) : Mq w' v ns F := by
  obtain ⟨ao, cap, hv, h1⟩ := h.ex
  refine ⟨⟨ao, cap, hv, fun k n hn => ?_⟩, h.row⟩
  obtain ⟨g, l, ha, hc, hl, hF⟩ := h1 k n hn
  refine ⟨g, l, ha, (World.cell?_of_block (a := ⟨g, k, none⟩) (hk.block g (World.block_lt_of_cell? w _ hc) (hd g (h.row g (by rw [hv, ha]; rfl))))).trans hc, hl.kept hk fun hz b hb => hd b (hF (fun e => hz (by rw [e]; rfl)) b hb), hF⟩
theorem Mq.below {w w' : World} {v : Value} {ns : List Nat} {F : Nat → Prop} (h : Mq w v ns F) (hb : Below w.heap.size w w') : Mq w' v ns F := h.kept (G := fun _ => False) (Kept.of_below hb) fun _ _ hg => hg
theorem marks_zero_add (k n m : Nat) : marks k 0 n ++ marks k n m = marks k 0 (n + m) := by have := marks_add k 0 n m; rwa [Nat.zero_add] at this
/-- Behind the growing: the grown lists and the lists have their marks. -/
theorem gr_marked {w wr : World} {bk : Nat} {vi : Value} {ls : List Value} {zss : List (List El)} {vo : Value} {os : List Value} (h : Gr w wr bk vi ls (allM zss) (allM zss).length vo os) : Mq wr vo (zss.map fun z => z.length + 96) (fun b => LsF ls b ∨ vi.ownBlock = some b ∨ w.heap.size ≤ b) ∧ Mq wr vi (zss.map List.length) (fun b => LsF ls b ∨ vi.ownBlock = some b ∨ w.heap.size ≤ b) := by
  have hal : (allM zss).length = zss.length := by unfold allM; rw [List.length_mapIdx]
  have hlo : os.length = zss.length := by have := h.row.1; rw [Nat.mul_one, hal] at this; exact this
  have hll : ls.length = zss.length := by have := h.ri.1; rw [Nat.mul_one, hal] at this; exact this
  have hD : ∀ (k n : Nat), (zss.map List.length)[k]? = some n → ∃ l o, ls[k]? = some l ∧ os[k]? = some o ∧ Has wr l (marks k 0 n) ∧ Has wr o (marks k 0 (n + 96)) ∧ ∀ b, o.ownBlock = some b → LsF ls b ∨ w.heap.size ≤ b := fun k n hk => by
    rw [List.getElem?_map] at hk
    obtain ⟨zs, hz, rfl⟩ := Option.map_eq_some_iff.1 hk
    have hkl := (List.getElem?_eq_some_iff.1 hz).1
    have hl : ls[k]? = some (ls[k]'(by omega)) := List.getElem?_eq_getElem _
    have ha : (allM zss)[k]? = some (marks k 0 zs.length) := by unfold allM; rw [List.getElem?_mapIdx, hz]; rfl
    obtain ⟨d1, o, d2, d3, d4, _⟩ := h.done k _ _ (by omega) hl ha
    rw [marks_len, marks_zero_add] at d3
    refine ⟨_, o, hl, d2, d1, d3, fun b hb => ?_⟩
    rcases d4 with e | e
    · exact .inl ⟨_, List.mem_of_getElem? hl, by rw [← e]; exact hb⟩
    · exact .inr (e b hb)
  constructor
  · obtain ⟨ao, co, hv⟩ := row_shape h.row
    refine ⟨⟨ao, co, by rw [List.length_map, hv, hal], fun k n hk => ?_⟩, fun b hb => .inr (.inr (h.row.lt b hb).1)⟩
    rw [List.getElem?_map] at hk
    obtain ⟨zs, hz, rfl⟩ := Option.map_eq_some_iff.1 hk
    have hkl := (List.getElem?_eq_some_iff.1 hz).1
    obtain ⟨l, o, _, ho, _, hO, hF⟩ := hD k zs.length (by rw [List.getElem?_map, hz]; rfl)
    obtain ⟨g, c, hf, _, _⟩ := h.row.form (by omega)
    rw [hv] at hf
    injection hf with e1 e2 e3
    subst e1; subst e3
    have hr := h.row
    rw [hv] at hr
    exact ⟨_, o, rfl, by rw [hr.cellAt k (by omega), ho], hO, fun _ b hb => (hF b hb).imp_right .inr⟩
  · obtain ⟨ao, co, hv⟩ := row_shape h.ri
    refine ⟨⟨ao, co, by rw [List.length_map, hv, hal], fun k n hk => ?_⟩, fun b hb => .inr (.inl hb)⟩
    obtain ⟨l, o, hl, _, hL, _⟩ := hD k n hk
    rw [List.getElem?_map] at hk
    obtain ⟨zs, hz, rfl⟩ := Option.map_eq_some_iff.1 hk
    have hkl := (List.getElem?_eq_some_iff.1 hz).1
    obtain ⟨g, c, hf, _, _⟩ := h.ri.form (by omega)
    rw [hv] at hf
    injection hf with e1 e2 e3
    subst e1; subst e3
    have hr := h.ri
    rw [hv] at hr
    exact ⟨_, l, rfl, by rw [hr.cellAt k (by omega), hl], hL, fun _ b hb => .inl ⟨l, List.mem_of_getElem? hl, hb⟩⟩
/-- The blocks of lists of another element type, and of rows of another type, are none of these. -/
theorem Bp.far_of {w : World} {bk : Nat} {vi : Value} {ls : List Value} {zss : List (List El)} (h : Bp w bk vi ls zss) {B : Nat} {e : TypeId} {sz : Nat} {v : Value} {n : Nat} {xs : List Value} (ho : w.ownsRow B e sz v n xs) (hne : e ≠ 9) {b : Nat} (hb : v.ownBlock = some b) : ¬ LsF ls b := fun ⟨l, hl, hlb⟩ => by
  obtain ⟨k, hk, rfl⟩ := List.getElem_of_mem hl
  have hz : zss[k]? = some (zss[k]'(by rw [← h.ll]; exact hk)) := List.getElem?_eq_getElem _
  exact own_ne ho (h.li k _ _ (List.getElem?_eq_getElem hk) hz) hne b hb hlb
theorem Bp.far_bk {w : World} {bk : Nat} {vi : Value} {ls : List Value} {zss : List (List El)} (h : Bp w bk vi ls zss) : ¬ LsF ls bk := fun ⟨l, hl, hlb⟩ => h.ap.b l hl hlb
theorem Bp.typed {w : World} {bk : Nat} {vi : Value} {ls : List Value} {zss : List (List El)} (h : Bp w bk vi ls zss) {b : Nat} (hb : LsF ls b) : ∃ B n xs v, w.ownsRow B 9 1 v n xs ∧ v.ownBlock = some b := by
  obtain ⟨l, hl, hlb⟩ := hb
  obtain ⟨k, hk, rfl⟩ := List.getElem_of_mem hl
  have hz : zss[k]? = some (zss[k]'(by rw [← h.ll]; exact hk)) := List.getElem?_eq_getElem _
  exact ⟨_, _, _, _, h.li k _ _ (List.getElem?_eq_getElem hk) hz, hlb⟩
end Go.Proofs.YthcboklkejlifaaGreatDoor.BTexts
/- Contracts of the document's own Label and NameOf. -/
namespace Go.Proofs.YthcboklkejlifaaGreatDoor
open Go.RowKit
theorem refLabel_any (n : Int) (co : Bool) (w : World) : Calls Tryz.prog 140 #[.int .i64 n, .bool co] w fun e w' => e = .returned (.int .i64 (Ac.label n co)) ∧ w' = w := by
  by_cases h0 : n < 0
  · have H : Hid (Ac.label n co = 0) := (by unfold Ac.label; rw [if_neg (by omega)] : Ac.label n co = 0)
    go_enter Tryz.func140, Tryz.ntmps140
    go_wp2
    go_ret
    exact ⟨ret_int' H.out.symm, rfl⟩
  · by_cases h1 : 100 ≤ n
    · have H : Hid (Ac.label n co = 0) := (by unfold Ac.label; rw [if_neg (by omega)] : Ac.label n co = 0)
      go_enter Tryz.func140, Tryz.ntmps140
      go_wp2
      go_ret
      exact ⟨ret_int' H.out.symm, rfl⟩
    · cases co with
      | true =>
        have H : Hid (Ac.label n true = 2 * n + 2) := (by unfold Ac.label; rw [if_pos ⟨by omega, by omega⟩]; rfl : Ac.label n true = 2 * n + 2)
        go_enter Tryz.func140, Tryz.ntmps140
        go_wp2
        go_ret
        exact ⟨ret_int' H.out.symm, rfl⟩
      | false =>
        have H : Hid (Ac.label n false = 2 * n + 1) := (by unfold Ac.label; rw [if_pos ⟨by omega, by omega⟩]; rfl : Ac.label n false = 2 * n + 1)
        go_enter Tryz.func140, Tryz.ntmps140
        go_wp2
        go_ret
        exact ⟨ret_int' H.out.symm, rfl⟩
theorem refNameOf_any (l : Int) (w : World) : Calls Tryz.prog 138 #[.int .i64 l] w fun e w' => e = .returned (.tuple #[.int .i64 (Ac.nameN l), .bool (Ac.nameC l), .bool (Ac.named l)]) ∧ w' = w := by
  by_cases h0 : l ≤ 0
  · have H : Hid (Ac.nameN l = 0 ∧ Ac.nameC l = false ∧ Ac.named l = false) := ⟨by unfold Ac.nameN; rw [if_neg (by omega)], by simp [Ac.nameC]; omega, by simp [Ac.named]; omega⟩
    go_enter Tryz.func138, Tryz.ntmps138
    go_wp2
    rw [H.out.1, H.out.2.1, H.out.2.2]
    exact bodyPost_ret (by simp [results, Tryz.results138, go_sem] <;> omega) rfl ⟨rfl, rfl⟩
  · by_cases h1 : 201 ≤ l
    · have H : Hid (Ac.nameN l = 0 ∧ Ac.nameC l = false ∧ Ac.named l = false) := ⟨by unfold Ac.nameN; rw [if_neg (by omega)], by simp [Ac.nameC]; omega, by simp [Ac.named]; omega⟩
      go_enter Tryz.func138, Tryz.ntmps138
      go_wp2
      rw [H.out.1, H.out.2.1, H.out.2.2]
      exact bodyPost_ret (by simp [results, Tryz.results138, go_sem] <;> omega) rfl ⟨rfl, rfl⟩
    · obtain ⟨n, rfl⟩ : ∃ n : Nat, l = n := ⟨l.toNat, by omega⟩
      have hq : ((n : Int) - 1).tdiv 2 = ((n : Int) - 1) / 2 := Int.tdiv_eq_ediv_of_nonneg (by omega)
      have hr : (n : Int).tmod 2 = (n : Int) % 2 := Int.tmod_eq_emod_of_nonneg (by omega)
      by_cases h2 : (n : Int) % 2 = 0
      · have H : Hid (Ac.nameN n = ((n : Int) - 1) / 2 ∧ Ac.nameC n = true ∧ Ac.named n = true) := ⟨by unfold Ac.nameN; rw [if_pos (by omega)], by simp [Ac.nameC]; omega, by simp [Ac.named]; omega⟩
        have hb : ((n : Int).tmod 2 == 0) = true := by rw [hr, h2]; rfl
        go_enter Tryz.func138, Tryz.ntmps138
        go_wp2
        rw [H.out.1, H.out.2.1, H.out.2.2, ← hq]
        exact bodyPost_ret (by simp [results, Tryz.results138, go_sem] <;> omega) rfl ⟨rfl, rfl⟩
      · have H : Hid (Ac.nameN n = ((n : Int) - 1) / 2 ∧ Ac.nameC n = false ∧ Ac.named n = true) := ⟨by unfold Ac.nameN; rw [if_pos (by omega)], by simp [Ac.nameC]; omega, by simp [Ac.named]; omega⟩
        have hb : ((n : Int).tmod 2 == 0) = false := by rw [hr]; simp; omega
        go_enter Tryz.func138, Tryz.ntmps138
        go_wp2
        rw [H.out.1, H.out.2.1, H.out.2.2, ← hq]
        exact bodyPost_ret (by simp [results, Tryz.results138, go_sem] <;> omega) rfl ⟨rfl, rfl⟩
end Go.Proofs.YthcboklkejlifaaGreatDoor
/- Contracts of lexis.IsConst and of the helpers of the document's own name: they tell the same of every text. -/
namespace Go.Proofs.YthcboklkejlifaaGreatDoor
open Go.RowKit
theorem letter_any (c : Int) (w : World) : Calls Tryz.prog 25 #[.int .u8 c] w fun e w' => e = .returned (.bool (Lx.letterZ c)) ∧ w' = w := by
  rcases (show c < 65 ∨ (65 ≤ c ∧ c ≤ 90) ∨ (90 < c ∧ c < 97) ∨ (97 ≤ c ∧ c ≤ 122) ∨ 122 < c from by omega) with h | h | h | h | h
  · have H : Hid (Lx.letterZ c = false) := (by simp [Lx.letterZ, Lx.smallZ, Lx.greatZ]; omega : Lx.letterZ c = false)
    go_enter Tryz.func25, Tryz.ntmps25
    go_wp2
    go_ret
    exact ⟨ret_bool H.out.symm, rfl⟩
  · have H : Hid (Lx.letterZ c = true) := (by simp [Lx.letterZ, Lx.smallZ, Lx.greatZ]; omega : Lx.letterZ c = true)
    go_enter Tryz.func25, Tryz.ntmps25
    go_wp2
    go_ret
    exact ⟨ret_bool H.out.symm, rfl⟩
  · have z : decide (c ≤ 90) = false := by simp; omega
    have H : Hid (Lx.letterZ c = false) := (by simp [Lx.letterZ, Lx.smallZ, Lx.greatZ]; omega : Lx.letterZ c = false)
    go_enter Tryz.func25, Tryz.ntmps25
    go_wp2
    go_ret
    exact ⟨ret_bool H.out.symm, rfl⟩
  · have H : Hid (Lx.letterZ c = true) := (by simp [Lx.letterZ, Lx.smallZ, Lx.greatZ]; omega : Lx.letterZ c = true)
    go_enter Tryz.func25, Tryz.ntmps25
    go_wp2
    go_ret
    exact ⟨ret_bool H.out.symm, rfl⟩
  · have z : decide (c ≤ 90) = false := by simp; omega
    have z2 : decide (c ≤ 122) = false := by simp; omega
    have H : Hid (Lx.letterZ c = false) := (by simp [Lx.letterZ, Lx.smallZ, Lx.greatZ]; omega : Lx.letterZ c = false)
    go_enter Tryz.func25, Tryz.ntmps25
    go_wp2
    go_ret
    exact ⟨ret_bool H.out.symm, rfl⟩
theorem inner_any (c : Int) (w : World) : Calls Tryz.prog 24 #[.int .u8 c] w fun e w' => e = .returned (.bool (Lx.goB c)) ∧ w' = w := by
  have hl : Lx.goB c = (Lx.letterZ c || Lx.digitZ c || c == 95) := rfl
  rw [hl]
  clear hl
  cases k : Lx.letterZ c with
  | true =>
    go_enter Tryz.func24, Tryz.ntmps24
    go_wp2_with (go_at_call 25; refine (letter_any _ _).mono ?_; rintro e w' ⟨rfl, rfl⟩)
    go_ret
    exact ⟨rfl, rfl⟩
  | false =>
    cases k9 : (c == 95) with
    | true =>
      have h : c = 95 := by simpa using k9
      go_enter Tryz.func24, Tryz.ntmps24
      go_wp2_with (go_at_call 25; refine (letter_any _ _).mono ?_; rintro e w' ⟨rfl, rfl⟩)
      go_ret
      exact ⟨ret_bool (by rw [Bool.or_true]), rfl⟩
    | false =>
      rcases (show c < 48 ∨ (48 ≤ c ∧ c ≤ 57) ∨ 57 < c from by omega) with h | h | h
      · have H : Hid (Lx.digitZ c = false) := (by simp [Lx.digitZ]; omega : Lx.digitZ c = false)
        go_enter Tryz.func24, Tryz.ntmps24
        go_wp2_with (go_at_call 25; refine (letter_any _ _).mono ?_; rintro e w' ⟨rfl, rfl⟩)
        go_ret
        exact ⟨ret_bool (by rw [H.out]), rfl⟩
      · have H : Hid (Lx.digitZ c = true) := (by simp [Lx.digitZ]; omega : Lx.digitZ c = true)
        go_enter Tryz.func24, Tryz.ntmps24
        go_wp2_with (go_at_call 25; refine (letter_any _ _).mono ?_; rintro e w' ⟨rfl, rfl⟩)
        go_ret
        exact ⟨ret_bool (by rw [H.out]; rfl), rfl⟩
      · have z : decide (c ≤ 57) = false := by simp; omega
        have H : Hid (Lx.digitZ c = false) := (by simp [Lx.digitZ]; omega : Lx.digitZ c = false)
        go_enter Tryz.func24, Tryz.ntmps24
        go_wp2_with (go_at_call 25; refine (letter_any _ _).mono ?_; rintro e w' ⟨rfl, rfl⟩)
        go_ret
        exact ⟨ret_bool (by rw [H.out]; rfl), rfl⟩
end Go.Proofs.YthcboklkejlifaaGreatDoor
/- Contracts of the document's own IsName and IsConst. -/
namespace Go.Proofs.YthcboklkejlifaaGreatDoor
open Go.RowKit
theorem small_of (c : Int) : Lx.smallZ c = (Lx.letterZ c && decide (97 ≤ c)) := by
  unfold Lx.letterZ Lx.smallZ Lx.greatZ
  rw [Bool.eq_iff_iff]
  simp
  omega
theorem great_of (c : Int) : Lx.greatZ c = (Lx.letterZ c && !decide (97 ≤ c)) := by
  unfold Lx.letterZ Lx.smallZ Lx.greatZ
  rw [Bool.eq_iff_iff]
  simp
  omega
set_option maxHeartbeats 1000000 in
theorem refName_no (s : ByteArray) (small : Bool) (w : World) (hs : s.size ≤ maxLen) (h : s.size = 0 ∨ 32 < s.size) :
    Calls Tryz.prog 143 #[.string s, .bool small] w fun e w' => e = .returned (.bool false) ∧ w' = w := by
  unfold maxLen at hs
  rcases h with h | h
  · have z0 : ((s.size : Int) == 0) = true := by rw [h]; rfl
    go_enter Tryz.func143, Tryz.ntmps143
    go_wp2
    go_ret
    exact ⟨rfl, rfl⟩
  · have z0 : ((s.size : Int) == 0) = false := beq_eq_false_iff_ne.2 (by omega)
    have z1 : (32 : Int) < (s.size : Int) := by omega
    go_enter Tryz.func143, Tryz.ntmps143
    go_wp2
    go_ret
    exact ⟨rfl, rfl⟩
set_option maxHeartbeats 1000000 in
theorem refName_head (s : ByteArray) (small : Bool) (w : World) (h0 : 0 < s.size) (h1 : s.size ≤ 32) (h : Lx.letterZ (s[0].toNat : Int) = false ∨ (Lx.letterZ (s[0].toNat : Int) = true ∧ (small == decide ((97 : Int) ≤ ((s[0].toNat : Nat) : Int))) = false)) :
    Calls Tryz.prog 143 #[.string s, .bool small] w fun e w' => e = .returned (.bool false) ∧ w' = w := by
  have z0 : ((s.size : Int) == 0) = false := beq_eq_false_iff_ne.2 (by omega)
  have z1 : ¬ (32 : Int) < (s.size : Int) := by omega
  rcases h with h | ⟨h, hb⟩
  · go_enter Tryz.func143, Tryz.ntmps143
    go_wp2_with (go_at_call 25; refine (letter_any _ _).mono ?_; rintro e w' ⟨rfl, rfl⟩)
    go_ret
    exact ⟨rfl, rfl⟩
  · go_enter Tryz.func143, Tryz.ntmps143
    go_wp2_with (go_at_call 25; refine (letter_any _ _).mono ?_; rintro e w' ⟨rfl, rfl⟩)
    go_ret
    exact ⟨rfl, rfl⟩
set_option maxHeartbeats 1000000 in
theorem refName_run (s : ByteArray) (small : Bool) (w : World) (h0 : 0 < s.size) (h1 : s.size ≤ 32) (h : Lx.letterZ (s[0].toNat : Int) = true) (hb : (small == decide ((97 : Int) ≤ ((s[0].toNat : Nat) : Int))) = true) :
    Calls Tryz.prog 143 #[.string s, .bool small] w fun e w' => e = .returned (.bool (Lx.allGo s.data.toList)) ∧ w' = w := by
  have z0 : ((s.size : Int) == 0) = false := beq_eq_false_iff_ne.2 (by omega)
  have z1 : ¬ (32 : Int) < (s.size : Int) := by omega
  have HLEN : Hid (s.data.toList.length = s.size) := (by simp : s.data.toList.length = s.size)
  go_enter Tryz.func143, Tryz.ntmps143
  go_wp2_with (go_at_call 25; refine (letter_any _ _).mono ?_; rintro e w' ⟨rfl, rfl⟩)
  go_loop [5] (fun i => ∃ j : Nat, j ≤ s.size ∧ i = .int .i64 j ∧ ∀ k (hk : k < s.data.toList.length), k < j → Lx.goB (s.data.toList[k].toNat : Int) = true) (fun i => s.size - (intOf i).toNat)
  case atStart => exact ⟨0, Nat.zero_le _, rfl, fun k _ h => by omega⟩
  case round =>
    obtain ⟨j, hj, rfl, hr⟩ := hrel
    have HR : Hid (∀ k (hk : k < s.data.toList.length), k < j → Lx.goB (s.data.toList[k].toNat : Int) = true) := hr
    clear hr
    by_cases hlt : j < s.size
    · have hl : j < s.data.toList.length := by have := HLEN.out; omega
      cases hg : Lx.goB (s[j].toNat : Int) with
      | true =>
        go_wp2_with (go_at_call 24; refine (inner_any _ _).mono ?_; rintro e w' ⟨rfl, rfl⟩)
        go_round
        case rel => exact ⟨j + 1, by omega, by go_num, fun k hk h => by
          rcases Nat.lt_or_ge k j with h' | h'
          · exact HR.out k hk h'
          · obtain rfl : k = j := by omega
            exact hg⟩
        case measure => simp [intOf]; omega
      | false =>
        have HF : Hid (Lx.allGo s.data.toList = false) := Lx.not_allGo _ j hl hg
        go_wp2_with (go_at_call 24; refine (inner_any _ _).mono ?_; rintro e w' ⟨rfl, rfl⟩)
        go_ret
        exact ⟨ret_bool HF.out.symm, rfl⟩
    · have HF : Hid (Lx.allGo s.data.toList = true) := Lx.allGo_of _ fun k hk => HR.out k hk (by have := HLEN.out; omega)
      go_wp2
      go_ret
      exact ⟨ret_bool HF.out.symm, rfl⟩
theorem refName_any (s : ByteArray) (small : Bool) (w : World) (hs : s.size ≤ maxLen) :
    Calls Tryz.prog 143 #[.string s, .bool small] w fun e w' => e = .returned (.bool (Lx.nameZ small s)) ∧ w' = w := by
  by_cases h : s.size = 0 ∨ 32 < s.size
  · have hz : Lx.nameZ small s = false := by
      rcases h with h | h
      · simp [Lx.nameZ, h]
      · have : decide (s.size ≤ 32) = false := by simp; omega
        unfold Lx.nameZ
        split
        · rw [this]; rfl
        · rfl
    rw [hz]
    exact refName_no s small w hs h
  · have h0 : 0 < s.size := by omega
    have h1 : s.size ≤ 32 := by omega
    have d1 : decide (s.size ≤ 32) = true := by simpa using h1
    rw [nameZ_eq _ _ h0, d1, Bool.true_and]
    cases hl : Lx.letterZ (s[0].toNat : Int) with
    | false =>
      have hz : (if small = true then Lx.smallZ (s[0].toNat : Int) else Lx.greatZ (s[0].toNat : Int)) = false := by
        rw [small_of, great_of, hl]; simp
      rw [hz, Bool.and_false]
      exact refName_head s small w h0 h1 (.inl hl)
    | true =>
      cases hb : (small == decide ((97 : Int) ≤ ((s[0].toNat : Nat) : Int))) with
      | false =>
        have hz : (if small = true then Lx.smallZ (s[0].toNat : Int) else Lx.greatZ (s[0].toNat : Int)) = false := by
          rw [small_of, great_of, hl]
          cases small <;> simp_all
        rw [hz, Bool.and_false]
        exact refName_head s small w h0 h1 (.inr ⟨hl, hb⟩)
      | true =>
        have hz : (if small = true then Lx.smallZ (s[0].toNat : Int) else Lx.greatZ (s[0].toNat : Int)) = true := by
          rw [small_of, great_of, hl]
          cases small <;> simp_all
        rw [hz, Bool.and_true]
        exact refName_run s small w h0 h1 hl hb
theorem refIsName_any (s : ByteArray) (w : World) (hs : s.size ≤ maxLen) :
    Calls Tryz.prog 136 #[.string s] w fun e w' => e = .returned (.bool (Lx.nameZ true s)) ∧ w' = w := by
  have hC := refName_any s true w hs
  go_enter Tryz.func136, Tryz.ntmps136
  go_wp2_with (go_at_call 143; refine hC.mono ?_; rintro e w' ⟨rfl, rfl⟩)
  go_ret
  exact ⟨rfl, rfl⟩
end Go.Proofs.YthcboklkejlifaaGreatDoor
/- Lists of texts that are read; tables tell each name once. -/
namespace Go.Proofs.YthcboklkejlifaaGreatDoor
open Go.RowKit Go.Maps
/-- The value is a list of these texts. -/
structure HasS (w : World) (v : Value) (ss : List ByteArray) : Prop where
  form : ∃ ao cap, v = .slice ao ss.length cap ∧ ∀ i s, ss[i]? = some s → ∃ a, ao = some a ∧ w.cell? (a.add i) = some (.string s)
  size : ∀ s ∈ ss, s.size ≤ maxLen
theorem HasS.below {w w' : World} {v : Value} {ss : List ByteArray} {B : Nat} (h : HasS w v ss) (hB : w.heap.size = B) (hb : Below B w w') : HasS w' v ss := by
  obtain ⟨ao, cap, h1, h2⟩ := h.form
  refine ⟨⟨ao, cap, h1, fun i s hi => ?_⟩, h.size⟩
  obtain ⟨a, ha, hc⟩ := h2 i s hi
  exact ⟨a, ha, (hb.cell (by rw [← hB]; exact World.block_lt_of_cell? w _ hc)).trans hc⟩
theorem nodup_tab {w : World} {b : Nat} {vn vm : Value} {ns : List ByteArray} (h : Tab w b vn vm ns) {i j : Nat} {s : ByteArray} (hi : ns[i]? = some s) (hj : ns[j]? = some s) : i = j := by
  rcases h.map with ⟨_, rfl⟩ | ⟨bm, D, _, _, hm⟩
  · simp at hi
  · exact hm.nodup hi hj
theorem row_at {w : World} {base : Nat} {e : TypeId} {ao : Option Addr} {n cap : Nat} {ns : List ByteArray} (h : w.ownsRow base e 1 (.slice ao n cap) n (ns.map Value.string)) {i : Nat} {s : ByteArray} (hi : ns[i]? = some s) : ∃ g, ao = some ⟨g, 0, none⟩ ∧ w.cell? ⟨g, i, none⟩ = some (.string s) := by
  have hlt := (List.getElem?_eq_some_iff.1 hi).1
  have hl := h.1
  simp at hl
  rcases h.2 with ⟨_, h0⟩ | ⟨g, cap', cur, he, _⟩
  · omega
  · injection he with h1 _ h3
    subst h1
    subst h3
    refine ⟨g, rfl, ?_⟩
    rw [h.cellAt i (by omega), List.getElem?_map, hi]; rfl
theorem str_ne {x y : ByteArray} (h : x ≠ y) : (x.toList == y.toList) = false := by
  refine beq_eq_false_iff_ne.2 fun e => h ?_
  rw [ByteArray.toList_eq, ByteArray.toList_eq] at e
  cases x; cases y
  simp at e; simp [e]
end Go.Proofs.YthcboklkejlifaaGreatDoor
/- Contracts of strings.CutPrefix with the mark of a co-name, and of the table's Read. -/
namespace Go.Proofs.YthcboklkejlifaaGreatDoor
open Go.RowKit Go.Maps
/-- The text does not begin with the mark. -/
def NoCo (s : ByteArray) : Prop := ∀ h : 0 < s.size, s[0] ≠ 39
theorem coB_list (s : ByteArray) : (coB true s).data.toList = 39 :: s.data.toList := by simp [coB]
theorem coB_size (s : ByteArray) : (coB true s).size = s.size + 1 := by
  unfold coB
  rw [if_pos rfl, ByteArray.size_append]; show 1 + s.size = _; omega
theorem bytes_eq {a b : ByteArray} (h : a.data.toList = b.data.toList) : a = b := by cases a; cases b; simp at h; simp [h]
/-- A text is a name with the mark, or one that does not begin with it. -/
theorem co_split (s : ByteArray) : ∃ co x, s = coB co x ∧ (co = false → NoCo x) ∧ x.size ≤ s.size := by
  by_cases h : ∃ h : 0 < s.size, s[0] = 39
  · obtain ⟨h0, h1⟩ := h
    refine ⟨true, ⟨(s.data.toList.drop 1).toArray⟩, ?_, (fun e => absurd e (by decide)), (by show (s.data.toList.drop 1).toArray.size ≤ s.size; simp)⟩
    apply bytes_eq
    rw [coB_list]
    have hl : s.data.toList = s.data.toList[0]'(by simpa using h0) :: s.data.toList.drop 1 := by
      rw [← List.drop_eq_getElem_cons (by simpa using h0)]; simp
    have h2 : s.data.toList[0]'(by simpa using h0) = 39 := h1
    rw [h2] at hl
    exact hl
  · exact ⟨false, s, rfl, fun _ h0 h1 => h ⟨h0, h1⟩, Nat.le_refl _⟩
theorem ext_list (s : ByteArray) (a b : Nat) : (s.extract a b).data.toList = (s.data.toList.drop a).take (b - a) := by
  rw [ByteArray.data_extract, Array.toList_extract, List.extract_eq_take_drop]
theorem co_head (s : ByteArray) : ((coB true s).extract 0 1).toList = [39] := by
  rw [ByteArray.toList_eq, ext_list, coB_list]; rfl
theorem co_tail (s : ByteArray) : (coB true s).extract 1 (coB true s).size = s := by
  apply bytes_eq
  rw [ext_list, coB_list, coB_size]
  simp
  exact List.take_of_length_le (by simp)
theorem noCo_head (s : ByteArray) (h : NoCo s) (h0 : 0 < s.size) : ((s.extract 0 1).toList == [39]) = false := by
  refine beq_eq_false_iff_ne.2 fun e => ?_
  rw [ByteArray.toList_eq, ext_list] at e
  have hl : s.data.toList = s.data.toList[0]'(by simpa using h0) :: s.data.toList.drop 1 := by
    rw [← List.drop_eq_getElem_cons (by simpa using h0)]; simp
  rw [hl] at e
  simp at e
  exact h h0 e
set_option maxRecDepth 100000 in
theorem hasPrefix_co (s : ByteArray) (w : World) (hs : s.size + 1 ≤ maxLen) : Calls Tryz.prog 146 #[.string (coB true s), .string ⟨#[39]⟩] w fun r w' => r = .returned (.bool true) ∧ w' = w := by
  unfold maxLen at hs
  have h1 := co_head s
  have h2 := coB_size s
  generalize coB true s = x at h1 h2
  have q : (1 : Int) ≤ (x.size : Int) := by omega
  have q2 : ((x.extract 0 1).toList == [39]) = true := by rw [h1]; rfl
  go_enter Tryz.func146, Tryz.ntmps146
  go_wp2
  go_ret
  exact ⟨rfl, rfl⟩
set_option maxRecDepth 100000 in
theorem hasPrefix_no (s : ByteArray) (w : World) (hs : s.size ≤ maxLen) (hn : NoCo s) : Calls Tryz.prog 146 #[.string s, .string ⟨#[39]⟩] w fun r w' => r = .returned (.bool false) ∧ w' = w := by
  unfold maxLen at hs
  by_cases h0 : 0 < s.size
  · have q : (1 : Int) ≤ (s.size : Int) := by omega
    have q2 := noCo_head s hn h0
    clear hn
    go_enter Tryz.func146, Tryz.ntmps146
    go_wp2
    go_ret
    exact ⟨rfl, rfl⟩
  · have q : ¬ (1 : Int) ≤ (s.size : Int) := by omega
    clear hn
    go_enter Tryz.func146, Tryz.ntmps146
    go_wp2
    go_ret
    exact ⟨rfl, rfl⟩
set_option maxRecDepth 100000 in
theorem cut_any (co : Bool) (s : ByteArray) (w : World) (hs : (coB co s).size ≤ maxLen) (hn : co = false → NoCo s) : Calls Tryz.prog 139 #[.string (coB co s), .string ⟨#[39]⟩] w fun r w' => r = .returned (.tuple #[.string s, .bool co]) ∧ w' = w := by
  have key : ∀ w, Calls Tryz.prog 144 #[.string (coB co s), .string ⟨#[39]⟩] w fun r w' => r = .returned (.tuple #[.string s, .bool co]) ∧ w' = w := by
    intro w
    cases co with
    | true =>
      have h2 := coB_size s
      have hP := hasPrefix_co s w (by omega)
      have hs9 : s.size + 1 ≤ maxLen := by omega
      unfold maxLen at hs9
      clear hs
      have h3 := co_tail s
      rw [h2] at h3
      generalize coB true s = x at hP h2 h3
      have q : (1 : Int) ≤ (x.size : Int) := by omega
      clear hn
      go_enter Tryz.func144, Tryz.ntmps144
      go_wp2_with (go_at_call 146; refine hP.mono ?_; rintro r w' ⟨rfl, hw⟩; obtain rfl := hw.symm)
      go_ret2
      exact ⟨rfl, rfl⟩
    | false =>
      have hP := hasPrefix_no s w hs (hn rfl)
      clear hn
      show Calls Tryz.prog 144 #[.string s, .string ⟨#[39]⟩] w _
      go_enter Tryz.func144, Tryz.ntmps144
      go_wp2_with (go_at_call 146; refine hP.mono ?_; rintro r w' ⟨rfl, hw⟩; obtain rfl := hw.symm)
      go_ret2
      exact ⟨rfl, rfl⟩
  have hk := key w
  clear key hn hs
  generalize coB co s = x at hk
  go_enter Tryz.func139, Tryz.ntmps139
  go_wp2_with (go_at_call 144; refine hk.mono ?_; rintro r w' ⟨rfl, hw⟩; obtain rfl := hw.symm)
  go_ret2
  exact ⟨rfl, rfl⟩
end Go.Proofs.YthcboklkejlifaaGreatDoor
