/- Texts of this claim, joined: SyNum, SyOut, RoDRnd, RoBad, RoRound. -/
import Derived.Test.YtpmanmoljlhogaaGreatDoorPart8
import Derived.Test.YtpmanmoljlhogaaGreatDoorPart12
import Derived.Maps.OwnSet
import Derived.WalkSmall
import Derived.Test.YtpmanmoljlhogaaGreatDoorPart1
import Derived.Deep.AppendLies
import Derived.Test.YtpmanmoljlhogaaGreatDoorPart11
import Derived.Sort.QuietThIn
import Derived.Sort.BigQuietIn
/- Contracts of the program's numbered, Canon, Together and Classes. -/
namespace Go.Proofs.YtpmanmoljlhogaaGreatDoor
open Go.RowKit Go.Maps
attribute [local go_sem ↓] Go.wp_at_zero Go.wp_at_succ
/-- The map tells each class's place among those that were seen. -/
structure MapI (D : DataW Unit) (ns : List Int) : Prop where
  yes : ∀ (i : Nat) (z : Int), ns[i]? = some z → Maps.has D (.int .i64 z) = true ∧ D.atKey (.int .i64 z) (.lit (.int .i64 0)) = .lit (.int .i64 i)
  no : ∀ z : Int, z ∉ ns → Maps.has D (.int .i64 z) = false
  size : Maps.size D = ns.length
theorem MapI.nil : MapI (.map []) [] := ⟨fun i s h => by simp at h, fun s _ => rfl, rfl⟩
theorem ikey_inj {a b : Int} (h : Lit.int .i64 a = Lit.int .i64 b) : a = b := by injection h
theorem MapI.snoc {D : DataW Unit} {ns : List Int} (h : MapI D ns) (hD : IsMap D) (hT : Tidy D) (s : Int) (hs : s ∉ ns) : MapI (D.put (.int .i64 s) (.lit (.int .i64 ns.length))) (ns ++ [s]) := by
  refine ⟨fun i t ht => ?_, fun t ht => ?_, ?_⟩
  · rcases Nat.lt_or_ge i ns.length with hi | hi
    · rw [List.getElem?_append_left hi] at ht
      have hne : Lit.int .i64 t ≠ Lit.int .i64 s := fun e => hs (ikey_inj e ▸ List.mem_of_getElem? ht)
      rw [has_put_other hne, atKey_put_other hne]
      exact h.yes i t ht
    · rw [List.getElem?_append_right hi] at ht
      have hi0 : i - ns.length = 0 := by
        have := (List.getElem?_eq_some_iff.1 ht).1
        simp at this; omega
      rw [hi0] at ht
      simp at ht
      subst ht
      have : i = ns.length := by omega
      subst this
      have hk : WideAt.IsKeyLit (.int .i64 s) := trivial
      exact ⟨has_put_same hD hk _, atKey_put_same hD hk _ _⟩
  · have hne : Lit.int .i64 t ≠ Lit.int .i64 s := fun e => ht (by rw [ikey_inj e]; simp)
    rw [has_put_other hne]
    exact h.no t fun hm => ht (by simp [hm])
  · rw [size_put hT, h.no s hs]
    simp [h.size]
theorem Sy.place_mem {z : Int} {l : List Int} : Sy.place z l < l.length ↔ z ∈ l := by
  induction l with
  | nil => simp [Sy.place]
  | cons a r ih =>
    unfold Sy.place
    by_cases h : a = z
    · simp [h]
    · have h2 : z ≠ a := fun e => h e.symm
      simp [h, h2, ← ih]
theorem Sy.place_no {z : Int} {l : List Int} (h : z ∉ l) : Sy.place z l = l.length := by
  have h1 := Sy.place_le z l
  have h2 : ¬ Sy.place z l < l.length := fun e => h (Sy.place_mem.1 e)
  omega
theorem Tryz.lawI7 : Keyed Tryz.prog 3 := int_keyed Tryz.underlying3
theorem Tryz.zeroI7 (w : World) : (zeroValue 3).run Tryz.prog w = .ok (.int .i64 0) w := by kernel_rfl
/-- The list being made, and the map, in memory. -/
structure NumAt (w wr : World) (zs : List Int) (n i : Nat) (D : DataW Unit) (seen : List Int) : Prop where
  arr : Arr 3 w wr (w.heap.size + 1) (natC (Sy.canonG [] (zs.take i)) ++ List.replicate (n - i) (.int .i64 0))
  own : wr.ownsMap (H := Unit) Tryz.prog 3 (plainElem Tryz.prog 3) w.heap.size seen.length D
  map : MapI D seen
theorem Sy.top_canonG (l : List Int) : ∀ seen : List Int, max seen.length (Sy.top (Sy.canonG seen l)) = (Sy.seenG seen l).length := by
  induction l with
  | nil => intro seen; simp [Sy.canonG, Sy.top, Sy.seenG]
  | cons c r ih =>
    intro seen
    simp only [Sy.canonG, Sy.top, Sy.seenG]
    rw [← ih]
    have h1 := Sy.place_le c seen
    split <;> (try simp) <;> omega
theorem Sy.together_eq (zs : List Int) : Sy.together zs = (Sy.seenG [] zs).length := by
  rw [← Sy.top_canonG zs []]
  simp [Sy.together, Sy.canon]
theorem arr_mapTurn {w wr w3 : World} {gi : Nat} {vs : List Value} {bm : Nat} (h : Arr 3 w wr gi vs) (hg : wr.grownBy w3 (some bm)) (hb : w.heap.size ≤ bm) (hne : bm ≠ gi) : Arr 3 w w3 gi vs :=
  h.kept (Kept.of_grown hg) fun b e => by injection e with e; subst e; exact ⟨hb, hne⟩
theorem num_step {w w3 w4 : World} {zs : List Int} {n i k : Nat} {D2 : DataW Unit} {seen s2 : List Int} {z : Int} (hz : zs[i]? = some z) (hi : i < n) (hn : n = zs.length) (hs : seen = Sy.seenG [] (zs.take i)) (hA : Arr 3 w w3 (w.heap.size + 1) (natC (Sy.canonG [] (zs.take i)) ++ List.replicate (n - i) (.int .i64 0)))
    (hk : k = Sy.place z seen) (h4 : w4 = w3.setCell ⟨w.heap.size + 1, i, none⟩ (.int .i64 (k : Int))) (ho : w3.ownsMap (H := Unit) Tryz.prog 3 (plainElem Tryz.prog 3) w.heap.size s2.length D2) (hm : MapI D2 s2) :
    NumAt w w4 zs n (i + 1) D2 s2 := by
  subst h4
  have hC : (Sy.canonG [] (zs.take i)).length = i := by rw [Sy.canonG_len, List.length_take]; omega
  have hAs := hA.set i (.int .i64 (k : Int))
  rw [natC_step _ n i k hC hi] at hAs
  refine ⟨?_, ho.setCell (by simp) _, hm⟩
  rw [Sy.canon_step hz, ← hs, ← hk]
  exact hAs
set_option maxRecDepth 100000 in
set_option maxHeartbeats 8000000 in
theorem numbered_any (v : Value) (zs : List Int) (w : World) (hv : HasI w v zs) (hn : zs.length ≤ 100000) (hw : I64s zs) :
    Calls Tryz.prog 90 #[v] w fun e w' => ∃ u, e = .returned (.tuple #[u, .int .i64 (Sy.together zs : Nat)]) ∧ OwnI w' w.heap.size u (natI (Sy.canon zs)) ∧ Below w.heap.size w w' := by
  obtain ⟨ao, cap, rfl, hcs⟩ := hv
  obtain ⟨n, hN⟩ : ∃ n, n = zs.length := ⟨_, rfl⟩
  have HH : Hid _ := And.intro hcs (And.intro hN hw)
  rw [← hN] at hn ⊢
  clear hcs hN hw
  have hmm := @run_makeMap Tryz.prog
  have hmk := makeI n (by omega) (w.alloc (.map #[] 0))
  go_enter Tryz.func90, Tryz.ntmps90
  go_wp2_with fail
  clear hmk hmm
  go_loopg [16] n (fun q iv wr => ∃ (i : Nat) (D : DataW Unit) (seen : List Int), q = n - i ∧ i ≤ n ∧ iv = .int .i64 i ∧ seen = Sy.seenG [] (zs.take i) ∧ NumAt w wr zs n i D seen)
  case atStart =>
    refine ⟨0, .map [], [], rfl, Nat.zero_le _, rfl, by simp [Sy.seenG], ?_, ?_, MapI.nil⟩
    · have h1 := arr_new 3 (.int .i64 0) rfl n (w.alloc (.map #[] 0))
      have h2 := h1.back ((Below.refl _ w).alloc (Nat.le_refl _) _)
      simpa [Sy.canonG, natC] using h2
    · have := World.ownsMap_made (H := Unit) w Tryz.prog 3 (plainElem Tryz.prog 3)
      exact this.alloc _
  case round =>
    obtain ⟨i, D, seen, rfl, hi, rfl, hseen, hM⟩ := hrel
    by_cases hlt : i < n
    · obtain ⟨z, hz⟩ : ∃ z, zs[i]? = some z := ⟨zs[i]'(by have := HH.out.2.1; omega), List.getElem?_eq_getElem _⟩
      obtain ⟨a, rfl, c0⟩ := HH.out.1 i z hz
      have cz : wr.cell? (a.add i) = some (.int .i64 z) := (hM.arr.bl.cell (World.block_lt_of_cell? w _ c0)).trans c0
      have hzw : (Lit.int .i64 z).wf = true := HH.out.2.2 z (List.mem_of_getElem? hz)
      have hkey : keyOf Tryz.prog 3 (.int .i64 z) = some (.int .i64 z) := keyOf_int_mk Tryz.underlying3 hzw
      have q0 : (0 : Int) ≤ (i : Int) := by omega
      have q1 : (i : Int) < (n : Int) := by omega
      have hsl : seen.length ≤ i := by
        have := Sy.seenG_len (zs.take i) []
        rw [← hseen, List.length_take] at this
        simp at this; omega
      have hix : (natC (Sy.canonG [] (zs.take i)) ++ List.replicate (n - i) (Value.int .i64 0))[i]? = some (.int .i64 0) := by
        rw [List.getElem?_append_right (by rw [natC_len, Sy.canonG_len, List.length_take]; omega), natC_len, Sy.canonG_len, List.length_take, List.getElem?_replicate, if_pos (by have := HH.out.2.1; omega)]
      have hst := Sy.seen_step hz
      rw [← hseen] at hst
      by_cases hin : z ∈ seen
      · obtain ⟨hy1, hy2⟩ := hM.map.yes _ z (Sy.place_at hin)
        have cx := hM.arr.cell hix
        have cf := hM.arr.free i
        rw [if_pos (Sy.place_mem.2 hin)] at hst
        have HO : Hid (wr.ownsMap (H := Unit) Tryz.prog 3 (plainElem Tryz.prog 3) w.heap.size seen.length D) := hM.own
        have HY : Hid (D.atKey (.int .i64 z) (.lit (.int .i64 0)) = .lit (.int .i64 (Sy.place z seen : Nat))) := hy2
        have HM : Hid _ := And.intro hM (And.intro hseen (And.intro hz hst))
        clear hM hseen hz hst hy2 hix c0 hin hzw
        obtain ⟨k, hk⟩ : ∃ k, k = Sy.place z seen := ⟨_, rfl⟩
        rw [← hk] at HY
        have HK : Hid (k = Sy.place z seen) := hk
        clear hk
        go_wp2_with (at_lookup; refine wpList_lookup_own_ok_int _ rfl _ _ 174 rfl 3 3 .i64 Tryz.lawI7 Tryz.underlying174 Tryz.underlying3 (Tryz.zeroI7 _) w.heap.size seen.length D rfl HO.out _ _ rfl hkey ?_; rw [hy1]; intro c hat hwc; obtain rfl : c = (k : Int) := (by rw [HY.out] at hat; injection hat with hat; injection hat with _ hat; exact hat.symm); clear hat hwc)
        go_roundg (n - (i + 1))
        case measure => omega
        case rel =>
          exact ⟨i + 1, D, seen, rfl, by omega, by go_num, HM.out.2.2.2.symm, num_step HM.out.2.2.1 hlt HH.out.2.1 HM.out.2.1 HM.out.1.arr HK.out rfl HO.out HM.out.1.map⟩
      · have hy1 := hM.map.no z hin
        rw [if_neg fun e => hin (Sy.place_mem.1 e)] at hst
        have HO : Hid (wr.ownsMap (H := Unit) Tryz.prog 3 (plainElem Tryz.prog 3) w.heap.size seen.length D) := hM.own
        have hml : seen.length < maxLen := by unfold maxLen; omega
        have hsz : Maps.size D = seen.length := hM.map.size
        obtain ⟨m, hm⟩ : ∃ m, m = seen.length := ⟨_, rfl⟩
        have HM : Hid _ := And.intro hM (And.intro hseen (And.intro hz (And.intro hst (And.intro hin (And.intro hix hm)))))
        rw [← hm] at HO hml hsz hsl
        have hwf : (Lit.int .i64 (m : Int)).wf = true := WalkArith.wf_i64 (by omega)
        have HS : Hid _ := hsz
        clear hM hseen hz hst hix c0 hin hzw hm hsz
        go_wp2_with (first
          | (at_lookup; refine wpList_lookup_own_ok_int _ rfl _ _ 174 rfl 3 3 .i64 Tryz.lawI7 Tryz.underlying174 Tryz.underlying3 (Tryz.zeroI7 _) w.heap.size m D rfl HO.out _ _ rfl hkey ?_; rw [hy1]; intro c hat hwc; clear hat hwc)
          | (at_len; refine wpList_len_own _ rfl _ 174 rfl 3 3 Tryz.underlying174 _ w.heap.size m D rfl HO.out ?_; rw [HS.out])
          | (at_mapUpdate; refine wpList_mapUpdate_own _ rfl _ _ _ 174 rfl 3 3 Tryz.lawI7 Tryz.underlying174 _ w.heap.size m D rfl HO.out hml _ _ _ rfl rfl hkey _ [] (plainElem_int Tryz.underlying3 hwf) ?_; intro w3 hown3 hgrow3; have hA3 := arr_mapTurn HM.out.1.arr hgrow3 (Nat.le_refl _) (by omega); have cx := hA3.cell HM.out.2.2.2.2.2.1; have cf := hA3.free i; have H3 : Hid _ := And.intro hA3 hown3; clear hA3 hown3 hgrow3))
        go_roundg (n - (i + 1))
        case measure => omega
        case rel =>
          have hm := HM.out.2.2.2.2.2.2
          have h3 := H3.out.2
          have hmp := HM.out.1.map.snoc HM.out.1.own.isMap (HM.out.1.own.tidy Tryz.lawI7) z HM.out.2.2.2.2.1
          rw [← hm] at hmp
          have el : m + 1 = (seen ++ [z]).length := by simp [hm]
          rw [el] at h3
          exact ⟨i + 1, _, seen ++ [z], rfl, by omega, by go_num, HM.out.2.2.2.1.symm, num_step HM.out.2.2.1 hlt HH.out.2.1 HM.out.2.1 H3.out.1 (by rw [Sy.place_no HM.out.2.2.2.2.1, hm]) rfl h3 hmp⟩
    · obtain rfl : i = n := by omega
      have hsz : Maps.size D = seen.length := hM.map.size
      have HO : Hid (wr.ownsMap (H := Unit) Tryz.prog 3 (plainElem Tryz.prog 3) w.heap.size seen.length D) := hM.own
      have HM : Hid _ := And.intro hM (And.intro hseen hsz)
      obtain ⟨m, hm⟩ : ∃ m, m = seen.length := ⟨_, rfl⟩
      rw [← hm] at HO
      have HS : Hid (Maps.size D = m) := hsz.trans hm.symm
      have HN : Hid _ := hm
      clear hM hseen hsz hm
      go_wp2_with (at_len; refine wpList_len_own _ rfl _ 174 rfl 3 3 Tryz.underlying174 _ w.heap.size m D rfl HO.out ?_; rw [HS.out])
      go_ret2
      have hA := HM.out.1.arr
      have hl : i = zs.length := HH.out.2.1
      rw [hl, Nat.sub_self, List.replicate_zero, List.append_nil, List.take_length] at hA
      have how := (hA.own (by rw [natC_len, Sy.canonG_len]; unfold maxLen; omega))
      rw [natC_len, Sy.canonG_len] at how
      refine ⟨.slice (some ⟨w.heap.size + 1, 0, none⟩) zs.length zs.length, by rw [HN.out, HM.out.2.1, hl, List.take_length, ← Sy.together_eq]; rfl, ?_, HM.out.1.arr.bl⟩
      unfold OwnI
      rw [iC_nat, show (natI (Sy.canon zs)).length = zs.length by simp [natI, Sy.canon, Sy.canonG_len]]
      exact how
end Go.Proofs.YtpmanmoljlhogaaGreatDoor
/- Contract of the document's Out: of each state its steps. -/
namespace Go.Proofs.YtpmanmoljlhogaaGreatDoor
open Go.RowKit Go.Maps
attribute [local go_sem ↓] Go.wp_at_zero Go.wp_at_succ
/-- Rows of steps, one for each state, all of them from B on, no two in one block. -/
structure Outs (w : World) (B : Nat) (us : List Value) (n : Nat) (f : Nat → List BSteps.El) : Prop where
  len : us.length = n
  row : ∀ i, i < n → ∃ u, us[i]? = some u ∧ BSteps.Own w B u (f i)
  ap : ∀ (i j : Nat) (u x : Value) (b : Nat), us[i]? = some u → us[j]? = some x → i ≠ j → u.ownBlock = some b → x.ownBlock ≠ some b
theorem Outs.below {w w' : World} {B : Nat} {us : List Value} {n : Nat} {f : Nat → List BSteps.El} (h : Outs w B us n f) (hb : Below w.heap.size w w') : Outs w' B us n f :=
  ⟨h.len, fun i hi => by obtain ⟨u, h1, h2⟩ := h.row i hi; exact ⟨u, h1, trow_at h2 fun b hb' => hb.block b (h2.lt b hb').2⟩, h.ap⟩
theorem outs_new (w : World) (B n : Nat) : Outs w B (List.replicate n (.slice none 0 0)) n fun _ => [] :=
  ⟨by simp, fun i hi => ⟨.slice none 0 0, by rw [List.getElem?_replicate, if_pos hi], World.ownsRow_nil _ _ _ _⟩, fun i j u x b h1 _ _ h3 => by
    rw [List.getElem?_replicate] at h1
    split at h1
    · cases h1; cases h3
    · cases h1⟩
/-- One row has grown. -/
theorem Outs.set {w w' : World} {B : Nat} {us : List Value} {n : Nat} {f : Nat → List BSteps.El} (h : Outs w B us n f) {i : Nat} {u u' : Value} {F : Nat → Prop} (hi : i < n) (hu : us[i]? = some u) (hk : Kept F w w') (hF : ∀ b, F b → u.ownBlock = some b ∨ ∀ (j : Nat) (x : Value), us[j]? = some x → x.ownBlock ≠ some b) {zs : List BSteps.El} (hO : BSteps.Own w' B u' zs) (hat : u'.ownBlock = u.ownBlock ∨ ∀ b, u'.ownBlock = some b → w.heap.size ≤ b) :
    Outs w' B (us.set i u') n (fun j => if j = i then zs else f j) := by
  refine ⟨by rw [List.length_set]; exact h.len, fun j hj => ?_, fun a c x y b hx hy hac hb => ?_⟩
  · by_cases e : j = i
    · subst e
      exact ⟨u', List.getElem?_set_self (by rw [h.len]; exact hj), by rw [if_pos rfl]; exact hO⟩
    · obtain ⟨x, h1, h2⟩ := h.row j hj
      refine ⟨x, by rw [List.getElem?_set_ne (fun e' => e e'.symm)]; exact h1, ?_⟩
      rw [if_neg e]
      refine own_up h2 hk fun b hb hf => ?_
      rcases hF b hf with hf | hf
      · exact h.ap j i x u b h1 hu e hb hf
      · exact hf j x h1 hb
  · have hold : ∀ (j : Nat) (z : Value), us[j]? = some z → j ≠ i → ∀ b, z.ownBlock = some b → u'.ownBlock ≠ some b := fun j z hz hj b hzb e => by
      rcases hat with h1 | h1
      · rw [h1] at e; exact h.ap j i z u b hz hu hj hzb e
      · have h2 := h1 b e
        obtain ⟨z', h3, h4⟩ := h.row j (by have := (List.getElem?_eq_some_iff.1 hz).1; rw [h.len] at this; exact this)
        rw [hz] at h3; cases h3
        have := (h4.lt b hzb).2
        omega
    by_cases ea : a = i
    · subst ea
      rw [List.getElem?_set_self (by rw [h.len]; exact hi)] at hx
      cases hx
      rw [List.getElem?_set_ne hac] at hy
      exact fun e => hold c y hy (fun e' => hac e'.symm) b e hb
    · rw [List.getElem?_set_ne (fun e' => ea e'.symm)] at hx
      by_cases ec : c = i
      · subst ec
        rw [List.getElem?_set_self (by rw [h.len]; exact hi)] at hy
        cases hy
        exact hold a x hx ea b hb
      · rw [List.getElem?_set_ne (fun e' => ec e'.symm)] at hy
        exact h.ap a c x y b hx hy hac hb
theorem Outs.congr {w : World} {B : Nat} {us : List Value} {n : Nat} {f g : Nat → List BSteps.El} (h : Outs w B us n f) (hfg : ∀ i, i < n → f i = g i) : Outs w B us n g :=
  ⟨h.len, fun i hi => by rw [← hfg i hi]; exact h.row i hi, h.ap⟩
theorem Outs.kept {w w' : World} {B : Nat} {us : List Value} {n : Nat} {f : Nat → List BSteps.El} {F : Nat → Prop} (h : Outs w B us n f) (hk : Kept F w w') (hF : ∀ (j : Nat) (x : Value), us[j]? = some x → ∀ b, x.ownBlock = some b → ¬ F b) : Outs w' B us n f :=
  ⟨h.len, fun i hi => by obtain ⟨u, h1, h2⟩ := h.row i hi; exact ⟨u, h1, own_up h2 hk fun b hb => hF i u h1 b hb⟩, h.ap⟩
theorem kcell {w w' : World} {F : Nat → Prop} (hk : Kept F w w') {b o : Nat} {v : Value} (hF : ¬ F b) (c : w.cell? ⟨b, o, none⟩ = some v) : w'.cell? ⟨b, o, none⟩ = some v := (World.cell?_of_block (a := ⟨b, o, none⟩) (hk.block b (World.block_lt_of_cell? w _ c) hF)).trans c
/-- One row more long, its slice laid into the list of rows. -/
theorem outs_grow {w wr w4 : World} {g n i N g4 k4 cu : Nat} {au : Option Addr} {us : List Value} {f : Nat → List BSteps.El} (z : BSteps.El) (hOs : Outs wr w.heap.size us n f) (hi : i < n) (hu : us[i]? = some (.slice au N cu)) (hN : N = (f i).length) (hown : w4.ownsRow w.heap.size 116 2 (.slice (some ⟨g4, 0, none⟩) (N + 1) k4) (N + 1) (BSteps.C (f i) ++ [.int .i64 z.1, .int .i64 z.2])) (hk : Kept (fun b => (Value.slice au N cu).ownBlock = some b) wr w4) (hat : (Value.slice au N cu).ownBlock = some g4 ∨ g4 = wr.heap.size + 1) (hA4 : Arr 114 w w4 g us) :
    Arr 114 w (w4.setCell ⟨g, i, none⟩ (.slice (some ⟨g4, 0, none⟩) (N + 1) k4)) g (us.set i (.slice (some ⟨g4, 0, none⟩) (N + 1) k4)) ∧ Outs (w4.setCell ⟨g, i, none⟩ (.slice (some ⟨g4, 0, none⟩) (N + 1) k4)) w.heap.size (us.set i (.slice (some ⟨g4, 0, none⟩) (N + 1) k4)) n (fun j => if j = i then f i ++ [z] else f j) ∧ Kept (fun b => b = g ∨ (Value.slice au N cu).ownBlock = some b) wr (w4.setCell ⟨g, i, none⟩ (.slice (some ⟨g4, 0, none⟩) (N + 1) k4)) := by
  have hO : BSteps.Own w4 w.heap.size (.slice (some ⟨g4, 0, none⟩) (N + 1) k4) (f i ++ [z]) := by
    unfold BSteps.Own
    have e1 : (f i ++ [z]).length = N + 1 := by rw [List.length_append, hN]; rfl
    rw [e1, BSteps.C_app]
    exact hown
  have h1 := hOs.set (F := fun b => (Value.slice au N cu).ownBlock = some b) hi hu hk (fun b hb => .inl hb) hO (by
    rcases hat with h | h
    · exact .inl h.symm
    · exact .inr fun b hb => by have e9 : g4 = b := Option.some.inj hb
                                omega)
  refine ⟨hA4.set i _, ?_, ?_⟩
  · refine h1.kept (Kept.setCell w4 g i _) fun j x hx b hb e => ?_
    obtain ⟨cs, hc, _⟩ := hA4.ids
    obtain ⟨x', h2, h3⟩ := h1.row j (by have := (List.getElem?_eq_some_iff.1 hx).1; rw [h1.len] at this; exact this)
    rw [hx] at h2; cases h2
    exact own_bk h3 hc (by decide) (by rw [← e]; exact hb)
  · exact (hk.mono fun b _ hb => .inr hb).trans ((Kept.setCell w4 g i _).mono fun b _ hb => .inl hb)
theorem Sy.steps_take {l : List Sy.Ed} {j : Nat} {e : Sy.Ed} (he : l[j]? = some e) (i : Int) : Sy.steps (l.take (j + 1)) i = if e.1 = i then Sy.steps (l.take j) i ++ [(e.2.1, e.2.2)] else Sy.steps (l.take j) i := by
  rw [List.take_add_one, he]
  exact Sy.steps_snoc _ _ _
theorem out_round {w wr w4 : World} {g n N g4 k4 cu gl c : Nat} {au : Option Addr} {us : List Value} {l : List Sy.Ed} {j L f : Nat} {e : Sy.Ed} (hL : j < L) (hfn : f < n) (hOs : Outs wr w.heap.size us n (fun i => Sy.steps (l.take j) i)) (hOl : BEdges.Own wr w.heap.size (.slice (some ⟨gl, 0, none⟩) l.length c) l) (he : l[j]? = some e) (hf : e.1 = (f : Int)) (hu : us[f]? = some (.slice au (Sy.steps (l.take j) f).length cu)) (hN : N = (Sy.steps (l.take j) f).length)
    (hown : w4.ownsRow w.heap.size 116 2 (.slice (some ⟨g4, 0, none⟩) (N + 1) k4) (N + 1) (BSteps.C (Sy.steps (l.take j) f) ++ [.int .i64 e.2.1, .int .i64 e.2.2])) (hk : Kept (fun b => (Value.slice au N cu).ownBlock = some b) wr w4) (hat : (Value.slice au N cu).ownBlock = some g4 ∨ g4 = wr.heap.size + 1) (hA4 : Arr 114 w w4 g us) (hne : ¬ gl = g) (hgl : ¬ (Value.slice au N cu).ownBlock = some gl) :
    ∃ (j1 : Nat) (us : List Value), L - (j + 1) = L - j1 ∧ j1 ≤ L ∧ Value.int .i64 ((j : Int) + 1) = .int .i64 j1 ∧ Arr 114 w (w4.setCell ⟨g, f, none⟩ (.slice (some ⟨g4, 0, none⟩) (N + 1) k4)) g us ∧ Outs (w4.setCell ⟨g, f, none⟩ (.slice (some ⟨g4, 0, none⟩) (N + 1) k4)) w.heap.size us n (fun i => Sy.steps (l.take j1) i) ∧ BEdges.Own (w4.setCell ⟨g, f, none⟩ (.slice (some ⟨g4, 0, none⟩) (N + 1) k4)) w.heap.size (.slice (some ⟨gl, 0, none⟩) l.length c) l := by
  obtain ⟨h1, h2, h3⟩ := outs_grow (e.2.1, e.2.2) hOs hfn (by rw [hN]; exact hu) hN hown hk hat hA4
  refine ⟨j + 1, _, rfl, hL, rfl, h1, h2.congr fun i hi => ?_, own_up hOl h3 fun b hb hF => ?_⟩
  · rw [Sy.steps_take he, hf]
    by_cases e9 : i = f
    · subst e9; rw [if_pos rfl, if_pos rfl]
    · rw [if_neg e9, if_neg (fun h => e9 (by omega))]
  · cases hb
    rcases hF with hF | hF
    · exact hne hF
    · exact hgl hF
set_option linter.unusedSimpArgs false in
set_option maxRecDepth 100000 in
set_option maxHeartbeats 8000000 in
theorem refOut_any (n : Nat) (k s : Int) (v : Value) (es : List Sy.Ed) (w : World) (hn : n ≤ 1000000) (hv : HasE w v es) (hm : es.length ≤ 100000) (hr : ∀ e ∈ es, 0 ≤ e.1 ∧ e.1 < (n : Int)) :
    Calls Tryz.prog 31 #[sysV n k s v] w fun e w' => ∃ g us, e = .returned (.slice (some ⟨g, 0, none⟩) n n) ∧ Arr 114 w w' g us ∧ Outs w' w.heap.size us n (fun i => Sy.steps (Sy.nf es) i) := by
  obtain ⟨i0, hi0, hz0, hz1, hz2⟩ := info_parts BSteps.Tryz.infoE
  obtain ⟨w0, hw0⟩ : ∃ w0, w0 = w.alloc (.cells #[.int .i64 n, .int .i64 k, .int .i64 s, v] 24) := ⟨_, rfl⟩
  have hb0 : Below w.heap.size w w0 := by rw [hw0]; exact (Below.refl _ _).alloc (Nat.le_refl _) _
  have hs0 : w0.heap.size = w.heap.size + 1 := by rw [hw0]; simp
  have hg0 : w0.heap[w.heap.size]? = some (.cells #[.int .i64 n, .int .i64 k, .int .i64 s, v] 24 (0, 0)) := by rw [hw0]; exact heap_alloc_new w _
  have hA0 := arr_new 114 (.slice none 0 0) rfl n w0
  have hmk := makeSt n hn w0
  have hS := refSorted_any v es _ ((hv.below hb0).below hA0.bl) hm
  unfold SortedAt at hS
  have hv0 := hv
  obtain ⟨ao, cap, rfl, _⟩ := hv0
  obtain ⟨m, hmm⟩ : ∃ m, m = es.length := ⟨_, rfl⟩
  obtain ⟨l, hl⟩ : ∃ l, l = Sy.nf es := ⟨_, rfl⟩
  rw [← hmm] at hS hw0 hg0 ⊢
  rw [← hl] at hS ⊢
  have hlr : ∀ e ∈ l, 0 ≤ e.1 ∧ e.1 < (n : Int) := fun e he => hr e ((Sy.nf_mem es e).1 (by rw [← hl]; exact he))
  have hll : l.length ≤ 100000 := by have := Sy.nf_len es; rw [← hl] at this; omega
  have H0 : Hid _ := And.intro hS (And.intro hb0 (And.intro hg0 (And.intro hA0 (And.intro hw0 hs0))))
  have HLR : Hid _ := hlr
  unfold sysV
  obtain ⟨x0, x1, x2, x3⟩ := four_cells hg0
  clear hS hb0 hg0 hA0 hw0 hlr hv hr hmm hl
  go_enter Tryz.func31, Tryz.ntmps31
  go_upto_region 1 with fail
  rw [← H0.out.2.2.2.2.1]
  go_wp2_with fail
  refine Calls.mono H0.out.1 ?_
  rintro e w1 ⟨u, rfl, hO, hb1⟩
  obtain ⟨bo, cbp, rfl⟩ := row_shape hO
  obtain ⟨L, hL⟩ : ∃ L, L = l.length := ⟨_, rfl⟩
  have hA1 : Arr 114 w w1 w0.heap.size (List.replicate n (.slice none 0 0)) := by
    have h1 := H0.out.2.2.2.1.below hb1
    exact ⟨H0.out.2.1.trans (h1.bl.mono H0.out.2.1.size), h1.ids, by rw [H0.out.2.2.2.2.2]; omega⟩
  have hO1 : BEdges.Own w1 w.heap.size (.slice bo l.length cbp) l := row_base hO (by have := hA1.bl.size; have := H0.out.2.2.2.1.bl.size; have := H0.out.2.1.size; omega)
  rw [hs0] at hA1
  have H1 : Hid _ := And.intro hA1 (And.intro hO1 hL)
  rw [← hL]
  rw [← hL] at hll
  clear hO hb1 hA1 hO1 hL x0 x1 x2 x3 hmk
  obtain ⟨g, hgg⟩ : ∃ g, g = w.heap.size + 1 := ⟨_, rfl⟩
  rw [← hgg] at H1 ⊢
  have hg1 : w.heap.size < g := by omega
  clear hgg H0 hs0
  go_wp2_with fail
  go_loopg [5] L (fun q jv wr => ∃ (j : Nat) (us : List Value), q = L - j ∧ j ≤ L ∧ jv = .int .i64 j ∧ Arr 114 w wr g us ∧ Outs wr w.heap.size us n (fun i => Sy.steps (l.take j) i) ∧ BEdges.Own wr w.heap.size (.slice bo l.length cbp) l)
  case atStart => exact ⟨0, _, rfl, Nat.zero_le _, rfl, H1.out.1, outs_new _ _ _, H1.out.2.1⟩
  case round =>
    obtain ⟨j, us, rfl, hj, rfl, hA, hOs, hOl⟩ := hrel
    by_cases hlt : j < L
    · obtain ⟨e, he⟩ : ∃ e, l[j]? = some e := ⟨l[j]'(by have := H1.out.2.2; omega), List.getElem?_eq_getElem _⟩
      obtain ⟨gl, hgl, e0, e1, e2⟩ := own_edge hOl he
      have hel := HLR.out e (List.mem_of_getElem? he)
      obtain ⟨f, hf⟩ : ∃ f : Nat, e.1 = (f : Int) := ⟨e.1.toNat, by omega⟩
      have hfn : f < n := by omega
      obtain ⟨u, hu, hOu⟩ := hOs.row f hfn
      obtain ⟨au, cu, rfl⟩ := row_shape hOu
      obtain ⟨N, hN⟩ : ∃ N, N = (Sy.steps (l.take j) f).length := ⟨_, rfl⟩
      have hNl : N ≤ 100000 := by have := Sy.steps_len (l.take j) f; rw [List.length_take] at this; omega
      have cu0 := hA.cell hu
      have cuf := hA.free f
      have hgw := hA.lt
      have hOu' : wr.ownsRow w.heap.size 116 2 (.slice au N cu) N (BSteps.C (Sy.steps (l.take j) f)) := by have h1 := hOu; unfold BSteps.Own at h1; rw [← hN] at h1; exact h1
      rw [← hN] at cu0
      rw [hf] at e0
      have q0 : (0 : Int) ≤ (j : Int) := by omega
      have q1 : (j : Int) < (L : Int) := by omega
      have q2 : (0 : Int) ≤ (f : Int) := by omega
      have q3 : (f : Int) < (n : Int) := by omega
      have hml : N + 1 ≤ maxLen := by unfold maxLen; omega
      have hby : (N + 1) * 16 ≤ 140737488355328 := by omega
      have hgb := own_ne hOl hOu' (by decide)
      have HA : Hid _ := And.intro hA (And.intro hOs (And.intro hOl (And.intro he (And.intro hf (And.intro hu (And.intro hOu' hN))))))
      have hOd : (wr.drew.alloc (.cells #[.int .i64 e.2.1, .int .i64 e.2.2] 116)).ownsRow w.heap.size 116 2 (.slice au N cu) N (BSteps.C (Sy.steps (l.take j) f)) := World.ownsRow.alloc (trow_at hOu' fun _ _ => rfl) _
      have HD : Hid _ := hOd
      have hle : w.heap.size ≤ (wr.drew.alloc (.cells #[.int .i64 e.2.1, .int .i64 e.2.2] 116)).heap.size := by have := hA.bl.size; simp; omega
      have HKP : Hid (∀ b, (Value.slice au N cu).ownBlock = some b → w.heap.size ≤ b ∧ b ≠ g) := (fun b hb => ⟨(hOu'.lt b hb).1, fun e => by
        obtain ⟨cs9, hc9, _⟩ := hA.ids
        exact own_bk hOu' hc9 (by decide) (by rw [← e]; exact hb)⟩ : ∀ b, (Value.slice au N cu).ownBlock = some b → w.heap.size ≤ b ∧ b ≠ g)
      cases hgl
      have HGL : Hid (¬ (Value.slice au N cu).ownBlock = some gl) := (fun h9 => hgb gl rfl h9 : ¬ (Value.slice au N cu).ownBlock = some gl)
      have n1 : gl < wr.heap.size := World.block_lt_of_cell? wr _ e0
      have n2 : ¬ gl = wr.heap.size := by omega
      have n3 : ¬ g = wr.heap.size := by omega
      have hne : ¬ gl = g := fun e9 => by
        obtain ⟨cs9, hc9, _⟩ := hA.ids
        exact own_bk (bk := g) hOl hc9 (by decide) (by rw [← e9]; rfl)
      have hne' : ¬ g = gl := fun e => hne e.symm
      clear hgb
      clear hA hOs hOl he hf hu hOu hOu' hN hel hOd
      go_upto_region 6 with fail
      refine wp_region_held_drew (S := (fun w' => w'.cell? ⟨gl, j * 3, none⟩ = some (.int .i64 f) ∧ w'.cell? ⟨gl, j * 3 + 1, none⟩ = some (.int .i64 e.2.1) ∧ w'.cell? ⟨gl, j * 3 + 2, none⟩ = some (.int .i64 e.2.2))) (by kernel_rfl) ?_ (fun hHeld => ?_)
      · exact ⟨e0, e1, e2⟩
      refine wpAnyH_take (i := 0) (oi := _) (v := ?_) rfl (by kernel_rfl) (by kernel_rfl) (by kernel_rfl) (fun _ _ _ h => h) (Or.inl ⟨by rfl, ?_⟩) (by assumption) ?_
      rotate_left
      · (intro w hSw; (try dsimp only at hSw); go_simp; (try with_reducible rfl))
      (try simp only [Act.put, List.setIfInBounds_toArray, List.set_cons_zero, List.set_cons_succ])
      refine wpAnyH_take (i := 1) (oi := _) (v := ?_) rfl (by kernel_rfl) (by kernel_rfl) (by kernel_rfl) (fun _ _ _ h => h) (Or.inl ⟨by rfl, ?_⟩) (by assumption) ?_
      rotate_left
      · (intro w hSw; (try dsimp only at hSw); go_simp; (try with_reducible rfl))
      (try simp only [Act.put, List.setIfInBounds_toArray, List.set_cons_zero, List.set_cons_succ])
      refine wpAnyH_take (i := 2) (oi := _) (v := ?_) rfl (by kernel_rfl) (by kernel_rfl) (by kernel_rfl) (fun _ _ _ h => h) (Or.inl ⟨by rfl, ?_⟩) (by assumption) ?_
      rotate_left
      · (intro w hSw; (try dsimp only at hSw); go_simp; (try with_reducible rfl))
      (try simp only [Act.put, List.setIfInBounds_toArray, List.set_cons_zero, List.set_cons_succ])
      refine wpAnyH_take (i := 3) (oi := _) (v := ?_) rfl (by kernel_rfl) (by kernel_rfl) (by kernel_rfl) (fun _ _ _ h => h) (Or.inl ⟨by rfl, ?_⟩) (by assumption) ?_
      rotate_left
      · (intro w hSw; (try dsimp only at hSw); go_simp; (try with_reducible rfl))
      (try simp only [Act.put, List.setIfInBounds_toArray, List.set_cons_zero, List.set_cons_succ])
      refine wpAnyH_take (i := 4) (oi := _) (v := ?_) rfl (by kernel_rfl) (by kernel_rfl) (by kernel_rfl) (fun _ _ _ h => h) (Or.inl ⟨by rfl, ?_⟩) (by assumption) ?_
      rotate_left
      · (intro w hSw; (try dsimp only at hSw); go_simp; (try with_reducible rfl))
      (try simp only [Act.put, List.setIfInBounds_toArray, List.set_cons_zero, List.set_cons_succ])
      refine wpAnyH_take (i := 5) (oi := _) (v := ?_) rfl (by kernel_rfl) (by kernel_rfl) (by kernel_rfl) (fun _ _ _ h => h) (Or.inl ⟨by rfl, ?_⟩) (by assumption) ?_
      rotate_left
      · (intro w hSw; (try dsimp only at hSw); go_simp; (try with_reducible rfl))
      (try simp only [Act.put, List.setIfInBounds_toArray, List.set_cons_zero, List.set_cons_succ])
      refine wpAnyH_take (i := 6) (oi := _) (v := ?_) rfl (by kernel_rfl) (by kernel_rfl) (by kernel_rfl) (fun _ _ _ h => h) (Or.inl ⟨by rfl, ?_⟩) (by assumption) ?_
      rotate_left
      · (intro w hSw; (try dsimp only at hSw); go_simp; (try with_reducible rfl))
      (try simp only [Act.put, List.setIfInBounds_toArray, List.set_cons_zero, List.set_cons_succ])
      refine wpAnyH_take (i := 7) (oi := _) (v := ?_) rfl (by kernel_rfl) (by kernel_rfl) (by kernel_rfl) (fun _ _ _ h => h) (Or.inl ⟨by rfl, ?_⟩) (by assumption) ?_
      rotate_left
      · (intro w hSw; (try dsimp only at hSw); go_simp; (try with_reducible rfl))
      (try simp only [Act.put, List.setIfInBounds_toArray, List.set_cons_zero, List.set_cons_succ])
      refine wpAnyH_take (i := 8) (oi := _) (v := ?_) rfl (by kernel_rfl) (by kernel_rfl) (by kernel_rfl) (fun _ _ _ h => h) (Or.inl ⟨by rfl, ?_⟩) (by assumption) ?_
      rotate_left
      · (intro w hSw; (try dsimp only at hSw); go_simp; (try with_reducible rfl))
      (try simp only [Act.put, List.setIfInBounds_toArray, List.set_cons_zero, List.set_cons_succ])
      refine wpAnyH_take (i := 9) (oi := _) (v := ?_) rfl (by kernel_rfl) (by kernel_rfl) (by kernel_rfl) (fun _ _ _ h => h) (Or.inl ⟨by rfl, ?_⟩) (by assumption) ?_
      rotate_left
      · (intro w hSw; (try dsimp only at hSw); go_simp; (try with_reducible rfl))
      (try simp only [Act.put, List.setIfInBounds_toArray, List.set_cons_zero, List.set_cons_succ])
      refine wpAnyH_take (i := 10) (oi := _) (v := ?_) rfl (by kernel_rfl) (by kernel_rfl) (by kernel_rfl) (fun _ _ _ h => h) (Or.inl ⟨by rfl, ?_⟩) (by assumption) ?_
      rotate_left
      · (intro w hSw; (try dsimp only at hSw); go_simp; (try with_reducible rfl))
      (try simp only [Act.put, List.setIfInBounds_toArray, List.set_cons_zero, List.set_cons_succ])
      refine wpAnyH_take (i := 11) (oi := _) (v := ?_) rfl (by kernel_rfl) (by kernel_rfl) (by kernel_rfl) (fun _ _ _ h => h) (Or.inl ⟨by rfl, ?_⟩) (by assumption) ?_
      rotate_left
      · (intro w hSw; (try dsimp only at hSw); go_simp; (try with_reducible rfl))
      (try simp only [Act.put, List.setIfInBounds_toArray, List.set_cons_zero, List.set_cons_succ])
      refine wpAnyH_take (i := 12) (oi := _) (v := ?_) rfl (by kernel_rfl) (by kernel_rfl) (by kernel_rfl) (fun _ _ _ h => h) (Or.inl ⟨by rfl, ?_⟩) (by assumption) ?_
      rotate_left
      · (intro w hSw; (try dsimp only at hSw); go_simp; (try with_reducible rfl))
      (try simp only [Act.put, List.setIfInBounds_toArray, List.set_cons_zero, List.set_cons_succ])
      refine wpAnyH_take (i := 14) (oi := _) (v := ?_) rfl (by kernel_rfl) (by kernel_rfl) (by kernel_rfl) (fun _ _ _ h => h) (Or.inl ⟨by rfl, ?_⟩) (by assumption) ?_
      rotate_left
      · (intro w hSw; (try dsimp only at hSw); go_simp; (try with_reducible rfl))
      (try simp only [Act.put, List.setIfInBounds_toArray, List.set_cons_zero, List.set_cons_succ])
      refine wpAnyH_take (i := 15) (oi := _) (v := ?_) rfl (by kernel_rfl) (by kernel_rfl) (by kernel_rfl) (fun _ _ _ h => h) (Or.inl ⟨by rfl, ?_⟩) (by assumption) ?_
      rotate_left
      · (intro w hSw; (try dsimp only at hSw); go_simp; (try with_reducible rfl))
      (try simp only [Act.put, List.setIfInBounds_toArray, List.set_cons_zero, List.set_cons_succ])
      refine wpAnyH_take (i := 16) (oi := _) (v := ?_) rfl (by kernel_rfl) (by kernel_rfl) (by kernel_rfl) (fun _ _ _ h => h) (Or.inl ⟨by rfl, ?_⟩) (by assumption) ?_
      rotate_left
      · (intro w hSw; (try dsimp only at hSw); go_simp; (try with_reducible rfl))
      (try simp only [Act.put, List.setIfInBounds_toArray, List.set_cons_zero, List.set_cons_succ])
      refine wpAnyH_take (i := 17) (oi := _) (v := ?_) rfl (by kernel_rfl) (by kernel_rfl) (by kernel_rfl) (fun _ _ _ h => h) (Or.inl ⟨by rfl, ?_⟩) (by assumption) ?_
      rotate_left
      · (intro w hSw; (try dsimp only at hSw); go_simp; (try with_reducible rfl))
      (try simp only [Act.put, List.setIfInBounds_toArray, List.set_cons_zero, List.set_cons_succ])
      refine wpAnyH_take (i := 18) (oi := _) (v := ?_) rfl (by kernel_rfl) (by kernel_rfl) (by kernel_rfl) (fun _ _ _ h => h) (Or.inl ⟨by rfl, ?_⟩) (by assumption) ?_
      rotate_left
      · (intro w hSw; (try dsimp only at hSw); go_simp; (try with_reducible rfl))
      (try simp only [Act.put, List.setIfInBounds_toArray, List.set_cons_zero, List.set_cons_succ])
      refine wpAnyH_take (i := 19) (oi := _) (v := ?_) rfl (by kernel_rfl) (by kernel_rfl) (by kernel_rfl) (fun _ _ _ h => h) (Or.inl ⟨by rfl, ?_⟩) (by assumption) ?_
      rotate_left
      · (intro w hSw; (try dsimp only at hSw); go_simp; (try with_reducible rfl))
      (try simp only [Act.put, List.setIfInBounds_toArray, List.set_cons_zero, List.set_cons_succ])
      refine wpAnyH_take (i := 20) (oi := _) (v := ?_) rfl (by kernel_rfl) (by kernel_rfl) (by kernel_rfl) (fun _ _ _ h => h) (Or.inl ⟨by rfl, ?_⟩) (by assumption) ?_
      rotate_left
      · (intro w hSw; (try dsimp only at hSw); go_simp; (try with_reducible rfl))
      (try simp only [Act.put, List.setIfInBounds_toArray, List.set_cons_zero, List.set_cons_succ])
      refine wpAnyH_take (i := 21) (oi := _) (v := ?_) rfl (by kernel_rfl) (by kernel_rfl) (by kernel_rfl) (fun _ _ _ h => h) (Or.inl ⟨by rfl, ?_⟩) (by assumption) ?_
      rotate_left
      · (intro w hSw; (try dsimp only at hSw); go_simp; (try with_reducible rfl))
      (try simp only [Act.put, List.setIfInBounds_toArray, List.set_cons_zero, List.set_cons_succ])
      refine wpAnyH_take (i := 22) (oi := _) (v := ?_) rfl (by kernel_rfl) (by kernel_rfl) (by kernel_rfl) (fun _ _ _ h => h) (Or.inl ⟨by rfl, ?_⟩) (by assumption) ?_
      rotate_left
      · (intro w hSw; (try dsimp only at hSw); go_simp; (try with_reducible rfl))
      (try simp only [Act.put, List.setIfInBounds_toArray, List.set_cons_zero, List.set_cons_succ])
      refine wpAnyH_take (i := 23) (oi := _) (v := ?_) rfl (by kernel_rfl) (by kernel_rfl) (by kernel_rfl) (fun _ _ _ h => h) (Or.inl ⟨by rfl, ?_⟩) (by assumption) ?_
      rotate_left
      · (intro w hSw; (try dsimp only at hSw); go_simp; (try with_reducible rfl))
      (try simp only [Act.put, List.setIfInBounds_toArray, List.set_cons_zero, List.set_cons_succ])
      refine wpAnyH_take (i := 24) (oi := _) (v := ?_) rfl (by kernel_rfl) (by kernel_rfl) (by kernel_rfl) (fun _ _ _ h => h) (Or.inl ⟨by rfl, ?_⟩) (by assumption) ?_
      rotate_left
      · (intro w hSw; (try dsimp only at hSw); go_simp; (try with_reducible rfl))
      (try simp only [Act.put, List.setIfInBounds_toArray, List.set_cons_zero, List.set_cons_succ])
      refine wpAnyH_ready (rs := [13, 25]) (by kernel_rfl) (by simp) ?_
      refine AllReadyH.cons (o := _) rfl (fun K hK => ?_) ?_
      · go_simp
        refine hK.out _ _ ?_ (fun hHeld => ?_)
        · ((try dsimp only); go_keep)
        clear hK K
        (try simp only [Act.put, List.setIfInBounds_toArray, List.set_cons_zero, List.set_cons_succ])
        refine wpAnyH_ready (rs := [25]) (by kernel_rfl) (by simp) ?_
        refine AllReadyH.cons (o := _) rfl (fun K hK => ?_) ?_
        · go_simp
          refine hK.out _ _ ?_ (fun hHeld => ?_)
          · ((try dsimp only); go_keep)
          clear hK K
          (try simp only [Act.put, List.setIfInBounds_toArray, List.set_cons_zero, List.set_cons_succ])
          refine wpAnyH_ready (rs := [26]) (by kernel_rfl) (by simp) ?_
          refine AllReadyH.cons (o := _) rfl (fun K hK => ?_) ?_
          · (refine step_append_lies _ (by rfl) _ _ _ (by rfl) w.heap.size 116 i0 _ 2 16 Tryz.underlying114 hi0 hz0 hz1 hz2 rfl (by decide) (.slice au N cu) N (BSteps.C (Sy.steps (l.take j) f)) (by rfl) HD.out ⟨wr.heap.size, 0, none⟩ 1 1 [.int .i64 e.2.1, .int .i64 e.2.2] (by rfl) (by rfl) (World.news_of_block (cs := #[.int .i64 e.2.1, .int .i64 e.2.2]) (t := 116) (fr := (0, 0)) (heap_alloc_new wr.drew _)) (by simp [Value.oneCell']) Nat.one_pos hml hby hle (wr.heap.size + 1) (by simp) ?_; intro g4 k4 w4 hown4 hgrow4 hat4 hlt4; have hk4 : Kept (fun b => (Value.slice au N cu).ownBlock = some b) wr w4 := (Kept.of_below ((Below.refl _ wr).drew)).trans (grown_alloc (w := wr.drew) hgrow4); have hA4 := HA.out.1.kept hk4 HKP.out; have cu0 := hA4.cell HA.out.2.2.2.2.2.1; have cuf := hA4.free f; have e0 := kcell hk4 HGL.out e0; have e1 := kcell hk4 HGL.out e1; have e2 := kcell hk4 HGL.out e2; have H4 : Hid _ := And.intro hown4 (And.intro hk4 (And.intro hat4 hA4)); clear hown4 hgrow4 hat4 hlt4 hk4 hA4)
            refine hK.out _ _ ?_ (fun hHeld => ?_)
            · exact ⟨e0, e1, e2⟩
            clear hK K
            (try simp only [Act.put, List.setIfInBounds_toArray, List.set_cons_zero, List.set_cons_succ])
            refine wpAnyH_take (i := 27) (oi := _) (v := ?_) rfl (by kernel_rfl) (by kernel_rfl) (by kernel_rfl) (fun _ _ _ h => h) (Or.inl ⟨by rfl, ?_⟩) (by assumption) ?_
            rotate_left
            · (intro w hSw; (try dsimp only at hSw); go_simp; (try with_reducible rfl))
            (try simp only [Act.put, List.setIfInBounds_toArray, List.set_cons_zero, List.set_cons_succ])
            refine wpAnyH_ready (rs := [28]) (by kernel_rfl) (by simp) ?_
            refine AllReadyH.cons (o := _) rfl (fun K hK => ?_) ?_
            · go_simp
              refine hK.out _ _ ?_ (fun hHeld => ?_)
              · ((try dsimp only); go_keep)
              clear hK K
              (try simp only [Act.put, List.setIfInBounds_toArray, List.set_cons_zero, List.set_cons_succ])
              refine wpAnyH_done (by kernel_rfl) ?_ _
              (try go_simp)
              go_wp2_with fail
              go_roundg (L - (j + 1))
              case measure => omega
              case rel => exact out_round hlt hfn HA.out.2.1 HA.out.2.2.1 HA.out.2.2.2.1 HA.out.2.2.2.2.1 HA.out.2.2.2.2.2.1 HA.out.2.2.2.2.2.2.2 H4.out.1 H4.out.2.1 H4.out.2.2.1 H4.out.2.2.2 hne HGL.out
            exact AllReadyH.nil
          exact AllReadyH.nil
        exact AllReadyH.nil
      refine AllReadyH.cons (o := _) rfl (fun K hK => ?_) ?_
      · go_simp
        refine hK.out _ _ ?_ (fun hHeld => ?_)
        · ((try dsimp only); go_keep)
        clear hK K
        (try simp only [Act.put, List.setIfInBounds_toArray, List.set_cons_zero, List.set_cons_succ])
        refine wpAnyH_ready (rs := [13]) (by kernel_rfl) (by simp) ?_
        refine AllReadyH.cons (o := _) rfl (fun K hK => ?_) ?_
        · go_simp
          refine hK.out _ _ ?_ (fun hHeld => ?_)
          · ((try dsimp only); go_keep)
          clear hK K
          (try simp only [Act.put, List.setIfInBounds_toArray, List.set_cons_zero, List.set_cons_succ])
          refine wpAnyH_ready (rs := [26]) (by kernel_rfl) (by simp) ?_
          refine AllReadyH.cons (o := _) rfl (fun K hK => ?_) ?_
          · (refine step_append_lies _ (by rfl) _ _ _ (by rfl) w.heap.size 116 i0 _ 2 16 Tryz.underlying114 hi0 hz0 hz1 hz2 rfl (by decide) (.slice au N cu) N (BSteps.C (Sy.steps (l.take j) f)) (by rfl) HD.out ⟨wr.heap.size, 0, none⟩ 1 1 [.int .i64 e.2.1, .int .i64 e.2.2] (by rfl) (by rfl) (World.news_of_block (cs := #[.int .i64 e.2.1, .int .i64 e.2.2]) (t := 116) (fr := (0, 0)) (heap_alloc_new wr.drew _)) (by simp [Value.oneCell']) Nat.one_pos hml hby hle (wr.heap.size + 1) (by simp) ?_; intro g4 k4 w4 hown4 hgrow4 hat4 hlt4; have hk4 : Kept (fun b => (Value.slice au N cu).ownBlock = some b) wr w4 := (Kept.of_below ((Below.refl _ wr).drew)).trans (grown_alloc (w := wr.drew) hgrow4); have hA4 := HA.out.1.kept hk4 HKP.out; have cu0 := hA4.cell HA.out.2.2.2.2.2.1; have cuf := hA4.free f; have e0 := kcell hk4 HGL.out e0; have e1 := kcell hk4 HGL.out e1; have e2 := kcell hk4 HGL.out e2; have H4 : Hid _ := And.intro hown4 (And.intro hk4 (And.intro hat4 hA4)); clear hown4 hgrow4 hat4 hlt4 hk4 hA4)
            refine hK.out _ _ ?_ (fun hHeld => ?_)
            · exact ⟨e0, e1, e2⟩
            clear hK K
            (try simp only [Act.put, List.setIfInBounds_toArray, List.set_cons_zero, List.set_cons_succ])
            refine wpAnyH_take (i := 27) (oi := _) (v := ?_) rfl (by kernel_rfl) (by kernel_rfl) (by kernel_rfl) (fun _ _ _ h => h) (Or.inl ⟨by rfl, ?_⟩) (by assumption) ?_
            rotate_left
            · (intro w hSw; (try dsimp only at hSw); go_simp; (try with_reducible rfl))
            (try simp only [Act.put, List.setIfInBounds_toArray, List.set_cons_zero, List.set_cons_succ])
            refine wpAnyH_ready (rs := [28]) (by kernel_rfl) (by simp) ?_
            refine AllReadyH.cons (o := _) rfl (fun K hK => ?_) ?_
            · go_simp
              refine hK.out _ _ ?_ (fun hHeld => ?_)
              · ((try dsimp only); go_keep)
              clear hK K
              (try simp only [Act.put, List.setIfInBounds_toArray, List.set_cons_zero, List.set_cons_succ])
              refine wpAnyH_done (by kernel_rfl) ?_ _
              (try go_simp)
              go_wp2_with fail
              go_roundg (L - (j + 1))
              case measure => omega
              case rel => exact out_round hlt hfn HA.out.2.1 HA.out.2.2.1 HA.out.2.2.2.1 HA.out.2.2.2.2.1 HA.out.2.2.2.2.2.1 HA.out.2.2.2.2.2.2.2 H4.out.1 H4.out.2.1 H4.out.2.2.1 H4.out.2.2.2 hne HGL.out
            exact AllReadyH.nil
          exact AllReadyH.nil
        exact AllReadyH.nil
      exact AllReadyH.nil
    · obtain rfl : j = L := by omega
      have q1 : ¬ (j : Int) < (j : Int) := by omega
      have HA : Hid _ := And.intro hA hOs
      clear hA hOs hOl
      go_wp2_with fail
      go_ret
      refine ⟨_, rfl, us, HA.out.1, ?_⟩
      have h1 := HA.out.2
      rw [List.take_of_length_le (by have := H1.out.2.2; omega)] at h1
      exact h1
end Go.Proofs.YtpmanmoljlhogaaGreatDoor
/- Contract of the document's Rounds: the classes of all rounds. -/
namespace Go.Proofs.YtpmanmoljlhogaaGreatDoor
open Go.RowKit Go.Maps
attribute [local go_sem ↓] Go.wp_at_zero Go.wp_at_succ
/-- The document's count of classes is the length of the list of those that come. -/
theorem Sy.place_Ro (c : Int) (l : List Int) : Sy.place c l = Ro.place c l := by
  induction l with
  | nil => rfl
  | cons a r ih => simp only [Sy.place, Ro.place, ih]
theorem seenG_foldl (l : List Int) : ∀ seen, Sy.seenG seen l = l.foldl (fun s c => Ro.more c s) seen := by
  induction l with
  | nil => intro seen; rfl
  | cons c r ih =>
    intro seen
    simp only [Sy.seenG, List.foldl_cons, ih, Sy.place_Ro]
    congr 1
    unfold Ro.more
    by_cases h : c ∈ seen
    · rw [if_pos h, if_pos (Ro.place_lt.2 h)]
    · rw [if_neg h, if_neg (fun h1 => h (Ro.place_lt.1 h1))]
theorem more_map {A B : Type} [DecidableEq A] [DecidableEq B] (f : A → B) (hf : ∀ x y, f x = f y → x = y) (c : A) (l : List A) : Ro.more (f c) (l.map f) = (Ro.more c l).map f := by
  unfold Ro.more
  by_cases h : c ∈ l
  · rw [if_pos h, if_pos (List.mem_map.2 ⟨c, h, rfl⟩)]
  · rw [if_neg h, if_neg (fun h1 => by obtain ⟨y, hy, e⟩ := List.mem_map.1 h1; exact h (hf _ _ e ▸ hy))]
    simp
theorem dd_map {A B : Type} [DecidableEq A] [DecidableEq B] (f : A → B) (hf : ∀ x y, f x = f y → x = y) (l : List A) : Ro.dd (l.map f) = (Ro.dd l).map f := by
  refine Ro.snoc_ind (P := fun l => Ro.dd (l.map f) = (Ro.dd l).map f) rfl (fun l x ih => ?_) l
  rw [List.map_append, List.map_cons, List.map_nil, Ro.dd_snoc, ih, more_map f hf, Ro.dd_snoc]
theorem together_nat (c : List Nat) : Sy.together (natI c) = (Ro.dd c).length := by
  rw [Sy.together_eq, seenG_foldl]
  show (Ro.dd (natI c)).length = _
  unfold natI
  rw [dd_map _ (fun x y e => by omega), List.length_map]
/-- The rounds so far. -/
structure DrAt (w2 wr : World) (m : Nat) (out : Nat → List Ro.St) (av : Value) (xs : List Rd) : Prop where
  bl : Below w2.heap.size w2 wr
  row : wr.ownsRow w2.heap.size 57 1 av xs.length (xs.map (hdr m))
  rows : RwAt wr w2.heap.size m out xs
theorem DrAt.below {w2 wr w' : World} {m : Nat} {out : Nat → List Ro.St} {av : Value} {xs : List Rd} (h : DrAt w2 wr m out av xs) (hb : Below wr.heap.size wr w') : DrAt w2 w' m out av xs :=
  ⟨bel6 hb h.bl, trow_at h.row fun b e => hb.block b (h.row.lt b e).2, h.rows.keep fun _ _ _ hc => res_up6 hb hc⟩
theorem DrAt.new (w2 : World) (m : Nat) (out : Nat → List Ro.St) : DrAt w2 ((w2.alloc (.cells (madeV (.int .i64 0) m) 3)).alloc (.cells #[.slice (some ⟨w2.heap.size, 0, none⟩) m m] 57)) m out (.slice (some ⟨w2.heap.size + 1, 0, none⟩) 1 1) [(0, w2.heap.size)] := by
  obtain ⟨w3, hw3⟩ : ∃ w3, w3 = w2.alloc (.cells (madeV (.int .i64 0) m) 3) := ⟨_, rfl⟩
  have h1 := arr_new 3 (.int .i64 0) rfl m w2
  rw [← hw3] at h1 ⊢
  have hz : w3.heap.size = w2.heap.size + 1 := by rw [hw3]; simp
  obtain ⟨w4, hw4⟩ : ∃ w4, w4 = w3.alloc (.cells #[.slice (some ⟨w2.heap.size, 0, none⟩) m m] 57) := ⟨_, rfl⟩
  have hb : Below w3.heap.size w3 w4 := by rw [hw4]; exact (Below.refl _ _).alloc (Nat.le_refl _) _
  have hg : w4.heap[w3.heap.size]? = some (.cells #[.slice (some ⟨w2.heap.size, 0, none⟩) m m] 57 (0, 0)) := by rw [hw4]; exact heap_alloc_new w3 _
  rw [← hw4]
  have h2 : Arr 57 w2 w4 (w2.heap.size + 1) [.slice (some ⟨w2.heap.size, 0, none⟩) m m] := ⟨bel6 hb h1.bl, ⟨_, by rw [← hz]; exact hg, rfl⟩, by omega⟩
  refine ⟨h2.bl, h2.own (by simp [maxLen]), ⟨fun j x hx => ?_, List.pairwise_singleton _ _⟩⟩
  have hj : j = 0 := by have := (List.getElem?_eq_some_iff.1 hx).1; simp at this; omega
  subst hj
  simp at hx
  subst hx
  obtain ⟨cs, hc, hx⟩ := (h1.below hb).ids
  exact ⟨rfl, Nat.le_refl _, cs, hc, by rw [hx]; simp [natC, Ro.rnd]⟩
theorem DrAt.app {w2 wr w5 : World} {m M g : Nat} {out : Nat → List Ro.St} {av v5 : Value} {xs : List Rd} {tmp : Obj} {cs : Array Value} (h : DrAt w2 wr m out av xs) (hM : M = xs.length) (hup : ∀ y ∈ xs, y.2 < g) (hg0 : w2.heap.size ≤ g) (hc : wr.heap[g]? = some (.cells cs 3 (0, 0))) (hcs : cs.toList = natC (Ro.rnd m out M))
    (hO : w5.ownsRow w2.heap.size 57 1 v5 (M + 1) (xs.map (hdr m) ++ [.slice (some ⟨g, 0, none⟩) m m])) (hg : (wr.alloc tmp).grownBy w5 av.ownBlock) : DrAt w2 w5 m out v5 (xs ++ [(M, g)]) := by
  have hk := grown_alloc hg
  have up : ∀ (b : Nat) (cs : Array Value), wr.heap[b]? = some (.cells cs 3 (0, 0)) → w5.heap[b]? = some (.cells cs 3 (0, 0)) := fun b cs hb => (hk.block b (t_lt hb) fun e => own_bk h.row hb (by decide) e).trans hb
  refine ⟨h.bl.trans (hk.below h.bl.size fun b e => (h.row.lt b e).1), ?_, ⟨fun j x hx => ?_, ?_⟩⟩
  · rw [List.map_append, List.length_append, ← hM]
    exact hO
  · rcases Nat.lt_or_ge j xs.length with hj | hj
    · rw [List.getElem?_append_left hj] at hx
      obtain ⟨e1, e2, cs', e3, e4⟩ := h.rows.row j x hx
      exact ⟨e1, e2, cs', up _ _ e3, e4⟩
    · rw [List.getElem?_append_right hj] at hx
      have hj0 : j - xs.length = 0 := by have := (List.getElem?_eq_some_iff.1 hx).1; simp at this; omega
      rw [hj0] at hx
      simp at hx
      subst hx
      obtain rfl : j = M := by omega
      exact ⟨rfl, hg0, cs, up _ _ hc, hcs⟩
  · exact List.pairwise_append.2 ⟨h.rows.up, List.pairwise_singleton _ _, fun y hy z hz => by rw [List.mem_singleton.1 hz]; exact hup y hy⟩
theorem outs_stp {w w' : World} {B gs m : Nat} {us : List Value} {es : List Sy.Ed} (hA : Arr 114 w w' gs us) (hU : Outs w' B us m (fun i => Sy.steps (Sy.nf es) i)) : Stp w' gs m (outOf m es) := ⟨fun i hi => by
  obtain ⟨u, h1, h2⟩ := hU.row i hi
  obtain ⟨a, c, rfl⟩ := row_shape h2
  have e : outOf m es i = Sy.steps (Sy.nf es) (i : Int) := by unfold outOf Sy.rowOf; rw [if_pos ⟨by omega, by omega⟩]
  rw [e]
  exact ⟨a, c, hA.cell h1, h2.has⟩⟩
set_option maxRecDepth 100000 in
set_option maxHeartbeats 8000000 in
theorem docRounds_any (m : Nat) (k s : Int) (v : Value) (es : List Sy.Ed) (w : World) (hv : HasE w v es) (hq : Sy.right m k s es = true) :
    Calls Tryz.prog 11 #[sysV m k s v] w fun r w' => ∃ u xs R, r = .returned u ∧ Ro.Last m (outOf m es) R ∧ xs.length = R + 1 ∧ OwnRs w' w.heap.size m u xs ∧ RwAt w' w.heap.size m (outOf m es) xs ∧ Below w.heap.size w w' := by
  obtain ⟨i0, hi0, hz0, hz1, hz2⟩ := info_parts Tryz.infoRI
  have hp := right_parts hq
  have hm : m ≤ 1000 := by omega
  have hF := steps_fit hq
  have hv0 := hv
  obtain ⟨ao, cap, rfl, _⟩ := hv0
  obtain ⟨L, hL⟩ : ∃ L, L = es.length := ⟨_, rfl⟩
  obtain ⟨w1, hw1⟩ : ∃ w1, w1 = w.alloc (.cells #[.int .i64 m, .int .i64 k, .int .i64 s, .slice ao L cap] 24) := ⟨_, rfl⟩
  have hb1 : Below w.heap.size w w1 := by rw [hw1]; exact (Below.refl _ _).alloc (Nat.le_refl _) _
  have hg1 : w1.heap[w.heap.size]? = some (.cells #[.int .i64 m, .int .i64 k, .int .i64 s, .slice ao L cap] 24 (0, 0)) := by rw [hw1]; exact heap_alloc_new w _
  have hO := refOut_any m k s _ es w1 (by omega) (hv.below hb1) (by omega) (fun e he => by have := hp.2.2.2.2.2 e he; omega)
  rw [← hL] at hO ⊢
  unfold sysV at hO ⊢
  obtain ⟨out, hout⟩ : ∃ out, out = outOf m es := ⟨_, rfl⟩
  have H1 : Hid _ := And.intro hw1 (And.intro hb1 (And.intro hO (And.intro hF (And.intro hout hg1))))
  obtain ⟨x0, x1, x2, x3⟩ := four_cells hg1
  clear hv hp hq hw1 hb1 hg1 hO hL hF hout
  go_enter Tryz.func11, Tryz.ntmps11
  go_upto_region 1 with fail
  rw [← H1.out.1]
  go_wp2_with fail
  refine Calls.mono H1.out.2.2.1 ?_
  rintro r w2 ⟨gs, us, rfl, hA2, hU2⟩
  have hSt : Stp w2 gs m out := by rw [H1.out.2.2.2.2.1]; exact outs_stp hA2 hU2
  have y0 : w2.cell? ⟨w.heap.size, 0, none⟩ = some (.int .i64 m) := cell_up x0 hA2.bl
  have hmk := makeI m (by omega) w2
  have H2 : Hid _ := And.intro hSt (bel6 hA2.bl H1.out.2.1)
  clear hA2 hU2 hSt x0 x1 x2 x3
  go_wp2_with fail
  clear hmk y0
  have hD := DrAt.new w2 m out
  obtain ⟨w3, hw3⟩ : ∃ w3, w3 = (w2.alloc (.cells (madeV (.int .i64 0) m) 3)).alloc (.cells #[.slice (some ⟨w2.heap.size, 0, none⟩) m m] 57) := ⟨_, rfl⟩
  rw [← hw3] at hD ⊢
  have HD : Hid _ := hD
  clear hD hw3
  go_loopg [4, 5] 1001 (fun q cv av wr => ∃ (j g : Nat) (pre : List Rd), q = 1001 - j ∧ cv = .slice (some ⟨g, 0, none⟩) m m ∧ pre.length = j ∧ DrAt w2 wr m out av (pre ++ [(j, g)]) ∧ ∀ i, i < j → Ro.rnd m out (i + 1) ≠ Ro.rnd m out i)
  case atStart => exact ⟨0, w2.heap.size, [], rfl, rfl, rfl, HD.out, fun i hi => by omega⟩
  case round =>
    obtain ⟨j, g, pre, rfl, rfl, hpl, hDr, hch⟩ := hrel
    have hjm := Ro.changes_lt hch
    have hj1 : j ≤ 1000 := by omega
    obtain ⟨_, hgu, cs, hcs, hcl⟩ := hDr.rows.row j (j, g) (by rw [List.getElem?_append_right (by omega), hpl, Nat.sub_self]; rfl)
    have hcI := hasI_blk (Ro.rnd_len m out j) hcs hcl
    have hFo := H1.out.2.2.2.1
    rw [← H1.out.2.2.2.2.1] at hFo
    have hN := docNext_any gs m out (Ro.rnd m out j) _ wr hm (Ro.rnd_len m out j) (fun u hu => Ro.rnd_lt hu) hFo (H2.out.1.below hDr.bl) hcI
    have hDl := hDr.row
    obtain ⟨aa, ca, ha⟩ := row_shape hDl
    rw [show (pre ++ [(j, g)]).length = j + 1 by simp [hpl]] at ha
    obtain rfl := ha
    have HR : Hid _ := And.intro hN (And.intro hDr (And.intro hch (And.intro hpl (And.intro hcI (And.intro hjm hcs)))))
    clear hN hDr hch hpl hcI hjm hcs hcl hgu hFo hDl
    go_wp2_with fail
    refine Calls.mono HR.out.1 ?_
    rintro r w4 ⟨g2, rfl, hA4⟩
    have hb4 := hA4.bl
    obtain ⟨cs4, hc4, hx4⟩ := hA4.ids
    have hI4 : HasI w4 (.slice (some ⟨g2, 0, none⟩) m m) (natI (Ro.rnd m out (j + 1))) := hasI_blk (Ro.rnd_len m out (j + 1)) hc4 hx4
    have hl4 : ∀ i, (natI (Ro.rnd m out i)).length ≤ 100000 := fun i => by simp [natI, Ro.rnd_len]; omega
    have hT1 := refTogether_any _ _ w4 hI4 (hl4 (j + 1))
    rw [together_nat] at hT1
    have hT2 := fun W (hb : Below w4.heap.size w4 W) => refTogether_any _ _ W ((HR.out.2.2.2.2.1.below hb4).below hb) (hl4 j)
    rw [together_nat] at hT2
    have H4 : Hid _ := And.intro hT1 (And.intro hT2 (And.intro hA4 (And.intro hc4 hx4)))
    clear hT1 hT2 hA4 hc4 hx4 hI4 hl4 hb4
    go_wp2_with fail
    refine Calls.mono H4.out.1 ?_
    rintro r w5 ⟨rfl, hb5⟩
    have H5 : Hid (Below w4.heap.size w4 w5) := hb5
    clear hb5
    go_wp2_with fail
    refine Calls.mono (H4.out.2.1 _ H5.out) ?_
    rintro r w6 ⟨rfl, hb6⟩
    have hb46 := bel6 hb6 H5.out
    have hD6 := (HR.out.2.1.below H4.out.2.2.1.bl).below hb46
    have H6 : Hid _ := And.intro hD6 hb46
    clear hb6 hb46 hD6
    obtain ⟨t1, ht1⟩ : ∃ t, t = (Ro.dd (Ro.rnd m out (j + 1))).length := ⟨_, rfl⟩
    obtain ⟨t0, ht0⟩ : ∃ t, t = (Ro.dd (Ro.rnd m out j)).length := ⟨_, rfl⟩
    rw [← ht1, ← ht0]
    have HT : Hid _ := And.intro ht1 ht0
    clear ht1 ht0
    by_cases he : t1 = t0
    · have e1 : ((t1 : Int) == (t0 : Int)) = true := by simp [he]
      have HE : Hid _ := he
      clear he
      go_wp2_with fail
      go_ret
      have hst : Ro.rnd m out (j + 1) = Ro.rnd m out j := Ro.rnd_stop (by have h1 := HT.out.1; have h2 := HT.out.2; have h3 := HE.out; omega)
      refine ⟨_, pre ++ [(j, g)], j, rfl, by rw [← H1.out.2.2.2.2.1]; exact ⟨hst, HR.out.2.2.1⟩, by simp [HR.out.2.2.2.1], row_base H6.out.1.row H2.out.2.size, ?_, bel6 H6.out.1.bl H2.out.2⟩
      rw [← H1.out.2.2.2.2.1]
      exact H6.out.1.rows.base H2.out.2.size
    · have e1 : ((t1 : Int) == (t0 : Int)) = false := by simp; omega
      have HE : Hid _ := he
      clear he
      have hml : j + 1 + 1 ≤ maxLen := by unfold maxLen; omega
      have hby : (j + 1 + 1) * 24 ≤ 140737488355328 := by omega
      have hle : w2.heap.size ≤ (w6.alloc (.cells #[.slice (some ⟨g2, 0, none⟩) m m] 57)).heap.size := by have := H6.out.1.bl.size; simp; omega
      have hO6 : w6.ownsRow w2.heap.size 57 1 (.slice aa (j + 1) ca) (j + 1) ((pre ++ [(j, g)]).map (hdr m)) := by
        have h1 := H6.out.1.row
        rw [show (pre ++ [(j, g)]).length = j + 1 by simp [HR.out.2.2.2.1]] at h1
        exact h1
      have HO6 : Hid _ := And.intro hO6 trivial
      clear hO6
      go_wp2_with (at_builtin; refine wpList_append_own_at _ rfl _ _ 28 rfl w2.heap.size 57 i0 (.slice none 0 0) 1 24 Tryz.underlying28 hi0 hz0 hz1 hz2 rfl (by decide) (.slice aa (j + 1) ca) (j + 1) ((pre ++ [(j, g)]).map (hdr m)) rfl (HO6.out.1.alloc _) ⟨w6.heap.size, 0, none⟩ 1 1 [.slice (some ⟨g2, 0, none⟩) m m] rfl rfl (World.news_of_block (cs := #[.slice (some ⟨g2, 0, none⟩) m m]) (t := 57) (fr := (0, 0)) (heap_alloc_new w6 _)) (by simp [Value.oneCell']) hml hby hle ?_; intro v7 w7 hO7 hg7 hnil7 hat7; have H7 : Hid _ := And.intro hO7 hg7; clear hO7 hg7 hnil7 hat7)
      go_roundg (1001 - (j + 1))
      case measure => omega
      case rel =>
        have hg2 : w2.heap.size ≤ g2 := Nat.le_trans HR.out.2.1.bl.size H4.out.2.2.1.gu
        have hgl := t_lt HR.out.2.2.2.2.2.2
        have hgg := H4.out.2.2.1.gu
        refine ⟨j + 1, g2, pre ++ [(j, g)], rfl, rfl, by simp [HR.out.2.2.2.1], H6.out.1.app (by simp [HR.out.2.2.2.1]) (fun y hy => ?_) hg2 (res_up6 H6.out.2 H4.out.2.2.2.1) H4.out.2.2.2.2 H7.out.1 H7.out.2, fun i hi => ?_⟩
        · rcases List.mem_append.1 hy with hy | hy
          · have h1 := (List.pairwise_append.1 HR.out.2.1.rows.up).2.2 y hy (j, g) List.mem_cons_self
            simp only at h1
            omega
          · rw [List.mem_singleton.1 hy]; show g < g2; omega
        · rcases Nat.lt_or_ge i j with h1 | h1
          · exact HR.out.2.2.1 i h1
          · obtain rfl : i = j := by omega
            exact fun e => HE.out (by rw [HT.out.1, HT.out.2, e])
end Go.Proofs.YtpmanmoljlhogaaGreatDoor
/- Contracts of the program's All, Ranks and parting of what is no system. -/
namespace Go.Proofs.YtpmanmoljlhogaaGreatDoor
open Go.RowKit Go.Maps
attribute [local go_sem ↓] Go.wp_at_zero Go.wp_at_succ
set_option maxRecDepth 100000 in
set_option maxHeartbeats 4000000 in
theorem all_bad (hS : SortOk 1000000) (n k s : Int) (v : Value) (es : List Sy.Ed) (a : Addr) (w : World) (hA : Sent w 14 a) (hv : BEdges.Has w v es) (hm : es.length ≤ 100000) (hq : Sy.right n k s es = false) :
    Calls Tryz.prog 12 #[sysV n k s v] w fun r w' => ∃ b, r = .returned (.tuple #[.slice none 0 0, .iface 76 (.pointer (some ⟨b, 0, none⟩))]) ∧ Chain w' 0 0 a [rndB, sysB] (.iface 76 (.pointer (some ⟨b, 0, none⟩))) ∧ Below w.heap.size w w' := by
  have hv0 := hv
  obtain ⟨ao, cap, rfl, _⟩ := hv0
  obtain ⟨L, hL⟩ : ∃ L, L = es.length := ⟨_, rfl⟩
  obtain ⟨w1, hw1⟩ : ∃ w1, w1 = w.alloc (.cells #[.int .i64 n, .int .i64 k, .int .i64 s, .slice ao L cap] 24) := ⟨_, rfl⟩
  have hb1 : Below w.heap.size w w1 := by rw [hw1]; exact (Below.refl _ _).alloc (Nat.le_refl _) _
  have hg1 : w1.heap[w.heap.size]? = some (.cells #[.int .i64 n, .int .i64 k, .int .i64 s, .slice ao L cap] 24 (0, 0)) := by rw [hw1]; exact heap_alloc_new w _
  have hN := roundsOf_bad hS n k s _ es a w1 (hA.below hb1) (hv.below hb1) hm hq
  rw [← hL] at hN ⊢
  unfold sysV at hN ⊢
  have H1 : Hid _ := And.intro hw1 (And.intro hb1 hN)
  obtain ⟨x0, x1, x2, x3⟩ := four_cells hg1
  clear hA hv hm hq hw1 hb1 hg1 hN hL
  go_enter Tryz.func12, Tryz.ntmps12
  go_upto_region 1 with fail
  rw [← H1.out.1]
  go_wp2_with fail
  refine Calls.mono H1.out.2.2 ?_
  rintro r w2 ⟨T, u, rfl, hC, hb2⟩
  have hFt := rfault_any T u w2 a _ hC
  have H2 : Hid _ := And.intro hFt (bel6 hb2 H1.out.2.1)
  clear hC hb2 hFt
  go_wp2_with fail
  refine Calls.mono H2.out.1 ?_
  rintro r w3 ⟨b, rfl, hC3, hb3⟩
  have H3 : Hid _ := And.intro hC3 (bel6 hb3 H2.out.2)
  clear hC3 hb3
  go_wp2_with fail
  go_ret2
  exact ⟨_, rfl, H3.out.1, H3.out.2⟩
set_option maxRecDepth 100000 in
set_option maxHeartbeats 4000000 in
theorem ranks_bad (hS : SortOk 1000000) (n k s : Int) (v : Value) (es : List Sy.Ed) (a : Addr) (w : World) (hA : Sent w 14 a) (hv : BEdges.Has w v es) (hm : es.length ≤ 100000) (hq : Sy.right n k s es = false) :
    Calls Tryz.prog 21 #[sysV n k s v] w fun r w' => ∃ b, r = .returned (.tuple #[.slice none 0 0, .iface 76 (.pointer (some ⟨b, 0, none⟩))]) ∧ Chain w' 0 0 a [rndB, sysB] (.iface 76 (.pointer (some ⟨b, 0, none⟩))) ∧ Below w.heap.size w w' := by
  have hv0 := hv
  obtain ⟨ao, cap, rfl, _⟩ := hv0
  obtain ⟨L, hL⟩ : ∃ L, L = es.length := ⟨_, rfl⟩
  obtain ⟨w1, hw1⟩ : ∃ w1, w1 = w.alloc (.cells #[.int .i64 n, .int .i64 k, .int .i64 s, .slice ao L cap] 24) := ⟨_, rfl⟩
  have hb1 : Below w.heap.size w w1 := by rw [hw1]; exact (Below.refl _ _).alloc (Nat.le_refl _) _
  have hg1 : w1.heap[w.heap.size]? = some (.cells #[.int .i64 n, .int .i64 k, .int .i64 s, .slice ao L cap] 24 (0, 0)) := by rw [hw1]; exact heap_alloc_new w _
  have hN := roundsOf_bad hS n k s _ es a w1 (hA.below hb1) (hv.below hb1) hm hq
  rw [← hL] at hN ⊢
  unfold sysV at hN ⊢
  have H1 : Hid _ := And.intro hw1 (And.intro hb1 hN)
  obtain ⟨x0, x1, x2, x3⟩ := four_cells hg1
  clear hA hv hm hq hw1 hb1 hg1 hN hL
  go_enter Tryz.func21, Tryz.ntmps21
  go_upto_region 1 with fail
  rw [← H1.out.1]
  go_wp2_with fail
  refine Calls.mono H1.out.2.2 ?_
  rintro r w2 ⟨T, u, rfl, hC, hb2⟩
  have hFt := rfault_any T u w2 a _ hC
  have H2 : Hid _ := And.intro hFt (bel6 hb2 H1.out.2.1)
  clear hC hb2 hFt
  go_wp2_with fail
  refine Calls.mono H2.out.1 ?_
  rintro r w3 ⟨b, rfl, hC3, hb3⟩
  have H3 : Hid _ := And.intro hC3 (bel6 hb3 H2.out.2)
  clear hC3 hb3
  go_wp2_with fail
  go_ret2
  exact ⟨_, rfl, H3.out.1, H3.out.2⟩
end Go.Proofs.YtpmanmoljlhogaaGreatDoor
/- A region that draws its order and only reads, in the body of a loop over a function. Nothing of the program is in it. -/
namespace Go.Proofs.YtpmanmoljlhogaaGreatDoor
open Go.RowKit
variable {F : Fence} {n : Nat} {P : Program} {ops : Array Oper}
/-- Outside a round and in one an operation that is no defer statement runs alike. -/
theorem op_inRound {o : Oper} {l : Nat} {a : Act} {w : World} {K : Act → World → Prop} {Q : Exit → Act → World → Prop} (hro : F.round = none) (ho : ∀ c, o.op ≠ .defer c) (h : o.wpIn F n P a w K Q) : o.wpIn (F.inRound l) n P a w K Q := by
  unfold Oper.wpIn at h ⊢
  refine ⟨h.1, ?_⟩
  have h2 := h.2
  rw [hro, Oper.semAt_none] at h2
  rw [Fence.inRound_round, Oper.semAt_some l _ _ ho]
  generalize (execOp a.eval o).run P w = r at h2
  cases r with
  | ok x w' => cases x <;> exact h2
  | halt x w' => cases x <;> exact h2
theorem opIn_inRound {i l : Nat} {a : Act} {w : World} {K : Act → World → Prop} {Q : Exit → Act → World → Prop} (hro : F.round = none) (ho : ∀ o ∈ ops.toList, ∀ c, o.op ≠ .defer c) (h : wpOpIn F n P ops Q i K a w) : wpOpIn (F.inRound l) n P ops Q i K a w := by
  unfold wpOpIn at h ⊢
  cases hi : ops[i]? with
  | none => simpa [hi] using h
  | some o =>
    have hm : o ∈ ops.toList := by
      rw [← Array.getElem?_toList] at hi
      exact List.mem_of_getElem? hi
    simp only [hi] at h ⊢
    split
    · rename_i hw
      simp only [hw, if_true] at h
      exact op_inRound hro (ho o hm) h
    · rename_i hw
      simp only [hw] at h
      exact h
theorem any_inRound {md : Region.Mode} {l : Nat} {Q : Exit → Act → World → Prop} (hro : F.round = none) (ho : ∀ o ∈ ops.toList, ∀ c, o.op ≠ .defer c) : ∀ (fuel : Nat) (listed : Array Bool) (a : Act) (w : World), wpAnyIn F n P md ops Q fuel listed a w → wpAnyIn (F.inRound l) n P md ops Q fuel listed a w
  | 0, _, _, _, h => h
  | fuel + 1, _, _, _, h => ⟨h.1, fun i hi => opIn_inRound hro ho (wpOpIn_mono (fun a w => any_inRound hro ho fuel _ a w) (h.2 i hi))⟩
def noDefer (l : List Oper) : Bool := l.all fun o => match o.op with | .defer _ => false | _ => true
theorem noDefer_spec {l : List Oper} (h : noDefer l = true) : ∀ o ∈ l, ∀ c, o.op ≠ .defer c := fun o ho c e => by
  have h1 := List.all_eq_true.1 h o ho
  rw [e] at h1
  cases h1
theorem region_round {id l : Nat} {Q : Exit → Act → World → Prop} {a : Act} {w : World} {os : List Oper} (hro : F.round = none) (hm : P.follows .mixedOrders = true) (hB : Region.lexB .any os.toArray = true) (hd : noDefer os = true)
    (h : wpQuietIn F n P os.toArray (fun w' => ∃ n, w' = w.drewN n) (fun a' => ∀ w', (∃ n, w' = w.drewN n) → Q .normal a' w') os a) : (Code.region id os.toArray true).wpIn (F.inRound l) n P Q a w := by
  simp only [Region.lexB, Bool.and_eq_true] at hB
  refine wpIn_region_any hm (any_inRound hro (noDefer_spec (by simpa using hd)) _ _ _ _ (wpAnyIn_of_quiet (C := fun w' => ∃ n, w' = w.drewN n) (Q := fun a' => ∀ w', (∃ n, w' = w.drewN n) → Q .normal a' w') hro (fun _ w' hw' h => h w' hw') _ _ _ _ ⟨1, rfl⟩ ?_))
  have := wpAnyQIn_lex (F := F) (n := n) (C := fun w' => ∃ n, w' = w.drewN n) (md := .any) hB.1 os.toArray.toList 0 (Array.replicate os.toArray.size false) a (by simp) (by simpa using hB.2) (by simpa using h)
  simpa using this
end Go.Proofs.YtpmanmoljlhogaaGreatDoor
