/- The statement LexisWords as a call: on any text it returns true, and nothing that was there has turned. -/
import Derived.Test.YtheiahheflcjpaaDoorTold
import Derived.Test.YtheiahheflcjpaaDoorRefNum
import Derived.Test.YtheiahheflcjpaaDoorRefName
import Derived.Test.YtheiahheflcjpaaDoorNumber
import Derived.Test.YtheiahheflcjpaaDoorLong
namespace Go.Proofs.YtheiahheflcjpaaDoor
open Go.RowKit
theorem alive_errs (aA aL aI aW : Addr) (w : World) (hE : Errs w aA aL aI aW) : Calls Tryd.prog 10 #[] w fun e w' => e = .returned (.bool true) ∧ Below w.heap.size w w' :=
  alive_any _ _ _ _ w hE.2.1.1 hE.2.2.2.1.1
theorem keep_block {w w1 : World} {b : Nat} {o : Obj} (h : w.heap[b]? = some o) (hb : Below w.heap.size w w1) : w1.heap[b]? = some o := by rw [hb.block b (lt_of_block h)]; exact h
theorem bad_any (k : Int) (w : World) : Calls Tryd.prog 15 #[.string ⟨#[108, 101, 120, 105, 115]⟩, .int .i64 k] w fun e w' => e = .returned (.agg #[.int .i64 k, .int .i64 0, .int .i64 0, .string lexisB]) ∧ w' = w.alloc (.cells #[.int .i64 k, .int .i64 0, .int .i64 0, .string lexisB] 28) := by
  have zs : (⟨#[108, 101, 120, 105, 115]⟩ ++ ⟨#[32]⟩ : ByteArray) = lexisB := by decide
  go_enter Tryd.func15, Tryd.ntmps15
  go_wp2
  exact bodyPost_ret (v := .agg #[.int .i64 k, .int .i64 0, .int .i64 0, .string lexisB]) (by simp [results, Tryd.results15, go_sem]) rfl ⟨rfl, rfl⟩
theorem two_new {w w' w8 : World} {b : Nat} {o x y : Obj} {aA aL aI aW : Addr} (hE : Errs w' aA aL aI aW) (hb : Below w.heap.size w w') (hB : w'.heap[b]? = some o) (h8 : w8 = (w'.alloc x).alloc y) :
    Errs w8 aA aL aI aW ∧ Below w.heap.size w w8 ∧ w8.heap[b]? = some o ∧ w8.heap[w'.heap.size]? = some x := by
  have h1 : Below w'.heap.size w' w8 := by rw [h8]; exact ((Below.refl _ _).alloc (Nat.le_refl _) _).alloc (by simp) _
  refine ⟨hE.below h1, hb.trans (h1.mono hb.size), keep_block hB h1, ?_⟩
  rw [h8, Below.heap_alloc _ _ _ (by simp)]
  exact heap_alloc_new w' x
theorem num_cases (l : List UInt8) : (∃ n, Lx.numR l = (n, 0)) ∨ Lx.numR l = (0, 4) ∨ Lx.numR l = (0, 2) := by
  unfold Lx.numR
  split
  · exact .inr (.inl rfl)
  · split
    · exact .inl ⟨_, rfl⟩
    · exact .inr (.inr rfl)
set_option maxRecDepth 100000 in
set_option maxHeartbeats 2000000 in
theorem words_ok (s : ByteArray) (n : Nat) (aA aL aI aW : Addr) (w : World) (hm : s.size ≤ maxLen) (hE : Errs w aA aL aI aW) (hn : Lx.numR s.data.toList = (n, 0)) :
    Calls Tryd.prog 4 #[.string s] w fun e w' => e = .returned (.bool true) ∧ Below w.heap.size w w' := by
  have HE : Hid (Errs w aA aL aI aW ∧ Lx.numR s.data.toList = (n, 0)) := ⟨hE, hn⟩
  have HR := fun W => refNumber_any s W hm
  rw [hn] at HR
  have z1 : ((n : Int) == (n : Int)) = true := by simp
  clear hE hn
  go_enter Tryd.func4, Tryd.ntmps4
  go_wp2_with fail
  refine (number_fine s _ _ _ hm HE.out.1.2.1.1 HE.out.1.2.2.2.1.1 n HE.out.2).mono ?_
  rintro e w1 ⟨rfl, hb1⟩
  have HB1 : Hid (Errs w1 aA aL aI aW ∧ Below w.heap.size w w1) := ⟨HE.out.1.below hb1, hb1⟩
  clear hb1
  go_wp2_with fail
  refine (HR _).mono ?_
  rintro e w' ⟨rfl, rfl⟩
  clear HR
  go_wp2_with fail
  refine (alive_errs aA aL aI aW _ (HB1.out.1.below ((Below.refl _ _).alloc (Nat.le_refl _) _))).mono ?_
  rintro e w2 ⟨rfl, hb2⟩
  have HB2 : Hid (Errs w2 aA aL aI aW ∧ Below w.heap.size w w2) := ⟨(HB1.out.1.below ((Below.refl _ _).alloc (Nat.le_refl _) _)).below hb2, (HB1.out.2.alloc HB1.out.2.size _).trans (hb2.mono (by simp; have := HB1.out.2.size; omega))⟩
  have hN := keep_block (heap_alloc_new _ _) hb2
  have e0 := cell_of_block hN 0
  have e1 := cell_of_block hN 1
  have e2 := cell_of_block hN 2
  have e3 := cell_of_block hN 3
  simp at e0 e1 e2 e3
  clear hN hb2
  go_wp2_with fail
  refine (told_nil 0 0 ⟨#[]⟩ _).mono ?_
  rintro e w3 ⟨rfl, hb3⟩
  have HB3 : Hid (Errs w3 aA aL aI aW ∧ Below w.heap.size w w3) := ⟨HB2.out.1.below hb3, HB2.out.2.trans (hb3.mono HB2.out.2.size)⟩
  clear hb3 e0 e1 e2 e3
  cases hx : Lx.nameZ true s <;> cases hy : Lx.nameZ false s
  all_goals
    have hA := fun W => isName_any s W hm
    have hA' := fun W => refIsName_any s W hm
    have hC := fun W => isConst_any s W hm
    have hC' := fun W => refIsConst_any s W hm
    rw [hx] at hA hA'
    rw [hy] at hC hC'
    clear hx hy
    go_wp2_with (first | (go_at_call 16; refine (hA _).mono ?_; rintro e w' ⟨rfl, rfl⟩) | (go_at_call 17; refine (hA' _).mono ?_; rintro e w' ⟨rfl, rfl⟩) | (go_at_call 18; refine (hC _).mono ?_; rintro e w' ⟨rfl, rfl⟩) | (go_at_call 19; refine (hC' _).mono ?_; rintro e w' ⟨rfl, rfl⟩))
    go_ret
    exact ⟨rfl, HB3.out.2⟩
set_option maxRecDepth 100000 in
set_option maxHeartbeats 2000000 in
theorem words_word (s : ByteArray) (aA aL aI aW : Addr) (w : World) (hm : s.size ≤ maxLen) (hE : Errs w aA aL aI aW) (hn : Lx.numR s.data.toList = (0, 4)) :
    Calls Tryd.prog 4 #[.string s] w fun e w' => e = .returned (.bool true) ∧ Below w.heap.size w w' := by
  have HE : Hid (Errs w aA aL aI aW ∧ Lx.numR s.data.toList = (0, 4)) := ⟨hE, hn⟩
  have HR := fun W => refNumber_any s W hm
  rw [hn] at HR
  clear hE hn
  go_enter Tryd.func4, Tryd.ntmps4
  go_wp2_with fail
  refine (number_wrong s _ _ 82 (.pointer (some aW)) _ hm HE.out.1.2.1.1 HE.out.1.2.2.2.1.1 (by rw [HE.out.2]; rfl)).mono ?_
  rintro e w1 ⟨b, rfl, hwb, hF, hb1⟩
  have HB1 : Hid (Errs w1 aA aL aI aW ∧ Below w.heap.size w w1 ∧ w1.heap[b]? = some (.cells #[.string ⟨#[108, 101, 120, 105, 115]⟩, .int .i64 0, .int .i64 0, .iface 82 (.pointer (some aW))] 49 (0, 0))) := ⟨HE.out.1.below hb1, hb1, hF⟩
  clear hb1 hF hwb
  go_wp2_with fail
  refine (HR _).mono ?_
  rintro e w' ⟨rfl, rfl⟩
  clear HR
  go_wp2_with fail
  refine (bad_any 4 _).mono ?_
  rintro e w9 ⟨rfl, rfl⟩
  go_wp2_with fail
  obtain ⟨w8, hw8⟩ : ∃ w8, w8 = (w'.alloc (.cells #[.int .i64 4, .int .i64 0, .int .i64 0, .string lexisB] 28)).alloc (.cells #[.int .i64 4, .int .i64 0, .int .i64 0, .string lexisB] 28) := ⟨_, rfl⟩
  rw [← hw8]
  have HB8 : Hid (Errs w8 aA aL aI aW ∧ Below w.heap.size w w8 ∧ w8.heap[b]? = some (.cells #[.string ⟨#[108, 101, 120, 105, 115]⟩, .int .i64 0, .int .i64 0, .iface 82 (.pointer (some aW))] 49 (0, 0)) ∧ w8.heap[w'.heap.size]? = some (.cells #[.int .i64 4, .int .i64 0, .int .i64 0, .string lexisB] 28)) := two_new HB1.out.1 HB1.out.2.1 HB1.out.2.2 hw8
  clear hw8 HB1
  refine (alive_errs aA aL aI aW _ HB8.out.1).mono ?_
  rintro e w2 ⟨rfl, hb2⟩
  have HB2 : Hid (Errs w2 aA aL aI aW ∧ Below w.heap.size w w2 ∧ w2.heap[b]? = some (.cells #[.string ⟨#[108, 101, 120, 105, 115]⟩, .int .i64 0, .int .i64 0, .iface 82 (.pointer (some aW))] 49 (0, 0))) := ⟨HB8.out.1.below hb2, HB8.out.2.1.trans (hb2.mono HB8.out.2.1.size), keep_block HB8.out.2.2.1 hb2⟩
  have hN := keep_block HB8.out.2.2.2 hb2
  have e0 := cell_of_block hN 0
  have e1 := cell_of_block hN 1
  have e2 := cell_of_block hN 2
  have e3 := cell_of_block hN 3
  simp at e0 e1 e2 e3
  clear hN hb2 HB8
  go_wp2_with fail
  have hT := told_word b 0 0 aA aL aI aW w2 HB2.out.1 HB2.out.2.2
  refine hT.mono ?_
  clear hT
  rintro e w3 ⟨rfl, hb3⟩
  have HB3 : Hid (Errs w3 aA aL aI aW ∧ Below w.heap.size w w3) := ⟨HB2.out.1.below hb3, HB2.out.2.1.trans (hb3.mono HB2.out.2.1.size)⟩
  clear hb3 e0 e1 e2 e3
  cases hx : Lx.nameZ true s <;> cases hy : Lx.nameZ false s
  all_goals
    have hA := fun W => isName_any s W hm
    have hA' := fun W => refIsName_any s W hm
    have hC := fun W => isConst_any s W hm
    have hC' := fun W => refIsConst_any s W hm
    rw [hx] at hA hA'
    rw [hy] at hC hC'
    clear hx hy
    go_wp2_with (first | (go_at_call 16; refine (hA _).mono ?_; rintro e w' ⟨rfl, rfl⟩) | (go_at_call 17; refine (hA' _).mono ?_; rintro e w' ⟨rfl, rfl⟩) | (go_at_call 18; refine (hC _).mono ?_; rintro e w' ⟨rfl, rfl⟩) | (go_at_call 19; refine (hC' _).mono ?_; rintro e w' ⟨rfl, rfl⟩))
    go_ret
    exact ⟨rfl, HB3.out.2⟩
set_option maxRecDepth 100000 in
set_option maxHeartbeats 2000000 in
theorem words_long (s : ByteArray) (aA aL aI aW : Addr) (w : World) (hm : s.size ≤ maxLen) (hE : Errs w aA aL aI aW) (hn : Lx.numR s.data.toList = (0, 2)) :
    Calls Tryd.prog 4 #[.string s] w fun e w' => e = .returned (.bool true) ∧ Below w.heap.size w w' := by
  have HE : Hid (Errs w aA aL aI aW ∧ Lx.numR s.data.toList = (0, 2)) := ⟨hE, hn⟩
  have HR := fun W => refNumber_any s W hm
  rw [hn] at HR
  clear hE hn
  go_enter Tryd.func4, Tryd.ntmps4
  go_wp2_with fail
  refine (number_wrong s _ _ 82 (.pointer (some aL)) _ hm HE.out.1.2.1.1 HE.out.1.2.2.2.1.1 (by rw [HE.out.2]; rfl)).mono ?_
  rintro e w1 ⟨b, rfl, hwb, hF, hb1⟩
  have HB1 : Hid (Errs w1 aA aL aI aW ∧ Below w.heap.size w w1 ∧ w1.heap[b]? = some (.cells #[.string ⟨#[108, 101, 120, 105, 115]⟩, .int .i64 0, .int .i64 0, .iface 82 (.pointer (some aL))] 49 (0, 0))) := ⟨HE.out.1.below hb1, hb1, hF⟩
  clear hb1 hF hwb
  go_wp2_with fail
  refine (HR _).mono ?_
  rintro e w' ⟨rfl, rfl⟩
  clear HR
  go_wp2_with fail
  refine (bad_any 2 _).mono ?_
  rintro e w9 ⟨rfl, rfl⟩
  go_wp2_with fail
  obtain ⟨w8, hw8⟩ : ∃ w8, w8 = (w'.alloc (.cells #[.int .i64 2, .int .i64 0, .int .i64 0, .string lexisB] 28)).alloc (.cells #[.int .i64 2, .int .i64 0, .int .i64 0, .string lexisB] 28) := ⟨_, rfl⟩
  rw [← hw8]
  have HB8 : Hid (Errs w8 aA aL aI aW ∧ Below w.heap.size w w8 ∧ w8.heap[b]? = some (.cells #[.string ⟨#[108, 101, 120, 105, 115]⟩, .int .i64 0, .int .i64 0, .iface 82 (.pointer (some aL))] 49 (0, 0)) ∧ w8.heap[w'.heap.size]? = some (.cells #[.int .i64 2, .int .i64 0, .int .i64 0, .string lexisB] 28)) := two_new HB1.out.1 HB1.out.2.1 HB1.out.2.2 hw8
  clear hw8 HB1
  refine (alive_errs aA aL aI aW _ HB8.out.1).mono ?_
  rintro e w2 ⟨rfl, hb2⟩
  have HB2 : Hid (Errs w2 aA aL aI aW ∧ Below w.heap.size w w2 ∧ w2.heap[b]? = some (.cells #[.string ⟨#[108, 101, 120, 105, 115]⟩, .int .i64 0, .int .i64 0, .iface 82 (.pointer (some aL))] 49 (0, 0))) := ⟨HB8.out.1.below hb2, HB8.out.2.1.trans (hb2.mono HB8.out.2.1.size), keep_block HB8.out.2.2.1 hb2⟩
  have hN := keep_block HB8.out.2.2.2 hb2
  have e0 := cell_of_block hN 0
  have e1 := cell_of_block hN 1
  have e2 := cell_of_block hN 2
  have e3 := cell_of_block hN 3
  simp at e0 e1 e2 e3
  clear hN hb2 HB8
  go_wp2_with fail
  have hT := told_long b 0 0 aA aL aI aW w2 HB2.out.1 HB2.out.2.2
  refine hT.mono ?_
  clear hT
  rintro e w3 ⟨rfl, hb3⟩
  have HB3 : Hid (Errs w3 aA aL aI aW ∧ Below w.heap.size w w3) := ⟨HB2.out.1.below hb3, HB2.out.2.1.trans (hb3.mono HB2.out.2.1.size)⟩
  clear hb3 e0 e1 e2 e3
  cases hx : Lx.nameZ true s <;> cases hy : Lx.nameZ false s
  all_goals
    have hA := fun W => isName_any s W hm
    have hA' := fun W => refIsName_any s W hm
    have hC := fun W => isConst_any s W hm
    have hC' := fun W => refIsConst_any s W hm
    rw [hx] at hA hA'
    rw [hy] at hC hC'
    clear hx hy
    go_wp2_with (first | (go_at_call 16; refine (hA _).mono ?_; rintro e w' ⟨rfl, rfl⟩) | (go_at_call 17; refine (hA' _).mono ?_; rintro e w' ⟨rfl, rfl⟩) | (go_at_call 18; refine (hC _).mono ?_; rintro e w' ⟨rfl, rfl⟩) | (go_at_call 19; refine (hC' _).mono ?_; rintro e w' ⟨rfl, rfl⟩))
    go_ret
    exact ⟨rfl, HB3.out.2⟩
theorem lawWords_any (s : ByteArray) (aA aL aI aW : Addr) (w : World) (hm : s.size ≤ maxLen) (hE : Errs w aA aL aI aW) :
    Calls Tryd.prog 4 #[.string s] w fun e w' => e = .returned (.bool true) ∧ Below w.heap.size w w' := by
  rcases num_cases s.data.toList with ⟨n, h⟩ | h | h
  · exact words_ok s n aA aL aI aW w hm hE h
  · exact words_word s aA aL aI aW w hm hE h
  · exact words_long s aA aL aI aW w hm hE h
end Go.Proofs.YtheiahheflcjpaaDoor
