/- Contract of the program's ordered: a new list of the same edges, in the order of a view. -/
import Derived.Test.YtcjeijmphgpecaaDoorSoSmall
import Derived.Test.YtcjeijmphgpecaaDoorSyClone
import Derived.Test.YtcjeijmphgpecaaDoorSySort
namespace Go.Proofs.YtcjeijmphgpecaaDoor
open Go.RowKit Go.Maps
attribute [local go_sem ↓] Go.wp_at_zero Go.wp_at_succ
/-- A row of one's own, and what lies behind its edges. -/
theorem row_of_own {w wr : World} {g n cap : Nat} {es : List Sy.Ed} (h : BEdges.Own wr w.heap.size (.slice (some ⟨g, 0, none⟩) n cap) es) (hb : Below w.heap.size w wr) : ∃ rest, RowE w wr g es.toArray rest ∧ n = es.length ∧ (es.length * 3 + rest.length = cap * 3) ∧ es.length ≤ cap ∧ cap ≤ maxLen := by
  rcases h.2 with ⟨e, _⟩ | ⟨g', cap', cur, e, hg, hc, h1, h2, h3, h4⟩
  · cases e
  injection e with e1 e2 e3
  have e4 := Option.some.inj e1
  injection e4 with e5
  subst e5; subst e3
  refine ⟨cur.toList.drop (es.length * 3), ⟨hb, ⟨cur, hc, ?_⟩, hg⟩, e2, ?_, h1, h2⟩
  · rw [← h4, List.take_append_drop]
  · have h5 : cur.toList.length = cap * 3 := by simpa using h3
    rw [List.length_drop, h5]; omega
theorem own_of_row {w wr : World} {g cap : Nat} {d : Array Sy.Ed} {rest : List Value} (h : RowE w wr g d rest) (hr : d.size * 3 + rest.length = cap * 3) (hc : d.size ≤ cap) (hm : cap ≤ maxLen) : BEdges.Own wr w.heap.size (.slice (some ⟨g, 0, none⟩) d.size cap) d.toList := by
  obtain ⟨hb, ⟨cs, h1, h2⟩, hg⟩ := h
  have hl := BEdges.C_len d.toList
  have hd : d.toList.length = d.size := Array.length_toList
  refine ⟨hl, .inr ⟨g, cap, cs, by rw [hd], hg, h1, by rw [hd]; exact hc, hm, ?_, ?_⟩⟩
  · rw [← Array.length_toList, h2, List.length_append, hl, hd]; exact hr
  · rw [h2, hd, ← hd, ← hl, List.take_left]
set_option maxRecDepth 100000 in
set_option maxHeartbeats 1000000 in
theorem insNone_any (ao : Option Addr) (cap : Nat) (u : Value) (w : World) : Calls Tryd.prog 75 #[.slice ao 0 cap, .int .i64 0, .int .i64 0, u] w fun r w' => r = .returned (.tuple #[]) ∧ w' = w := by
  go_enter Tryd.func75, Tryd.ntmps75
  go_wp2_with fail
  go_loopg [8] 0 (fun _ iv wr => iv = .int .i64 1 ∧ wr = w)
  case atStart => exact ⟨rfl, rfl⟩
  case round =>
    obtain ⟨rfl, rfl⟩ := hrel
    go_wp2
    go_end0
    exact ⟨rfl, rfl⟩
set_option maxRecDepth 100000 in
set_option maxHeartbeats 1000000 in
theorem pdqNone_any (ao : Option Addr) (cap : Nat) (lim : Int) (u : Value) (w : World) : Calls Tryd.prog 59 #[.slice ao 0 cap, .int .i64 0, .int .i64 0, .int .i64 lim, u] w fun r w' => r = .returned (.tuple #[]) ∧ w' = w := by
  have hI := insNone_any ao cap u w
  have HI : Hid _ := hI
  clear hI
  go_enter Tryd.func59, Tryd.ntmps59
  go_wp2_with fail
  go_loopg [1, 2] 0 (fun _ av bv wr => av = .int .i64 0 ∧ bv = .int .i64 0 ∧ wr = w)
  case atStart => exact ⟨rfl, rfl, rfl⟩
  case round =>
    obtain ⟨rfl, rfl, rfl⟩ := hrel
    go_wp2_with (go_at_call 75; refine Calls.mono HI.out ?_; rintro r w1 ⟨rfl, hw1⟩; obtain rfl := hw1.symm)
    exact bodyPost_ret (results_none rfl _ _ _) rfl ⟨rfl, rfl⟩
set_option maxRecDepth 100000 in
set_option maxHeartbeats 1000000 in
theorem sortNone_any (ao : Option Addr) (cap : Nat) (u : Value) (w : World) : Calls Tryd.prog 49 #[.slice ao 0 cap, u] w fun r w' => r = .returned (.tuple #[]) ∧ w' = w := by
  have hL := Tryd.bits_Len 0 w (by omega) (by omega)
  have hP := fun lim => pdqNone_any ao cap lim u w
  generalize Lib.bitLen _ = bl at hL
  have HI : Hid _ := And.intro hP hL
  clear hP hL
  go_enter Tryd.func49, Tryd.ntmps49
  go_wp2_with (first
    | (go_at_call 58; refine Calls.mono HI.out.2 ?_; rintro r w1 ⟨rfl, hw1⟩; obtain rfl := hw1.symm)
    | (go_at_call 59; refine Calls.mono (HI.out.1 _) ?_; rintro r w1 ⟨rfl, hw1⟩; obtain rfl := hw1.symm))
  go_end0
  exact ⟨rfl, rfl⟩
/-- The same edges, in the order of a view. -/
def InOrder (vw : Sy.Ed → Sy.Ed) (es os : List Sy.Ed) : Prop := os.Perm es ∧ os.Pairwise fun x y => ltV vw y x = false
theorem inOrder_of {vw : Sy.Ed → Sy.Ed} {es : List Sy.Ed} {d' : Array Sy.Ed} (hp : Sort.PermIn 0 es.toArray.size es.toArray d') (hs : Sort.SortedIn (ltV vw) 0 es.toArray.size d') : InOrder vw es d'.toList ∧ d'.size = es.length := by
  have hsz : d'.size = es.length := by simpa using hp.1
  refine ⟨⟨?_, ?_⟩, hsz⟩
  · have h := hp.2.2
    simp only [List.size_toArray] at h
    have e1 : (d'.extract 0 es.length).toList = d'.toList := by
      rw [← hsz]; simp
    have e2 : (es.toArray.extract 0 es.length).toList = es := by simp
    rw [e1, e2] at h
    exact h
  · rw [List.pairwise_iff_getElem]
    intro i j hi hj hij
    have hi' : i < d'.size := by simpa using hi
    have hj' : j < d'.size := by simpa using hj
    have h := hs i j (Nat.zero_le _) hij (by simp; omega)
    rw [getElem!_pos d' i hi', getElem!_pos d' j hj'] at h
    simpa using h
set_option maxRecDepth 100000 in
set_option maxHeartbeats 2000000 in
theorem ordered_any {M : Nat} (hS : SortOk M) (f : Nat) (vw : Sy.Ed → Sy.Ed) (hV : ViewAt f vw) (v : Value) (es : List Sy.Ed) (w : World) (hM : es.length ≤ M) (hn : es.length ≤ 1000000) (hv : BEdges.Has w v es) :
    Calls Tryd.prog 32 #[v, .func (.func f) #[] #[]] w fun r w' => ∃ u os, r = .returned u ∧ InOrder vw es os ∧ BEdges.Own w' w.heap.size u os ∧ Below w.heap.size w w' := by
  have hC := cloneEdges_any v es w hn hv
  have HC : Hid _ := And.intro hC (And.intro hS hV)
  obtain ⟨av, cv, rfl, _⟩ := hv
  clear hC hS hV
  go_enter Tryd.func32, Tryd.ntmps32
  go_wp2_with (go_at_call 48; refine Calls.mono HC.out.1 ?_; rintro r w1 ⟨u, rfl, hO, hb⟩; obtain ⟨ao, cap, rfl⟩ := row_shape hO)
  by_cases h0 : es = []
  · subst h0
    have hN := sortNone_any ao cap (.func (.func 50) #[.func (.func f) #[] #[]] #[]) w1
    have HO : Hid _ := And.intro hO (And.intro hb hN)
    clear hO hb hN
    simp only [List.length_nil]
    refine Calls.mono HO.out.2.2 ?_
    rintro r w2 ⟨rfl, hw2⟩
    obtain rfl := hw2.symm
    go_wp2_with fail
    go_ret
    exact ⟨_, [], rfl, ⟨.refl _, .nil⟩, HO.out.1, HO.out.2.1⟩
  · have hao : ∃ g, ao = some ⟨g, 0, none⟩ := by
      rcases hO.2 with ⟨_, e⟩ | ⟨g, cap', cur, e, _⟩
      · exact absurd (List.eq_nil_of_length_eq_zero e) h0
      · injection e with e1; exact ⟨g, e1⟩
    obtain ⟨g, rfl⟩ := hao
    obtain ⟨rest, hR, _, h3, h4, h5⟩ := row_of_own hO hb
    have hSo := HC.out.2.1 f vw HC.out.2.2 g cap es.toArray rest w w1 hR (by simpa using hM)
    have HO : Hid _ := And.intro hSo (And.intro h3 (And.intro h4 h5))
    unfold cmpV at HO
    simp only [List.size_toArray] at HO
    clear hO hb hR h3 h4 h5 hSo
    refine Calls.mono HO.out.1 ?_
    rintro r w2 ⟨rfl, d', hp, hs, hR2⟩
    obtain ⟨hI, hd⟩ := inOrder_of (by simpa using hp) (by simpa using hs)
    have H2 : Hid _ := And.intro hR2 (And.intro hI hd)
    clear hR2 hI hd hp hs
    go_wp2_with fail
    go_ret
    have hd := H2.out.2.2
    have how := own_of_row (cap := cap) H2.out.1 (by rw [hd]; exact HO.out.2.1) (by rw [hd]; exact HO.out.2.2.1) HO.out.2.2.2
    rw [hd] at how
    exact ⟨_, d'.toList, rfl, H2.out.2.1, how, H2.out.1.bl⟩
end Go.Proofs.YtcjeijmphgpecaaDoor
