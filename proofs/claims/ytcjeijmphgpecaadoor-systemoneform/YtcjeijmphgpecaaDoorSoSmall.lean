/- Contract of slices.SortFunc of at most twelve edges by a view's comparison. -/
import Derived.Test.YtcjeijmphgpecaaDoorSoIns
import Derived.Test.YtcjeijmphgpecaaDoorShelf
namespace Go.Proofs.YtcjeijmphgpecaaDoor
open Go.RowKit Go.Maps
attribute [local go_sem ↓] Go.wp_at_zero Go.wp_at_succ
/-- slices.SortFunc sorts rows of up to m edges. -/
def SortOk (m : Nat) : Prop := ∀ (f : Nat) (vw : Sy.Ed → Sy.Ed), ViewAt f vw → ∀ (g cap : Nat) (d : Array Sy.Ed) (rest : List Value) (w0 w : World), RowE w0 w g d rest → d.size ≤ m →
  Calls Tryd.prog 49 #[.slice (some ⟨g, 0, none⟩) d.size cap, cmpV f] w fun r w' => r = .returned (.tuple #[]) ∧ ∃ d', Sort.PermIn 0 d.size d d' ∧ Sort.SortedIn (ltV vw) 0 d.size d' ∧ RowE w0 w' g d' rest
theorem SortOk.mono {m n : Nat} (h : SortOk m) (hn : n ≤ m) : SortOk n := fun f vw hV g cap d rest w0 w hR hd => h f vw hV g cap d rest w0 w hR (Nat.le_trans hd hn)
set_option maxRecDepth 100000 in
set_option maxHeartbeats 1000000 in
theorem pdqSmall_any (f : Nat) (vw : Sy.Ed → Sy.Ed) (hV : ViewAt f vw) (g cap a b : Nat) (lim : Int) (d : Array Sy.Ed) (rest : List Value) (w0 w : World) (hR : RowE w0 w g d rest) (hab : a ≤ b) (hb : b ≤ d.size) (hsz : d.size ≤ 1000000) (h12 : b - a ≤ 12) :
    Calls Tryd.prog 59 #[.slice (some ⟨g, 0, none⟩) d.size cap, .int .i64 a, .int .i64 b, .int .i64 lim, cmpV f] w fun r w' => r = .returned (.tuple #[]) ∧ RowE w0 w' g (Sort.insertionSort (ltV vw) d a b) rest := by
  have hI := insSort_any f vw hV g cap a b d rest w0 w hR hab hb hsz
  generalize Sort.insertionSort (ltV vw) d a b = d' at hI ⊢
  unfold cmpV at hI ⊢
  have p1 : IntKind.i64.wrap ((b : Int) - (a : Int)) = (b : Int) - (a : Int) := by rw [IntKind.wrap_i64]; omega
  have p2 : (b : Int) - (a : Int) ≤ 12 := by omega
  have HI : Hid _ := hI
  clear hI hR
  go_enter Tryd.func59, Tryd.ntmps59
  go_wp2_with fail
  go_loopg [1, 2] 0 (fun _ av bv wr => av = .int .i64 (a : Int) ∧ bv = .int .i64 (b : Int) ∧ wr = w)
  case atStart => exact ⟨rfl, rfl, rfl⟩
  case round =>
    obtain ⟨rfl, rfl, rfl⟩ := hrel
    go_wp2_with (go_at_call 75; refine Calls.mono HI.out ?_; rintro r w1 ⟨rfl, hR1⟩)
    exact bodyPost_ret (results_none rfl _ _ _) rfl ⟨rfl, hR1⟩
set_option maxRecDepth 100000 in
set_option maxHeartbeats 1000000 in
theorem sort12 : SortOk 12 := fun f vw hV g cap d rest w0 w hR hd => by
  have hL := Tryd.bits_Len (d.size : Int) w (by omega) (by omega)
  have hP := fun lim => pdqSmall_any f vw hV g cap 0 d.size lim d rest w0 w hR (Nat.zero_le _) (Nat.le_refl _) (by omega) (by omega)
  have hI := Sort.insertionSort_holds (lt := ltV vw) (swoV vw) d 0 d.size (Nat.zero_le _) (Nat.le_refl _)
  generalize Sort.insertionSort (ltV vw) d 0 d.size = d' at hP hI
  generalize Lib.bitLen _ = bl at hL
  have wr : IntKind.u64.wrap (d.size : Int) = d.size := by simp [IntKind.wrap, IntKind.bits, IntKind.signed]; omega
  unfold cmpV at hP ⊢
  have HI : Hid _ := And.intro hP (And.intro hL hI)
  clear hP hI hL hR
  go_enter Tryd.func49, Tryd.ntmps49
  go_wp2_with (first
    | (go_at_call 58; refine Calls.mono HI.out.2.1 ?_; rintro r w1 ⟨rfl, hw1⟩; obtain rfl := hw1.symm)
    | (go_at_call 59; refine Calls.mono (HI.out.1 _) ?_; rintro r w1 ⟨rfl, hR1⟩))
  go_end0
  exact ⟨rfl, d', HI.out.2.2.1, HI.out.2.2.2, hR1⟩
end Go.Proofs.YtcjeijmphgpecaaDoor
