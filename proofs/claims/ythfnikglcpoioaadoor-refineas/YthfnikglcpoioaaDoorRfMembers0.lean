/- refine: a block's elements, rising. -/
import Derived.Test.YthfnikglcpoioaaDoorRfSplit2
import Derived.Test.YthfnikglcpoioaaDoorSoInts
namespace Go.Proofs.YthfnikglcpoioaaDoor
open Go.RowKit Go.Maps
attribute [local go_sem ↓] Go.wp_at_zero Go.wp_at_succ
/-- A block's elements, rising. -/
def Pst.mem (s : Pst) (b : Nat) : List Int := ((List.range s.n).filter fun e => decide (s.O e = b)).map fun e : Nat => (e : Int)
/-- A block's elements as they stand. -/
def Pst.room (s : Pst) (b : Nat) : List Int := (List.range (s.D b - s.B b)).map fun j : Nat => (s.E (s.B b + j) : Int)
theorem room_len (s : Pst) (b : Nat) : (s.room b).length = s.D b - s.B b := by simp [Pst.room]
theorem room_at (s : Pst) (b : Nat) {j : Nat} (hj : j < s.D b - s.B b) : (s.room b)[j]? = some (s.E (s.B b + j) : Int) := by simp [Pst.room, hj]
theorem mem_mem {s : Pst} {b : Nat} {z : Int} : z ∈ s.mem b ↔ ∃ e : Nat, e < s.n ∧ s.O e = b ∧ z = e := by
  simp only [Pst.mem, List.mem_map, List.mem_filter, List.mem_range, decide_eq_true_eq]
  exact ⟨fun ⟨e, ⟨h1, h2⟩, h3⟩ => ⟨e, h1, h2, h3.symm⟩, fun ⟨e, h1, h2, h3⟩ => ⟨e, ⟨h1, h2⟩, h3.symm⟩⟩
theorem mem_rise (s : Pst) (b : Nat) : (s.mem b).Pairwise (· < ·) := by
  unfold Pst.mem
  rw [List.pairwise_map]
  exact (List.pairwise_lt_range.filter _).imp fun h => by omega
theorem room_perm {s : Pst} (hO : s.Ok) {b : Nat} (hb : b < s.nb) : (s.room b).Perm (s.mem b) := by
  have v := hO.iv b hb
  refine (List.perm_ext_iff_of_nodup ?_ ((mem_rise s b).imp fun h => by omega)).2 fun z => ?_
  · unfold Pst.room
    refine List.pairwise_map.2 (List.Pairwise.imp_of_mem (fun {x y} hx hy h => ?_) List.pairwise_lt_range)
    intro h2
    rw [List.mem_range] at hx hy
    have h3 : s.E (s.B b + x) = s.E (s.B b + y) := by omega
    have h4 := (hO.ep (s.B b + x) (by omega)).2
    have h5 := (hO.ep (s.B b + y) (by omega)).2
    rw [h3, h5] at h4
    omega
  · rw [mem_mem]
    unfold Pst.room
    simp only [List.mem_map, List.mem_range]
    constructor
    · rintro ⟨j, hj, rfl⟩
      exact ⟨s.E (s.B b + j), (hO.ep _ (by omega)).1, hO.ow b hb _ (by omega) (by omega), rfl⟩
    · rintro ⟨e, he, ho, rfl⟩
      obtain ⟨o1, o2, o3⟩ := hO.o e he
      rw [ho] at o2 o3
      exact ⟨s.P e - s.B b, by omega, by rw [show s.B b + (s.P e - s.B b) = s.P e by omega, (hO.pe e he).2]⟩
theorem room_sort {s : Pst} (hO : s.Ok) {b : Nat} (hb : b < s.nb) : ((s.room b).mergeSort fun x y => decide (x ≤ y)) = s.mem b :=
  List.Perm.eq_of_pairwise (le := fun a b => a ≤ b) (fun a b _ _ h1 h2 => by omega) (sort_rise _) ((mem_rise s b).imp fun h => by omega) ((sort_perm _).trans (room_perm hO hb))
theorem mem_len {s : Pst} (hO : s.Ok) {b : Nat} (hb : b < s.nb) : (s.mem b).length = s.D b - s.B b := by rw [← (room_perm hO hb).length_eq, room_len]
theorem Tryd.eqClI (w : World) (a : Option Addr) (n c n' c' : Nat) : (binOp .eql 34 (.slice a n c) (.slice none n' c')).run Tryd.prog w = .ok (.bool a.isNone) w := Lib.run_eql_slice_nil w _ _ a n c n' c' Tryd.underlying34
set_option maxRecDepth 100000 in
set_option maxHeartbeats 1000000 in
/-- slices.Clone of numbers that lie in memory. -/
theorem cloneI_any (a : Addr) (cap : Nat) (zs : List Int) (w : World) (h0 : 0 < zs.length) (hn : zs.length ≤ 1000000) (hv : ∀ j u, (iC zs)[j]? = some u → w.cell? (a.add j) = some u) :
    Calls Tryd.prog 22 #[.slice (some a) zs.length cap] w fun r w' => ∃ g k, r = .returned (.slice (some ⟨g, 0, none⟩) zs.length k) ∧ OwnI w' w.heap.size (.slice (some ⟨g, 0, none⟩) zs.length k) zs ∧ Below w.heap.size w w' ∧ w.heap.size ≤ g := by
  obtain ⟨i0, hi0, hz0, hz1, hz2⟩ := info_parts Tryd.infoI4
  have hq := Tryd.eqClI
  have hl : (iC zs).length = zs.length := by simp [iC]
  obtain ⟨n, hN⟩ : ∃ n, n = zs.length := ⟨_, rfl⟩
  have A : Aside (∀ j u, (iC zs)[j]? = some u → w.cell? (a.add j) = some u) := hv
  have HN : Hid (n = zs.length ∧ 0 < zs.length) := ⟨hN, h0⟩
  rw [← hN] at hn hl ⊢
  clear hv hN h0
  go_enter Tryd.func22, Tryd.ntmps22
  go_wp2_with (at_builtin; refine wpList_append_own _ rfl _ _ 34 rfl w.heap.size 3 i0 (.int .i64 0) 1 8 Tryd.underlying34 hi0 hz0 hz1 hz2 rfl (by decide) _ _ _ rfl (World.ownsRow_made w #[] 0 (Nat.le_refl _) (Nat.zero_le _) (by simp)) a n cap (iC zs) rfl ?qc1 ?qc2 ?qc3 ?qc4 ?qc5 ?qc6 ?_)
  case qc1 => omega
  case qc2 =>
    intro j u hj
    have h1 := A.out j u hj
    exact (((Below.refl _ w).alloc (Nat.le_refl _) _).cell (World.block_lt_of_cell? w _ h1)).trans h1
  case qc3 => exact iC_one zs
  case qc4 => unfold maxLen; omega
  case qc5 => omega
  case qc6 => simp
  intro v' w1 hown hgrow hnil
  go_wp2
  go_ret
  have h1 : OwnI w1 w.heap.size v' zs := by
    have h1 := hown
    rw [HN.out.1] at h1
    unfold OwnI
    simpa using h1
  have hb : Below w.heap.size w w1 := ((Below.refl _ w).alloc (Nat.le_refl _) _).grown hgrow (by simp) (by intro k hk; simp [Value.ownBlock] at hk; omega)
  rcases h1.2 with ⟨rfl, h0⟩ | ⟨g, k, cur, rfl, hg, h3⟩
  · have := HN.out.2; omega
  · rw [HN.out.1]
    exact ⟨g, k, rfl, h1, hb, hg⟩
end Go.Proofs.YthfnikglcpoioaaDoor
