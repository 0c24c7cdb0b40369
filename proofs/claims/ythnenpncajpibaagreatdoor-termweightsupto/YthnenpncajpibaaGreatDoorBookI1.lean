/- Contracts of the book's stillInts and putInts. -/
import Derived.Test.YthnenpncajpibaaGreatDoorBookI0
import Derived.Deep.DeepCutAuto
import Derived.Deep.RegionHeld3
namespace Go.Proofs.YthnenpncajpibaaGreatDoor
open Go.RowKit Go.Maps
attribute [local go_sem ↓] Go.wp_at_zero Go.wp_at_succ
set_option maxRecDepth 100000 in
set_option maxHeartbeats 4000000 in
theorem still_any (bk : Nat) (vi vw : Value) (ls ws : List Value) (zss : List (List Int)) (w : World) (h : Bs w bk vi vw ls ws zss) :
    Calls Tryz.prog 34 #[.pointer (some ⟨bk, 0, none⟩)] w fun r w' => r = .returned (.bool true) ∧ Below w.heap.size w w' := by
  obtain ⟨ai, ci, rfl⟩ := row_shape h.p.ri
  obtain ⟨n, hn⟩ : ∃ n, n = zss.length := ⟨_, rfl⟩
  have HB : Hid _ := And.intro h (And.intro hn h.p.len)
  have c0 := h.p.c0
  rw [← hn] at c0
  have hnl : n ≤ 400 := by rw [hn]; exact h.p.len
  clear h hn
  go_enter Tryz.func34, Tryz.ntmps34
  go_wp2_with fail
  go_loopg [3] n (fun q iv wr => ∃ (i : Nat), q = n - i ∧ i ≤ n ∧ iv = .int .i64 i ∧ Below w.heap.size w wr)
  case atStart => exact ⟨0, rfl, Nat.zero_le _, rfl, Below.refl _ _⟩
  case round =>
    obtain ⟨i, rfl, hi, rfl, hb⟩ := hrel
    have c0' := cell_up c0 hb
    by_cases hlt : i < n
    · obtain ⟨zs, hz⟩ : ∃ zs, zss[i]? = some zs := ⟨zss[i]'(by have := HB.out.2.1; omega), List.getElem?_eq_getElem _⟩
      have h1 := HB.out.1.below hb
      obtain ⟨gi, ci', l, hv, _, cl, hO⟩ := h1.p.at hz
      obtain ⟨gw, cw, l2, hv2, cl2, hO2⟩ := h1.at hz
      have c1 := h1.c1
      rw [hv2] at c1
      injection hv with e1 e2 e3
      subst e1
      rw [← HB.out.2.1] at c1
      have hzl := h1.p.sz zs (List.mem_of_getElem? hz)
      obtain ⟨a1, k1, rfl⟩ := row_shape hO
      obtain ⟨a2, k2, rfl⟩ := row_shape hO2
      have q0 : (0 : Int) ≤ (i : Int) := by omega
      have q1 : (i : Int) < (n : Int) := by omega
      have hSm := fun W (hw : Below wr.heap.size wr W) => sameInts_b (.slice a1 zs.length k1) (.slice a2 zs.length k2) zs zs W (by omega) (by omega) (hO.has.below hw) (hO2.has.below hw)
      rw [beq_self_eq_true] at hSm
      have HS : Hid _ := hSm
      have HBl : Hid _ := hb
      clear hSm hO hO2 h1 hz hb hzl e2 e3 hv2
      go_upto_region 4 with fail
      go_cut [28] (fun s28 wx => s28 = .bool false ∧ Below w.heap.size w wx)
      case first =>
        go_region_held3 (fun w' => w'.cell? ⟨bk, 0, none⟩ = some (.slice (some ⟨gi, 0, none⟩) n ci) ∧ w'.cell? ⟨gi, i, none⟩ = some (.slice a1 zs.length k1) ∧ w'.cell? ⟨bk, 1, none⟩ = some (.slice (some ⟨gw, 0, none⟩) n cw) ∧ w'.cell? ⟨gw, i, none⟩ = some (.slice a2 zs.length k2)) (go_keep)
          ((first
            | (go_at_call 14; refine (HS.out _ (by repeat (first | exact Below.refl _ _ | assumption | refine Below.drew ?_ | refine Below.setCell ?_ (by simp) _ | refine Below.alloc ?_ (by simp) _))).mono ?_; rintro r8 w8 ⟨rfl, hb8'⟩; have hb8 := below_of_drew3 hb8'; have c0' := cell_up c0' hb8; have cl := cell_up cl hb8; have c1 := cell_up c1 hb8; have cl2 := cell_up cl2 hb8; have H8 : Hid _ := HBl.out.trans (hb8.mono HBl.out.size); clear hb8 hb8' HS)
            | fail))
        all_goals (refine Met.intro ?_; apply_assumption; refine Met.intro ?_; apply_assumption; (repeat apply Exists.intro); refine ⟨?rel, rfl⟩; case rel => exact ⟨rfl, by first | exact H8.out | exact below_drewN H8.out _⟩)
      case rest =>
        obtain ⟨rfl, hb9⟩ := hcut
        have H9 : Hid _ := hb9
        clear hb9 HS c0' cl c1 cl2
        go_wp2_with fail
        go_roundg (n - (i + 1))
        case measure => omega
        case rel => exact ⟨i + 1, rfl, by omega, by go_num, H9.out⟩
    · obtain rfl : i = n := by omega
      have q1 : ¬ (i : Int) < (i : Int) := by omega
      have HBl : Hid _ := hb
      clear hb
      go_wp2_with fail
      go_ret
      exact ⟨rfl, HBl.out⟩
end Go.Proofs.YthnenpncajpibaaGreatDoor
