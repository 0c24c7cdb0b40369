/- Contract of the book's markedInts. -/
import Derived.Test.YthnenpncajpibaaGreatDoorBookI2
namespace Go.Proofs.YthnenpncajpibaaGreatDoor
open Go.RowKit Go.Maps
attribute [local go_sem ↓] Go.wp_at_zero Go.wp_at_succ
/-- A row of lists, each with its marks. -/
structure Mr (w : World) (v : Value) (ns : List Nat) : Prop where
  ex : ∃ ao cap, v = .slice ao ns.length cap ∧ ∀ (k n : Nat), ns[k]? = some n → ∃ a l, ao = some a ∧ w.cell? (a.add k) = some l ∧ HasI w l (marks k 0 n)
theorem Mr.below {w w' : World} {v : Value} {ns : List Nat} (h : Mr w v ns) (hb : Below w.heap.size w w') : Mr w' v ns := by
  obtain ⟨ao, cap, hv, h1⟩ := h.ex
  refine ⟨ao, cap, hv, fun k n hk => ?_⟩
  obtain ⟨a, l, ha, hc, hl⟩ := h1 k n hk
  exact ⟨a, l, ha, (hb.cell (World.block_lt_of_cell? w _ hc)).trans hc, hl.below hb⟩
set_option maxRecDepth 100000 in
set_option maxHeartbeats 4000000 in
theorem markedI_any (v : Value) (ns : List Nat) (w : World) (h : Mr w v ns) (hl : ns.length ≤ 400) (hs : ∀ n ∈ ns, n ≤ 2000000) :
    Calls Tryz.prog 67 #[v] w fun r w' => r = .returned (.bool true) ∧ Below w.heap.size w w' := by
  obtain ⟨ao, cap, rfl, _⟩ := h.ex
  obtain ⟨n, hn⟩ : ∃ n, n = ns.length := ⟨_, rfl⟩
  have HM : Hid _ := And.intro h (And.intro hs hn)
  rw [← hn] at hl ⊢
  clear h hs hn
  go_enter Tryz.func67, Tryz.ntmps67
  go_wp2_with fail
  go_loopg [3] n (fun q iv wr => ∃ (i : Nat), q = n - i ∧ i ≤ n ∧ iv = .int .i64 i ∧ Below w.heap.size w wr)
  case atStart => exact ⟨0, rfl, Nat.zero_le _, rfl, Below.refl _ _⟩
  case round =>
    obtain ⟨i, rfl, hi, rfl, hb⟩ := hrel
    by_cases hlt : i < n
    · obtain ⟨N, hN⟩ : ∃ N, ns[i]? = some N := ⟨ns[i]'(by have := HM.out.2.2; omega), List.getElem?_eq_getElem _⟩
      obtain ⟨ao', cap', hv, h1⟩ := (HM.out.1.below hb).ex
      injection hv with e1 e2 e3
      subst e1
      obtain ⟨a, l, rfl, cl, hL⟩ := h1 i N hN
      have hN2 := HM.out.2.1 N (List.mem_of_getElem? hN)
      obtain ⟨al, kl, hlv, _⟩ := _root_.id hL
      rw [marks_len] at hlv
      subst hlv
      have q0 : (0 : Int) ≤ (i : Int) := by omega
      have q1 : (i : Int) < (n : Int) := by omega
      have hMk := fun W => mark_any i 0 N W (by omega) (by omega)
      have HK : Hid _ := And.intro hMk (And.intro hL hb)
      clear hMk hL hb h1 hN e2 e3
      go_upto_region 4 with fail
      go_cut [22] (fun s22 wx => s22 = .bool false ∧ Below w.heap.size w wx)
      case first =>
        go_region_held3 (fun w' => w'.cell? (a.add i) = some (.slice al N kl)) (go_keep)
          ((first
            | (go_at_call 99; refine (HK.out.1 _).mono ?_; rintro r8 w8 ⟨v8, rfl, hO8, hb8'⟩; have hb8 := below_of_drew3 hb8'; have cl := (hb8.cell (World.block_lt_of_cell? _ _ cl)).trans cl; have hL8 := HK.out.2.1.below hb8; have hS8 := sameInts_b (.slice al N kl) v8 (marks i 0 N) (marks i 0 N) w8 (by rw [marks_len]; omega) (by rw [marks_len]; omega) hL8 hO8.has; rw [beq_self_eq_true] at hS8; have H8 : Hid _ := And.intro hS8 (HK.out.2.2.trans (hb8.mono HK.out.2.2.size)); clear hb8 hb8' hO8 hL8 hS8)
            | (go_at_call 14; refine (Calls.mono H8.out.1 ?_); rintro r9 w9 ⟨rfl, hb9⟩; have cl := (hb9.cell (World.block_lt_of_cell? _ _ cl)).trans cl; have H9 : Hid _ := H8.out.2.trans (hb9.mono H8.out.2.size); clear hb9)
            | fail))
        all_goals (refine Met.intro ?_; apply_assumption; refine Met.intro ?_; apply_assumption; (repeat apply Exists.intro); refine ⟨?rel, rfl⟩; case rel => exact ⟨rfl, by first | exact H9.out | exact below_drewN H9.out _⟩)
      case rest =>
        obtain ⟨rfl, hb9⟩ := hcut
        have H9 : Hid _ := hb9
        clear hb9 cl
        go_wp2_with fail
        go_roundg (n - (i + 1))
        case measure => omega
        case rel => exact ⟨i + 1, rfl, by omega, by go_num, H9.out⟩
    · obtain rfl : i = n := by omega
      have q1 : ¬ (i : Int) < (i : Int) := by omega
      have HBl : Hid _ := hb
      clear hb
      go_wp2_with fail
      go_ret
      exact ⟨rfl, HBl.out⟩
end Go.Proofs.YthnenpncajpibaaGreatDoor
