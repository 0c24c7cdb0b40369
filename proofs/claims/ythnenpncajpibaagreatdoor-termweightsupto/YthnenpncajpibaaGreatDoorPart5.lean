/- Texts of this claim, joined: TmSame, Is, Sent, TmSameT, RtSame, RefRising. -/
import Derived.Test.YthnenpncajpibaaGreatDoorPart4
import Derived.Deep.LoopGhost
import Derived.WalkSmall
import Derived.Test.YthnenpncajpibaaGreatDoorProg
import Derived.WalkKit
import Derived.LaidEql
import Derived.Stop.Asserts
import Derived.RowKitTokens
import Derived.Below
import Derived.OneCell
import Derived.Test.YthnenpncajpibaaGreatDoorPart0
/- Contracts of the book's SameInts, SamePairs, SameTerm, whatever the lists. -/
namespace Go.Proofs.YthnenpncajpibaaGreatDoor
open Go.RowKit Go.Maps
theorem eq_len {α : Type} {a b : List α} {n : Nat} (ha : a.length = n) (hb : b.length = n) (h : a.take n = b.take n) : a = b := by
  rw [List.take_of_length_le (by omega), List.take_of_length_le (by omega)] at h
  exact h
theorem take_both {α : Type} {a b : List α} {j : Nat} {x : α} (ha : a[j]? = some x) (hb : b[j]? = some x) (h : a.take j = b.take j) : a.take (j + 1) = b.take (j + 1) := by
  rw [take_succ_of ha, take_succ_of hb, h]
set_option maxRecDepth 100000 in
set_option maxHeartbeats 1000000 in
theorem sameInts_b (va vb : Value) (za zb : List Int) (w : World) (hn : za.length ≤ 1000000000000000) (hm : zb.length ≤ 1000000000000000) (hA : HasI w va za) (hB : HasI w vb zb) :
    Calls Tryz.prog 14 #[va, vb] w fun e w' => e = .returned (.bool (za == zb)) ∧ Below w.heap.size w w' := by
  obtain ⟨ao, cap, rfl, hcA⟩ := hA
  obtain ⟨ao', cap', rfl, hcB⟩ := hB
  by_cases hlen : za.length = zb.length
  · obtain ⟨n, hN⟩ : ∃ n, n = za.length := ⟨_, rfl⟩
    have HH : Hid _ := And.intro hcA (And.intro hcB (And.intro hN (hN.trans hlen)))
    rw [← hlen, ← hN]
    rw [← hN] at hn
    clear hcA hcB hN hlen hm
    have q : ((n : Int) != (n : Int)) = false := by simp
    go_enter Tryz.func14, Tryz.ntmps14
    go_wp2
    go_loopg [5] n (fun g i wr => ∃ j m : Nat, g = n - j ∧ j ≤ n ∧ i = .int .i64 j ∧ za.take j = zb.take j ∧ wr = w.drewN m)
    case atStart => exact ⟨0, 0, rfl, Nat.zero_le _, rfl, rfl, rfl⟩
    case round =>
      obtain ⟨j, m, rfl, hj, rfl, heq, rfl⟩ := hrel
      have HQ : Hid _ := heq
      clear heq
      by_cases hlt : j < n
      · obtain ⟨x, hx⟩ : ∃ z, za[j]? = some z := ⟨za[j]'(by have := HH.out.2.2.1; omega), List.getElem?_eq_getElem _⟩
        obtain ⟨y, hy⟩ : ∃ z, zb[j]? = some z := ⟨zb[j]'(by have := HH.out.2.2.2; omega), List.getElem?_eq_getElem _⟩
        obtain ⟨a, rfl, c0⟩ := HH.out.1 j x hx
        obtain ⟨b, rfl, d0⟩ := HH.out.2.1 j y hy
        have q0 : (0 : Int) ≤ (j : Int) := by omega
        have q1 : (j : Int) < (n : Int) := by omega
        by_cases hxy : x = y
        · subst hxy
          have HT : Hid _ := take_both hx hy HQ.out
          clear hx hy
          go_wp2_with fail
          go_quiet (fail)
          go_wp2
          go_roundg (n - (j + 1))
          case measure => omega
          case rel => exact ⟨j + 1, _, rfl, by omega, by go_num, HT.out, by first | rfl | exact World.drewN_drewN _ _ _⟩
        · have e1 : (x == y) = false := by simpa using hxy
          have HF : Hid ((za == zb) = false) := (by
            rw [beq_eq_false_iff_ne]
            rintro rfl
            rw [hx] at hy
            exact hxy (Option.some.inj hy) : (za == zb) = false)
          clear hx hy hxy
          go_wp2_with fail
          go_quiet (fail)
          go_wp2
          go_ret
          exact ⟨by rw [HF.out]; rfl, by first | exact below_drewN (below_drewN (Below.refl _ _) _) _ | exact below_drewN (Below.refl _ _) _⟩
      · obtain rfl : j = n := by omega
        have q1 : ¬ (j : Int) < (j : Int) := by omega
        have HF : Hid ((za == zb) = true) := (by
          rw [beq_iff_eq]
          exact eq_len HH.out.2.2.1.symm HH.out.2.2.2.symm HQ.out : (za == zb) = true)
        go_wp2
        go_ret
        exact ⟨by rw [HF.out]; rfl, below_drewN (Below.refl _ _) _⟩
  · have q : ((za.length : Int) != (zb.length : Int)) = true := by rw [bne_iff_ne]; omega
    have HF : Hid ((za == zb) = false) := (by rw [beq_eq_false_iff_ne]; rintro rfl; exact hlen rfl : (za == zb) = false)
    clear hcA hcB hlen
    go_enter Tryz.func14, Tryz.ntmps14
    go_wp2
    go_ret
    exact ⟨by rw [HF.out]; rfl, Below.refl _ _⟩
set_option maxRecDepth 100000 in
set_option maxHeartbeats 1000000 in
theorem samePairs_b (va vb : Value) (za zb : List (Int × Int)) (w : World) (hn : za.length ≤ 1000000000000000) (hm : zb.length ≤ 1000000000000000) (hA : HasP w va za) (hB : HasP w vb zb) :
    Calls Tryz.prog 79 #[va, vb] w fun e w' => e = .returned (.bool (za == zb)) ∧ Below w.heap.size w w' := by
  obtain ⟨ao, cap, rfl, hcA⟩ := hA
  obtain ⟨ao', cap', rfl, hcB⟩ := hB
  by_cases hlen : za.length = zb.length
  · obtain ⟨n, hN⟩ : ∃ n, n = za.length := ⟨_, rfl⟩
    have HH : Hid _ := And.intro hcA (And.intro hcB (And.intro hN (hN.trans hlen)))
    rw [← hlen, ← hN]
    rw [← hN] at hn
    clear hcA hcB hN hlen hm
    have q : ((n : Int) != (n : Int)) = false := by simp
    go_enter Tryz.func79, Tryz.ntmps79
    go_wp2
    go_loopg [5] n (fun g i wr => ∃ j m : Nat, g = n - j ∧ j ≤ n ∧ i = .int .i64 j ∧ za.take j = zb.take j ∧ wr = w.drewN m)
    case atStart => exact ⟨0, 0, rfl, Nat.zero_le _, rfl, rfl, rfl⟩
    case round =>
      obtain ⟨j, m, rfl, hj, rfl, heq, rfl⟩ := hrel
      have HQ : Hid _ := heq
      clear heq
      by_cases hlt : j < n
      · obtain ⟨⟨x, x'⟩, hx⟩ : ∃ z, za[j]? = some z := ⟨za[j]'(by have := HH.out.2.2.1; omega), List.getElem?_eq_getElem _⟩
        obtain ⟨⟨y, y'⟩, hy⟩ : ∃ z, zb[j]? = some z := ⟨zb[j]'(by have := HH.out.2.2.2; omega), List.getElem?_eq_getElem _⟩
        obtain ⟨a, rfl, c0, c1⟩ := HH.out.1 j _ hx
        obtain ⟨b, rfl, d0, d1⟩ := HH.out.2.1 j _ hy
        simp only at c0 c1 d0 d1
        have c2 : w.cell? ((a.add (j * 2)).add 1) = some (.int .i64 x') := by rw [add_two]; exact c1
        have c3 : w.cell? ⟨(a.add (j * 2)).block, (a.add (j * 2)).off + 1, none⟩ = some (.int .i64 x') := by rw [← c2]; rfl
        have d2 : w.cell? ((b.add (j * 2)).add 1) = some (.int .i64 y') := by rw [add_two]; exact d1
        have d3 : w.cell? ⟨(b.add (j * 2)).block, (b.add (j * 2)).off + 1, none⟩ = some (.int .i64 y') := by rw [← d2]; rfl
        have q0 : (0 : Int) ≤ (j : Int) := by omega
        have q1 : (j : Int) < (n : Int) := by omega
        by_cases hxy : x = y ∧ x' = y'
        · obtain ⟨rfl, rfl⟩ := hxy
          have HT : Hid _ := take_both hx hy HQ.out
          clear hx hy
          go_wp2_with fail
          go_quiet (fail)
          go_wp2
          go_roundg (n - (j + 1))
          case measure => omega
          case rel => exact ⟨j + 1, _, rfl, by omega, by go_num, HT.out, by first | rfl | exact World.drewN_drewN _ _ _⟩
        · have HF : Hid ((za == zb) = false) := (by
            rw [beq_eq_false_iff_ne]
            rintro rfl
            rw [hx] at hy
            have := Option.some.inj hy
            exact hxy ⟨congrArg Prod.fst this, congrArg Prod.snd this⟩ : (za == zb) = false)
          clear hx hy
          by_cases h1 : x = y
          · have h2 : ¬ x' = y' := fun e => hxy ⟨h1, e⟩
            have e1 : (x == y) = true := by simpa using h1
            have e2 : (x' == y') = false := by simpa using h2
            clear hxy h1 h2
            go_wp2_with fail
            go_quiet (fail)
            go_wp2
            go_ret
            exact ⟨by rw [HF.out]; rfl, by first | exact below_drewN (below_drewN (Below.refl _ _) _) _ | exact below_drewN (Below.refl _ _) _⟩
          · have e1 : (x == y) = false := by simpa using h1
            clear hxy h1
            go_wp2_with fail
            go_quiet (fail)
            go_wp2
            go_ret
            exact ⟨by rw [HF.out]; rfl, by first | exact below_drewN (below_drewN (Below.refl _ _) _) _ | exact below_drewN (Below.refl _ _) _⟩
      · obtain rfl : j = n := by omega
        have q1 : ¬ (j : Int) < (j : Int) := by omega
        have HF : Hid ((za == zb) = true) := (by
          rw [beq_iff_eq]
          exact eq_len HH.out.2.2.1.symm HH.out.2.2.2.symm HQ.out : (za == zb) = true)
        go_wp2
        go_ret
        exact ⟨by rw [HF.out]; rfl, below_drewN (Below.refl _ _) _⟩
  · have q : ((za.length : Int) != (zb.length : Int)) = true := by rw [bne_iff_ne]; omega
    have HF : Hid ((za == zb) = false) := (by rw [beq_eq_false_iff_ne]; rintro rfl; exact hlen rfl : (za == zb) = false)
    clear hcA hcB hlen
    go_enter Tryz.func79, Tryz.ntmps79
    go_wp2
    go_ret
    exact ⟨by rw [HF.out]; rfl, Below.refl _ _⟩
end Go.Proofs.YthnenpncajpibaaGreatDoor
/- errors.Is at a fault of package api that wraps one of api's errors, and a target that is one of api's errors: true just if it is that one. -/
namespace Go.Proofs.YthnenpncajpibaaGreatDoor
open Go.RowKit Go.Extern.Stop Go.Stop Go.Extern
theorem Tryz.isTypeOf (v : Value) (w : World) : (Extern.ReflectliteType.typeOf #[.iface 201 v]).run Tryz.prog w = .ok (.iface 191 (.agg #[.pointer (some ⟨19, 201, none⟩)])) w := by kernel_rfl
/-- The model's entry for reflectlite's Comparable. -/
def cmpEntry : Array Value → Sem Value := Extern.ReflectliteType.method fun t => do
  Rtype.noPackHeld "Comparable" t
  pure (.bool (← typeInfo t).comparable)
theorem Tryz.isComparable (w : World) : (cmpEntry #[.agg #[.pointer (some ⟨19, 201, none⟩)]]).run Tryz.prog w = .ok (.bool true) w := by kernel_rfl
theorem Tryz.isMethodComparable (v : Value) (w : World) : (Go.method 337 191 v "Comparable").run Tryz.prog w = .ok (159, v) w := by kernel_rfl
theorem Tryz.isComp : (Tryz.prog.info? 201).map (·.comparable) = some true := by kernel_rfl
theorem Tryz.isSize : (Tryz.prog.info? 225).map (·.size) = some 1 := by kernel_rfl
theorem Tryz.noIsE (v : Value) (xT : TypeId) (w : World) : (Instr.typeAssert (.iface 201 v) xT 193 true).run Tryz.prog w = .ok (.tuple #[.nilIface, .bool false]) w := run_typeAssert_lacksB Tryz.underlying193 (by kernel_rfl) (by kernel_rfl) v xT w
theorem Tryz.noUnwrapE (v : Value) (xT : TypeId) (w : World) : (Instr.typeAssert (.iface 201 v) xT 196 true).run Tryz.prog w = .ok (.tuple #[.nilIface, .bool false]) w := run_typeAssert_lacksB Tryz.underlying196 (by kernel_rfl) (by kernel_rfl) v xT w
theorem Tryz.noUnwrapsE (v : Value) (xT : TypeId) (w : World) : (Instr.typeAssert (.iface 201 v) xT 198 true).run Tryz.prog w = .ok (.tuple #[.nilIface, .bool false]) w := run_typeAssert_lacksB Tryz.underlying198 (by kernel_rfl) (by kernel_rfl) v xT w
theorem Tryz.noIsW (v : Value) (xT : TypeId) (w : World) : (Instr.typeAssert (.iface 124 v) xT 193 true).run Tryz.prog w = .ok (.tuple #[.nilIface, .bool false]) w := run_typeAssert_lacksB Tryz.underlying193 (by kernel_rfl) (by kernel_rfl) v xT w
theorem Tryz.hasUnwrapW (v : Value) (xT : TypeId) (w : World) : (Instr.typeAssert (.iface 124 v) xT 196 true).run Tryz.prog w = .ok (.tuple #[.iface 124 v, .bool true]) w := run_typeAssert_hasB Tryz.underlying196 (by kernel_rfl) v xT w
theorem Tryz.methodUnwrap (v : Value) (w : World) : (Go.method 337 124 v "Unwrap").run Tryz.prog w = .ok (155, v) w := by kernel_rfl

set_option maxHeartbeats 1000000 in
/-- errors.Is(f, x), f a fault that wraps x itself. -/
theorem is_fault_same (pb : Nat) (b : Addr) (w : World) (h1 : w.cell? ⟨pb, 3, none⟩ = some (.iface 201 (.pointer (some b)))) :
    Calls Tryz.prog 126 #[.iface 124 (.pointer (some ⟨pb, 0, none⟩)), .iface 201 (.pointer (some b))] w fun e w' => e = .returned (.bool true) ∧ w' = w := by
  obtain ⟨i, hi, hcmp⟩ := Option.map_eq_some_iff.1 Tryz.isComp
  obtain ⟨j, hj, hjs⟩ := Option.map_eq_some_iff.1 Tryz.isSize
  have h8 := @run_callFunc_extern Tryz.prog 135 _ Extern.ReflectliteType.typeOf Tryz.func135 (by kernel_rfl) (by kernel_rfl) (by kernel_rfl) (by kernel_rfl)
  have h32 := @run_callFunc_extern Tryz.prog 159 _ cmpEntry Tryz.func159 (by kernel_rfl) (by kernel_rfl) (by kernel_rfl) (by kernel_rfl)
  have tT := Tryz.isTypeOf
  have cT := Tryz.isComparable
  have mR := Tryz.isMethodComparable
  have nE := Tryz.noIsE
  have uE := Tryz.noUnwrapE
  have vE := Tryz.noUnwrapsE
  have nW := Tryz.noIsW
  have uW := Tryz.hasUnwrapW
  have mU := Tryz.methodUnwrap
  have heq := run_eql_iface_ptr_same (P := Tryz.prog) w b Tryz.underlying51 Tryz.underlying201 hi hcmp hj
  have hty := run_eql_iface_types (P := Tryz.prog) 124 201 (.pointer (some ⟨pb, 0, none⟩)) (.pointer (some b)) Tryz.underlying51 (by decide) w
  go_enter Tryz.func126, Tryz.ntmps126
  go_wp2
  refine wp_loop_rounds 2 ?_
  rw [rounds_succ]
  go_wp2
  rw [rounds_succ]
  go_wp2
  go_ret
  exact ⟨rfl, rfl⟩
set_option maxHeartbeats 1000000 in
/-- errors.Is(f, x), f a fault that wraps another one of api's errors. -/
theorem is_fault_other (pb : Nat) (b a : Addr) (ca cb : Array Value) (ta tb : TypeId) (w : World) (h1 : w.cell? ⟨pb, 3, none⟩ = some (.iface 201 (.pointer (some a)))) (hne : a ≠ b) (ha : w.heap[a.block]? = some (.cells ca ta (0, 0))) (hb : w.heap[b.block]? = some (.cells cb tb (0, 0))) :
    Calls Tryz.prog 126 #[.iface 124 (.pointer (some ⟨pb, 0, none⟩)), .iface 201 (.pointer (some b))] w fun e w' => e = .returned (.bool false) ∧ w' = w := by
  obtain ⟨i, hi, hcmp⟩ := Option.map_eq_some_iff.1 Tryz.isComp
  obtain ⟨j, hj, hjs⟩ := Option.map_eq_some_iff.1 Tryz.isSize
  have h8 := @run_callFunc_extern Tryz.prog 135 _ Extern.ReflectliteType.typeOf Tryz.func135 (by kernel_rfl) (by kernel_rfl) (by kernel_rfl) (by kernel_rfl)
  have h32 := @run_callFunc_extern Tryz.prog 159 _ cmpEntry Tryz.func159 (by kernel_rfl) (by kernel_rfl) (by kernel_rfl) (by kernel_rfl)
  have tT := Tryz.isTypeOf
  have cT := Tryz.isComparable
  have mR := Tryz.isMethodComparable
  have nE := Tryz.noIsE
  have uE := Tryz.noUnwrapE
  have vE := Tryz.noUnwrapsE
  have nW := Tryz.noIsW
  have uW := Tryz.hasUnwrapW
  have mU := Tryz.methodUnwrap
  have heq := run_eql_iface_ptr_other (P := Tryz.prog) w Tryz.underlying51 Tryz.underlying201 hi hcmp hj (by rw [hjs]; decide) hne ha hb
  have hty := run_eql_iface_types (P := Tryz.prog) 124 201 (.pointer (some ⟨pb, 0, none⟩)) (.pointer (some b)) Tryz.underlying51 (by decide) w
  go_enter Tryz.func126, Tryz.ntmps126
  go_wp2
  refine wp_loop_rounds 2 ?_
  rw [rounds_succ]
  go_wp2
  rw [rounds_succ]
  go_wp2
  go_ret
  exact ⟨rfl, rfl⟩
end Go.Proofs.YthnenpncajpibaaGreatDoor
/- What a statement knows of one of api's errors in memory. -/
namespace Go.Proofs.YthnenpncajpibaaGreatDoor
open Go.RowKit
/-- The package variable number g holds the error at a, which lies in memory. -/
def Sent (w : World) (g : Nat) (a : Addr) : Prop := w.cell? ⟨g, 0, none⟩ = some (.iface 201 (.pointer (some a))) ∧ ∃ c t, w.heap[a.block]? = some (.cells c t (0, 0))
theorem Sent.below {w w1 : World} {g : Nat} {a : Addr} (h : Sent w g a) (hb : Below w.heap.size w w1) : Sent w1 g a := by
  obtain ⟨h1, c, t, h2⟩ := h
  exact ⟨(hb.cell (World.block_lt_of_cell? w _ h1)).trans h1, c, t, by rw [hb.block _ (lt_of_block h2)]; exact h2⟩
end Go.Proofs.YthnenpncajpibaaGreatDoor
/- Contract of the book's SameTerm; api.Code at a fault that wraps ErrArg. -/
namespace Go.Proofs.YthnenpncajpibaaGreatDoor
open Go.RowKit Go.Maps
/-- Are two terms the same? -/
def Tm.same (s t : Tm) : Bool := s.kind == t.kind && (s.label == t.label && (s.a == t.a && (s.b == t.b && (s.names == t.names && s.pairs == t.pairs))))
theorem same_iff (s t : Tm) : s.same t = true ↔ s = t := by
  obtain ⟨k, l, a, b, ns, ps⟩ := s
  obtain ⟨k', l', a', b', ns', ps'⟩ := t
  simp [Tm.same]
theorem same_ne {s t : Tm} (h : s ≠ t) : s.same t = false := by
  cases e : s.same t with
  | false => rfl
  | true => exact absurd ((same_iff s t).1 e) h
theorem same_self (s : Tm) : s.same s = true := (same_iff s s).2 rfl
set_option maxRecDepth 100000 in
set_option maxHeartbeats 1600000 in
theorem sameTerm_b (s t : Tm) (vn vp un up : Value) (w : World) (hn : HasI w vn s.names) (hp : HasP w vp s.pairs) (kn : HasI w un t.names) (kp : HasP w up t.pairs) (l1 : s.names.length ≤ 1000000000000000) (l2 : s.pairs.length ≤ 1000000000000000) (l3 : t.names.length ≤ 1000000000000000) (l4 : t.pairs.length ≤ 1000000000000000) :
    Calls Tryz.prog 19 #[tmV s vn vp, tmV t un up] w fun e w' => e = .returned (.bool (s.same t)) ∧ Below w.heap.size w w' := by
  have HI : Hid (∀ W, Below w.heap.size w W → Calls Tryz.prog 14 #[vn, un] W fun e w' => e = .returned (.bool (s.names == t.names)) ∧ Below W.heap.size W w') := fun W hb => sameInts_b vn un s.names t.names W l1 l3 (hn.below hb) (kn.below hb)
  have HP : Hid (∀ W, Below w.heap.size w W → Calls Tryz.prog 79 #[vp, up] W fun e w' => e = .returned (.bool (s.pairs == t.pairs)) ∧ Below W.heap.size W w') := fun W hb => samePairs_b vp up s.pairs t.pairs W l2 l4 (hp.below hb) (kp.below hb)
  obtain ⟨an, cn, rfl, _⟩ := hn
  obtain ⟨ap, cp, rfl, _⟩ := hp
  obtain ⟨bn, dn, rfl, _⟩ := kn
  obtain ⟨bp, dp, rfl, _⟩ := kp
  obtain ⟨k, l, a, b, ns, ps⟩ := s
  obtain ⟨k', l', a', b', ns', ps'⟩ := t
  simp only at HI HP l1 l2 l3 l4 ⊢
  unfold tmV Tm.same
  simp only
  generalize (ns == ns') = e5 at HI ⊢
  generalize (ps == ps') = e6 at HP ⊢
  generalize ns.length = n1 at *
  generalize ns'.length = n2 at *
  generalize ps.length = n3 at *
  generalize ps'.length = n4 at *
  go_enter Tryz.func19, Tryz.ntmps19
  go_wp2_with (first | (go_at_call 14; refine (HI.out _ (by repeat (first | exact Below.refl _ _ | assumption | refine Below.drew ?_ | refine Below.setCell ?_ (by simp) _ | refine Below.alloc ?_ (by simp) _))).mono ?_; rintro r1 w1 ⟨rfl, hb1⟩; obtain ⟨hc1, hf1⟩ := bcell hb1; have hz1 : w.heap.size + 1 < w1.heap.size := (by have := hb1.size; simp at this; omega); have hB1 : Below w.heap.size w w1 := Below.trans (by repeat (first | exact Below.refl _ _ | assumption | refine Below.drew ?_ | refine Below.setCell ?_ (by simp) _ | refine Below.alloc ?_ (by simp) _)) (hb1.mono (by simp; omega)); clear hb1 hf1) | (go_at_call 79; refine (HP.out _ (by repeat (first | exact Below.refl _ _ | assumption | refine Below.drew ?_ | refine Below.setCell ?_ (by simp) _ | refine Below.alloc ?_ (by simp) _))).mono ?_; rintro r2 w2 ⟨rfl, hb2⟩; have hB2 : Below w.heap.size w w2 := hB1.trans (hb2.mono hB1.size); clear hb2))
  all_goals (go_ret; refine ⟨?_, (by repeat (first | exact Below.refl _ _ | assumption | refine Below.drew ?_ | refine Below.setCell ?_ (by simp) _ | refine Below.alloc ?_ (by simp) _))⟩; first | (simp [*]; done) | (simp [*]; omega))
set_option maxHeartbeats 1000000 in
theorem code_arg3 (pb : Nat) (aA : Addr) (w : World) (hE : w.cell? ⟨0, 0, none⟩ = some (.iface 201 (.pointer (some aA)))) (h1 : w.cell? ⟨pb, 3, none⟩ = some (.iface 201 (.pointer (some aA)))) :
    Calls Tryz.prog 89 #[.iface 124 (.pointer (some ⟨pb, 0, none⟩))] w fun e w' => e = .returned (.int .i64 1) ∧ w' = w := by
  go_enter Tryz.func89, Tryz.ntmps89
  go_wp2_with fail
  refine (is_fault_same pb aA _ h1).mono ?_
  rintro e w' ⟨rfl, rfl⟩
  go_wp2_with fail
  go_ret
  exact ⟨rfl, rfl⟩
end Go.Proofs.YthnenpncajpibaaGreatDoor
/- Contract of the document's SameTerm. -/
namespace Go.Proofs.YthnenpncajpibaaGreatDoor
open Go.RowKit Go.Maps
/-- Two boxes with a term each. -/
def bxW (s t : Tm) (vn vp un up : Value) (w : World) : World := (w.alloc (.cells #[.int .i64 s.kind, .int .i64 s.label, .int .i64 s.a, .int .i64 s.b, vn, vp] 35)).alloc (.cells #[.int .i64 t.kind, .int .i64 t.label, .int .i64 t.a, .int .i64 t.b, un, up] 35)
theorem bxW_below (s t : Tm) (vn vp un up : Value) (w : World) : Below w.heap.size w (bxW s t vn vp un up w) := by unfold bxW; exact (by repeat (first | exact Below.refl _ _ | assumption | refine Below.drew ?_ | refine Below.setCell ?_ (by simp) _ | refine Below.alloc ?_ (by simp) _))
theorem bxW_0 (s t : Tm) (vn vp un up : Value) (w : World) : (bxW s t vn vp un up w).heap[w.heap.size]? = some (.cells #[.int .i64 s.kind, .int .i64 s.label, .int .i64 s.a, .int .i64 s.b, vn, vp] 35 (0, 0)) := by
  unfold bxW
  rw [Below.heap_alloc _ _ _ (by simp)]
  exact (MapKept.heap_alloc w _).1
theorem bxW_1 (s t : Tm) (vn vp un up : Value) (w : World) : (bxW s t vn vp un up w).heap[w.heap.size + 1]? = some (.cells #[.int .i64 t.kind, .int .i64 t.label, .int .i64 t.a, .int .i64 t.b, un, up] 35 (0, 0)) := by
  unfold bxW
  have h := (MapKept.heap_alloc (w.alloc (.cells #[.int .i64 s.kind, .int .i64 s.label, .int .i64 s.a, .int .i64 s.b, vn, vp] 35)) (.cells #[.int .i64 t.kind, .int .i64 t.label, .int .i64 t.a, .int .i64 t.b, un, up] 35)).1
  simpa using h
set_option maxRecDepth 100000 in
set_option maxHeartbeats 1600000 in
theorem rsame_any (s t : Tm) (vn vp un up : Value) (w : World) (hn : HasI w vn s.names) (hp : HasP w vp s.pairs) (gn : HasI w un t.names) (gp : HasP w up t.pairs) (ln : s.names.length ≤ 1000000000000000) (lp : s.pairs.length ≤ 1000000000000000) (mn : t.names.length ≤ 1000000000000000) (mp : t.pairs.length ≤ 1000000000000000) :
    Calls Tryz.prog 114 #[tmV s vn vp, tmV t un up] w fun r w' => r = .returned (.bool (Tm.same s t)) ∧ Below w.heap.size w w' := by
  have hW := bxW_below s t vn vp un up w
  have hX0 := bxW_0 s t vn vp un up w
  have hX1 := bxW_1 s t vn vp un up w
  obtain ⟨W, hWW⟩ : ∃ W, W = bxW s t vn vp un up w := ⟨_, rfl⟩
  rw [← hWW] at hW hX0 hX1
  obtain ⟨an, cn, rfl, hcn⟩ := hn.below hW
  obtain ⟨ap, cp, rfl, hcp⟩ := hp.below hW
  obtain ⟨an', cn', rfl, hdn⟩ := gn.below hW
  obtain ⟨ap', cp', rfl, hdp⟩ := gp.below hW
  obtain ⟨x0, x1, x2, x3, x4, x5, xf⟩ := six6 hX0
  obtain ⟨y0, y1, y2, y3, y4, y5, yf⟩ := six6 hX1
  obtain ⟨k, l, a, b, ns, ps⟩ := s
  obtain ⟨k', l', a', b', ns', ps'⟩ := t
  simp only at ln lp mn mp hcn hcp hdn hdp x0 x1 x2 x3 x4 x5 y0 y1 y2 y3 y4 y5
  simp only [bxW] at hWW
  have HW : Hid _ := And.intro hW (And.intro hWW (And.intro hcn (And.intro hcp (And.intro hdn hdp))))
  clear hW hWW hcn hcp hdn hdp hn hp gn gp hX0 hX1
  unfold tmV
  simp only
  by_cases hk : k = k'
  case neg =>
    have e : (k != k') = true := by simpa using hk
    have HF : Hid (Tm.same ⟨k, l, a, b, ns, ps⟩ ⟨k', l', a', b', ns', ps'⟩ = false) := (by simp [Tm.same, hk] : Tm.same ⟨k, l, a, b, ns, ps⟩ ⟨k', l', a', b', ns', ps'⟩ = false)
    clear hk
    go_enter Tryz.func114, Tryz.ntmps114
    go_wp2_with fail
    go_ret
    exact ⟨by rw [HF.out]; rfl, (by repeat (first | exact Below.refl _ _ | assumption | refine Below.drew ?_ | refine Below.setCell ?_ (by simp) _ | refine Below.alloc ?_ (by simp) _))⟩
  subst hk
  by_cases hk : l = l'
  case neg =>
    have e : (l != l') = true := by simpa using hk
    have HF : Hid (Tm.same ⟨k, l, a, b, ns, ps⟩ ⟨k, l', a', b', ns', ps'⟩ = false) := (by simp [Tm.same, hk] : Tm.same ⟨k, l, a, b, ns, ps⟩ ⟨k, l', a', b', ns', ps'⟩ = false)
    clear hk
    go_enter Tryz.func114, Tryz.ntmps114
    go_wp2_with fail
    go_ret
    exact ⟨by rw [HF.out]; rfl, (by repeat (first | exact Below.refl _ _ | assumption | refine Below.drew ?_ | refine Below.setCell ?_ (by simp) _ | refine Below.alloc ?_ (by simp) _))⟩
  subst hk
  by_cases hk : a = a'
  case neg =>
    have e : (a != a') = true := by simpa using hk
    have HF : Hid (Tm.same ⟨k, l, a, b, ns, ps⟩ ⟨k, l, a', b', ns', ps'⟩ = false) := (by simp [Tm.same, hk] : Tm.same ⟨k, l, a, b, ns, ps⟩ ⟨k, l, a', b', ns', ps'⟩ = false)
    clear hk
    go_enter Tryz.func114, Tryz.ntmps114
    go_wp2_with fail
    go_ret
    exact ⟨by rw [HF.out]; rfl, (by repeat (first | exact Below.refl _ _ | assumption | refine Below.drew ?_ | refine Below.setCell ?_ (by simp) _ | refine Below.alloc ?_ (by simp) _))⟩
  subst hk
  by_cases hk : b = b'
  case neg =>
    have e : (b != b') = true := by simpa using hk
    have HF : Hid (Tm.same ⟨k, l, a, b, ns, ps⟩ ⟨k, l, a, b', ns', ps'⟩ = false) := (by simp [Tm.same, hk] : Tm.same ⟨k, l, a, b, ns, ps⟩ ⟨k, l, a, b', ns', ps'⟩ = false)
    clear hk
    go_enter Tryz.func114, Tryz.ntmps114
    go_wp2_with fail
    go_ret
    exact ⟨by rw [HF.out]; rfl, (by repeat (first | exact Below.refl _ _ | assumption | refine Below.drew ?_ | refine Below.setCell ?_ (by simp) _ | refine Below.alloc ?_ (by simp) _))⟩
  subst hk
  by_cases hk : ns.length = ns'.length
  case neg =>
    have e : ((ns.length : Int) != (ns'.length : Int)) = true := by rw [bne_iff_ne]; omega
    have HF : Hid (Tm.same ⟨k, l, a, b, ns, ps⟩ ⟨k, l, a, b, ns', ps'⟩ = false) := (by
      rw [← Bool.not_eq_true, same_iff]
      intro h
      injection h with _ _ _ _ h5 h6
      exact hk (by rw [h5]) : Tm.same ⟨k, l, a, b, ns, ps⟩ ⟨k, l, a, b, ns', ps'⟩ = false)
    clear hk
    go_enter Tryz.func114, Tryz.ntmps114
    go_wp2_with fail
    go_ret
    exact ⟨by rw [HF.out]; rfl, (by repeat (first | exact Below.refl _ _ | assumption | refine Below.drew ?_ | refine Below.setCell ?_ (by simp) _ | refine Below.alloc ?_ (by simp) _))⟩
  by_cases hq : ps.length = ps'.length
  case neg =>
    have e0 : ((ns.length : Int) != (ns'.length : Int)) = false := by rw [hk]; simp
    have e : ((ps.length : Int) != (ps'.length : Int)) = true := by rw [bne_iff_ne]; omega
    have HF : Hid (Tm.same ⟨k, l, a, b, ns, ps⟩ ⟨k, l, a, b, ns', ps'⟩ = false) := (by
      rw [← Bool.not_eq_true, same_iff]
      intro h
      injection h with _ _ _ _ h5 h6
      exact hq (by rw [h6]) : Tm.same ⟨k, l, a, b, ns, ps⟩ ⟨k, l, a, b, ns', ps'⟩ = false)
    clear hk hq
    go_enter Tryz.func114, Tryz.ntmps114
    go_wp2_with fail
    go_ret
    exact ⟨by rw [HF.out]; rfl, (by repeat (first | exact Below.refl _ _ | assumption | refine Below.drew ?_ | refine Below.setCell ?_ (by simp) _ | refine Below.alloc ?_ (by simp) _))⟩
  obtain ⟨n, hN⟩ : ∃ n, n = ns.length := ⟨_, rfl⟩
  obtain ⟨m, hM⟩ : ∃ m, m = ps.length := ⟨_, rfl⟩
  have HL : Hid _ := And.intro hN (And.intro hM (And.intro (hN.trans hk) (hM.trans hq)))
  have hWW := HW.out.2.1
  rw [← hk, ← hq, ← hN, ← hM] at hWW
  rw [← hk] at y4 mn
  rw [← hq] at y5 mp
  rw [← hN] at x4 y4 ln mn
  rw [← hM] at x5 y5 lp mp
  rw [← hk, ← hq, ← hN, ← hM]
  have HWW : Hid _ := hWW
  clear hWW hN hM hk hq
  have q : ((n : Int) != (n : Int)) = false := by simp
  have q' : ((m : Int) != (m : Int)) = false := by simp
  go_enter Tryz.func114, Tryz.ntmps114
  go_wp2_with fail
  rw [← HWW.out]
  go_loopg [5] n (fun g i wr => ∃ (j r : Nat), g = n - j ∧ j ≤ n ∧ i = .int .i64 j ∧ ns.take j = ns'.take j ∧ wr = W.drewN r)
  case atStart => exact ⟨0, 0, rfl, Nat.zero_le _, rfl, rfl, rfl⟩
  case round =>
    obtain ⟨j, r, rfl, hj, rfl, heq, rfl⟩ := hrel
    have HQ : Hid _ := heq
    clear heq
    by_cases hlt : j < n
    · obtain ⟨x, hx⟩ : ∃ z, ns[j]? = some z := ⟨ns[j]'(by have := HL.out.1; omega), List.getElem?_eq_getElem _⟩
      obtain ⟨y, hy⟩ : ∃ z, ns'[j]? = some z := ⟨ns'[j]'(by have := HL.out.2.2.1; omega), List.getElem?_eq_getElem _⟩
      obtain ⟨aa, rfl, c0⟩ := HW.out.2.2.1 j x hx
      obtain ⟨bb, rfl, d0⟩ := HW.out.2.2.2.2.1 j y hy
      have q0 : (0 : Int) ≤ (j : Int) := by omega
      have q1 : (j : Int) < (n : Int) := by omega
      by_cases hxy : x = y
      · subst hxy
        have HT : Hid _ := take_both hx hy HQ.out
        clear hx hy
        go_wp2_with fail
        go_quiet (fail)
        go_wp2
        go_roundg (n - (j + 1))
        case measure => omega
        case rel => exact ⟨j + 1, _, rfl, by omega, by go_num, HT.out, by first | rfl | exact World.drewN_drewN _ _ _⟩
      · have e1 : (x == y) = false := by simpa using hxy
        have HF : Hid (Tm.same ⟨k, l, a, b, ns, ps⟩ ⟨k, l, a, b, ns', ps'⟩ = false) := (by
          rw [← Bool.not_eq_true, same_iff]
          intro h
          injection h with _ _ _ _ h5 h6
          rw [h5, hy] at hx
          exact hxy (Option.some.inj hx).symm : Tm.same ⟨k, l, a, b, ns, ps⟩ ⟨k, l, a, b, ns', ps'⟩ = false)
        clear hx hy hxy
        go_wp2_with fail
        go_quiet (fail)
        go_wp2
        go_ret
        exact ⟨by rw [HF.out]; rfl, by first | exact below_drewN (below_drewN HW.out.1 _) _ | exact below_drewN HW.out.1 _⟩
    · obtain rfl : j = n := by omega
      have q1 : ¬ (j : Int) < (j : Int) := by omega
      have HN : Hid (ns = ns') := (eq_len HL.out.1.symm HL.out.2.2.1.symm HQ.out : ns = ns')
      go_wp2_with fail
      go_loopg [6] m (fun g i wr => ∃ (p z : Nat), g = m - p ∧ p ≤ m ∧ i = .int .i64 p ∧ ps.take p = ps'.take p ∧ wr = W.drewN z)
      case atStart => exact ⟨0, r, rfl, Nat.zero_le _, rfl, rfl, rfl⟩
      case round =>
        obtain ⟨p, z, rfl, hp, rfl, heq, rfl⟩ := hrel
        have HP : Hid _ := heq
        clear heq
        by_cases hpt : p < m
        · obtain ⟨⟨x, x'⟩, hx⟩ : ∃ z, ps[p]? = some z := ⟨ps[p]'(by have := HL.out.2.1; omega), List.getElem?_eq_getElem _⟩
          obtain ⟨⟨y, y'⟩, hy⟩ : ∃ z, ps'[p]? = some z := ⟨ps'[p]'(by have := HL.out.2.2.2; omega), List.getElem?_eq_getElem _⟩
          obtain ⟨aa, rfl, c0, c1⟩ := HW.out.2.2.2.1 p _ hx
          obtain ⟨bb, rfl, d0, d1⟩ := HW.out.2.2.2.2.2 p _ hy
          simp only at c0 c1 d0 d1
          have c2 : W.cell? ((aa.add (p * 2)).add 1) = some (.int .i64 x') := by rw [add_two]; exact c1
          have c3 : W.cell? ⟨(aa.add (p * 2)).block, (aa.add (p * 2)).off + 1, none⟩ = some (.int .i64 x') := by rw [← c2]; rfl
          have d2 : W.cell? ((bb.add (p * 2)).add 1) = some (.int .i64 y') := by rw [add_two]; exact d1
          have d3 : W.cell? ⟨(bb.add (p * 2)).block, (bb.add (p * 2)).off + 1, none⟩ = some (.int .i64 y') := by rw [← d2]; rfl
          have r0 : (0 : Int) ≤ (p : Int) := by omega
          have r1 : (p : Int) < (m : Int) := by omega
          by_cases hxy : x = y ∧ x' = y'
          · obtain ⟨rfl, rfl⟩ := hxy
            have HT : Hid _ := take_both hx hy HP.out
            clear hx hy
            go_wp2_with fail
            go_quiet (fail)
            go_wp2
            go_roundg (m - (p + 1))
            case measure => omega
            case rel => exact ⟨p + 1, _, rfl, by omega, by go_num, HT.out, by first | rfl | exact World.drewN_drewN _ _ _⟩
          · have HF : Hid (Tm.same ⟨k, l, a, b, ns, ps⟩ ⟨k, l, a, b, ns', ps'⟩ = false) := (by
              rw [← Bool.not_eq_true, same_iff]
              intro h
              injection h with _ _ _ _ h5 h6
              rw [h6, hy] at hx
              have := Option.some.inj hx
              exact hxy ⟨(congrArg Prod.fst this).symm, (congrArg Prod.snd this).symm⟩ : Tm.same ⟨k, l, a, b, ns, ps⟩ ⟨k, l, a, b, ns', ps'⟩ = false)
            clear hx hy
            by_cases h1 : x = y
            · have h2 : ¬ x' = y' := fun e => hxy ⟨h1, e⟩
              have e1 : (x == y) = true := by simpa using h1
              have e2 : (x' == y') = false := by simpa using h2
              clear hxy h1 h2
              go_wp2_with fail
              go_quiet (fail)
              go_wp2
              go_ret
              exact ⟨by rw [HF.out]; rfl, by first | exact below_drewN (below_drewN HW.out.1 _) _ | exact below_drewN HW.out.1 _⟩
            · have e1 : (x == y) = false := by simpa using h1
              clear hxy h1
              go_wp2_with fail
              go_quiet (fail)
              go_wp2
              go_ret
              exact ⟨by rw [HF.out]; rfl, by first | exact below_drewN (below_drewN HW.out.1 _) _ | exact below_drewN HW.out.1 _⟩
        · obtain rfl : p = m := by omega
          have r1 : ¬ (p : Int) < (p : Int) := by omega
          have HF : Hid (Tm.same ⟨k, l, a, b, ns, ps⟩ ⟨k, l, a, b, ns', ps'⟩ = true) := (by
            rw [same_iff, HN.out, eq_len HL.out.2.1.symm HL.out.2.2.2.symm HP.out] : Tm.same ⟨k, l, a, b, ns, ps⟩ ⟨k, l, a, b, ns', ps'⟩ = true)
          go_wp2
          go_ret
          exact ⟨by rw [HF.out]; rfl, below_drewN HW.out.1 _⟩
end Go.Proofs.YthnenpncajpibaaGreatDoor
/- Contract of the document's own Rising. -/
namespace Go.Proofs.YthnenpncajpibaaGreatDoor
open Go.RowKit
theorem isN_eq (z : Int) : Ac.isN z = false ↔ z < 0 ∨ 100 ≤ z := by simp [Ac.isN]; omega
set_option maxRecDepth 100000 in
set_option maxHeartbeats 2000000 in
theorem refRising_any (v : Value) (zs : List Int) (w : World) (hH : HasI w v zs) (hn : zs.length ≤ 1000000000000000) :
    Calls Tryz.prog 112 #[v] w fun e w' => e = .returned (.bool (Ac.rising (-1) zs)) ∧ Below w.heap.size w w' := by
  obtain ⟨ao, cap, rfl, hcells⟩ := hH
  obtain ⟨n, hN⟩ : ∃ n, n = zs.length := ⟨_, rfl⟩
  have HH : Hid ((∀ (i : Nat) (z : Int), zs[i]? = some z → ∃ a, ao = some a ∧ w.cell? (a.add i) = some (.int .i64 z)) ∧ n = zs.length) := ⟨hcells, hN⟩
  rw [← hN] at hn ⊢
  clear hcells hN
  go_enter Tryz.func112, Tryz.ntmps112
  go_wp2_with fail
  go_loopg [3] n (fun g i wr => ∃ (j q : Nat), g = n - j ∧ j ≤ n ∧ i = .int .i64 j ∧ Ac.rising (Ac.prev zs j) (zs.drop j) = Ac.rising (-1) zs ∧ wr = w.drewN q)
  case atStart => exact ⟨0, 0, rfl, Nat.zero_le _, rfl, rfl, rfl⟩
  case round =>
    obtain ⟨j, q, rfl, hj, rfl, hR, rfl⟩ := hrel
    have HB : Hid (Ac.rising (Ac.prev zs j) (zs.drop j) = Ac.rising (-1) zs) := hR
    clear hR
    by_cases hlt : j < n
    · obtain ⟨z, hz⟩ : ∃ z, zs[j]? = some z := ⟨zs[j]'(by have := HH.out.2; omega), List.getElem?_eq_getElem _⟩
      obtain ⟨a, rfl, c0⟩ := HH.out.1 j z hz
      have HX : Hid (Ac.rising (Ac.prev zs j) (zs.drop j) = if z ≤ Ac.prev zs j ∨ Ac.isN z = false then false else Ac.rising z (zs.drop (j + 1))) := by
        show Ac.rising _ (zs.drop j) = _
        rw [drop_at hz]; rfl
      have HP : Hid (Ac.prev zs (j + 1) = z) := (by show zs.getD j 0 = z; rw [List.getD_eq_getElem?_getD, hz]; rfl : Ac.prev zs (j + 1) = z)
      have q0 : (0 : Int) ≤ (j : Int) := by omega
      have q1 : (j : Int) < (n : Int) := by omega
      clear hz
      by_cases h1 : z < 0
      · have HF : Hid (Ac.rising (-1) zs = false) := (by rw [← HB.out, HX.out, if_pos (.inr ((isN_eq z).2 (.inl h1)))] : Ac.rising (-1) zs = false)
        go_wp2_with fail
        go_quiet (fail)
        go_wp2
        go_ret
        exact ⟨by rw [HF.out]; rfl, below_drewN (below_drewN (Below.refl _ _) _) _⟩
      · have e1 : decide (z < 0) = false := decide_eq_false h1
        by_cases h2 : 100 ≤ z
        · have e2 : decide (100 ≤ z) = true := decide_eq_true h2
          have HF : Hid (Ac.rising (-1) zs = false) := (by rw [← HB.out, HX.out, if_pos (.inr ((isN_eq z).2 (.inr h2)))] : Ac.rising (-1) zs = false)
          go_wp2_with fail
          go_quiet (fail)
          go_wp2
          go_ret
          exact ⟨by rw [HF.out]; rfl, below_drewN (below_drewN (Below.refl _ _) _) _⟩
        · have e2 : decide (100 ≤ z) = false := decide_eq_false h2
          have hN : ¬ Ac.isN z = false := fun e => by rcases (isN_eq z).1 e with h | h <;> omega
          have hNN : Hid (¬ Ac.isN z = false) := hN
          have HZ : Hid (¬ z < 0) := h1
          clear hN h1 h2
          by_cases h0 : j = 0
          · have hpj : Ac.prev zs j = -1 := by rw [h0]; rfl
            have hno : ¬ (z ≤ Ac.prev zs j ∨ Ac.isN z = false) := fun h => h.elim (fun h => by have := HZ.out; omega) hNN.out
            have HF : Hid (Ac.rising (Ac.prev zs (j + 1)) (zs.drop (j + 1)) = Ac.rising (-1) zs) := (by rw [HP.out, ← HB.out, HX.out, if_neg hno] : Ac.rising (Ac.prev zs (j + 1)) (zs.drop (j + 1)) = Ac.rising (-1) zs)
            have e3 : decide ((0 : Int) < (j : Int)) = false := by simp; omega
            have e4 : decide (0 < j) = false := by simp; omega
            have e5 : ¬ (0 : Int) < (j : Int) := by omega
            clear hno hpj h0
            go_wp2_with fail
            go_quiet (fail)
            go_wp2
            go_roundg (n - (j + 1))
            case measure => omega
            case rel => exact ⟨j + 1, _, rfl, by omega, by go_num, HF.out, by first | rfl | exact World.drewN_drewN _ _ _⟩
          · obtain ⟨k, hk⟩ : ∃ k, j = k + 1 := ⟨j - 1, by omega⟩
            obtain ⟨y, hy⟩ : ∃ y, zs[k]? = some y := ⟨zs[k]'(by have := HH.out.2; omega), List.getElem?_eq_getElem _⟩
            obtain ⟨a', ha', c1⟩ := HH.out.1 k y hy
            obtain rfl : a = a' := Option.some.inj ha'
            have hpk : Ac.prev zs j = y := by rw [hk]; show zs.getD k 0 = y; rw [List.getD_eq_getElem?_getD, hy]; rfl
            have HPK : Hid (Ac.prev zs j = y) := hpk
            have r0 : decide ((0 : Int) < (j : Int)) = true := by simp; omega
            have r00 : decide (0 < j) = true := by simp; omega
            have r1 : (j : Int) - 1 = (k : Int) := by omega
            have r2 : (k : Int) < (n : Int) := by omega
            have r3 : (0 : Int) ≤ (k : Int) := by omega
            clear hy ha' hpk hk h0
            by_cases h3 : z ≤ y
            · have HF : Hid (Ac.rising (-1) zs = false) := (by rw [← HB.out, HX.out, if_pos (.inl (by rw [HPK.out]; exact h3))] : Ac.rising (-1) zs = false)
              have e3 : decide (z ≤ y) = true := decide_eq_true h3
              go_wp2_with fail
              go_quiet (fail)
              go_wp2
              go_ret
              exact ⟨by rw [HF.out]; rfl, below_drewN (below_drewN (Below.refl _ _) _) _⟩
            · have hno : ¬ (z ≤ Ac.prev zs j ∨ Ac.isN z = false) := fun h => h.elim (fun h => by rw [HPK.out] at h; exact h3 h) hNN.out
              have HF : Hid (Ac.rising (Ac.prev zs (j + 1)) (zs.drop (j + 1)) = Ac.rising (-1) zs) := (by rw [HP.out, ← HB.out, HX.out, if_neg hno] : Ac.rising (Ac.prev zs (j + 1)) (zs.drop (j + 1)) = Ac.rising (-1) zs)
              have e3 : decide (z ≤ y) = false := decide_eq_false h3
              clear hno h3
              go_wp2_with fail
              go_quiet (fail)
              go_wp2
              go_roundg (n - (j + 1))
              case measure => omega
              case rel => exact ⟨j + 1, _, rfl, by omega, by go_num, HF.out, by first | rfl | exact World.drewN_drewN _ _ _⟩
    · have q1 : ¬ (j : Int) < (n : Int) := by omega
      have HF : Hid (Ac.rising (-1) zs = true) := (by rw [← HB.out, List.drop_eq_nil_of_le (by have := HH.out.2; omega)]; rfl : Ac.rising (-1) zs = true)
      go_wp2_with fail
      go_ret
      exact ⟨by rw [HF.out]; rfl, below_drewN (Below.refl _ _) _⟩
end Go.Proofs.YthnenpncajpibaaGreatDoor
