/- Texts of this claim, joined: ErAs, DiPutO, DiPut1, DiPutN, DiRep, DiTw, DiForm, DiOps, DiPart. -/
import Derived.Test.YtgehimdkdeldaabGreatDoorPart4
import Derived.Test.YtgehimdkdeldaabGreatDoorPart0
import Derived.BigQuiet
namespace Go.Proofs.YtgehimdkdeldaabGreatDoor
section
open Go.RowKit Go.Extern.Stop Go.Stop Go.Extern
theorem Tryz.assignableE (w : World) : (ReflectliteType.relation "AssignableTo" ReflectliteType.assignableTo #[.agg #[.pointer (some ⟨10, 269, none⟩)], .iface 113 (.agg #[.pointer (some ⟨10, 96, none⟩)])]).run Tryz.prog w = .ok (.bool false) w := by kernel_rfl
theorem Tryz.noAsE (v : Value) (xT : TypeId) (w : World) : (Instr.typeAssert (.iface 269 v) xT 174 true).run Tryz.prog w = .ok (.tuple #[.nilIface, .bool false]) w := run_typeAssert_lacksB Tryz.underlying174 (by kernel_rfl) (by kernel_rfl) v xT w
set_option maxHeartbeats 4000000 in
theorem as_miss (e t : Addr) (w : World) (hg : w.cell? ⟨4, 0, none⟩ = some (.iface 113 (.agg #[.pointer (some ⟨10, 32, none⟩)]))) :
 Calls Tryz.prog 35 #[.iface 269 (.pointer (some e)), .iface 100 (.pointer (some t))] w fun ev w' => ev = .returned (.bool false) /\ Below w.heap.size w w' := by
 have h6 := @run_callFunc_extern Tryz.prog 50 _ (fun args => ReflectliteValue.unpack (args.getD 0 (.tuple #[]))) Tryz.func50 (by kernel_rfl) (by kernel_rfl) (by kernel_rfl) (by kernel_rfl)
 have h7 := @run_callFunc_extern Tryz.prog 51 _ (ReflectliteValue.methodAny (ReflectliteValue.valueError "reflectlite.Value.Type" 0) (fun t _ _ _ => ReflectliteType.toType t)) Tryz.func51 (by kernel_rfl) (by kernel_rfl) (by kernel_rfl) (by kernel_rfl)
 have h8 := @run_callFunc_extern Tryz.prog 52 _ (ReflectliteValue.method (ReflectliteValue.valueError "reflectlite.Value.IsNil" 0) ReflectliteValue.isNil) Tryz.func52 (by kernel_rfl) (by kernel_rfl) (by kernel_rfl) (by kernel_rfl)
 have h27 := @run_callFunc_extern Tryz.prog 181 _ (ReflectliteType.abiMethod fun t => do pure (.int .u8 (<- Rtype.kind t))) Tryz.func181 (by kernel_rfl) (by kernel_rfl) (by kernel_rfl) (by kernel_rfl)
 have h37 := @run_callFunc_extern Tryz.prog 190 _ (ReflectliteType.method ReflectliteType.elem) Tryz.func190 (by kernel_rfl) (by kernel_rfl) (by kernel_rfl) (by kernel_rfl)
 have h38 := @run_callFunc_extern Tryz.prog 191 _ (ReflectliteType.relation "Implements" ReflectliteType.implements_) Tryz.func191 (by kernel_rfl) (by kernel_rfl) (by kernel_rfl) (by kernel_rfl)
 have h10 := @run_callFunc_extern Tryz.prog 27 _ ReflectliteType.typeOf Tryz.func27 (by kernel_rfl) (by kernel_rfl) (by kernel_rfl) (by kernel_rfl)
 have h35 := @run_callFunc_extern Tryz.prog 188 _ (ReflectliteType.relation "AssignableTo" ReflectliteType.assignableTo) Tryz.func188 (by kernel_rfl) (by kernel_rfl) (by kernel_rfl) (by kernel_rfl)
 have tO := Tryz.isTypeOf
 have mA := Tryz.methodAssignableTo
 have a25 := Tryz.assignableE
 have nA := Tryz.noAsE
 have uE := Tryz.noUnwrapE
 have vE := Tryz.noUnwrapsE
 have f6 := Tryz.valueOfPP
 have f7 := Tryz.typePP
 have mK := Tryz.methodKind
 have mE := Tryz.methodElem
 have mI := Tryz.methodImplements
 have k27 := Tryz.kindPP
 have k25 := Tryz.kindP
 have e27 := Tryz.elemPP
 have i25 := Tryz.implementsP
 have n8 := Tryz.isNilPP ⟨w.heap.size, 0, none⟩ t ((w.alloc (.cells #[.pointer (some t)] 100)).alloc (.cells #[.pointer (some ⟨10, 100, none⟩), .pointer (some ⟨w.heap.size, 0, none⟩), .int .u64 150] 136)) (by simp)
 have hlt : 4 < w.heap.size := World.block_lt_of_cell? w _ hg
 have hg2 : ((w.alloc (.cells #[.pointer (some t)] 100)).alloc (.cells #[.pointer (some ⟨10, 100, none⟩), .pointer (some ⟨w.heap.size, 0, none⟩), .int .u64 150] 136)).cell? ⟨4, 0, none⟩ = some (.iface 113 (.agg #[.pointer (some ⟨10, 32, none⟩)])) := by
  rw [World.cell?_alloc_lt _ _ ⟨4, 0, none⟩ (by simp; omega), World.cell?_alloc_lt _ _ ⟨4, 0, none⟩ hlt]; exact hg
 go_enter Tryz.func35, Tryz.ntmps35
 go_wp2
 refine wp_loop_rounds 1 ?_
 rw [rounds_succ]
 go_wp2
 go_ret
 refine ⟨rfl, ?_⟩
 exact (((Below.refl _ _).alloc (Nat.le_refl _) _).alloc (by simp) _).alloc (by simp; omega) _
end
namespace Di
open Go.RowKit Go.Maps
attribute [local go_sem ↓] Go.wp_at_zero Go.wp_at_succ
def disB : ByteArray := ⟨#[100, 105, 115, 116, 105, 110, 103, 117, 105, 115, 104]⟩
structure EnvD (w : World) (aL : Addr) : Prop where
 lim : Sent w 0 aL
 et : w.cell? ⟨4, 0, none⟩ = some (.iface 113 (.agg #[.pointer (some ⟨10, 32, none⟩)]))
theorem EnvD.below {w w' : World} {aL : Addr} (h : EnvD w aL) (hb : Below w.heap.size w w') : EnvD w' aL := ⟨h.lim.below hb, (hb.cell (World.block_lt_of_cell? w _ h.et)).trans h.et⟩
set_option maxRecDepth 100000 in
set_option maxHeartbeats 1600000 in
theorem put_old (b : Nat) (L : List En) (S : List Int) (F : Nat -> Prop) (e : En) (w : World) (hS : BkB w b L S F) (i : Nat) (hi : L[i]? = some e) :
 Calls Tryz.prog 84 #[.pointer (some ⟨b, 0, none⟩), e.v] w fun r w' => r = .returned (.tuple #[.int .i64 ((i + 1 : Nat) : Int), .nilIface]) /\ Below w.heap.size w w' := by
 obtain ⟨W, hW⟩ : ∃ W, W = w.alloc (.cells #[.int .i64 e.op, .int .i64 e.lb, .int .i64 e.a, .int .i64 e.b] 108) := ⟨_, rfl⟩
 have hb : Below w.heap.size w W := by rw [hW]; exact (Below.refl _ _).alloc (Nat.le_refl _) _
 have hX : W.heap[w.heap.size]? = some (.cells #[.int .i64 e.op, .int .i64 e.lb, .int .i64 e.a, .int .i64 e.b] 108 (0, 0)) := by rw [hW]; exact (MapKept.heap_alloc w _).1
 obtain ⟨nm, ve, vs, hS1, _⟩ := (hS.below hb).some
 obtain ⟨c0, c1, c2⟩ := three_cells hS1.cell
 obtain ⟨x0, x1, x2, x3⟩ := four_cellsD hX
 have hsm := hS1.sml e (List.mem_of_getElem? hi)
 have hrun : ∀ n, (Instr.lookup 74 (.map (some nm)) (.agg #[.int .i64 e.op, .int .i64 e.lb, .int .i64 e.a, .int .i64 e.b]) true).run Tryz.prog (W.drewN n) = .ok (.tuple #[.int .i64 ((i + 1 : Nat) : Int), .bool true]) (W.drewN n) := fun n => by
  obtain ⟨D, hD, hM⟩ := (hS1.below (below_drewN (Below.refl _ _) n)).map
  exact look_yes hD hM hi hsm
 unfold En.v
 have H : Hid _ := And.intro hW hb
 clear hS hi hW hb hX hS1 hsm
 go_enter Tryz.func84, Tryz.ntmps84
 go_upto_region 1 with fail
 rw [<- H.out.1]
 go_quiet (fail)
 all_goals
  go_wp2_with fail
  go_ret2
  exact ⟨rfl, below_drewN H.out.2 _⟩
def Up (F : Nat -> Prop) (w w' : World) (i : Nat) : Prop := F i \/ (w.heap.size <= i /\ i < w'.heap.size)
theorem BkB.mono {w : World} {b : Nat} {L : List En} {S : List Int} {F G : Nat -> Prop} (h : BkB w b L S F) (hF : ∀ i, F i -> G i) (hG : ∀ i, G i -> i < w.heap.size) : BkB w b L S G := by
 obtain ⟨⟨nm, ve, vs, h1, h2⟩, _⟩ := h
 exact ⟨⟨nm, ve, vs, h1, fun i hi => hF i (h2 i hi)⟩, hG⟩
def szS (S : List Int) (e : En) : Int := (S[e.a]?).getD 0 + (S[e.b]?).getD 0 + 1
theorem fault_lim (aL : Addr) (w : World) (hg : w.cell? ⟨4, 0, none⟩ = some (.iface 113 (.agg #[.pointer (some ⟨10, 32, none⟩)]))) : Calls Tryz.prog 19 #[.iface 269 (.pointer (some aL))] w fun r w' => ∃ x, r = .returned x /\ Chain w' 0 0 aL [disB] x /\ Below w.heap.size w w' := by
 have hb1 : Below w.heap.size w ((w.alloc (.cells #[.string disB, .int .i64 0, .int .i64 0, .iface 269 (.pointer (some aL))] 98)).alloc (.cells #[.pointer none] 96)) := ((Below.refl _ _).alloc (Nat.le_refl _) _).alloc (by simp) _
 have hA := as_miss aL ⟨w.heap.size + 1, 0, none⟩ _ ((hb1.cell (World.block_lt_of_cell? w _ hg)).trans hg)
 have HA : Hid _ := And.intro hA hb1
 have hf : ((w.alloc (.cells #[.string disB, .int .i64 0, .int .i64 0, .iface 269 (.pointer (some aL))] 98)).alloc (.cells #[.pointer none] 96)).heap[w.heap.size]? = some (.cells #[.string disB, .int .i64 0, .int .i64 0, .iface 269 (.pointer (some aL))] 98 (0, 0)) := (Below.heap_alloc _ _ _ (by simp)).trans (MapKept.heap_alloc w _).1
 have HF : Hid _ := hf
 clear hA hg hb1 hf
 go_enter Tryz.func19, Tryz.ntmps19
 go_wp2_with (go_at_call 35; refine Calls.mono HA.out.1 ?_; rintro r w2 ⟨rfl, hb2⟩; have HB : Hid _ := And.intro hb2 trivial; clear hb2)
 go_ret
 have hb := HA.out.2.trans (HB.out.1.mono HA.out.2.size)
 exact ⟨_, rfl, ⟨_, _, rfl, (HB.out.1.block _ (t_lt HF.out)).trans HF.out, rfl⟩, hb⟩
set_option maxRecDepth 100000 in
set_option maxHeartbeats 4000000 in
theorem put_big (aL : Addr) (b : Nat) (L : List En) (S : List Int) (F : Nat -> Prop) (e : En) (w : World) (hE : EnvD w aL) (hS : BkB w b L S F) (hno : e ∉ L) (he : e.Sml) (ha : e.a <= L.length) (hb0 : e.b <= L.length) (hbig : 5000 < szS S e) :
 Calls Tryz.prog 84 #[.pointer (some ⟨b, 0, none⟩), e.v] w fun r w' => ∃ x, r = .returned (.tuple #[.int .i64 0, x]) /\ Chain w' 0 0 aL [disB] x /\ Below w.heap.size w w' := by
 obtain ⟨W, hW⟩ : ∃ W, W = w.alloc (.cells #[.int .i64 e.op, .int .i64 e.lb, .int .i64 e.a, .int .i64 e.b] 108) := ⟨_, rfl⟩
 have hb : Below w.heap.size w W := by rw [hW]; exact (Below.refl _ _).alloc (Nat.le_refl _) _
 have hX : W.heap[w.heap.size]? = some (.cells #[.int .i64 e.op, .int .i64 e.lb, .int .i64 e.a, .int .i64 e.b] 108 (0, 0)) := by rw [hW]; exact (MapKept.heap_alloc w _).1
 obtain ⟨nm, ve, vs, hS1, _⟩ := (hS.below hb).some
 have hc : ∀ n, (Instr.lookup 74 (.map (some nm)) (.agg #[.int .i64 e.op, .int .i64 e.lb, .int .i64 e.a, .int .i64 e.b]) true).run Tryz.prog (W.drewN n) = .ok (.tuple #[.int .i64 0, .bool false]) (W.drewN n) := fun n => by
  obtain ⟨D, hD, hM⟩ := (hS1.below (below_drewN (Below.refl _ _) n)).map
  exact look_no hD hM hno he
 obtain ⟨c0, c1, c2⟩ := three_cells hS1.cell
 obtain ⟨x0, x1, x2, x3⟩ := four_cellsD hX
 have hl := hS1.len
 obtain ⟨ars, caps, rfl, hcs⟩ := hS1.siz.has
 obtain ⟨u, hu⟩ : ∃ u, S[e.a]? = some u := ⟨_, List.getElem?_eq_getElem (by omega)⟩
 obtain ⟨v, hv⟩ : ∃ v, S[e.b]? = some v := ⟨_, List.getElem?_eq_getElem (by omega)⟩
 obtain ⟨A, rfl, s0⟩ := hcs _ _ hu
 obtain ⟨A', hA', s1⟩ := hcs _ _ hv
 obtain rfl := Option.some.inj hA'
 have hu1 := hS1.lo u (List.mem_of_getElem? hu)
 have hv1 := hS1.lo v (List.mem_of_getElem? hv)
 have hsz : szS S e = u + v + 1 := by unfold szS; rw [hu, hv]; rfl
 rw [hsz] at hbig
 obtain ⟨N, hN⟩ : ∃ N, N = S.length := ⟨_, rfl⟩
 rw [<- hN] at c2 hl
 have p0 : (0 : Int) <= (e.a : Int) := by omega
 have p1 : (e.a : Int) < (N : Int) := by omega
 have p2 : (0 : Int) <= (e.b : Int) := by omega
 have p3 : (e.b : Int) < (N : Int) := by omega
 have p4 : IntKind.i64.wrap (u + v) = u + v := by rw [IntKind.wrap_i64]; omega
 obtain ⟨z, hz⟩ : ∃ z, z = u + v + 1 := ⟨_, rfl⟩
 have p5 : IntKind.i64.wrap (u + v + 1) = z := by rw [IntKind.wrap_i64, hz]; omega
 have p6 : (5000 : Int) < z := by omega
 have hg := (hE.below hb).lim.1
 have hF := fun n => fault_lim aL (W.drewN n) ((hE.below (below_drewN hb n)).et)
 have H : Hid _ := And.intro hW (And.intro hb hF)
 unfold En.v
 clear hS hW hb hX hS1 hno he ha hb0 hE hcs hu hv hu1 hv1 hl hN hbig hsz hA' hz hF
 go_enter Tryz.func84, Tryz.ntmps84
 go_upto_region 1 with fail
 rw [<- H.out.1]
 go_quiet (fail)
 all_goals
  go_upto_region 4 with fail
  go_quiet (fail)
  go_wp2_with fail
  refine Calls.mono (H.out.2.2 _) ?_
  rintro r w2 ⟨x, rfl, hC, hb2⟩
  have H2 : Hid _ := And.intro hC (hb2.mono (Below.size (below_drewN H.out.2.1 _)))
  clear hC hb2
  go_wp2_with fail
  go_ret2
  exact ⟨_, rfl, H2.out.1, (below_drewN H.out.2.1 _).trans H2.out.2⟩
end Di
namespace Di
open Go.RowKit Go.Maps
structure BkG (w : World) (b nm : Nat) (ve vs : Value) (Lm Le : List En) (S : List Int) : Prop where
 cell : w.heap[b]? = some (.cells #[.map (some nm), ve, vs] 77 (0, 0))
 row : w.ownsRow 0 108 4 ve (Le.length + 1) (eC (z0 :: Le))
 siz : OwnI w 0 vs S
 map : ∃ D, w.ownsMap (H := Unit) Tryz.prog 108 (plainElem Tryz.prog 3) nm Lm.length D /\ MapE D Lm
 sml : ∀ e ∈ Lm, e.Sml
theorem BkS.g {w : World} {b nm : Nat} {ve vs : Value} {L : List En} {S : List Int} (h : BkS w b nm ve vs L S) : BkG w b nm ve vs L L S := ⟨h.cell, h.row, h.siz, h.map, h.sml⟩
theorem BkG.foot_lt {w : World} {b nm : Nat} {ve vs : Value} {Lm Le : List En} {S : List Int} (h : BkG w b nm ve vs Lm Le S) {i : Nat} (hi : Foot b nm ve vs i) : i < w.heap.size := by
 rcases hi with rfl | rfl | hi | hi
 ·exact t_lt h.cell
 ·obtain ⟨D, h1, _⟩ := h.map; exact h1.lt
 ·exact (h.row.lt i hi).2
 ·exact (h.siz.lt i hi).2
theorem BkG.ne {w : World} {b nm : Nat} {ve vs : Value} {Lm Le : List En} {S : List Int} (h : BkG w b nm ve vs Lm Le S) : b ≠ nm /\ ve.ownBlock ≠ some b /\ ve.ownBlock ≠ some nm /\ vs.ownBlock ≠ some b /\ vs.ownBlock ≠ some nm /\ ∀ i, ve.ownBlock = some i -> vs.ownBlock ≠ some i := by
 obtain ⟨D, h1, _⟩ := h.map
 refine ⟨map_ne h.cell h1, fun e => ?_, fun e => ?_, fun e => ?_, fun e => ?_, fun i e e2 => ?_⟩
 ·obtain ⟨c, hc⟩ := row_cells h.row e
  exact cells_ne hc h.cell (by decide) rfl
 ·obtain ⟨c, hc⟩ := row_cells h.row e
  exact map_ne hc h1 rfl
 ·obtain ⟨c, hc⟩ := row_cells h.siz e
  exact cells_ne hc h.cell (by decide) rfl
 ·obtain ⟨c, hc⟩ := row_cells h.siz e
  exact map_ne hc h1 rfl
 ·obtain ⟨c, hc⟩ := row_cells h.row e
  obtain ⟨c', hc'⟩ := row_cells h.siz e2
  exact cells_ne hc hc' (by decide) rfl
theorem BkG.put {w w' : World} {b nm : Nat} {ve vs : Value} {L Le : List En} {S : List Int} {D : DataW Unit} {e : En} (h : BkG w b nm ve vs L Le S) (hD : IsMap D) (hM : MapE D L) (he : e.Sml) (hno : e ∉ L)
 (ho : w'.ownsMap (H := Unit) Tryz.prog 108 (plainElem Tryz.prog 3) nm (L.length + 1) (D.put e.k (.lit (.int .i64 ((L.length + 1 : Nat) : Int))))) (hg : w.grownBy w' (some nm)) : BkG w' b nm ve vs (L ++ [e]) Le S := by
 have hn := h.ne
 have up : ∀ i, Foot b nm ve vs i -> i ≠ nm -> w'.heap[i]? = w.heap[i]? := fun i hi hne => hg.block i (h.foot_lt hi) fun e => hne (Option.some.inj e)
 refine ⟨by rw [up b (.inl rfl) hn.1]; exact h.cell, trow_at h.row fun i hi => up i (.inr (.inr (.inl hi))) fun e => hn.2.2.1 (e ▸ hi), trow_at h.siz fun i hi => up i (.inr (.inr (.inr hi))) fun e => hn.2.2.2.2.1 (e ▸ hi), ⟨_, ?_, hM.snoc hD h.sml e he hno⟩, fun f hf => ?_⟩
 ·simpa using ho
 ·rcases List.mem_append.1 hf with hf | hf
  ·exact h.sml f hf
  ·rw [List.mem_singleton.1 hf]; exact he
theorem BkG.appE {w wa w2 : World} {b nm : Nat} {ve ve' vs : Value} {Lm L : List En} {S : List Int} {e : En} (h : BkG w b nm ve vs Lm L S) (ha : Below w.heap.size w wa) (hown : w2.ownsRow 0 108 4 ve' (L.length + 1 + 1) (eC (z0 :: L) ++ e.c)) (hg : wa.grownBy w2 ve.ownBlock) : BkG (w2.setCell ⟨b, 1, none⟩ ve') b nm ve' vs Lm (L ++ [e]) S := by
 have hn := h.ne
 obtain ⟨D, hD, hM⟩ := h.map
 have up : ∀ i, i < w.heap.size -> ve.ownBlock ≠ some i -> i ≠ b -> (w2.setCell ⟨b, 1, none⟩ ve').heap[i]? = w.heap[i]? := fun i hi h1 h2 => by
  rw [set_other _ _ _ _ _ h2, hg.block i (Nat.lt_of_lt_of_le hi ha.size) (fun e => h1 e.symm), ha.block i hi]
 have hb2 : w2.heap[b]? = some (.cells #[.map (some nm), ve, vs] 77 (0, 0)) := by
  rw [hg.block b (Nat.lt_of_lt_of_le (t_lt h.cell) ha.size) (fun e => hn.2.1 e.symm), ha.block b (t_lt h.cell)]
  exact h.cell
 have hr : w2.ownsRow 0 108 4 ve' ((L ++ [e]).length + 1) (eC (z0 :: (L ++ [e]))) := by
  have e1 : eC (z0 :: (L ++ [e])) = eC (z0 :: L) ++ e.c := by rw [<- List.cons_append, eC_snoc]
  rw [e1, List.length_append]
  exact hown
 refine ⟨?_, trow_at hr fun i hi => ?_, trow_at h.siz fun i hi => up i (h.siz.lt i hi).2 (fun e => hn.2.2.2.2.2 i e hi) fun e => hn.2.2.2.1 (e ▸ hi), ⟨D, map_at hD (up nm hD.lt hn.2.2.1 fun e => hn.1 e.symm), hM⟩, h.sml⟩
 ·rw [heap_setCell_same _ b 1 _ _ _ hb2]; rfl
 ·obtain ⟨c', hc'⟩ := row_cells hr hi
  exact set_other _ _ _ _ _ (cells_ne hc' hb2 (by decide))
theorem BkG.appS {w wa w2 : World} {b nm : Nat} {ve vs vs' : Value} {Lm L : List En} {S : List Int} {z : Int} (h : BkG w b nm ve vs Lm L S) (ha : Below w.heap.size w wa) (hown : w2.ownsRow 0 3 1 vs' (S.length + 1) (iC S ++ [.int .i64 z])) (hg : wa.grownBy w2 vs.ownBlock) : BkG (w2.setCell ⟨b, 2, none⟩ vs') b nm ve vs' Lm L (S ++ [z]) := by
 have hn := h.ne
 obtain ⟨D, hD, hM⟩ := h.map
 have up : ∀ i, i < w.heap.size -> vs.ownBlock ≠ some i -> i ≠ b -> (w2.setCell ⟨b, 2, none⟩ vs').heap[i]? = w.heap[i]? := fun i hi h1 h2 => by
  rw [set_other _ _ _ _ _ h2, hg.block i (Nat.lt_of_lt_of_le hi ha.size) (fun e => h1 e.symm), ha.block i hi]
 have hb2 : w2.heap[b]? = some (.cells #[.map (some nm), ve, vs] 77 (0, 0)) := by
  rw [hg.block b (Nat.lt_of_lt_of_le (t_lt h.cell) ha.size) (fun e => hn.2.2.2.1 e.symm), ha.block b (t_lt h.cell)]
  exact h.cell
 have hr : OwnI w2 0 vs' (S ++ [z]) := by
  unfold OwnI
  have e1 : iC (S ++ [z]) = iC S ++ [.int .i64 z] := by simp [iC]
  rw [e1, List.length_append]
  exact hown
 refine ⟨?_, trow_at h.row fun i hi => up i (h.row.lt i hi).2 (fun e => hn.2.2.2.2.2 i hi e) fun e => hn.2.1 (e ▸ hi), trow_at hr fun i hi => ?_, ⟨D, map_at hD (up nm hD.lt hn.2.2.2.2.1 fun e => hn.1 e.symm), hM⟩, h.sml⟩
 ·rw [heap_setCell_same _ b 2 _ _ _ hb2]; rfl
 ·obtain ⟨c', hc'⟩ := row_cells hr hi
  exact set_other _ _ _ _ _ (cells_ne hc' hb2 (by decide))
theorem app_kept {F : Nat -> Prop} {w wa w2 : World} {b o : Nat} {v v' : Value} (ha : Below w.heap.size w wa) (hg : wa.grownBy w2 v.ownBlock) (hb : F b) (hv : ∀ i, v.ownBlock = some i -> F i) : Kept F w (w2.setCell ⟨b, o, none⟩ v') :=
 ((Kept.of_below ha).trans ((Kept.of_grown hg).mono fun _ _ e => hv _ e)).trans ((Kept.setCell w2 b o v').mono fun _ _ e => e ▸ hb)
theorem BkG.grown {w wa w4 : World} {b nm : Nat} {ve vs v : Value} {Lm Le : List En} {S : List Int} (h : BkG w b nm ve vs Lm Le S) (ha : Below w.heap.size w wa) (hg : wa.grownBy w4 v.ownBlock) (hv : v.ownBlock = ve.ownBlock \/ v.ownBlock = vs.ownBlock) : w4.heap[b]? = some (.cells #[.map (some nm), ve, vs] 77 (0, 0)) := by
 have hn := h.ne
 rw [hg.block b (Nat.lt_of_lt_of_le (t_lt h.cell) ha.size) (fun e => ?_), ha.block b (t_lt h.cell)]
 ·exact h.cell
 ·rcases hv with h1 | h1
  ·exact hn.2.1 (h1 ▸ e.symm)
  ·exact hn.2.2.2.1 (h1 ▸ e.symm)
theorem BkG.s {w : World} {b nm : Nat} {ve vs : Value} {L : List En} {S : List Int} {e : En} {z : Int} (h : BkG w b nm ve vs (L ++ [e]) (L ++ [e]) (S ++ [z])) (hl : S.length = L.length + 1) (hb : L.length < 100000000000) (ho : ∀ z ∈ S, 0 <= z /\ z <= 5000) (hz : 0 <= z /\ z <= 5000) : BkS w b nm ve vs (L ++ [e]) (S ++ [z]) :=
 ⟨h.cell, h.row, h.siz, h.map, by simp [hl], h.sml, by simp; omega, fun y hy => (List.mem_append.1 hy).elim (ho y) fun h1 => by rw [List.mem_singleton.1 h1]; exact hz⟩
theorem put_fin {F : Nat -> Prop} {w W w1 w3 w5 w7 : World} {b nm : Nat} {ve vs ve' vs' : Value} {L' : List En} {S' : List Int} (hF : ∀ i, F i -> i < w.heap.size) (hW : Below w.heap.size w W) (h1 : Below W.heap.size W w1) (h3 : w1.grownBy w3 (some nm)) (hft : ∀ i, Foot b nm ve vs i -> F i) (h5 : Kept (Foot b nm ve vs) w3 w5) (h7 : Kept (Foot b nm ve vs) w5 w7) (hS : BkS w7 b nm ve' vs' L' S')
 (he : ∀ i, ve'.ownBlock = some i -> ve.ownBlock = some i \/ w3.heap.size <= i) (hs : ∀ i, vs'.ownBlock = some i -> vs.ownBlock = some i \/ w5.heap.size <= i) : BkB w7 b L' S' (Up F w w7) /\ Kept F w w7 := by
 have hk3 : Kept F w w3 := ((Kept.of_below hW).trans (Kept.of_below h1)).trans ((Kept.of_grown h3).mono fun _ _ e => hft _ (.inr (.inl (Option.some.inj e).symm)))
 have hk5 : Kept F w w5 := hk3.trans (h5.mono fun _ _ e => hft _ e)
 have hk7 : Kept F w w7 := hk5.trans (h7.mono fun _ _ e => hft _ e)
 refine ⟨⟨⟨nm, ve', vs', hS, fun i hi => ?_⟩, fun i hi => ?_⟩, hk7⟩
 ·have hlt := hS.foot_lt hi
  rcases hi with hi | hi | hi | hi
  ·exact .inl (hft i (.inl hi))
  ·exact .inl (hft i (.inr (.inl hi)))
  ·rcases he i hi with h | h
   ·exact .inl (hft i (.inr (.inr (.inl h))))
   ·exact .inr ⟨Nat.le_trans hk3.size h, hlt⟩
  ·rcases hs i hi with h | h
   ·exact .inl (hft i (.inr (.inr (.inr h))))
   ·exact .inr ⟨Nat.le_trans hk5.size h, hlt⟩
 ·rcases hi with hi | hi
  ·exact Nat.lt_of_lt_of_le (hF i hi) hk7.size
  ·exact hi.2
theorem infoE : (Tryz.prog.info? 108).map (fun i => (i.zero, i.size, i.bytes)) = some (some (.agg #[.int .i64 0, .int .i64 0, .int .i64 0, .int .i64 0]), 4, 32) := by kernel_rfl
theorem infoI : (Tryz.prog.info? 3).map (fun i => (i.zero, i.size, i.bytes)) = some (some (.int .i64 0), 1, 8) := by kernel_rfl
end Di
namespace Di
open Go.RowKit Go.Maps
attribute [local go_sem ↓] Go.wp_at_zero Go.wp_at_succ
set_option maxRecDepth 100000 in
set_option maxHeartbeats 8000000 in
theorem put_new (b : Nat) (L : List En) (S : List Int) (F : Nat -> Prop) (e : En) (w : World) (hS : BkB w b L S F) (hno : e ∉ L) (he : e.Sml) (ha : e.a <= L.length) (hb0 : e.b <= L.length) (hbig : szS S e <= 5000) (hlen : L.length < 100000000000) :
 Calls Tryz.prog 84 #[.pointer (some ⟨b, 0, none⟩), e.v] w fun r w' => r = .returned (.tuple #[.int .i64 ((L.length + 1 : Nat) : Int), .nilIface]) /\ BkB w' b (L ++ [e]) (S ++ [szS S e]) (Up F w w') /\ Kept F w w' := by
 obtain ⟨W, hW⟩ : ∃ W, W = w.alloc (.cells #[.int .i64 e.op, .int .i64 e.lb, .int .i64 e.a, .int .i64 e.b] 108) := ⟨_, rfl⟩
 have hb : Below w.heap.size w W := by rw [hW]; exact (Below.refl _ _).alloc (Nat.le_refl _) _
 have hX : W.heap[w.heap.size]? = some (.cells #[.int .i64 e.op, .int .i64 e.lb, .int .i64 e.a, .int .i64 e.b] 108 (0, 0)) := by rw [hW]; exact (MapKept.heap_alloc w _).1
 have hlt := hS.lt
 obtain ⟨nm, ve, vs, hS1, hFt⟩ := (hS.below hb).some
 have hc : ∀ n, (Instr.lookup 74 (.map (some nm)) (.agg #[.int .i64 e.op, .int .i64 e.lb, .int .i64 e.a, .int .i64 e.b]) true).run Tryz.prog (W.drewN n) = .ok (.tuple #[.int .i64 0, .bool false]) (W.drewN n) := fun n => by
  obtain ⟨D, hD, hM⟩ := (hS1.below (below_drewN (Below.refl _ _) n)).map
  exact look_no hD hM hno he
 obtain ⟨ae, ce, rfl⟩ := row_shape hS1.row
 obtain ⟨c0, c1, c2⟩ := three_cells hS1.cell
 obtain ⟨x0, x1, x2, x3⟩ := four_cellsD hX
 have hl := hS1.len
 obtain ⟨ars, caps, rfl, hcs⟩ := hS1.siz.has
 obtain ⟨u, hu⟩ : ∃ u, S[e.a]? = some u := ⟨_, List.getElem?_eq_getElem (by omega)⟩
 obtain ⟨v, hv⟩ : ∃ v, S[e.b]? = some v := ⟨_, List.getElem?_eq_getElem (by omega)⟩
 obtain ⟨A, rfl, s0⟩ := hcs _ _ hu
 obtain ⟨A', hA', s1⟩ := hcs _ _ hv
 obtain rfl := Option.some.inj hA'
 have hu1 := hS1.lo u (List.mem_of_getElem? hu)
 have hv1 := hS1.lo v (List.mem_of_getElem? hv)
 have hsz : szS S e = u + v + 1 := by unfold szS; rw [hu, hv]; rfl
 rw [hsz] at hbig ⊢
 obtain ⟨N, hN⟩ : ∃ N, N = S.length := ⟨_, rfl⟩
 obtain ⟨M, hM⟩ : ∃ M, M = L.length := ⟨_, rfl⟩
 rw [<- hN] at c2 hl hS1 hFt
 rw [<- hM] at c1 hl ha hb0 hlen hS1 hFt ⊢
 have p0 : (0 : Int) <= (e.a : Int) := by omega
 have p1 : (e.a : Int) < (N : Int) := by omega
 have p2 : (0 : Int) <= (e.b : Int) := by omega
 have p3 : (e.b : Int) < (N : Int) := by omega
 have p4 : IntKind.i64.wrap (u + v) = u + v := by rw [IntKind.wrap_i64]; omega
 obtain ⟨z, hz⟩ : ∃ z, z = u + v + 1 := ⟨_, rfl⟩
 rw [<- hz]
 have p5 : IntKind.i64.wrap (u + v + 1) = z := by rw [IntKind.wrap_i64, hz]; omega
 have p6 : ¬ (5000 : Int) < z := by omega
 have H : Hid _ := And.intro hW (And.intro hb (And.intro hS1 (And.intro hFt (And.intro hX (And.intro hN (And.intro hM (And.intro hl (And.intro hno (And.intro he (And.intro hz (And.intro hu1 (And.intro hv1 (And.intro hlen (And.intro hlt hbig))))))))))))))
 unfold En.v
 clear hS hW hb hX hS1 hFt hno he ha hb0 hcs hu hv hu1 hv1 hl hN hM hbig hsz hA' hz hlen hlt
 go_enter Tryz.func84, Tryz.ntmps84
 go_upto_region 1 with fail
 rw [<- H.out.1]
 go_quiet (fail)
 all_goals
  rename Nat => q1
  go_upto_region 4 with fail
  go_quiet (fail)
  rename Nat => q2
  go_upto_region 8 with fail
  obtain ⟨w1, hw1⟩ : ∃ w1, w1 = W.drewN (q1 + q2 + 1) := ⟨_, rfl⟩
  have hbW : Below W.heap.size W w1 := by rw [hw1]; exact below_drewN (Below.refl _ _) _
  have hS1 := H.out.2.2.1.below hbW
  have hX1 := (hbW.block _ (t_lt H.out.2.2.2.2.1)).trans H.out.2.2.2.2.1
  obtain ⟨D, hD, hM⟩ := hS1.map
  have hM9 := H.out.2.2.2.2.2.2.1
  have hL9 := H.out.2.2.2.2.2.2.2.2.2.2.2.2.2.1
  obtain ⟨w3, hrun, ho3, hg3⟩ := hD.update lawE Tryz.underlying74 (by rw [<- hM9]; unfold maxLen; omega) (keyOfE H.out.2.2.2.2.2.2.2.2.2.1) (plainElem_int (a := ((L.length + 1 : Nat) : Int)) Tryz.underlying3 (WalkArith.wf_i64 (by omega)))
  have hG3 := hS1.g.put hD.isMap hM H.out.2.2.2.2.2.2.2.2.2.1 H.out.2.2.2.2.2.2.2.2.1 ho3 hg3
  have hX3 := (hg3.block _ (t_lt hX1) (fun e => map_ne hX1 hD (Option.some.inj e))).trans hX1
  rw [hw1] at hrun
  rw [<- hM9] at hrun
  have hc9 : ((M + 1 : Nat) : Int) = (M : Int) + 1 := by omega
  rw [hc9] at hrun
  unfold En.v at hrun
  have H3 : Hid _ := And.intro hbW (And.intro hG3 (And.intro hX3 (And.intro hg3 hw1)))
  clear hbW hS1 hX1 hD hM hM9 hL9 ho3 hg3 hG3 hX3 hw1 hc9
  go_region
  all_goals
   clear hrun hc c0 c1 c2 x0 x1 x2 x3 s0 s1
   obtain ⟨c0, c1, c2⟩ := three_cells H3.out.2.1.cell
   obtain ⟨x0, x1, x2, x3⟩ := four_cellsD H3.out.2.2.1
   have hlt3 := t_lt H3.out.2.1.cell
   have hlt4 := t_lt H3.out.2.2.1
   obtain ⟨i0, hi0, hz0, hz1, hz2⟩ := info_parts infoE
   have hM9 := H.out.2.2.2.2.2.2.1
   have hL9 := H.out.2.2.2.2.2.2.2.2.2.2.2.2.2.1
   have r1 : M + 1 + 1 <= maxLen := by unfold maxLen; omega
   have r2 : (M + 1 + 1) * 32 <= 140737488355328 := by omega
   have hrow := H3.out.2.1.row
   rw [<- hM9] at hrow
   have HR : Hid _ := And.intro hrow hM9
   clear hM9 hL9 hrow
   go_upto_region 9 with fail
   go_region_law
    ((first
      | (refine step_append_lies _ (by rfl) _ _ _ (by rfl) 0 108 i0 _ 4 32 Tryz.underlying75 hi0 hz0 hz1 hz2 rfl (Nat.succ_pos 3) (.slice ae (M + 1) ce) (M + 1) (eC (z0 :: L)) (by rfl) ((HR.out.1.drew).alloc _)
          ⟨w3.heap.size, 0, none⟩ 1 1 e.c (by rfl) (by rfl) (World.news_of_block (cs := #[.int .i64 e.op, .int .i64 e.lb, .int .i64 e.a, .int .i64 e.b]) (t := 108) (fr := (0, 0)) (heap_alloc_new w3 _)) (by simp [En.c, Value.oneCell'])
          Nat.one_pos r1 r2 (Nat.zero_le _) (w3.heap.size + 1) (by simp) ?_; intro gg cap' w4 hown4 hgrow4 hat4 _; have hb4 := H3.out.2.1.grown (by repeat (first | exact Below.refl _ _ | assumption | refine Below.drew ?_ | refine Below.setCell ?_ (by simp) _ | refine Below.alloc ?_ (by simp) _)) hgrow4 (.inl rfl); have bc := (three_cells hb4).2.1; have bf := blk_free hb4 1; obtain ⟨wa, hga, hba⟩ : ∃ wa, wa.grownBy w4 (Value.slice ae (M + 1) ce).ownBlock /\ Below w3.heap.size w3 wa := ⟨_, hgrow4, (by repeat (first | exact Below.refl _ _ | assumption | refine Below.drew ?_ | refine Below.setCell ?_ (by simp) _ | refine Below.alloc ?_ (by simp) _))⟩; have H4 : Hid _ := And.intro hown4 (And.intro hga (And.intro hba (And.intro hb4 hat4))); clear hga hba; clear hown4 hgrow4 hat4 hb4)))
   all_goals
    obtain ⟨w5, hw5⟩ : ∃ w5, w5 = w4.setCell ⟨b, 1, none⟩ (.slice (some ⟨gg, 0, none⟩) (M + 1 + 1) cap') := ⟨_, rfl⟩
    rw [<- hw5]
    have hG5 := H3.out.2.1.appE (e := e) H4.out.2.2.1 (by rw [<- HR.out.2]; exact H4.out.1) H4.out.2.1
    rw [<- hw5] at hG5
    have hK5 : Kept (Foot b nm (.slice ae (M + 1) ce) (.slice (some A) N caps)) w3 w5 := by rw [hw5]; exact app_kept (v := .slice ae (M + 1) ce) H4.out.2.2.1 H4.out.2.1 (.inl rfl) fun i hi => .inr (.inr (.inl hi))
    clear hw5 hi0 hz0 hz1 hz2 r1 r2 bc bf c0 c1 c2 x0 x1 x2 x3 hlt3 hlt4
    obtain ⟨c0, c1, c2⟩ := three_cells hG5.cell
    have hlt5 := t_lt hG5.cell
    obtain ⟨i0, hi0, hz0, hz1, hz2⟩ := info_parts infoI
    have hN9 := H.out.2.2.2.2.2.1
    have hl9 := H.out.2.2.2.2.2.2.2.1
    have hL9 := H.out.2.2.2.2.2.2.2.2.2.2.2.2.2.1
    have r1 : N + 1 <= maxLen := by unfold maxLen; omega
    have r2 : (N + 1) * 8 <= 140737488355328 := by omega
    have hrow : w5.ownsRow 0 3 1 (.slice (some A) N caps) N (iC S) := by have h := hG5.siz; unfold OwnI at h; rw [<- hN9] at h; exact h
    have H5 : Hid _ := And.intro hG5 (And.intro hK5 (And.intro hrow hN9))
    clear hG5 hK5 hrow hN9 hl9 hL9
    go_upto_region 11 with (at_builtin; refine wpList_append_lies _ rfl _ _ 39 rfl 0 3 i0 (.int .i64 0) 1 8 Tryz.underlying39 hi0 hz0 hz1 hz2 rfl (by decide) (.slice (some A) N caps) N (iC S) rfl (H5.out.2.2.1.alloc _) ⟨w5.heap.size, 0, none⟩ 1 1 [.int .i64 z] rfl rfl (World.news_of_block (cs := #[.int .i64 z]) (t := 3) (fr := (0, 0)) (heap_alloc_new w5 _)) (by simp [Value.oneCell']) Nat.one_pos r1 r2 (Nat.zero_le _) (w5.heap.size + 1) (by simp) ?_; intro g6 cap6 w6 hown6 hgrow6 hat6 _; have hb6 := H5.out.1.grown ((Below.refl _ _).alloc (Nat.le_refl _) _) hgrow6 (.inr rfl); have bc := (three_cells hb6).2.2; have bf := blk_free hb6 2; have H6 : Hid _ := And.intro hown6 (And.intro hgrow6 (And.intro hat6 hb6)); clear hown6 hgrow6 hat6 hb6)
    go_wp2_with fail
    go_ret2
    obtain ⟨w7, hw7⟩ : ∃ w7, w7 = w6.setCell ⟨b, 2, none⟩ (.slice (some ⟨g6, 0, none⟩) (N + 1) cap6) := ⟨_, rfl⟩
    rw [<- hw7]
    have ha5 : Below w5.heap.size w5 (w5.alloc (.cells #[.int .i64 z] 3)) := (Below.refl _ _).alloc (Nat.le_refl _) _
    have hG7 := H5.out.1.appS (z := z) ha5 (by rw [<- H5.out.2.2.2]; exact H6.out.1) H6.out.2.1
    have hK7 : Kept (Foot b nm (.slice ae (M + 1) ce) (.slice (some A) N caps)) w5 w7 := by rw [hw7]; exact app_kept (v := .slice (some A) N caps) ha5 H6.out.2.1 (.inl rfl) fun i hi => .inr (.inr (.inr hi))
    rw [<- hw7] at hG7
    obtain ⟨g1, g2, g3, g4, g5, g6', g7, g8, g9, g10, g11, g12, g13, g14, g15, g16⟩ := H.out
    have hS7 := hG7.s (by omega) (by omega) g3.lo (by omega)
    have hz' : (M : Int) + 1 = ((M + 1 : Nat) : Int) := by omega
    refine ⟨rfl, put_fin g15 g2 H3.out.1 H3.out.2.2.2.1 g4 H5.out.2.1 hK7 hS7 (fun i hi => ?_) (fun i hi => ?_)⟩
    ·have e1 : gg = i := Option.some.inj hi
     subst e1
     exact H4.out.2.2.2.2.imp id fun h => by omega
    ·have e1 : g6 = i := Option.some.inj hi
     subst e1
     exact H6.out.2.2.1.imp id fun h => by omega
end Di
namespace Di
open Go.RowKit Go.Maps
def num (L : List Fm) (x : Fm) : Nat := Ro.place x L + 1
def en (L : List Fm) : Fm -> En
 | .tt => ⟨1, 0, 0, 0⟩
 | .neg a => ⟨2, 0, num L a, 0⟩
 | .may l a => ⟨4, l, num L a, 0⟩
 | .both a b => ⟨3, 0, num L a, num L b⟩
def PIn (L : List Fm) : Fm -> Prop
 | .tt => True
 | .neg a => a ∈ L
 | .may l a => a ∈ L /\ 0 <= l /\ l <= 300
 | .both a b => a ∈ L /\ b ∈ L
theorem num_left {L : List Fm} (r : List Fm) {x : Fm} (h : x ∈ L) : num (L ++ r) x = num L x := by unfold num; rw [Ro.place_left r h]
theorem num_inj {L : List Fm} {x y : Fm} (hx : x ∈ L) (hy : y ∈ L) (h : num L x = num L y) : x = y := by unfold num at h; exact Ro.place_inj hx hy (by omega)
theorem num_at {L : List Fm} {x : Fm} (h : x ∈ L) : L[num L x - 1]? = some x := by unfold num; exact Ro.place_at h
theorem num_le {L : List Fm} {x : Fm} (h : x ∈ L) : num L x <= L.length := by unfold num; have := Ro.place_lt.2 h; omega
theorem num_pos (L : List Fm) (x : Fm) : 0 < num L x := by unfold num; omega
theorem PIn.left {L : List Fm} (r : List Fm) {x : Fm} (h : PIn L x) : PIn (L ++ r) x := by
 cases x with
 | tt => trivial
 | neg a => exact List.mem_append_left _ h
 | may l a => exact ⟨List.mem_append_left _ h.1, h.2⟩
 | both a b => exact ⟨List.mem_append_left _ h.1, List.mem_append_left _ h.2⟩
theorem en_left {L : List Fm} (r : List Fm) {x : Fm} (h : PIn L x) : en (L ++ r) x = en L x := by
 cases x with
 | tt => rfl
 | neg a => simp only [en]; rw [num_left r h]
 | may l a => simp only [en]; rw [num_left r h.1]
 | both a b => simp only [en]; rw [num_left r h.1, num_left r h.2]
theorem en_inj {L : List Fm} {x y : Fm} (hx : PIn L x) (hy : PIn L y) (h : en L x = en L y) : x = y := by
 cases x <;> cases y <;> simp only [en, En.mk.injEq, false_and, true_and, and_true, Int.reduceEq] at h <;> first | rfl | skip
 ·rw [num_inj hx hy h]
 ·rw [h.1, num_inj hx.1 hy.1 h.2]
 ·rw [num_inj hx.1 hy.1 h.1, num_inj hx.2 hy.2 h.2]
theorem en_sml {L : List Fm} {x : Fm} (h : PIn L x) (hl : L.length <= 100000000000) : (en L x).Sml := by
 have k : ∀ z : Int, 0 <= z /\ z <= 300 -> Sm z := fun z hz => by unfold Sm; omega
 cases x with
 | tt => exact ⟨k 1 (by decide), k 0 (by decide), Nat.zero_le _, Nat.zero_le _⟩
 | neg a => have := num_le h; exact ⟨k 2 (by decide), k 0 (by decide), by show num L a <= _; omega, Nat.zero_le _⟩
 | may l a => have := num_le h.1; exact ⟨k 4 (by decide), k l h.2, by show num L a <= _; omega, Nat.zero_le _⟩
 | both a b => have := num_le h.1; have := num_le h.2; exact ⟨k 3 (by decide), k 0 (by decide), by show num L a <= _; omega, by show num L b <= _; omega⟩
theorem en_le {L : List Fm} {x : Fm} (h : PIn L x) : (en L x).a <= L.length /\ (en L x).b <= L.length := by
 cases x with
 | tt => exact ⟨Nat.zero_le _, Nat.zero_le _⟩
 | neg a => exact ⟨num_le h, Nat.zero_le _⟩
 | may l a => exact ⟨num_le h.1, Nat.zero_le _⟩
 | both a b => exact ⟨num_le h.1, num_le h.2⟩
def szs (L : List Fm) : List Int := 0 :: L.map fun x => (x.size : Int)
theorem szs_at {L : List Fm} {x : Fm} (h : x ∈ L) : ((szs L)[num L x]?).getD 0 = (x.size : Int) := by
 have h1 := num_at h
 obtain ⟨k, hk⟩ : ∃ k, num L x = k + 1 := ⟨num L x - 1, by have := num_pos L x; omega⟩
 rw [hk] at h1 ⊢
 unfold szs
 rw [List.getElem?_cons_succ, List.getElem?_map, show L[k]? = some x from h1]
 rfl
theorem szs_en {L : List Fm} {x : Fm} (h : PIn L x) : szS (szs L) (en L x) = (x.size : Int) := by
 unfold szS
 have h0 : ((szs L)[0]?).getD 0 = 0 := rfl
 cases x with
 | tt => simp only [en, h0]; rfl
 | neg a => simp only [en, h0, szs_at h, Fm.size]; omega
 | may l a => simp only [en, h0, szs_at h.1, Fm.size]; omega
 | both a b => simp only [en, szs_at h.1, szs_at h.2, Fm.size]; omega
structure Bf (w : World) (b : Nat) (L : List Fm) (F : Nat -> Prop) : Prop where
 bk : BkB w b (L.map (en L)) (szs L) F
 cl : ∀ x ∈ L, PIn L x
theorem Bf.kept {w w' : World} {b : Nat} {L : List Fm} {F G : Nat -> Prop} (h : Bf w b L F) (hk : Kept G w w') (hG : ∀ i, F i -> ¬ G i) : Bf w' b L F := ⟨h.bk.kept hk hG, h.cl⟩
theorem Bf.below {w w' : World} {b : Nat} {L : List Fm} {F : Nat -> Prop} (h : Bf w b L F) (hb : Below w.heap.size w w') : Bf w' b L F := ⟨h.bk.below hb, h.cl⟩
theorem Bf.mono {w : World} {b : Nat} {L : List Fm} {F G : Nat -> Prop} (h : Bf w b L F) (hF : ∀ i, F i -> G i) (hG : ∀ i, G i -> i < w.heap.size) : Bf w b L G := ⟨h.bk.mono hF hG, h.cl⟩
theorem Bf.small {w : World} {b : Nat} {L : List Fm} {F : Nat -> Prop} (h : Bf w b L F) {x : Fm} (hx : x ∈ L) : x.size <= 5000 := by
 obtain ⟨⟨nm, ve, vs, h1, _⟩, _⟩ := h.bk
 have := h1.lo (x.size : Int) (by unfold szs; exact List.mem_cons_of_mem _ (List.mem_map.2 ⟨x, hx, rfl⟩))
 omega
def more (L : List Fm) (x : Fm) : List Fm := if x ∈ L then L else L ++ [x]
theorem mem_more (L : List Fm) (x : Fm) : x ∈ more L x := by unfold more; split <;> simp_all
def PutAt (aL : Addr) (b : Nat) (L : List Fm) (F : Nat -> Prop) (x : Fm) (w : World) (r : Ending) (w' : World) : Prop :=
 (x.size <= 5000 /\ r = .returned (.tuple #[.int .i64 ((num (more L x) x : Nat) : Int), .nilIface]) /\ Bf w' b (more L x) (Up F w w') /\ Kept F w w') \/
 (5000 < x.size /\ ∃ e, r = .returned (.tuple #[.int .i64 0, e]) /\ Chain w' 0 0 aL [disB] e /\ Below w.heap.size w w')
theorem up_lt {F : Nat -> Prop} {w w' : World} (h : ∀ i, F i -> i < w.heap.size) (hs : w.heap.size <= w'.heap.size) : ∀ i, Up F w w' i -> i < w'.heap.size := fun i hi => hi.elim (fun h1 => Nat.lt_of_lt_of_le (h i h1) hs) fun h1 => h1.2
theorem put_any (aL : Addr) (b : Nat) (L : List Fm) (F : Nat -> Prop) (x : Fm) (w : World) (hE : EnvD w aL) (hB : Bf w b L F) (hx : PIn L x) (hlen : L.length < 100000000000) :
 Calls Tryz.prog 84 #[.pointer (some ⟨b, 0, none⟩), (en L x).v] w (PutAt aL b L F x w) := by
 have hsz := szs_en hx
 by_cases hin : x ∈ L
 ·have hi : (L.map (en L))[Ro.place x L]? = some (en L x) := by rw [List.getElem?_map, Ro.place_at hin]; rfl
  refine (put_old b _ _ F _ w hB.bk _ hi).mono fun r w' ⟨h1, h2⟩ => .inl ⟨hB.small hin, ?_, ?_, .of_below h2⟩
  ·rw [h1]; unfold more; rw [if_pos hin]; rfl
  ·unfold more
   rw [if_pos hin]
   exact (hB.below h2).mono (fun i hi => .inl hi) (up_lt hB.bk.lt h2.size)
 ·have hno : en L x ∉ L.map (en L) := fun h => by
   obtain ⟨y, hy, e⟩ := List.mem_map.1 h
   exact hin (en_inj (hB.cl y hy) hx e ▸ hy)
  have hl := en_le hx
  by_cases hbig : x.size <= 5000
  ·refine (put_new b _ _ F _ w hB.bk hno (en_sml hx (by omega)) (by simpa using hl.1) (by simpa using hl.2) (by omega) (by simpa using hlen)).mono fun r w' ⟨h1, h2, h3⟩ => .inl ⟨hbig, ?_, ⟨?_, ?_⟩, h3⟩
   ·rw [h1]; unfold more num; rw [if_neg hin]
    have : Ro.place x (L ++ [x]) = L.length := by
     have := Ro.place_more x L
     unfold Ro.more at this
     rw [if_neg hin] at this
     rw [this, Ro.place_no hin]
    rw [this, List.length_map]
   ·unfold more
    rw [if_neg hin]
    have e1 : (L ++ [x]).map (en (L ++ [x])) = L.map (en L) ++ [en L x] := by
     rw [List.map_append, List.map_cons, List.map_nil, en_left _ hx]
     congr 1
     exact List.map_congr_left fun y hy => en_left _ (hB.cl y hy)
    have e2 : szs (L ++ [x]) = szs L ++ [szS (szs L) (en L x)] := by rw [hsz]; unfold szs; simp
    rw [e1, e2]
    exact h2
   ·unfold more
    rw [if_neg hin]
    intro y hy
    rcases List.mem_append.1 hy with hy | hy
    ·exact (hB.cl y hy).left _
    ·rw [List.mem_singleton.1 hy]; exact hx.left _
  ·exact (put_big aL b _ _ F _ w hE hB.bk hno (en_sml hx (by omega)) (by simpa using hl.1) (by simpa using hl.2) (by omega)).mono fun r w' ⟨e, h1, h2, h3⟩ => .inr ⟨by omega, e, h1, h2, h3⟩
end Di
namespace Di
open Go.RowKit Go.Maps
def FT (F : Nat -> Prop) (tm : Nat) (i : Nat) : Prop := F i \/ i = tm
structure Tk where
 t : Nat
 b : Nat
 tm : Nat
 gs : Nat
 T : Nat
 m : Nat
 rb : Nat -> Nat
 out : Nat -> List Ro.St
 rk : Nat -> Nat -> Int
 ra : Nat -> Option Addr
 rc : Nat -> Nat
 aL : Addr
def Tk.St (c : Tk) (w : World) : Prop := St4 w c.t c.b c.tm c.gs c.T c.m c.rb c.out c.rk /\ (∀ i, i < c.m -> w.cell? ⟨c.gs, i, none⟩ = some (.slice (c.ra i) (c.out i).length (c.rc i))) /\ EnvD w c.aL
theorem Tk.rowSt {c : Tk} {w w' : World} (h : c.St w) (h' : c.St w') {i : Nat} (hi : i < c.m) : RowSt w c.gs i (c.out i) w' := by
 obtain ⟨a, cc, _, h1, h2⟩ := h'.1.row i hi
 have h3 := h'.2.1 i hi
 rw [h1] at h3
 injection h3 with h3
 rw [h3] at h2
 exact ⟨_, _, h.2.1 i hi, h2⟩
def Tk.F (c : Tk) (x : Nat × Nat) : Fm := FF c.out c.rk x.1 x.2
def Tk.mu (c : Tk) (x : Nat × Nat) : Nat := Di.mu c.out c.rk x.1 x.2
def Tk.tf (c : Tk) (told : List (Nat × Nat)) (L : List Fm) (p q : Nat) : Option Nat := if (p, q) ∈ told then some (num L (c.F (p, q))) else none
structure Tw (c : Tk) (w : World) (F : Nat -> Prop) (told : List (Nat × Nat)) (L : List Fm) : Prop where
 fix : ∀ w', Kept (FT F c.tm) w w' -> c.St w'
 bf : Bf w c.b L F
 tmF : ¬ F c.tm
 map : ∃ D, w.ownsMap (H := Unit) Tryz.prog 72 (plainElem Tryz.prog 3) c.tm told.length D /\ MapP D (c.tf told L)
 inL : ∀ x ∈ told, c.F x ∈ L /\ x.1 < c.m /\ x.2 < c.m
 nd : told.Nodup
theorem Tw.st {c : Tk} {w : World} {F : Nat -> Prop} {told : List (Nat × Nat)} {L : List Fm} (h : Tw c w F told L) : c.St w := h.fix w (Kept.refl _ _)
theorem Tw.env {c : Tk} {w : World} {F : Nat -> Prop} {told : List (Nat × Nat)} {L : List Fm} (h : Tw c w F told L) : EnvD w c.aL := h.st.2.2
theorem Tw.tmlt {c : Tk} {w : World} {F : Nat -> Prop} {told : List (Nat × Nat)} {L : List Fm} (h : Tw c w F told L) : c.tm < w.heap.size := by obtain ⟨D, h1, _⟩ := h.map; exact h1.lt
theorem Tw.lt {c : Tk} {w : World} {F : Nat -> Prop} {told : List (Nat × Nat)} {L : List Fm} (h : Tw c w F told L) {i : Nat} (hi : FT F c.tm i) : i < w.heap.size := hi.elim (h.bf.bk.lt i) fun e => e ▸ h.tmlt
theorem ft_trans {F : Nat -> Prop} {tm : Nat} {w w1 w2 : World} {G : Nat -> Prop} (h : Kept (FT F tm) w w1) (k : Kept (FT G tm) w1 w2) (hG : ∀ i, G i -> Up F w w1 i) : Kept (FT F tm) w w2 :=
 h.trans2 k fun i hi => hi.elim (fun h1 => (hG i h1).elim (fun h2 => .inl (.inl h2)) fun h2 => .inr h2.1) fun e => .inl (.inr e)
theorem kept_ft {F : Nat -> Prop} {tm : Nat} {w w' : World} (h : Kept F w w') : Kept (FT F tm) w w' := h.mono fun _ _ e => .inl e
theorem Tw.next {c : Tk} {w w' : World} {F G : Nat -> Prop} {told told' : List (Nat × Nat)} {L L' : List Fm} (h : Tw c w F told L) (hk : Kept (FT F c.tm) w w') (hb : Bf w' c.b L' G) (hG : ∀ i, G i -> Up F w w' i)
 (hm : ∃ D, w'.ownsMap (H := Unit) Tryz.prog 72 (plainElem Tryz.prog 3) c.tm told'.length D /\ MapP D (c.tf told' L')) (hi : ∀ x ∈ told', c.F x ∈ L' /\ x.1 < c.m /\ x.2 < c.m) (hn : told'.Nodup) : Tw c w' G told' L' :=
 ⟨fun w'' hk2 => h.fix w'' (ft_trans hk hk2 hG), hb, fun e => (hG _ e).elim h.tmF fun e2 => by have := h.tmlt; omega, hm, hi, hn⟩
theorem Tw.mono {c : Tk} {w0 w : World} {F0 F : Nat -> Prop} {told0 told : List (Nat × Nat)} {L0 L : List Fm} (h0 : Tw c w0 F0 told0 L0) (hk : Kept (FT F0 c.tm) w0 w) (h : Tw c w F told L) (hF : ∀ i, F i -> Up F0 w0 w i) : Tw c w (Up F0 w0 w) told L :=
 h0.next hk (h.bf.mono hF (up_lt h0.bf.bk.lt hk.size)) (fun _ e => e) h.map h.inL h.nd
theorem Tw.below {c : Tk} {w w' : World} {F : Nat -> Prop} {told : List (Nat × Nat)} {L : List Fm} (h : Tw c w F told L) (hb : Below w.heap.size w w') : Tw c w' F told L := by
 obtain ⟨D, h1, h2⟩ := h.map
 exact h.next (.of_below hb) (h.bf.below hb) (fun i hi => .inl hi) ⟨D, map_at h1 (hb.block _ h1.lt), h2⟩ h.inL h.nd
theorem Tk.tf_left {c : Tk} {told : List (Nat × Nat)} {L : List Fm} (r : List Fm) (h : ∀ x ∈ told, c.F x ∈ L) : c.tf told (L ++ r) = c.tf told L := by
 funext p q
 unfold Tk.tf
 split
 ·rename_i hx
  rw [num_left r (h _ hx)]
 ·rfl
theorem more_eq (L : List Fm) (x : Fm) : ∃ r, more L x = L ++ r /\ r.length <= 1 := by
 unfold more
 split
 ·exact ⟨[], by simp, by simp⟩
 ·exact ⟨[x], rfl, by simp⟩
theorem Tw.put {c : Tk} {w w' : World} {F G : Nat -> Prop} {told : List (Nat × Nat)} {L r : List Fm} (h : Tw c w F told L) (hb : Bf w' c.b (L ++ r) G) (hk : Kept F w w') (hG : ∀ i, G i -> Up F w w' i) : Tw c w' G told (L ++ r) := by
 obtain ⟨D, h1, h2⟩ := h.map
 refine h.next (kept_ft hk) hb hG ⟨D, map_at h1 (hk.block _ h1.lt h.tmF), ?_⟩ (fun x hx => ⟨List.mem_append_left _ (h.inL x hx).1, (h.inL x hx).2⟩) h.nd
 rw [c.tf_left r fun x hx => (h.inL x hx).1]
 exact h2
theorem Tw.tell {c : Tk} {w w' : World} {F : Nat -> Prop} {told : List (Nat × Nat)} {L : List Fm} {p q : Nat} {D : DataW Unit} (h : Tw c w F told L) (hD : IsMap D) (hM : MapP D (c.tf told L)) (hx : c.F (p, q) ∈ L) (hp : p < c.m) (hq : q < c.m) (hm : c.m <= 1000) (hno : (p, q) ∉ told)
 (ho : w'.ownsMap (H := Unit) Tryz.prog 72 (plainElem Tryz.prog 3) c.tm (told.length + 1) (D.put (prK p q) (.lit (.int .i64 ((num L (c.F (p, q)) : Nat) : Int))))) (hg : w.grownBy w' (some c.tm)) : Tw c w' F ((p, q) :: told) L /\ Kept (FT F c.tm) w w' := by
 have hk : Kept (FT F c.tm) w w' := (Kept.of_grown hg).mono fun _ _ e => .inr (Option.some.inj e).symm
 have hbf : Bf w' c.b L F := h.bf.kept (Kept.of_grown hg) fun i hi e => h.tmF (Option.some.inj e ▸ hi)
 refine ⟨h.next hk hbf (fun i hi => .inl hi) ⟨_, ho, ?_⟩ (fun x hx2 => ?_) (List.nodup_cons.2 ⟨hno, h.nd⟩), hk⟩
 ·have h1 := hM.put hD (p := p) (q := q) (n := num L (c.F (p, q))) (by omega) (by omega)
  have e : (fun a b => if a = p /\ b = q then some (num L (c.F (p, q))) else c.tf told L a b) = c.tf ((p, q) :: told) L := by
   funext a b
   unfold Tk.tf
   by_cases e : a = p /\ b = q
   ·obtain ⟨rfl, rfl⟩ := e
    simp
   ·rw [if_neg e]
    by_cases e2 : (a, b) ∈ told
    ·rw [if_pos e2, if_pos (List.mem_cons_of_mem _ e2)]
    ·rw [if_neg e2, if_neg (fun h3 => (List.mem_cons.1 h3).elim (fun h4 => e (by injection h4 with a1 a2; exact ⟨a1, a2⟩)) e2)]
  rw [e] at h1
  exact h1
 ·rcases List.mem_cons.1 hx2 with rfl | h3
  ·exact ⟨hx, hp, hq⟩
  ·exact h.inL x h3
theorem nodup_leI : ∀ (n : Nat) (zs : List Int), zs.Nodup -> (∀ z ∈ zs, 0 <= z /\ z < (n : Int)) -> zs.length <= n
 | 0, zs, _, h => by
   cases zs with
   | nil => simp
   | cons z r => have := h z (by simp); omega
 | n + 1, zs, hd, h => by
   have h1 := nodup_leI n (zs.erase (n : Int)) (hd.erase _) (fun z hz => by
    have hz' := (hd.mem_erase_iff).1 hz
    have := h z hz'.2
    have hne := hz'.1
    omega)
   have h2 : zs.length <= (zs.erase (n : Int)).length + 1 := by
    rw [List.length_erase]
    split <;> omega
   omega
theorem nodup_leD (n : Nat) (zs : List Nat) (h : zs.Nodup) (hz : ∀ z ∈ zs, z < n) : zs.length <= n := by
 have h1 := nodup_leI n (zs.map Int.ofNat) (List.nodup_iff_pairwise_ne.2 (List.pairwise_map.2 ((List.nodup_iff_pairwise_ne.1 h).imp fun hne e => hne (Int.ofNat.inj e)))) fun z hz2 => by
  obtain ⟨y, hy, rfl⟩ := List.mem_map.1 hz2
  have := hz y hy
  simp only [Int.ofNat_eq_natCast]
  omega
 simpa using h1
theorem Tw.rebase {c : Tk} {w w2 w4 : World} {F G X : Nat -> Prop} {told told2 : List (Nat × Nat)} {L L2 : List Fm} (h0 : Tw c w F told L) (h : Tw c w2 G told2 L2) (hG : ∀ i, G i -> Up F w w2 i) (h02 : Kept (FT F c.tm) w w2) (hk : Kept X w2 w4) (hX : ∀ i, X i -> ¬ G i /\ i ≠ c.tm /\ w.heap.size <= i) :
 Tw c w4 G told2 L2 /\ Kept (FT F c.tm) w w4 /\ ∀ i, G i -> Up F w w4 i := by
 have h04 : Kept (FT F c.tm) w w4 := h02.trans2 hk fun i hi => .inr (hX i hi).2.2
 have hG4 : ∀ i, G i -> Up F w w4 i := fun i hi => (hG i hi).imp id fun h => ⟨h.1, Nat.lt_of_lt_of_le h.2 hk.size⟩
 obtain ⟨D, h1, h2⟩ := h.map
 exact ⟨h0.next h04 (h.bf.kept hk fun i hi e => (hX i e).1 hi) hG4 ⟨D, map_at h1 (hk.block _ h1.lt fun e => (hX _ e).2.1 rfl), h2⟩ h.inL h.nd, h04, hG4⟩
theorem Tw.told_le {c : Tk} {w : World} {F : Nat -> Prop} {told : List (Nat × Nat)} {L : List Fm} (h : Tw c w F told L) : told.length <= c.m * c.m := by
 have h1 : (told.map fun x => x.1 * c.m + x.2).Nodup := by
  refine List.nodup_iff_pairwise_ne.2 (List.pairwise_map.2 ((List.nodup_iff_pairwise_ne.1 h.nd).imp_of_mem fun {x y} hx hy hne e => hne ?_))
  obtain ⟨_, a1, a2⟩ := h.inL x hx
  obtain ⟨_, b1, b2⟩ := h.inL y hy
  have e1 : x.1 = y.1 := by
   have d1 : (x.1 * c.m + x.2) / c.m = x.1 := by rw [Nat.mul_comm, Nat.mul_add_div (by omega), Nat.div_eq_of_lt a2]; omega
   have d2 : (y.1 * c.m + y.2) / c.m = y.1 := by rw [Nat.mul_comm, Nat.mul_add_div (by omega), Nat.div_eq_of_lt b2]; omega
   rw [<- d1, <- d2, e]
  rw [e1] at e
  exact Prod.ext e1 (by omega)
 have h2 := nodup_leD (c.m * c.m) _ h1 fun z hz => by
  obtain ⟨x, hx, rfl⟩ := List.mem_map.1 hz
  obtain ⟨_, a1, a2⟩ := h.inL x hx
  have : (x.1 + 1) * c.m <= c.m * c.m := Nat.mul_le_mul_right _ a1
  rw [Nat.add_mul] at this
  omega
 simpa using h2
def Tk.pot (c : Tk) (told : List (Nat × Nat)) (L : List Fm) : Nat := L.length + 10010 * (c.m * c.m - told.length)
def FAt (c : Tk) (w : World) (F : Nat -> Prop) (told : List (Nat × Nat)) (L : List Fm) (X : Fm) (K : Nat × Nat -> Prop) (extra : Nat) (r : Ending) (w' : World) : Prop :=
 (∃ told' R, r = .returned (.tuple #[.int .i64 ((num (L ++ R) X : Nat) : Int), .nilIface]) /\ X ∈ L ++ R /\ Tw c w' (Up F w w') told' (L ++ R) /\ Kept (FT F c.tm) w w' /\ c.pot told' (L ++ R) <= c.pot told L + extra /\ ∀ x ∈ told', x ∈ told \/ K x) \/
 (5000 < X.size /\ ∃ e, r = .returned (.tuple #[.int .i64 0, e]) /\ Chain w' 0 0 c.aL [disB] e /\ Kept (FT F c.tm) w w')
def FOk (c : Tk) (p q : Nat) : Prop := ∀ (w : World) (F : Nat -> Prop) (told : List (Nat × Nat)) (L : List Fm), Tw c w F told L -> c.pot told L + 10010 * c.mu (p, q) <= 10000000000 ->
 Calls Tryz.prog 23 #[.pointer (some ⟨c.t, 0, none⟩), prV p q] w (FAt c w F told L (c.F (p, q)) (fun x => c.mu x <= c.mu (p, q)) 0)
end Di
namespace Di
open Go.RowKit Go.Maps
attribute [local go_sem ↓] Go.wp_at_zero Go.wp_at_succ
def ROk (c : Tk) (p q : Nat) : Prop := ∀ (w : World) (F : Nat -> Prop) (told : List (Nat × Nat)) (L : List Fm), Tw c w F told L -> (p, q) ∉ told -> c.pot told L + 10010 * c.mu (p, q) <= 10000000000 ->
 Calls Tryz.prog 42 #[.pointer (some ⟨c.t, 0, none⟩), prV p q] w (FAt c w F told L (c.F (p, q)) (fun x => c.mu x < c.mu (p, q)) 10010)
set_option maxRecDepth 100000 in
theorem lookP_yes {w : World} {tm n : Nat} {D : DataW Unit} {f : Nat -> Nat -> Option Nat} (ho : w.ownsMap (H := Unit) Tryz.prog 72 (plainElem Tryz.prog 3) tm n D) (hm : MapP D f) {p q k : Nat} (hp : p <= 1000000) (hq : q <= 1000000) (hf : f p q = some k) : (Instr.lookup 53 (.map (some tm)) (prV p q) true).run Tryz.prog w = .ok (.tuple #[.int .i64 ((k : Nat) : Int), .bool true]) w := by
 have h := hm p q hp hq
 rw [hf] at h
 obtain ⟨hy1, hy2⟩ := h
 obtain ⟨v, ps, hrun, hv⟩ := ho.look_ok lawP Tryz.underlying53 (zeroID w) (plainElem_int (a := 0) Tryz.underlying3 (by decide)) (keyOfP hp hq)
 obtain ⟨c, rfl, hc, _⟩ := plainElem_int_inv Tryz.underlying3 hv
 have hc1 := congrArg Prod.fst hc
 simp only [hy2] at hc1
 injection hc1 with hc1
 injection hc1 with _ hc1
 rw [hrun, hy1, <- hc1]
set_option maxRecDepth 100000 in
theorem lookP_no {w : World} {tm n : Nat} {D : DataW Unit} {f : Nat -> Nat -> Option Nat} (ho : w.ownsMap (H := Unit) Tryz.prog 72 (plainElem Tryz.prog 3) tm n D) (hm : MapP D f) {p q : Nat} (hp : p <= 1000000) (hq : q <= 1000000) (hf : f p q = none) : (Instr.lookup 53 (.map (some tm)) (prV p q) true).run Tryz.prog w = .ok (.tuple #[.int .i64 0, .bool false]) w := by
 have hno := hm p q hp hq
 rw [hf] at hno
 simp only at hno
 obtain ⟨v, ps, hrun, hv⟩ := ho.look_ok lawP Tryz.underlying53 (zeroID w) (plainElem_int (a := 0) Tryz.underlying3 (by decide)) (keyOfP hp hq)
 obtain ⟨c, rfl, hc, _⟩ := plainElem_int_inv Tryz.underlying3 hv
 have hc1 := congrArg Prod.fst hc
 simp only [atKey_of_not_has hno] at hc1
 injection hc1 with hc1
 injection hc1 with _ hc1
 rw [hrun, hno, <- hc1]
theorem up_below {F G : Nat -> Prop} {w w1 w' : World} (hb : Below w.heap.size w w1) (hG : ∀ i, G i -> Up F w1 w' i) : ∀ i, G i -> Up F w w' i := fun i hi => (hG i hi).imp id fun h => ⟨Nat.le_trans hb.size h.1, h.2⟩
set_option maxRecDepth 100000 in
set_option maxHeartbeats 4000000 in
theorem form_of {c : Tk} {p q : Nat} (hp : p < c.m) (hq : q < c.m) (hm : c.m <= 1000) (hRk : ROk c p q) : FOk c p q := fun w F told L hT hpot => by
 obtain ⟨w1, hw1⟩ : ∃ w1, w1 = w.alloc (.cells #[.int .i64 (p : Int), .int .i64 (q : Int)] 72) := ⟨_, rfl⟩
 have hb1 : Below w.heap.size w w1 := by rw [hw1]; exact (Below.refl _ _).alloc (Nat.le_refl _) _
 have hg1 : w1.heap[w.heap.size]? = some (.cells #[.int .i64 (p : Int), .int .i64 (q : Int)] 72 (0, 0)) := by rw [hw1]; exact heap_alloc_new w _
 have hT1 := hT.below hb1
 obtain ⟨c0, c1, c2, c3⟩ := four_cellsD hT1.st.1.box
 obtain ⟨x0, x1⟩ := two_cellsD hg1
 by_cases hin : (p, q) ∈ told
 ·have hlk : ∀ n, (Instr.lookup 53 (.map (some c.tm)) (.agg #[.int .i64 (p : Int), .int .i64 (q : Int)]) true).run Tryz.prog (w1.drewN n) = .ok (.tuple #[.int .i64 ((num L (c.F (p, q)) : Nat) : Int), .bool true]) (w1.drewN n) := fun n => by
   obtain ⟨D, h1, h2⟩ := (hT1.below (below_drewN (Below.refl _ _) n)).map
   exact lookP_yes h1 h2 (by omega) (by omega) (by unfold Tk.tf; rw [if_pos hin])
  have H : Hid _ := And.intro hw1 (And.intro hb1 (And.intro hT (And.intro hT1 hin)))
  clear hw1 hb1 hg1 hT hT1 hin hpot hRk
  unfold prV
  go_enter Tryz.func23, Tryz.ntmps23
  go_upto_region 1 with fail
  rw [<- H.out.1]
  go_quiet (fail)
  all_goals
   rename Nat => n9
   obtain ⟨w3, hw3⟩ : ∃ w3, w3 = w1.drewN n9 := ⟨_, rfl⟩
   have hb3 : Below w.heap.size w w3 := by rw [hw3]; exact below_drewN H.out.2.1 _
   rw [<- hw3]
   have H3 : Hid _ := hb3
   clear hb3 hw3 c0 c1 c2 c3 x0 x1
   go_wp2_with fail
   go_ret2
   have hx := (H.out.2.2.1.inL _ H.out.2.2.2.2).1
   have hk : Kept (FT F c.tm) w w3 := .of_below H3.out
   exact .inl ⟨told, [], by rw [List.append_nil]; rfl, by rw [List.append_nil]; exact hx, by rw [List.append_nil]; exact H.out.2.2.1.mono hk (H.out.2.2.1.below H3.out) fun i hi => .inl hi, hk, by rw [List.append_nil]; omega, fun x hx => .inl hx⟩
 ·have hlk : ∀ n, (Instr.lookup 53 (.map (some c.tm)) (.agg #[.int .i64 (p : Int), .int .i64 (q : Int)]) true).run Tryz.prog (w1.drewN n) = .ok (.tuple #[.int .i64 0, .bool false]) (w1.drewN n) := fun n => by
   obtain ⟨D, h1, h2⟩ := (hT1.below (below_drewN (Below.refl _ _) n)).map
   exact lookP_no h1 h2 (by omega) (by omega) (by unfold Tk.tf; rw [if_neg hin])
  have H : Hid _ := And.intro hw1 (And.intro hb1 (And.intro hT (And.intro hT1 (And.intro hin (And.intro hin (And.intro hpot (And.intro hRk hg1)))))))
  clear hw1 hb1 hg1 hT hT1 hin hpot hRk
  unfold prV at *
  go_enter Tryz.func23, Tryz.ntmps23
  go_upto_region 1 with fail
  rw [<- H.out.1]
  go_quiet (fail)
  all_goals
   rename Nat => n9
   obtain ⟨w3, hw3⟩ : ∃ w3, w3 = w1.drewN n9 := ⟨_, rfl⟩
   have hb13 : Below w1.heap.size w1 w3 := by rw [hw3]; exact below_drewN (Below.refl _ _) _
   have hb3 : Below w.heap.size w w3 := by rw [hw3]; exact below_drewN H.out.2.1 _
   rw [<- hw3]
   have hg3 := (hb13.block _ (t_lt H.out.2.2.2.2.2.2.2.2)).trans H.out.2.2.2.2.2.2.2.2
   have hT3 := H.out.2.2.1.below hb3
   have hR3 := H.out.2.2.2.2.2.2.2.1 w3 F told L hT3 H.out.2.2.2.2.1 H.out.2.2.2.2.2.2.1
   unfold prV at hR3
   have H3 : Hid _ := And.intro hb3 (And.intro hg3 (And.intro hT3 hR3))
   clear c0 c1 c2 c3 x0 x1 hlk hb3 hb13 hw3 hT3 hR3
   obtain ⟨x0, x1⟩ := two_cellsD hg3
   clear hg3
   go_wp2_with fail
   refine Calls.mono H3.out.2.2.2 ?_
   rintro r w4 (⟨told4, R, rfl, hX, hT4, hk4, hpt, hnew⟩ | ⟨hbig, e, rfl, hC, hk4⟩)
   ·have hg4 := (hk4.block _ (t_lt H3.out.2.1) (fun h => by
     rcases h with h | h
     ·have := H.out.2.2.1.bf.bk.lt _ h; omega
     ·have := H.out.2.2.1.tmlt; omega)).trans H3.out.2.1
    have hno4 : (p, q) ∉ told4 := fun h => (hnew _ h).elim H.out.2.2.2.2.1 fun h => absurd h (Nat.lt_irrefl _)
    obtain ⟨N, hN⟩ : ∃ N, N = num (L ++ R) (c.F (p, q)) := ⟨_, rfl⟩
    have hNl : N <= 100000000000 := by
     have h1 := num_le hX
     have h2 := H.out.2.2.2.2.2.2.1
     unfold Tk.pot at hpt h2
     omega
    obtain ⟨w5, hw5⟩ : ∃ w5, w5 = w4.drew := ⟨_, rfl⟩
    have hb5 : Below w4.heap.size w4 w5 := by rw [hw5]; exact (Below.refl _ _).drew
    have hT5 := hT4.below hb5
    obtain ⟨D, hD, hM⟩ := hT5.map
    have htl : told4.length < maxLen := by have := hT5.told_le; have : c.m * c.m <= 1000 * 1000 := Nat.mul_le_mul hm hm; unfold maxLen; omega
    obtain ⟨w6, hrun, ho6, hg6⟩ := hD.update lawP Tryz.underlying53 htl (keyOfP (p := p) (q := q) (by omega) (by omega)) (plainElem_int (a := (N : Int)) Tryz.underlying3 (sm_nat (n := N) (by omega)).wf)
    unfold prV at hrun
    rw [hw5] at hrun
    obtain ⟨c0, c1, c2, c3⟩ := four_cellsD hT4.st.1.box
    clear x0 x1
    obtain ⟨x0, x1⟩ := two_cellsD hg4
    rw [<- hN]
    have hfin := hT5.tell hD.isMap hM hX hp hq hm hno4 (by rw [<- hN]; exact ho6) hg6
    have H4 : Hid _ := And.intro hX (And.intro hT4 (And.intro hk4 (And.intro hpt (And.intro hnew (And.intro hN (And.intro hb5 (And.intro hfin hno4)))))))
    clear hX hT4 hk4 hpt hnew hno4 hN hNl hb5 hT5 hD hM htl ho6 hg6 hfin hg4 hw5
    go_wp2_with fail
    go_region
    all_goals
     go_wp2_with fail
     go_ret2
     obtain ⟨g1, g2, g3, g4, g5, g6, g7, ⟨g8, g9⟩, g10⟩ := H4.out
     have k3 : Kept (FT F c.tm) w w3 := .of_below H3.out.1
     have k4 := k3.trans g3
     have k6 : Kept (FT F c.tm) w w6 := ft_trans (G := Up F w3 w4) (k4.trans (.of_below g7)) g9 fun i hi => by
      have h := up_below H3.out.1 (fun _ e => e) i hi
      exact h.imp id fun h => ⟨h.1, Nat.lt_of_lt_of_le h.2 g7.size⟩
     refine .inl ⟨(p, q) :: told4, R, by rw [<- g6]; rfl, g1, H.out.2.2.1.mono k6 g8 fun i hi => ?_, k6, ?_, fun x hx => ?_⟩
     ·have h := up_below H3.out.1 (fun _ e => e) i hi
      exact h.imp id fun h => ⟨h.1, Nat.lt_of_lt_of_le h.2 (Nat.le_trans g7.size g9.size)⟩
     ·have h1 := g8.told_le
      unfold Tk.pot at g4 ⊢
      simp only [List.length_cons] at h1 ⊢
      omega
     ·rcases List.mem_cons.1 hx with rfl | hx
      ·exact .inr (Nat.le_refl _)
      ·exact (g5 x hx).imp id Nat.le_of_lt
   ·obtain ⟨T, u, rfl⟩ : ∃ T u, e = .iface T u := by
     obtain ⟨b, u, h, _⟩ := hC
     exact ⟨_, _, h⟩
    have H4 : Hid _ := And.intro hbig (And.intro hC hk4)
    clear hbig hC hk4 x0 x1
    go_wp2_with fail
    go_ret2
    have hk : Kept (FT F c.tm) w w3 := .of_below H3.out.1
    exact .inr ⟨H4.out.1, _, rfl, H4.out.2.1, hk.trans H4.out.2.2⟩
end Di
namespace Di
open Go.RowKit Go.Maps
attribute [local go_sem ↓] Go.wp_at_zero Go.wp_at_succ
theorem chain_iface {w : World} {a : Addr} {s : ByteArray} {v : Value} (h : Chain w 0 0 a [s] v) : ∃ T u, v = .iface T u := by
 obtain ⟨b, u, h1, _⟩ := h
 exact ⟨_, _, h1⟩
set_option maxRecDepth 100000 in
set_option maxHeartbeats 1000000 in
theorem not_any (aL : Addr) (b : Nat) (L : List Fm) (F : Nat -> Prop) (a : Fm) (w : World) (hE : EnvD w aL) (hB : Bf w b L F) (hx : a ∈ L) (hlen : L.length < 100000000000) :
 Calls Tryz.prog 60 #[.pointer (some ⟨b, 0, none⟩), .int .i64 ((num L a : Nat) : Int)] w (PutAt aL b L F (.neg a) w) := by
 have hP := put_any aL b L F (.neg a) w hE hB hx hlen
 simp only [en, En.v] at hP
 have hP := hP.mono (R' := fun r w' => PutAt aL b L F (.neg a) w r w' /\ ∃ x y, r = .returned (.tuple #[.int .i64 x, y]) /\ (y = .nilIface \/ ∃ T u, y = .iface T u)) fun r w' h => ⟨h, h.elim (fun h => ⟨_, _, h.2.1, .inl rfl⟩) fun h => by obtain ⟨_, e, h1, h2, _⟩ := h; exact ⟨_, _, h1, .inr (chain_iface h2)⟩⟩
 have H : Hid _ := hP
 clear hP hE hB hx hlen
 go_enter Tryz.func60, Tryz.ntmps60
 go_wp2_with fail
 refine Calls.mono H.out ?_
 rintro r w2 ⟨h, x, y, rfl, hy⟩
 have H2 : Hid (PutAt aL b L F (.neg a) w (.returned (.tuple #[.int .i64 x, y])) w2) := h
 clear h
 rcases hy with rfl | ⟨T, u, rfl⟩
 all_goals
  go_wp2_with fail
  go_ret2
  exact H2.out
set_option maxRecDepth 100000 in
set_option maxHeartbeats 1000000 in
theorem may_any (aL : Addr) (b : Nat) (L : List Fm) (F : Nat -> Prop) (l : Int) (a : Fm) (w : World) (hE : EnvD w aL) (hB : Bf w b L F) (hx : a ∈ L) (hl : 0 <= l /\ l <= 300) (hlen : L.length < 100000000000) :
 Calls Tryz.prog 63 #[.pointer (some ⟨b, 0, none⟩), .int .i64 l, .int .i64 ((num L a : Nat) : Int)] w (PutAt aL b L F (.may l a) w) := by
 have hP := put_any aL b L F (.may l a) w hE hB ⟨hx, hl⟩ hlen
 simp only [en, En.v] at hP
 have hP := hP.mono (R' := fun r w' => PutAt aL b L F (.may l a) w r w' /\ ∃ x y, r = .returned (.tuple #[.int .i64 x, y]) /\ (y = .nilIface \/ ∃ T u, y = .iface T u)) fun r w' h => ⟨h, h.elim (fun h => ⟨_, _, h.2.1, .inl rfl⟩) fun h => by obtain ⟨_, e, h1, h2, _⟩ := h; exact ⟨_, _, h1, .inr (chain_iface h2)⟩⟩
 have H : Hid _ := hP
 clear hP hE hB hx hlen
 go_enter Tryz.func63, Tryz.ntmps63
 go_wp2_with fail
 refine Calls.mono H.out ?_
 rintro r w2 ⟨h, x, y, rfl, hy⟩
 have H2 : Hid (PutAt aL b L F (.may l a) w (.returned (.tuple #[.int .i64 x, y])) w2) := h
 clear h
 rcases hy with rfl | ⟨T, u, rfl⟩
 all_goals
  go_wp2_with fail
  go_ret2
  exact H2.out
set_option maxRecDepth 100000 in
set_option maxHeartbeats 1000000 in
theorem every_any (aL : Addr) (b : Nat) (L : List Fm) (F : Nat -> Prop) (w : World) (hE : EnvD w aL) (hB : Bf w b L F) (hlen : L.length < 100000000000) :
 Calls Tryz.prog 85 #[.pointer (some ⟨b, 0, none⟩)] w (PutAt aL b L F .tt w) := by
 have hP := put_any aL b L F .tt w hE hB trivial hlen
 simp only [en, En.v] at hP
 have hP := hP.mono (R' := fun r w' => PutAt aL b L F .tt w r w' /\ ∃ x y, r = .returned (.tuple #[.int .i64 x, y]) /\ (y = .nilIface \/ ∃ T u, y = .iface T u)) fun r w' h => ⟨h, h.elim (fun h => ⟨_, _, h.2.1, .inl rfl⟩) fun h => by obtain ⟨_, e, h1, h2, _⟩ := h; exact ⟨_, _, h1, .inr (chain_iface h2)⟩⟩
 have H : Hid _ := hP
 clear hP hE hB hlen
 go_enter Tryz.func85, Tryz.ntmps85
 go_wp2_with fail
 refine Calls.mono H.out ?_
 rintro r w2 ⟨h, x, y, rfl, hy⟩
 have H2 : Hid (PutAt aL b L F .tt w (.returned (.tuple #[.int .i64 x, y])) w2) := h
 clear h
 rcases hy with rfl | ⟨T, u, rfl⟩
 all_goals
  go_wp2_with fail
  go_ret2
  exact H2.out
theorem and_zero (b : Nat) (n : Int) (w : World) : Calls Tryz.prog 86 #[.pointer (some ⟨b, 0, none⟩), .int .i64 0, .int .i64 n] w fun r w' => r = .returned (.tuple #[.int .i64 n, .nilIface]) /\ w' = w := by
 go_enter Tryz.func86, Tryz.ntmps86
 go_wp2_with fail
 go_ret2
 exact ⟨rfl, rfl⟩
set_option maxRecDepth 100000 in
set_option maxHeartbeats 1000000 in
theorem and_any (aL : Addr) (b : Nat) (L : List Fm) (F : Nat -> Prop) (x y : Fm) (w : World) (hE : EnvD w aL) (hB : Bf w b L F) (hx : x ∈ L) (hy : y ∈ L) (hlen : L.length < 100000000000) :
 Calls Tryz.prog 86 #[.pointer (some ⟨b, 0, none⟩), .int .i64 ((num L x : Nat) : Int), .int .i64 ((num L y : Nat) : Int)] w (PutAt aL b L F (.both x y) w) := by
 have hP := put_any aL b L F (.both x y) w hE hB ⟨hx, hy⟩ hlen
 simp only [en, En.v] at hP
 have hP := hP.mono (R' := fun r w' => PutAt aL b L F (.both x y) w r w' /\ ∃ x y, r = .returned (.tuple #[.int .i64 x, y]) /\ (y = .nilIface \/ ∃ T u, y = .iface T u)) fun r w' h => ⟨h, h.elim (fun h => ⟨_, _, h.2.1, .inl rfl⟩) fun h => by obtain ⟨_, e, h1, h2, _⟩ := h; exact ⟨_, _, h1, .inr (chain_iface h2)⟩⟩
 have hn := num_pos L x
 obtain ⟨n, hnn⟩ : ∃ n, n = num L x := ⟨_, rfl⟩
 obtain ⟨k, hk⟩ : ∃ k, k = num L y := ⟨_, rfl⟩
 rw [<- hnn, <- hk] at hP
 rw [<- hnn, <- hk]
 rw [<- hnn] at hn
 have h0 : ¬ ((n : Int) = 0) := by omega
 have H : Hid _ := hP
 clear hP hE hB hx hy hlen hnn hk
 go_enter Tryz.func86, Tryz.ntmps86
 go_wp2_with fail
 refine Calls.mono H.out ?_
 rintro r w2 ⟨h, x9, y9, rfl, hy⟩
 have H2 : Hid (PutAt aL b L F (.both x y) w (.returned (.tuple #[.int .i64 x9, y9])) w2) := h
 clear h
 rcases hy with rfl | ⟨T, u, rfl⟩
 all_goals
  go_wp2_with fail
  go_ret2
  exact H2.out
end Di
namespace Di
open Go.RowKit Go.Maps
attribute [local go_sem ↓] Go.wp_at_zero Go.wp_at_succ
theorem lawI : Keyed Tryz.prog 3 := int_keyed Tryz.underlying3
theorem zeroU (w : World) : (zeroValue 190).run Tryz.prog w = .ok (.agg #[]) w := by kernel_rfl
def SetOf (D : DataW Unit) (zs : List Nat) : Prop := ∀ z : Nat, Maps.has D (.int .i64 (z : Int)) = decide (z ∈ zs)
theorem SetOf.nil : SetOf (.map []) [] := fun z => by simp [Maps.has]
theorem SetOf.more {D : DataW Unit} {zs : List Nat} (h : SetOf D zs) (hD : IsMap D) (p : Nat) : SetOf (D.put (.int .i64 (p : Int)) (.agg [])) (zs ++ [p]) := fun z => by
 have ik : ∀ z : Int, WideAt.IsKeyLit (.int .i64 z) := fun _ => trivial
 by_cases e : z = p
 ·subst e
  rw [has_put_same hD (ik _)]; simp
 ·rw [has_put_other (fun e' => e (by injection e' with _ e2; omega)), h z]
  simp [e]
structure Pg (c : Tk) (w wr : World) (F Fj : Nat -> Prop) (told toldj : List (Nat × Nat)) (L R : List Fm) (l : List Fm) (jv : Int) (bm : Nat) (zs : List Nat) (M : Nat) : Prop where
 tw : Tw c wr Fj toldj (L ++ R)
 sub : ∀ i, Fj i -> Up F w wr i
 kp : Kept (FT F c.tm) w wr
 pot : c.pot toldj (L ++ R) <= c.pot told L + l.length
 new : ∀ x ∈ toldj, x ∈ told \/ c.mu x <= M
 nb : ¬ FT Fj c.tm bm
 up : w.heap.size <= bm
 zn : ∀ z, z ∈ zs ↔ ∃ x ∈ l, z = num (L ++ R) x
 zl : zs.length <= l.length
 mem : ∀ x ∈ l, x ∈ L ++ R
 jn0 : l = [] -> jv = 0
 jn1 : l ≠ [] -> jn l ∈ L ++ R /\ jv = ((num (L ++ R) (jn l) : Nat) : Int)
theorem Pg.formed {c : Tk} {w wr wb w2 : World} {F Fj : Nat -> Prop} {told toldj told2 : List (Nat × Nat)} {L R R2 l : List Fm} {jv : Int} {bm : Nat} {zs : List Nat} {M : Nat} {x : Nat × Nat} (h : Pg c w wr F Fj told toldj L R l jv bm zs M) (hbl : bm < wr.heap.size) (hb : Below wr.heap.size wr wb)
 (hT : Tw c w2 (Up Fj wb w2) told2 ((L ++ R) ++ R2)) (hk : Kept (FT Fj c.tm) wb w2) (hp : c.pot told2 ((L ++ R) ++ R2) <= c.pot toldj (L ++ R) + 0) (hn : ∀ y ∈ told2, y ∈ toldj \/ c.mu y <= c.mu x) (hx : c.mu x <= M) :
 Pg c w w2 F (Up Fj wb w2) told told2 L (R ++ R2) l jv bm zs M := by
 rw [List.append_assoc] at hT hp
 have hkw : Kept (FT F c.tm) w w2 := ft_trans (G := Fj) (h.kp.trans (.of_below hb)) hk fun i hi => (h.sub i hi).imp id fun h1 => ⟨h1.1, Nat.lt_of_lt_of_le h1.2 hb.size⟩
 have hnum : ∀ y ∈ L ++ R, num (L ++ (R ++ R2)) y = num (L ++ R) y := fun y hy => by rw [<- List.append_assoc]; exact num_left R2 hy
 have hsub : ∀ y ∈ L ++ R, y ∈ L ++ (R ++ R2) := fun y hy => by rw [<- List.append_assoc]; exact List.mem_append_left _ hy
 refine ⟨hT, fun i hi => ?_, hkw, by have := h.pot; omega, fun y hy => (hn y hy).elim (h.new y) fun h1 => .inr (Nat.le_trans h1 hx), fun e => ?_, h.up, fun z => ?_, h.zl, fun y hy => hsub y (h.mem y hy), h.jn0, fun hl => ⟨hsub _ (h.jn1 hl).1, by rw [hnum _ (h.jn1 hl).1]; exact (h.jn1 hl).2⟩⟩
 ·rcases hi with hi | hi
  ·exact (h.sub i hi).imp id fun h1 => ⟨h1.1, by have := hb.size; have := hk.size; omega⟩
  ·exact .inr ⟨by have := h.kp.size; have := hb.size; omega, hi.2⟩
 ·rcases e with e | e
  ·rcases e with e | e
   ·exact h.nb (.inl e)
   ·have := hb.size; omega
  ·exact h.nb (.inr e)
 ·rw [h.zn z]
  exact ⟨fun ⟨y, hy, e⟩ => ⟨y, hy, by rw [hnum y (h.mem y hy)]; exact e⟩, fun ⟨y, hy, e⟩ => ⟨y, hy, by rw [hnum y (h.mem y hy)] at e; exact e⟩⟩
theorem Pg.turn {c : Tk} {w wr w4 : World} {F Fj X : Nat -> Prop} {told toldj : List (Nat × Nat)} {L R l : List Fm} {jv : Int} {bm : Nat} {zs : List Nat} {M : Nat} (h : Pg c w wr F Fj told toldj L R l jv bm zs M) (h0 : Tw c w F told L) (hk : Kept X wr w4) (hX : ∀ i, X i -> i = bm) : Pg c w w4 F Fj told toldj L R l jv bm zs M := by
 obtain ⟨k1, k2, k3⟩ := h0.rebase h.tw h.sub h.kp hk fun i hi => by
  have e := hX i hi
  subst e
  exact ⟨fun hf => h.nb (.inl hf), fun e => h.nb (.inr e), h.up⟩
 exact ⟨k1, k3, k2, h.pot, h.new, h.nb, h.up, h.zn, h.zl, h.mem, h.jn0, h.jn1⟩
theorem Pg.skip {c : Tk} {w wr : World} {F Fj : Nat -> Prop} {told toldj : List (Nat × Nat)} {L R l : List Fm} {jv : Int} {bm : Nat} {zs : List Nat} {M : Nat} {x : Fm} (h : Pg c w wr F Fj told toldj L R l jv bm zs M) (hx : x ∈ L ++ R) (hz : num (L ++ R) x ∈ zs) : Pg c w wr F Fj told toldj L R (l ++ [x]) jv bm zs M := by
 obtain ⟨y, hy, e⟩ := (h.zn _).1 hz
 have e2 := num_inj hx (h.mem y hy) e
 subst e2
 have hne : l ≠ [] := fun e => by rw [e] at hy; simp at hy
 have hj : jn (l ++ [x]) = jn l := by rw [dd_snoc_join l x hne, if_pos ((Ro.mem_dd l).2 hy)]
 refine ⟨h.tw, h.sub, h.kp, by have := h.pot; rw [List.length_append]; simp; omega, h.new, h.nb, h.up, fun z => ?_, by have := h.zl; rw [List.length_append]; omega, fun y hy2 => ?_, fun e => by simp at e, fun _ => by rw [hj]; exact h.jn1 hne⟩
 ·rw [h.zn z]
  exact ⟨fun ⟨y, h1, h2⟩ => ⟨y, List.mem_append_left _ h1, h2⟩, fun ⟨y, h1, h2⟩ => (List.mem_append.1 h1).elim (fun h3 => ⟨y, h3, h2⟩) fun h3 => ⟨x, hy, by rw [List.mem_singleton.1 h3] at h2; exact h2⟩⟩
 ·rcases List.mem_append.1 hy2 with h3 | h3
  ·exact h.mem y h3
  ·rw [List.mem_singleton.1 h3]; exact hx
theorem Pg.zn_more {c : Tk} {w wr : World} {F Fj : Nat -> Prop} {told toldj : List (Nat × Nat)} {L R l : List Fm} {jv : Int} {bm : Nat} {zs : List Nat} {M : Nat} {x : Fm} (h : Pg c w wr F Fj told toldj L R l jv bm zs M) (z : Nat) : z ∈ zs ++ [num (L ++ R) x] ↔ ∃ y ∈ l ++ [x], z = num (L ++ R) y := by
 constructor
 ·intro hz
  rcases List.mem_append.1 hz with h1 | h1
  ·obtain ⟨y, h2, h3⟩ := (h.zn z).1 h1
   exact ⟨y, List.mem_append_left _ h2, h3⟩
  ·exact ⟨x, by simp, List.mem_singleton.1 h1⟩
 ·rintro ⟨y, h1, h2⟩
  rcases List.mem_append.1 h1 with h3 | h3
  ·exact List.mem_append_left _ ((h.zn z).2 ⟨y, h3, h2⟩)
  ·rw [List.mem_singleton.1 h3] at h2
   exact List.mem_append_right _ (by rw [h2]; exact List.mem_singleton_self _)
theorem Pg.first {c : Tk} {w wr : World} {F Fj : Nat -> Prop} {told toldj : List (Nat × Nat)} {L R : List Fm} {jv : Int} {bm : Nat} {zs : List Nat} {M : Nat} {x : Fm} (h : Pg c w wr F Fj told toldj L R [] jv bm zs M) (hx : x ∈ L ++ R) : Pg c w wr F Fj told toldj L R ([] ++ [x]) ((num (L ++ R) x : Nat) : Int) bm (zs ++ [num (L ++ R) x]) M :=
 ⟨h.tw, h.sub, h.kp, Nat.le_trans h.pot (by simp), h.new, h.nb, h.up, h.zn_more, by have := h.zl; simp at this ⊢; omega, fun y hy => by simp at hy; rw [hy]; exact hx, fun e => by simp at e, fun _ => ⟨hx, rfl⟩⟩
theorem Pg.joined {c : Tk} {w wr w5 : World} {F Fj : Nat -> Prop} {told toldj : List (Nat × Nat)} {L R l r : List Fm} {jv : Int} {bm : Nat} {zs : List Nat} {M : Nat} {x : Fm} (h : Pg c w wr F Fj told toldj L R l jv bm zs M) (hbl : bm < wr.heap.size) (hl : l ≠ []) (hx : x ∈ L ++ R) (hno : num (L ++ R) x ∉ zs)
 (hB : Bf w5 c.b ((L ++ R) ++ r) (Up Fj wr w5)) (hk : Kept Fj wr w5) (hr : more (L ++ R) (.both (jn l) x) = (L ++ R) ++ r) (hrl : r.length <= 1) : Pg c w w5 F (Up Fj wr w5) told toldj L (R ++ r) (l ++ [x]) ((num (L ++ (R ++ r)) (.both (jn l) x) : Nat) : Int) bm (zs ++ [num (L ++ R) x]) M := by
 have hnl : x ∉ Ro.dd l := fun e => hno ((h.zn _).2 ⟨x, (Ro.mem_dd l).1 e, rfl⟩)
 have hj : jn (l ++ [x]) = .both (jn l) x := by rw [dd_snoc_join l x hl, if_neg hnl]
 have hT := h.tw.put hB hk fun _ e => e
 have hm := mem_more (L ++ R) (.both (jn l) x)
 rw [hr, List.append_assoc] at hm
 rw [List.append_assoc] at hT
 have hnum : ∀ y ∈ L ++ R, num (L ++ (R ++ r)) y = num (L ++ R) y := fun y hy => by rw [<- List.append_assoc]; exact num_left r hy
 have hsub : ∀ y ∈ L ++ R, y ∈ L ++ (R ++ r) := fun y hy => by rw [<- List.append_assoc]; exact List.mem_append_left _ hy
 refine ⟨hT, fun i hi => ?_, ft_trans (G := Fj) h.kp (kept_ft hk) h.sub, ?_, h.new, fun e => ?_, h.up, fun z => ?_, by have := h.zl; rw [List.length_append, List.length_append]; simp; omega, fun y hy => ?_, fun e => by simp at e, fun _ => by rw [hj]; exact ⟨hm, rfl⟩⟩
 ·rcases hi with hi | hi
  ·exact (h.sub i hi).imp id fun h1 => ⟨h1.1, Nat.lt_of_lt_of_le h1.2 hk.size⟩
  ·exact .inr ⟨by have := h.kp.size; omega, hi.2⟩
 ·have h1 := h.pot
  unfold Tk.pot at h1 ⊢
  simp only [List.length_append, List.length_cons, List.length_nil] at h1 ⊢
  omega
 ·rcases e with e | e
  ·rcases e with e | e
   ·exact h.nb (.inl e)
   ·omega
  ·exact h.nb (.inr e)
 ·rw [h.zn_more (x := x) z]
  have hml : ∀ y ∈ l ++ [x], y ∈ L ++ R := fun y hy => (List.mem_append.1 hy).elim (h.mem y) fun h3 => by rw [List.mem_singleton.1 h3]; exact hx
  exact ⟨fun ⟨y, hy, e⟩ => ⟨y, hy, by rw [hnum y (hml y hy)]; exact e⟩, fun ⟨y, hy, e⟩ => ⟨y, hy, by rw [hnum y (hml y hy)] at e; exact e⟩⟩
 ·rcases List.mem_append.1 hy with h3 | h3
  ·exact hsub y (h.mem y h3)
  ·rw [List.mem_singleton.1 h3]; exact hsub x hx
def Tk.G (c : Tk) (p' : Nat) (y : Ro.St) : Fm := c.F (p', y.2.toNat)
set_option maxRecDepth 100000 in
set_option maxHeartbeats 16000000 in
theorem part_of {c : Tk} {p' : Nat} {ys : List Ro.St} {M : Nat} (hys : ∀ y ∈ ys, 0 <= y.2 /\ y.2 < (c.m : Int) /\ c.mu (p', y.2.toNat) <= M /\ FOk c p' y.2.toNat) (hyl : ys.length <= 10000)
 (w : World) (F : Nat -> Prop) (told : List (Nat × Nat)) (L : List Fm) (v : Value) (hT : Tw c w F told L) (hv : ∀ W, c.St W -> BSteps.Has W v ys) (hpot : c.pot told L + 10010 * M + 10001 <= 10000000000) :
 Calls Tryz.prog 61 #[.pointer (some ⟨c.t, 0, none⟩), .int .i64 (p' : Int), v] w (FAt c w F told L (jn (ys.map (c.G p'))) (fun x => c.mu x <= M) (ys.length + 1)) := by
 obtain ⟨av, cv, rfl, _⟩ := hv w hT.st
 have hE := hT.env
 obtain ⟨aL, haL⟩ : ∃ aL, aL = c.aL := ⟨_, rfl⟩
 rw [<- haL] at hE
 obtain ⟨n, hn⟩ : ∃ n, n = ys.length := ⟨_, rfl⟩
 rw [<- hn] at hv hyl ⊢
 have hLl : L.length <= 10000000000 := by unfold Tk.pot at hpot; omega
 by_cases h0 : n = 0
 ·subst h0
  have hy0 : ys = [] := List.eq_nil_of_length_eq_zero hn.symm
  subst hy0
  obtain ⟨c0, c1, c2, c3⟩ := four_cellsD hT.st.1.box
  have hEv := (every_any aL c.b L F w hE hT.bf (by omega)).mono (R' := fun r w' => PutAt aL c.b L F .tt w r w' /\ ∃ x y, r = .returned (.tuple #[.int .i64 x, y]) /\ (y = .nilIface \/ ∃ T u, y = .iface T u)) fun r w' h => ⟨h, h.elim (fun h => ⟨_, _, h.2.1, .inl rfl⟩) fun h => by obtain ⟨_, e, h1, h2, _⟩ := h; exact ⟨_, _, h1, .inr (chain_iface h2)⟩⟩
  have H : Hid _ := And.intro hEv (And.intro hT haL)
  clear hEv hv hE hys hn hpot hT haL
  go_enter Tryz.func61, Tryz.ntmps61
  go_wp2_with fail
  refine Calls.mono H.out.1 ?_
  rintro r w2 ⟨h, x9, y9, rfl, hy⟩
  have hfin : FAt c w F told L .tt (fun x => c.mu x <= M) (0 + 1) (.returned (.tuple #[.int .i64 x9, y9])) w2 := by
   rcases h with ⟨h1, h2, h3, h4⟩ | ⟨h1, e, h2, h3, h4⟩
   ·obtain ⟨r, hr, hrl⟩ := more_eq L .tt
    have hmem := mem_more L .tt
    rw [hr] at h2 h3 hmem
    refine .inl ⟨told, r, h2, hmem, H.out.2.1.put h3 h4 (fun _ e => e), kept_ft h4, ?_, fun x hx => .inl hx⟩
    unfold Tk.pot
    rw [List.length_append]; omega
   ·exact .inr ⟨h1, e, h2, by rw [<- H.out.2.2]; exact h3, .of_below h4⟩
  have H2 : Hid (FAt c w F told L .tt (fun x => c.mu x <= M) (0 + 1) (.returned (.tuple #[.int .i64 x9, y9])) w2) := hfin
  clear h hfin c0 c1 c2 c3
  rcases hy with rfl | ⟨T, u, rfl⟩
  all_goals
   go_wp2_with fail
   go_ret2
   exact H2.out
 ·have hmm := @run_makeMap Tryz.prog
  obtain ⟨w1, hw1⟩ : ∃ w1, w1 = w.alloc (.map #[] 0) := ⟨_, rfl⟩
  have hb1 : Below w.heap.size w w1 := by rw [hw1]; exact (Below.refl _ _).alloc (Nat.le_refl _) _
  have ho1 := World.ownsMap_made (H := Unit) w Tryz.prog 3 unitElem
  rw [<- hw1] at ho1
  have hP : Pg c w w1 F F told told L [] [] 0 w.heap.size [] M := ⟨by rw [List.append_nil]; exact hT.below hb1, fun i hi => .inl hi, .of_below hb1, by rw [List.append_nil]; exact Nat.le_refl _, fun x hx => .inl hx, fun h => by have := hT.lt h; omega, Nat.le_refl _, fun z => by simp, Nat.zero_le _, fun x hx => by simp at hx, fun _ => rfl, fun h => absurd rfl h⟩
  have hne : ((n : Int) == 0) = false := by rw [beq_eq_false_iff_ne]; omega
  have H : Hid _ := And.intro hw1 (And.intro hP (And.intro ho1 (And.intro hT (And.intro hv (And.intro haL (And.intro hys (And.intro hn hpot)))))))
  clear hw1 hb1 ho1 hP hT hv hE hys hn hpot haL
  go_enter Tryz.func61, Tryz.ntmps61
  go_wp2_with fail
  rw [<- H.out.1]
  clear hmm
  go_loopg [29, 8] n (fun q iv jw wr => ∃ (j : Nat) (Fj : Nat -> Prop) (toldj : List (Nat × Nat)) (R : List Fm) (jv : Int) (zs : List Nat) (D : DataW Unit), q = n - j /\ j <= n /\ iv = .int .i64 j /\ jw = .int .i64 jv /\ Pg c w wr F Fj told toldj L R ((ys.take j).map (c.G p')) jv w.heap.size zs M /\ wr.ownsMap (H := Unit) Tryz.prog 3 unitElem w.heap.size zs.length D /\ SetOf D zs)
  case atStart => exact ⟨0, F, told, [], 0, [], .map [], rfl, Nat.zero_le _, rfl, rfl, H.out.2.1, H.out.2.2.1, SetOf.nil⟩
  case round =>
   obtain ⟨j, Fj, toldj, R, jv, zs, D, rfl, hj, rfl, rfl, hP, ho, hD⟩ := hrel
   obtain ⟨wq, rfl⟩ : ∃ wq, wq = wr := ⟨_, rfl⟩
   by_cases hlt : j < n
   ·have hvq := H.out.2.2.2.2.1 wq hP.tw.st
    obtain ⟨z, hz⟩ : ∃ z, ys[j]? = some z := ⟨ys[j]'(by have := H.out.2.2.2.2.2.2.2.1; omega), List.getElem?_eq_getElem _⟩
    obtain ⟨hz1, hz2, hz3, hz4⟩ := H.out.2.2.2.2.2.2.1 z (List.mem_of_getElem? hz)
    have hst : (ys.take (j + 1)).map (c.G p') = (ys.take j).map (c.G p') ++ [c.G p' z] := by rw [take_snocD hz, List.map_append]; rfl
    have hdr : ys.map (c.G p') = (ys.take (j + 1)).map (c.G p') ++ (ys.drop (j + 1)).map (c.G p') := by rw [<- List.map_append, List.take_append_drop]
    obtain ⟨a, rfl, d0, d1⟩ := step_at hvq hz
    obtain ⟨l, to'⟩ := z
    obtain ⟨s, rfl⟩ : ∃ s : Nat, to' = (s : Int) := ⟨to'.toNat, by simp only at hz1; omega⟩
    simp only [Int.toNat_natCast] at d0 d1 hz1 hz2 hz3 hz4
    obtain ⟨x, hx⟩ : ∃ x, x = c.G p' (l, (s : Int)) := ⟨_, rfl⟩
    have hxF : c.F (p', s) = x := by rw [hx]; rfl
    rw [<- hx] at hst
    obtain ⟨ll, hll⟩ : ∃ ll, ll = (ys.take j).map (c.G p') := ⟨_, rfl⟩
    rw [<- hll] at hP hst
    have hlen : ll.length = j := by rw [hll, List.length_map, List.length_take]; have := H.out.2.2.2.2.2.2.2.1; omega
    have q4 : (0 : Int) <= (j : Int) := by omega
    have q5 : (j : Int) < (n : Int) := by omega
    obtain ⟨wb, hwb⟩ : ∃ wb, wb = wq.alloc (.cells #[.int .i64 l, .int .i64 (s : Int)] 111) := ⟨_, rfl⟩
    have hbb : Below wq.heap.size wq wb := by rw [hwb]; exact (Below.refl _ _).alloc (Nat.le_refl _) _
    have hgb : wb.heap[wq.heap.size]? = some (.cells #[.int .i64 l, .int .i64 (s : Int)] 111 (0, 0)) := by rw [hwb]; exact heap_alloc_new wq _
    have hFm := hz4 wb Fj toldj (L ++ R) (hP.tw.below hbb) (by have h1 := hP.pot; have h2 := H.out.2.2.2.2.2.2.2.2; omega)
    rw [hxF] at hFm
    unfold prV at hFm
    obtain ⟨y0, y1⟩ := two_cellsD hgb
    have HB : Hid _ := And.intro hwb (And.intro hbb (And.intro hP (And.intro ho (And.intro hD (And.intro hst (And.intro hdr (And.intro hlen (And.intro hz3 (And.intro hFm hll)))))))))
    clear hwb hbb hgb hP ho hD hst hdr hlen hz3 hFm hvq hz hz4 hx hxF hll
    go_upto_region 8 with fail
    rw [<- HB.out.1]
    clear d0 d1
    go_wp2_with fail
    refine Calls.mono HB.out.2.2.2.2.2.2.2.2.2.1 ?_
    rintro r w2 (⟨told2, R2, rfl, hX2, hT2, hk2, hp2, hn2⟩ | ⟨hbig, e, rfl, hC, hk2⟩)
    ·have hbl := HB.out.2.2.2.1.lt
     have hP2 := HB.out.2.2.1.formed hbl HB.out.2.1 hT2 hk2 hp2 hn2 HB.out.2.2.2.2.2.2.2.2.1
     have ho2 := map_at HB.out.2.2.2.1 ((hk2.block _ (Nat.lt_of_lt_of_le hbl HB.out.2.1.size) fun e => HB.out.2.2.1.nb e).trans (HB.out.2.1.block _ hbl))
     rw [List.append_assoc] at hX2
     obtain ⟨N, hN⟩ : ∃ N, N = num (L ++ (R ++ R2)) x := ⟨_, rfl⟩
     have hNl : N <= 100000000000 := by
      have h1 := num_le hX2
      have h2 := hP2.pot
      have h3 := H.out.2.2.2.2.2.2.2.2
      have h4 := HB.out.2.2.2.2.2.2.2.1
      unfold Tk.pot at h2 h3
      omega
     have hwf := (sm_nat (n := N) (by omega)).wf
     obtain ⟨uv, ups, hlook, huv⟩ := ho2.look_ok lawI Tryz.underlying189 (zeroU w2) unitElem_mk (keyOf_int_mk (a := (N : Int)) Tryz.underlying3 hwf)
     obtain ⟨rfl, _⟩ := unitElem_inv huv
     rw [HB.out.2.2.2.2.1 N] at hlook
     clear huv
     have hnN : ((num ((L ++ R) ++ R2) x : Nat) : Int) = (N : Int) := by rw [hN, List.append_assoc]
     rw [hnN]
     clear hnN y0 y1
     have hna : Below w2.heap.size w2 (w2.alloc (.cells #[] 190)) := (Below.refl _ _).alloc (Nat.le_refl _) _
     by_cases hin : N ∈ zs
     ·rw [decide_eq_true hin] at hlook
      have HJ : Hid _ := And.intro hP2 (And.intro hX2 (And.intro hN (And.intro hin (And.intro ho2 hna))))
      clear hP2 hX2 hN hin ho2 hna hT2 hk2 hp2 hn2
      go_wp2_with fail
      go_roundg (n - (j + 1))
      case measure => omega
      case rel =>
       obtain ⟨g1, g2, g3, g4, g5, g6⟩ := HJ.out
       have h1 := (g1.turn H.out.2.2.2.1 (Kept.of_below (F := fun _ => False) g6) fun _ e => e.elim).skip g2 (by rw [<- g3]; exact g4)
       rw [<- HB.out.2.2.2.2.2.1] at h1
       exact ⟨j + 1, _, told2, R ++ R2, jv, zs, D, rfl, by omega, by go_num, rfl, h1, map_at g5 (g6.block _ g5.lt), HB.out.2.2.2.2.1⟩
     ·rw [decide_eq_false hin] at hlook
      have ho3 := ho2.alloc (.cells #[] 190)
      obtain ⟨w4, hrun, ho4, hg4⟩ := ho3.update lawI Tryz.underlying189 (by have := hP2.zl; have := HB.out.2.2.2.2.2.2.2.1; unfold maxLen; omega) (keyOf_int_mk (a := (N : Int)) Tryz.underlying3 hwf) unitElem_mk
      have hbl2 := ho2.lt
      have hk24 : Kept (fun i => i = w.heap.size) w2 w4 := (Kept.of_below hna).trans ((Kept.of_grown hg4).mono fun _ _ e => (Option.some.inj e).symm)
      have hP4 := hP2.turn H.out.2.2.2.1 hk24 fun _ e => e
      have hSO := HB.out.2.2.2.2.1.more ho3.isMap N
      obtain ⟨c0, c1, c2, c3⟩ := four_cellsD hP4.tw.st.1.box
      have ho4' : w4.ownsMap (H := Unit) Tryz.prog 3 unitElem w.heap.size (zs ++ [N]).length (D.put (.int .i64 (N : Int)) (.agg [])) := by rw [List.length_append]; exact ho4
      have hLL : (L ++ (R ++ R2)).length < 100000000000 := by
       have h2 := hP2.pot
       have h3 := H.out.2.2.2.2.2.2.2.2
       have h4 := HB.out.2.2.2.2.2.2.2.1
       unfold Tk.pot at h2 h3
       omega
      by_cases hj0 : j = 0
      ·subst hj0
       have hl0 : ll = [] := List.eq_nil_of_length_eq_zero HB.out.2.2.2.2.2.2.2.1
       have hjv := hP4.jn0 hl0
       subst hjv
       have hA := and_zero c.b (N : Int) w4
       have HJ : Hid _ := And.intro hP4 (And.intro hX2 (And.intro hN (And.intro hSO (And.intro ho4' (And.intro hl0 hA)))))
       clear hP2 hX2 hN hin ho2 hna hT2 hk2 hp2 hn2 ho3 ho4 hg4 hbl2 hk24 hP4 hSO ho4' hLL hl0 hA
       go_wp2_with fail
       refine Calls.mono HJ.out.2.2.2.2.2.2 ?_
       rintro r w5 ⟨rfl, hw5⟩
       obtain rfl := hw5.symm
       clear hw5
       go_wp2_with fail
       go_roundg (n - (0 + 1))
       case measure => omega
       case rel =>
        obtain ⟨g1, g2, g3, g4, g5, g6, _⟩ := HJ.out
        rw [g6] at g1
        have h1 := g1.first g2
        rw [<- g3] at h1
        have h2 := HB.out.2.2.2.2.2.1
        rw [g6] at h2
        rw [<- h2] at h1
        exact ⟨0 + 1, _, told2, R ++ R2, _, zs ++ [N], _, rfl, by omega, by go_num, rfl, h1, g5, g4⟩
      ·have hl0 : ll ≠ [] := fun e => by have := HB.out.2.2.2.2.2.2.2.1; rw [e] at this; exact hj0 this.symm
       obtain ⟨hm1, hm2⟩ := hP4.jn1 hl0
       subst hm2
       have hE4 := hP4.tw.env
       rw [<- H.out.2.2.2.2.2.1] at hE4
       have hA := and_any aL c.b _ _ (jn ll) x w4 hE4 hP4.tw.bf hm1 hX2 hLL
       rw [<- hN] at hA
       have HJ : Hid _ := And.intro hP4 (And.intro hX2 (And.intro hN (And.intro hSO (And.intro ho4' (And.intro hl0 (And.intro hin hA))))))
       clear hP2 hX2 hN hin ho2 hna hT2 hk2 hp2 hn2 ho3 ho4 hg4 hbl2 hk24 hP4 hSO ho4' hLL hl0 hA hE4 hm1
       go_wp2_with fail
       refine Calls.mono HJ.out.2.2.2.2.2.2.2 ?_
       rintro r w5 (⟨hsm, rfl, hB5, hk5⟩ | ⟨hbig, e, rfl, hC, hb5⟩)
       ·obtain ⟨r, hr, hrl⟩ := more_eq (L ++ (R ++ R2)) (.both (jn ll) x)
        have hr0 := hr
        rw [hr] at hB5
        rw [hr]
        have HK : Hid _ := And.intro hr0 (And.intro hrl (And.intro hB5 hk5))
        clear hr hrl hB5 hk5 hr0 hsm c0 c1 c2 c3
        go_wp2_with fail
        go_roundg (n - (j + 1))
        case measure => omega
        case rel =>
         obtain ⟨g1, g2, g3, g4, g5, g6, g7, _⟩ := HJ.out
         obtain ⟨k1, k2, k3, k4⟩ := HK.out
         have h1 := g1.joined g5.lt g6 g2 (by rw [<- g3]; exact g7) k3 k4 k1 k2
         rw [<- HB.out.2.2.2.2.2.1, <- g3] at h1
         refine ⟨j + 1, _, told2, (R ++ R2) ++ r, _, zs ++ [N], _, rfl, by omega, by go_num, ?_, h1, map_at g5 (k4.block _ g5.lt fun e => g1.nb (.inl e)), g4⟩
         rw [List.append_assoc]
       ·obtain ⟨T, u, rfl⟩ := chain_iface hC
        have H4 : Hid _ := And.intro hbig (And.intro hC hb5)
        clear hbig hC hb5 c0 c1 c2 c3
        go_wp2_with fail
        go_ret2
        obtain ⟨g1, g2, g3, g4, g5, g6, g7, _⟩ := HJ.out
        refine .inr ⟨?_, _, rfl, by rw [<- H.out.2.2.2.2.2.1]; exact H4.out.2.1, g1.kp.trans (.of_below H4.out.2.2)⟩
        have hnl : x ∉ Ro.dd ll := fun e => g7 (by rw [g3]; exact (g1.zn _).2 ⟨x, (Ro.mem_dd ll).1 e, rfl⟩)
        have hj2 : jn (ll ++ [x]) = .both (jn ll) x := by rw [dd_snoc_join ll x g6, if_neg hnl]
        rw [HB.out.2.2.2.2.2.2.1, HB.out.2.2.2.2.2.1]
        exact Nat.lt_of_lt_of_le H4.out.1 (by rw [<- hj2]; exact jn_grow _ _ (by simp))
    ·obtain ⟨T, u, rfl⟩ := chain_iface hC
     have H4 : Hid _ := And.intro hbig (And.intro hC hk2)
     clear hbig hC hk2 y0 y1
     go_wp2_with fail
     go_ret2
     refine .inr ⟨?_, _, rfl, H4.out.2.1, ft_trans (G := Fj) (HB.out.2.2.1.kp.trans (.of_below HB.out.2.1)) H4.out.2.2 fun i hi => (HB.out.2.2.1.sub i hi).imp id fun h1 => ⟨h1.1, Nat.lt_of_lt_of_le h1.2 HB.out.2.1.size⟩⟩
     have h1 : x ∈ ys.map (c.G p') := by
      rw [HB.out.2.2.2.2.2.2.1, HB.out.2.2.2.2.2.1]
      simp
     exact Nat.lt_of_lt_of_le H4.out.1 (jn_size h1)
   ·obtain rfl : j = n := by omega
    have q5 : ¬ (j : Int) < (j : Int) := by omega
    have HJ : Hid _ := hP
    clear hP ho hD
    go_wp2_with fail
    go_ret2
    have h1 := HJ.out
    have e1 : ys.take j = ys := by rw [H.out.2.2.2.2.2.2.2.1, List.take_length]
    rw [e1] at h1
    have hne : ys.map (c.G p') ≠ [] := fun e => by
     have := congrArg List.length e
     rw [List.length_map, <- H.out.2.2.2.2.2.2.2.1] at this
     exact h0 this
    obtain ⟨k1, k2⟩ := h1.jn1 hne
    refine .inl ⟨toldj, R, by rw [k2]; rfl, k1, H.out.2.2.2.1.mono h1.kp h1.tw h1.sub, h1.kp, ?_, h1.new⟩
    have h2 := h1.pot
    rw [List.length_map, <- H.out.2.2.2.2.2.2.2.1] at h2
    omega
end Di
end Go.Proofs.YtgehimdkdeldaabGreatDoor
