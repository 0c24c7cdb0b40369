/- What within keeps in memory: a list of its own, a set of its own, the parts at hand. -/
import Derived.Test.YthnenpncajpibaaGreatDoorTmWalk0
namespace Go.Proofs.YthnenpncajpibaaGreatDoor
open Go.RowKit Go.Maps
theorem Tryz.lawI : Keyed Tryz.prog 3 := int_keyed Tryz.underlying3
theorem Tryz.zeroU (w : World) : (zeroValue 117).run Tryz.prog w = .ok (.agg #[]) w := by kernel_rfl
/-- The set has just the members of the list. -/
def SetOf (D : DataW Unit) (zs : List Int) : Prop := ∀ z : Int, Maps.has D (.int .i64 z) = decide (z ∈ zs)
theorem SetOf.nil : SetOf (.map []) [] := fun z => by simp [Maps.has]
theorem ikey (z : Int) : WideAt.IsKeyLit (.int .i64 z) := trivial
theorem SetOf.more {D : DataW Unit} {zs : List Int} (h : SetOf D zs) (hD : IsMap D) (p : Int) : SetOf (D.put (.int .i64 p) (.agg [])) (zs ++ [p]) := fun z => by
  by_cases e : z = p
  · subst e
    rw [has_put_same hD (ikey _)]; simp
  · rw [has_put_other (fun e' => e (by injection e')), h z]
    simp [e]
/-- The list, the set, the parts. -/
structure WMem (w wr : World) (v : Value) (zs : List Int) (bm : Nat) (D : DataW Unit) (vp : Value) (ps : List Int) : Prop where
  bl : Below w.heap.size w wr
  row : OwnI wr w.heap.size v zs
  map : wr.ownsMap (H := Unit) Tryz.prog 3 unitElem bm zs.length D
  up : w.heap.size ≤ bm
  set : SetOf D zs
  par : OwnI wr w.heap.size vp ps
  ne : ∀ g, v.ownBlock = some g → vp.ownBlock ≠ some g
theorem WMem.below {w wr w1 : World} {v : Value} {zs : List Int} {bm : Nat} {D : DataW Unit} {vp : Value} {ps : List Int} (h : WMem w wr v zs bm D vp ps) (hb : Below wr.heap.size wr w1) : WMem w w1 v zs bm D vp ps :=
  ⟨h.bl.trans (hb.mono h.bl.size), trow_at h.row fun i hi => hb.block i (h.row.lt i hi).2, map_at h.map (hb.block _ h.map.lt), h.up, h.set, trow_at h.par fun i hi => hb.block i (h.par.lt i hi).2, h.ne⟩
/-- Other parts at hand. -/
theorem WMem.parts {w wr w1 : World} {v : Value} {zs : List Int} {bm : Nat} {D : DataW Unit} {vp : Value} {ps : List Int} (h : WMem w wr v zs bm D vp ps) {vq : Value} {qs : List Int} (hb : Below wr.heap.size wr w1) (ho : OwnI w1 wr.heap.size vq qs) : WMem w w1 v zs bm D vq qs :=
  let k := h.below hb
  ⟨k.bl, k.row, k.map, k.up, k.set, row_base ho h.bl.size, fun g hg e => by have h1 := (h.row.lt g hg).2; have h2 := (ho.lt g e).1; omega⟩
theorem WMem.apart {w wr : World} {v : Value} {zs : List Int} {bm : Nat} {D : DataW Unit} {vp : Value} {ps : List Int} (h : WMem w wr v zs bm D vp ps) : v.ownBlock ≠ some bm := fun e => by
  obtain ⟨c, hc⟩ := row_cells h.row e
  exact map_ne hc h.map rfl
/-- Behind the marking of a part as seen. -/
structure WMid (w w2 : World) (v : Value) (zs : List Int) (bm : Nat) (D : DataW Unit) (vp : Value) (ps : List Int) (p : Int) : Prop where
  bl : Below w.heap.size w w2
  row : OwnI w2 w.heap.size v zs
  map : w2.ownsMap (H := Unit) Tryz.prog 3 unitElem bm (zs.length + 1) D
  up : w.heap.size ≤ bm
  set : SetOf D (zs ++ [p])
  par : OwnI w2 w.heap.size vp ps
  ne : ∀ g, v.ownBlock = some g → vp.ownBlock ≠ some g
theorem WMem.mark {w wr w2 : World} {v : Value} {zs : List Int} {bm : Nat} {D : DataW Unit} {vp : Value} {ps : List Int} {p : Int} (h : WMem w wr v zs bm D vp ps) (ho : w2.ownsMap (H := Unit) Tryz.prog 3 unitElem bm (zs.length + 1) (D.put (.int .i64 p) (.agg []))) (hg : wr.grownBy w2 (some bm)) : WMid w w2 v zs bm (D.put (.int .i64 p) (.agg [])) vp ps p := by
  refine ⟨h.bl.grown hg h.bl.size (fun k hk => by have := Option.some.inj hk; have := h.up; omega), trow_at h.row fun i hi => hg.block i (h.row.lt i hi).2 fun e => h.apart (by rw [hi, e]), ho, h.up, h.set.more h.map.isMap p, trow_at h.par fun i hi => hg.block i (h.par.lt i hi).2 fun e => ?_, h.ne⟩
  obtain ⟨c, hc⟩ := row_cells h.par hi
  exact map_ne hc h.map (Option.some.inj e)
theorem WMid.alloc {w w2 : World} {v : Value} {zs : List Int} {bm : Nat} {D : DataW Unit} {vp : Value} {ps : List Int} {p : Int} (h : WMid w w2 v zs bm D vp ps p) (o : Obj) : WMid w (w2.alloc o) v zs bm D vp ps p :=
  ⟨h.bl.alloc h.bl.size o, h.row.alloc o, h.map.alloc o, h.up, h.set, h.par.alloc o, h.ne⟩
/-- Behind the append. -/
theorem WMid.put {w w2 w3 : World} {v v' : Value} {zs : List Int} {bm : Nat} {D : DataW Unit} {vp : Value} {ps : List Int} {p : Int} (h : WMid w w2 v zs bm D vp ps p) (ho : w3.ownsRow w.heap.size 3 1 v' (zs.length + 1) (iC zs ++ [.int .i64 p])) (hg : w2.grownBy w3 v.ownBlock) (hat : v'.ownBlock = v.ownBlock ∨ v'.ownBlock = some w2.heap.size) : WMem w w3 v' (zs ++ [p]) bm D vp ps := by
  have hap : v.ownBlock ≠ some bm := fun e => by
    obtain ⟨c, hc⟩ := row_cells h.row e
    exact map_ne hc h.map rfl
  refine ⟨h.bl.grown hg h.bl.size (fun k hk => (h.row.lt k hk).1), ?_, ?_, h.up, h.set, trow_at h.par fun i hi => hg.block i (h.par.lt i hi).2 fun e => h.ne i e.symm hi, fun g hg' e => ?_⟩
  · unfold OwnI
    rw [List.length_append, show iC (zs ++ [p]) = iC zs ++ [.int .i64 p] by simp [iC]]
    exact ho
  · rw [List.length_append]
    exact map_at h.map (hg.block _ h.map.lt fun e => hap e.symm)
  · rcases hat with e1 | e1
    · exact h.ne g (e1 ▸ hg') e
    · rw [e1] at hg'
      have h1 := Option.some.inj hg'
      have h2 := (h.par.lt g e).2
      omega
theorem int_one1 (z : Int) : ∀ u ∈ [Value.int .i64 z], u.oneCell' = true := fun u hu => by
  rw [List.mem_singleton.1 hu]; rfl
theorem OwnI.form {w : World} {B : Nat} {v : Value} {zs : List Int} (h : OwnI w B v zs) (h0 : zs ≠ []) : ∃ g cap, v = .slice (some ⟨g, 0, none⟩) zs.length cap ∧ B ≤ g ∧ zs.length ≤ cap := by
  rcases h.2 with ⟨_, e⟩ | ⟨g, cap, cur, rfl, hg, _, hc, _⟩
  · exact absurd (List.eq_nil_of_length_eq_zero e) h0
  · exact ⟨g, cap, rfl, hg, hc⟩
theorem OwnI.cell {w : World} {B g cap n : Nat} {zs : List Int} (h : OwnI w B (.slice (some ⟨g, 0, none⟩) n cap) zs) {i : Nat} {z : Int} (hi : zs[i]? = some z) : w.cell? ⟨g, i, none⟩ = some (.int .i64 z) := by
  have hlt := (List.getElem?_eq_some_iff.1 hi).1
  obtain ⟨ao, cap', e, h2⟩ := h.has
  injection e with e1 e2 e3
  obtain ⟨a, ha, hc⟩ := h2 i z hi
  rw [← e1] at ha
  have := Option.some.inj ha
  rw [← this, addz] at hc
  exact hc
end Go.Proofs.YthnenpncajpibaaGreatDoor
