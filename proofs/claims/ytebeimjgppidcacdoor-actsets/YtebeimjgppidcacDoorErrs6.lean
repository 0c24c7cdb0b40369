/- Api's errors in memory, each at an address of its own. -/
import Derived.Test.YtebeimjgppidcacDoorSent
namespace Go.Proofs.YtebeimjgppidcacDoor
open Go.RowKit
/-- Six of api's errors, all unlike. -/
structure Six (w : World) (aA aL aI aW aU aS : Addr) : Prop where
  A : Sent w 0 aA
  L : Sent w 4 aL
  I : Sent w 5 aI
  W : Sent w 2 aW
  U : Sent w 3 aU
  S : Sent w 1 aS
  ne : [aA, aL, aI, aW, aU, aS].Pairwise (· ≠ ·)
theorem Six.below {w w1 : World} {aA aL aI aW aU aS : Addr} (h : Six w aA aL aI aW aU aS) (hb : Below w.heap.size w w1) : Six w1 aA aL aI aW aU aS :=
  ⟨h.A.below hb, h.L.below hb, h.I.below hb, h.W.below hb, h.U.below hb, h.S.below hb, h.ne⟩
/-- Nine of api's errors, all unlike. -/
structure Nine (w : World) (aA aL aI aW aY aD aT aU aS : Addr) : Prop where
  A : Sent w 0 aA
  L : Sent w 4 aL
  I : Sent w 5 aI
  W : Sent w 2 aW
  Y : Sent w 6 aY
  D : Sent w 7 aD
  T : Sent w 8 aT
  U : Sent w 3 aU
  S : Sent w 1 aS
  ne : [aA, aL, aI, aW, aY, aD, aT, aU, aS].Pairwise (· ≠ ·)
theorem Nine.below {w w1 : World} {aA aL aI aW aY aD aT aU aS : Addr} (h : Nine w aA aL aI aW aY aD aT aU aS) (hb : Below w.heap.size w w1) : Nine w1 aA aL aI aW aY aD aT aU aS :=
  ⟨h.A.below hb, h.L.below hb, h.I.below hb, h.W.below hb, h.Y.below hb, h.D.below hb, h.T.below hb, h.U.below hb, h.S.below hb, h.ne⟩
theorem Nine.six {w : World} {aA aL aI aW aY aD aT aU aS : Addr} (h : Nine w aA aL aI aW aY aD aT aU aS) : Six w aA aL aI aW aU aS := by
  refine ⟨h.A, h.L, h.I, h.W, h.U, h.S, ?_⟩
  have hne := h.ne
  simp only [List.pairwise_cons, List.mem_cons, List.not_mem_nil, or_false, forall_eq_or_imp, forall_eq, List.Pairwise.nil, and_true, false_implies, implies_true] at hne ⊢
  obtain ⟨⟨n1, n2, n3, _, _, _, n4, n5⟩, ⟨n6, n7, _, _, _, n8, n9⟩, ⟨n10, _, _, _, n11, n12⟩, ⟨_, _, _, n13, n14⟩, _, _, _, n15⟩ := hne
  exact ⟨⟨n1, n2, n3, n4, n5⟩, ⟨n6, n7, n8, n9⟩, ⟨n10, n11, n12⟩, ⟨n13, n14⟩, n15⟩
end Go.Proofs.YtebeimjgppidcacDoor
