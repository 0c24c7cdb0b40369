/- Plain facts on scanning: blanks, remarks and empty lines make no difference but to places. -/
import Derived.Test.YtebeimjgppidcaaDoorPlaces0
namespace Go.Proofs.YtebeimjgppidcaaDoor
/-- What a text has from a place on. -/
def From (s : ByteArray) (p : Nat) (L : List UInt8) : Prop := p ≤ s.size ∧ s.data.toList.drop p = L
theorem From.lt {s : ByteArray} {p : Nat} {c : UInt8} {L : List UInt8} (h : From s p (c :: L)) : p < s.size := by
  have := congrArg List.length h.2
  simp at this; omega
theorem From.at {s : ByteArray} {p : Nat} {c : UInt8} {L : List UInt8} (h : From s p (c :: L)) : s[p]'h.lt = c := by
  have h1 := Lx.drop_cons s.data.toList p (by simpa using h.lt)
  rw [h.2] at h1
  rw [← list_at s p h.lt]
  exact (List.cons.inj h1).1.symm
theorem From.skip {s : ByteArray} {p : Nat} {A L : List UInt8} (h : From s p (A ++ L)) : From s (p + A.length) L := by
  have h1 := congrArg List.length h.2
  have h0 := h.1
  simp at h1
  refine ⟨by omega, ?_⟩
  rw [← List.drop_drop, h.2]; simp
theorem From.next {s : ByteArray} {p : Nat} {c : UInt8} {L : List UInt8} (h : From s p (c :: L)) : From s (p + 1) L := From.skip (A := [c]) h
theorem From.run {s : ByteArray} {p : Nat} {L : List UInt8} (h : From s p L) : Lx.runE s.data.toList p = p + Lx.runLen L := by unfold Lx.runE; rw [h.2]
theorem From.line {s : ByteArray} {p : Nat} {L : List UInt8} (h : From s p L) : Lx.lineE s.data.toList p = p + Lx.lineLen L := by unfold Lx.lineE; rw [h.2]
theorem From.cut {s : ByteArray} {p : Nat} {A L : List UInt8} (h : From s p (A ++ L)) : s.extract p (p + A.length) = ⟨A.toArray⟩ := by
  apply bytes_ext
  rw [extract_list, h.2, show p + A.length - p = A.length from by omega]; simp
theorem runLen_all_then (A : List UInt8) (c : UInt8) (L : List UInt8) (hA : ∀ x ∈ A, Lx.goB (x.toNat : Int) = true) (hc : Lx.goB (c.toNat : Int) = false) : Lx.runLen (A ++ c :: L) = A.length := by
  induction A with
  | nil => simp [Lx.runLen, hc]
  | cons a r ih => simp only [List.cons_append, Lx.runLen, hA a (by simp), if_true, ih (fun x hx => hA x (by simp [hx])), List.length_cons]
theorem lineLen_then (A L : List UInt8) (hA : ∀ x ∈ A, x.toNat ≠ 10) : Lx.lineLen (A ++ 10 :: L) = A.length := by
  induction A with
  | nil => simp [Lx.lineLen]
  | cons a r ih => simp only [List.cons_append, Lx.lineLen, hA a (by simp), if_false, ih (fun x hx => hA x (by simp [hx])), List.length_cons]
/-- Scanning with as much fuel as it takes. -/
def scanG (s : ByteArray) (p l f : Nat) (ts : List Tok) : List Tok ⊕ (Nat × Nat × Nat) := scanF s (s.size + 1 - p) p l f ts
theorem scanG_of (s : ByteArray) (n p l f : Nat) (ts : List Tok) (hp : p ≤ s.size) (hn : s.size + 1 - p ≤ n) : scanF s n p l f ts = scanG s p l f ts := by
  obtain ⟨k, rfl⟩ := Nat.exists_eq_add_of_le hn
  exact scanF_more s _ p l f ts hp (Nat.le_refl _) k
theorem G_at (s : ByteArray) (p l f : Nat) (ts : List Tok) (h : p < s.size) : scanG s p l f ts = scanF s (s.size - p + 1) p l f ts := by
  unfold scanG; congr 1; omega
theorem G_blank {s : ByteArray} {p : Nat} {c : UInt8} {L : List UInt8} (h : From s p (c :: L)) (hc : Lx.powZ (c.toNat : Int) = 16) (l f : Nat) (ts : List Tok) : scanG s p l f ts = scanG s (p + 1) l f ts := by
  have hlt := h.lt
  rw [G_at s p l f ts hlt, scanF_at s _ p l f ts hlt, h.at, hc]
  rw [if_neg (by decide), if_neg (by decide), if_neg (by decide), if_pos rfl]
  exact scanG_of s _ _ l f ts (by omega) (by omega)
theorem G_nl {s : ByteArray} {p : Nat} {L : List UInt8} (h : From s p (10 :: L)) (l f : Nat) (ts : List Tok) : scanG s p l f ts = scanG s (p + 1) (l + 1) (p + 1) (endTs ts l (p - f + 1)) := by
  have hlt := h.lt
  rw [G_at s p l f ts hlt, scanF_at s _ p l f ts hlt, h.at]
  rw [if_neg (by decide), if_neg (by decide), if_neg (by decide), if_neg (by decide), if_neg (by decide), if_pos (by decide)]
  exact scanG_of s _ _ _ _ _ (by omega) (by omega)
theorem G_remark {s : ByteArray} {p : Nat} {A L : List UInt8} (h : From s p (35 :: A ++ 10 :: L)) (hA : ∀ x ∈ A, x.toNat ≠ 10) (l f : Nat) (ts : List Tok) : scanG s p l f ts = scanG s (p + (A.length + 1)) l f ts := by
  have hlt := h.lt
  have hl : Lx.lineE s.data.toList p = p + (A.length + 1) := by
    rw [h.line, lineLen_then (35 :: A) L (fun x hx => (List.mem_cons.1 hx).elim (fun e => by rw [e]; decide) (hA x))]; rfl
  have hle := (From.skip (A := 35 :: A) h).1
  simp only [List.length_cons] at hle
  rw [G_at s p l f ts hlt, scanF_at s _ p l f ts hlt, h.at, hl]
  rw [if_neg (by decide), if_neg (by decide), if_neg (by decide), if_neg (by decide), if_pos (by decide)]
  exact scanG_of s _ _ l f ts (by omega) (by omega)
theorem G_mark {s : ByteArray} {p : Nat} {c : UInt8} {L : List UInt8} (h : From s p (c :: L)) (hc : Lx.powZ (c.toNat : Int) = 8) (l f : Nat) (ts : List Tok) : scanG s p l f ts = scanG s (p + 1) l f (ts ++ [⟨4, ⟨#[c]⟩, l, p - f + 1⟩]) := by
  have hlt := h.lt
  have hx : s.extract p (p + 1) = ⟨#[c]⟩ := From.cut (A := [c]) h
  rw [G_at s p l f ts hlt, scanF_at s _ p l f ts hlt, h.at, hc, hx]
  rw [if_neg (by decide), if_neg (by decide), if_pos rfl]
  exact scanG_of s _ _ l f _ (by omega) (by omega)
theorem G_name {s : ByteArray} {p : Nat} {a c : UInt8} {A L : List UInt8} (h : From s p ((a :: A) ++ c :: L)) (ha : Lx.powZ (a.toNat : Int) = 7) (hA : ∀ x ∈ a :: A, Lx.goB (x.toNat : Int) = true) (hc : Lx.goB (c.toNat : Int) = false) (hn : (a :: A).length ≤ 32) (l f : Nat) (ts : List Tok) :
    scanG s p l f ts = scanG s (p + (a :: A).length) l f (ts ++ [⟨2, ⟨(a :: A).toArray⟩, l, p - f + 1⟩]) := by
  have hlt : p < s.size := From.lt (c := a) (L := A ++ c :: L) h
  have hat : s[p]'hlt = a := From.at (c := a) (L := A ++ c :: L) h
  have hr : Lx.runE s.data.toList p = p + (a :: A).length := by rw [h.run, runLen_all_then _ c L hA hc]
  have hle := h.skip.1
  have hx := h.cut
  rw [G_at s p l f ts hlt, scanF_at s _ p l f ts hlt, hat, ha, hr, hx]
  rw [if_pos rfl, if_neg (by omega)]
  exact scanG_of s _ _ l f _ hle (by simp only [List.length_cons]; omega)
theorem G_num {s : ByteArray} {p : Nat} {a c : UInt8} {A L : List UInt8} (h : From s p ((a :: A) ++ c :: L)) (ha : Lx.powZ (a.toNat : Int) = 3) (hA : ∀ x ∈ a :: A, Lx.goB (x.toNat : Int) = true) (hc : Lx.goB (c.toNat : Int) = false) (hn : (Lx.numR (a :: A)).2 = 0) (l f : Nat) (ts : List Tok) :
    scanG s p l f ts = scanG s (p + (a :: A).length) l f (ts ++ [⟨3, ⟨(a :: A).toArray⟩, l, p - f + 1⟩]) := by
  have hlt : p < s.size := From.lt (c := a) (L := A ++ c :: L) h
  have hat : s[p]'hlt = a := From.at (c := a) (L := A ++ c :: L) h
  have hr : Lx.runE s.data.toList p = p + (a :: A).length := by rw [h.run, runLen_all_then _ c L hA hc]
  have hle := h.skip.1
  have hx := h.cut
  rw [G_at s p l f ts hlt, scanF_at s _ p l f ts hlt, hat, ha, hr, hx]
  rw [if_neg (by decide), if_pos rfl, if_pos (by simpa using hn)]
  exact scanG_of s _ _ l f _ hle (by simp only [List.length_cons]; omega)
theorem G_end {s : ByteArray} {p : Nat} (h : From s p []) (l f : Nat) (ts : List Tok) : scanG s p l f ts = .inl (endTs ts l (p - f + 1)) := by
  obtain rfl : p = s.size := by
    have h1 := congrArg List.length h.2
    simp at h1
    have := h.1; omega
  unfold scanG
  rw [show s.size + 1 - s.size = 0 + 1 from by omega, scanF_end]
/-- A word that is no end of a line. -/
def WordOk (t : Tok) : Prop := ∃ a A, t.text = ⟨(a :: A).toArray⟩ ∧ ((t.kind = 2 ∧ Lx.powZ (a.toNat : Int) = 7 ∧ (∀ x ∈ a :: A, Lx.goB (x.toNat : Int) = true) ∧ (a :: A).length ≤ 32) ∨
  (t.kind = 3 ∧ Lx.powZ (a.toNat : Int) = 3 ∧ (∀ x ∈ a :: A, Lx.goB (x.toNat : Int) = true) ∧ (Lx.numR (a :: A)).2 = 0) ∨ (t.kind = 4 ∧ A = [] ∧ Lx.powZ (a.toNat : Int) = 8))
theorem WordOk.kind {t : Tok} (h : WordOk t) : t.kind ≠ 1 := by
  obtain ⟨a, A, _, h | h | h⟩ := h <;> omega
/-- Words in lines, each with an end: from within a line, or not; to within a line, or not. -/
def okR : Bool → List Tok → Bool → Prop
  | b, [], e => b = e
  | b, t :: r, e => (t.kind = 1 ∧ b = true ∧ t.text = nlB ∧ okR false r e) ∨ (WordOk t ∧ okR true r e)
theorem okR_snoc : ∀ (ts : List Tok) (b e : Bool) (t : Tok), okR b ts e → WordOk t → okR b (ts ++ [t]) true
  | [], _, _, _, _, ht => .inr ⟨ht, rfl⟩
  | _ :: r, _, e, _, h, ht => h.elim (fun h => .inl ⟨h.1, h.2.1, h.2.2.1, okR_snoc r _ e _ h.2.2.2 ht⟩) (fun h => .inr ⟨h.1, okR_snoc r _ e _ h.2 ht⟩)
theorem okR_end : ∀ (ts : List Tok) (b : Bool) (t : Tok), okR b ts true → t.kind = 1 → t.text = nlB → okR b (ts ++ [t]) false
  | [], _, _, h, h1, h2 => .inl ⟨h1, h, h2, rfl⟩
  | _ :: r, _, _, h, h1, h2 => h.elim (fun h => .inl ⟨h.1, h.2.1, h.2.2.1, okR_end r _ _ h.2.2.2 h1 h2⟩) (fun h => .inr ⟨h.1, okR_end r _ _ h.2 h1 h2⟩)
theorem lastOn_snoc (ts : List Tok) (t : Tok) (l : Nat) : lastOn (ts ++ [t]) l = (t.line == l) := by simp [lastOn]
theorem lastOn_far (ts : List Tok) (l : Nat) (h : ∀ t ∈ ts, t.line < l) : lastOn ts l = false := by
  unfold lastOn
  cases e : ts.getLast? with
  | none => rfl
  | some t =>
    have := h t (List.mem_of_getLast? e)
    simp; omega
def wsum : List Tok → Nat
  | [] => 0
  | t :: r => (if t.kind = 1 then 0 else t.text.size) + wsum r
theorem wsum_snoc : ∀ (ts : List Tok) (t : Tok), wsum (ts ++ [t]) = wsum ts + (if t.kind = 1 then 0 else t.text.size)
  | [], t => by simp [wsum]
  | x :: r, t => by simp only [List.cons_append, wsum, wsum_snoc r t]; omega
/-- What a scan keeps of its words. -/
structure Kp (ts : List Tok) (l p : Nat) : Prop where
  ok : okR false ts (lastOn ts l)
  le : ∀ t ∈ ts, t.line ≤ l
  sum : wsum ts ≤ p
theorem Kp.snoc {ts : List Tok} {l p q c : Nat} {k : Nat} {x : ByteArray} (h : Kp ts l p) (ht : WordOk ⟨k, x, l, c⟩) (hq : p + x.size ≤ q) : Kp (ts ++ [⟨k, x, l, c⟩]) l q :=
  ⟨by rw [lastOn_snoc]; simpa using okR_snoc ts false _ _ h.ok ht, fun t ht => (List.mem_append.1 ht).elim (h.le t) (fun e => by rw [List.mem_singleton.1 e]; exact Nat.le_refl _),
   by rw [wsum_snoc]; have := h.sum; show wsum ts + (if k = 1 then 0 else x.size) ≤ q; split <;> omega⟩
theorem Kp.far {ts : List Tok} {l p : Nat} (h : Kp ts l p) : lastOn ts (l + 1) = false := lastOn_far ts _ fun t ht => by have := h.le t ht; omega
theorem Kp.mono {ts : List Tok} {l p q : Nat} (h : Kp ts l p) (hq : p ≤ q) : Kp ts l q := ⟨h.ok, h.le, Nat.le_trans h.sum hq⟩
theorem endTs_ok {ts : List Tok} {l p c : Nat} (h : Kp ts l p) : okR false (endTs ts l c) false ∧ (∀ t ∈ endTs ts l c, t.line ≤ l) ∧ wsum (endTs ts l c) ≤ p := by
  unfold endTs
  cases e : lastOn ts l with
  | true =>
    have hk := h.ok
    rw [e] at hk
    refine ⟨okR_end ts false _ hk rfl rfl, fun t ht => ?_, ?_⟩
    · rcases List.mem_append.1 ht with ht | ht
      · exact h.le t ht
      · obtain rfl := List.mem_singleton.1 ht; exact Nat.le_refl _
    · simp only [if_true]; rw [wsum_snoc]; have := h.sum; simp; omega
  | false =>
    have hk := h.ok
    rw [e] at hk
    exact ⟨hk, h.le, h.sum⟩
theorem Kp.end {ts : List Tok} {l p c : Nat} (h : Kp ts l p) : Kp (endTs ts l c) (l + 1) (p + 1) := by
  obtain ⟨h1, h2, h3⟩ := endTs_ok (c := c) h
  exact ⟨by rw [lastOn_far _ _ (fun t ht => by have := h2 t ht; omega)]; exact h1, fun t ht => by have := h2 t ht; omega, by omega⟩
theorem cut_from (s : ByteArray) (p e : Nat) (hp : p < s.size) (he : p < e) (h2 : e ≤ s.size) : ∃ A, s.extract p e = ⟨(s[p] :: A).toArray⟩ ∧ (s[p] :: A).length = e - p ∧ s.data.toList.drop p = s[p] :: A ++ s.data.toList.drop e := by
  have h1 := Lx.drop_cons s.data.toList p (by simpa using hp)
  rw [list_at s p hp] at h1
  refine ⟨(s.data.toList.drop (p + 1)).take (e - p - 1), ?_, ?_, ?_⟩
  · apply bytes_ext
    rw [extract_list, h1]
    obtain ⟨m, hm⟩ : ∃ m, e - p = m + 1 := ⟨e - p - 1, by omega⟩
    rw [hm]; simp
  · simp; omega
  · rw [h1]
    have : s.data.toList.drop e = (s.data.toList.drop (p + 1)).drop (e - p - 1) := by rw [List.drop_drop]; congr 1; omega
    rw [this, List.cons_append, List.take_append_drop]
theorem scan_kp (s : ByteArray) : ∀ (n p l f : Nat) (ts ts' : List Tok), p ≤ s.size → s.size + 1 - p ≤ n → Kp ts l p → scanF s n p l f ts = .inl ts' → okR false ts' false ∧ wsum ts' ≤ s.size := by
  intro n
  induction n with
  | zero => intro p l f ts ts' hp hn; omega
  | succ n ih =>
    intro p l f ts ts' hp hn hK h
    rcases Nat.lt_or_ge p s.size with hlt | hge
    · have hr2 : Lx.runE s.data.toList p ≤ s.size := Lx.runE_le s.data.toList p (by simpa using hp)
      have hl2 : Lx.lineE s.data.toList p ≤ s.size := Lx.lineE_le s.data.toList p (by simpa using hp)
      have hr1 := run_gt s p hlt
      have hl1 := line_gt s p hlt
      have hrun : ∀ A : List UInt8, A.length = Lx.runE s.data.toList p - p → s.data.toList.drop p = A ++ s.data.toList.drop (Lx.runE s.data.toList p) → ∀ x ∈ A, Lx.goB (x.toNat : Int) = true := by
        intro A hA hd x hx
        obtain ⟨k, hk, rfl⟩ := List.getElem_of_mem hx
        have hrl : k < Lx.runLen (s.data.toList.drop p) := by unfold Lx.runE at hA; omega
        have := run_bytes (s.data.toList.drop p) k (by have := Lx.runLen_le (s.data.toList.drop p); omega) hrl
        simp only [hd] at this
        rwa [List.getElem_append_left hk] at this
      rw [scanF_at s n p l f ts hlt] at h
      split at h
      · rename_i hc
        have hgt := hr1 (by rw [hc]; decide)
        obtain ⟨A, hx, hlen, hd⟩ := cut_from s p _ hlt hgt hr2
        split at h
        · cases h
        · refine ih _ _ _ _ _ hr2 (by omega) (hK.snoc (x := s.extract p (Lx.runE s.data.toList p)) ⟨_, A, hx, .inl ⟨rfl, hc, hrun _ hlen hd, by omega⟩⟩ ?_) h
          rw [ByteArray.size_extract]; omega
      split at h
      · rename_i hc
        have hgt := hr1 (by rw [hc]; decide)
        obtain ⟨A, hx, hlen, hd⟩ := cut_from s p _ hlt hgt hr2
        split at h
        · rename_i hnum
          refine ih _ _ _ _ _ hr2 (by omega) (hK.snoc (x := s.extract p (Lx.runE s.data.toList p)) ⟨_, A, hx, .inr (.inl ⟨rfl, hc, hrun _ hlen hd, by rw [hx] at hnum; simpa using hnum⟩)⟩ ?_) h
          rw [ByteArray.size_extract]; omega
        · cases h
      split at h
      · rename_i hc
        obtain ⟨A, hx, hlen, hd⟩ := cut_from s p (p + 1) hlt (by omega) (by omega)
        have hA : A = [] := by simpa using hlen
        refine ih _ _ _ _ _ (by omega) (by omega) (hK.snoc (x := s.extract p (p + 1)) ⟨_, A, hx, .inr (.inr ⟨rfl, hA, hc⟩)⟩ ?_) h
        rw [ByteArray.size_extract]; omega
      split at h
      · exact ih _ _ _ _ _ (by omega) (by omega) (hK.mono (by omega)) h
      split at h
      · rename_i hc
        have := hl1 (by rw [hc]; decide)
        exact ih _ _ _ _ _ hl2 (by omega) (hK.mono (by omega)) h
      split at h
      · exact ih _ _ _ _ _ (by omega) (by omega) hK.end h
      · cases h
    · obtain rfl : p = s.size := by omega
      rw [scanF_end] at h
      cases h
      obtain ⟨h1, _, h3⟩ := endTs_ok (c := s.size - f + 1) hK
      exact ⟨h1, h3⟩
theorem scan_ok (s : ByteArray) (ts : List Tok) (h : scanF s (s.size + 1) 0 1 0 [] = .inl ts) : okR false ts false ∧ wsum ts ≤ s.size :=
  scan_kp s _ 0 1 0 [] ts (Nat.zero_le _) (by omega) ⟨rfl, by simp, Nat.le_refl _⟩ h
/-- A word with blanks about it; an end of a line with a remark and an empty line. -/
def wordB (t : Tok) : List UInt8 := if t.kind = 1 then [13, 35, 32, 40, 10, 32, 10] else [32, 9] ++ t.text.data.toList ++ [13, 32]
def wordsB (ts : List Tok) : List UInt8 := (ts.map wordB).flatten
def blankHead : List UInt8 := [9, 10, 32, 35, 32, 255, 32, 39, 10]
theorem wordsB_len : ∀ (ts : List Tok) (b e : Bool), okR b ts e → (wordsB ts).length + (if e then 7 else 0) ≤ 12 * wsum ts + (if b then 7 else 0)
  | [], b, e, h => by cases h; simp [wordsB, wsum]
  | t :: r, b, e, h => by
    have hc : wordsB (t :: r) = wordB t ++ wordsB r := by simp [wordsB]
    rw [hc, List.length_append]
    simp only [wsum]
    rcases h with ⟨h1, rfl, _, h2⟩ | ⟨h1, h2⟩
    · have := wordsB_len r _ _ h2
      simp only [wordB, h1, if_true, List.length_cons, List.length_nil]
      simp at this; omega
    · have := wordsB_len r _ _ h2
      have hk := h1.kind
      obtain ⟨a, A, ht, _⟩ := h1
      have hz : t.text.size = A.length + 1 := by rw [ht]; simp [ByteArray.size]
      have hz2 : t.text.data.toList.length = t.text.size := by simp
      simp only [wordB, hk, if_false, List.length_append, List.length_cons, List.length_nil, hz2]
      simp at this; omega
def like (a b : List Tok) : Prop := a.map (fun t => (t.kind, t.text)) = b.map (fun t => (t.kind, t.text))
theorem blanks_scan (s : ByteArray) : ∀ (rest : List Tok) (p l f : Nat) (us : List Tok) (b : Bool), From s p (wordsB rest) → okR b rest false → lastOn us l = b → (∀ t ∈ us, t.line ≤ l) → ∃ us', scanG s p l f us = .inl (us ++ us') ∧ like us' rest := by
  intro rest
  induction rest with
  | nil =>
    intro p l f us b h hok hlast hle
    obtain rfl : b = false := hok
    refine ⟨[], ?_, rfl⟩
    rw [G_end h]
    simp [endTs, hlast]
  | cons t r ih =>
    intro p l f us b h hok hlast hle
    have hc : wordsB (t :: r) = wordB t ++ wordsB r := by simp [wordsB]
    rw [hc] at h
    rcases hok with ⟨h1, rfl, h3, h4⟩ | ⟨h1, h4⟩
    · rw [show wordB t = [13, 35, 32, 40, 10, 32, 10] by simp [wordB, h1]] at h
      have a1 : From s p (13 :: ([35, 32, 40, 10, 32, 10] ++ wordsB r)) := h
      have a2 : From s (p + 1) (35 :: [32, 40] ++ 10 :: ([32, 10] ++ wordsB r)) := a1.next
      have a3 : From s (p + 1 + 3) (10 :: ([32, 10] ++ wordsB r)) := From.skip (A := [35, 32, 40]) a2
      have a4 : From s (p + 1 + 3 + 1) (32 :: (10 :: wordsB r)) := a3.next
      have a5 := a4.next
      have a6 := a5.next
      rw [G_blank a1 (by decide), G_remark a2 (by decide), show p + 1 + (([32, 40] : List UInt8).length + 1) = p + 1 + 3 from rfl, G_nl a3, G_blank a4 (by decide), G_nl a5]
      have e1 : endTs us l (p + 1 + 3 - f + 1) = us ++ [⟨1, nlB, l, p + 1 + 3 - f + 1⟩] := by simp [endTs, hlast]
      have e2 : ∀ c, endTs (us ++ [⟨1, nlB, l, p + 1 + 3 - f + 1⟩]) (l + 1) c = us ++ [⟨1, nlB, l, p + 1 + 3 - f + 1⟩] := fun c => endTs_no _ _ _ _ (by simp)
      rw [e1, e2]
      obtain ⟨us', hg, hl⟩ := ih _ (l + 1 + 1) _ (us ++ [⟨1, nlB, l, p + 1 + 3 - f + 1⟩]) false a6 h4 (by rw [lastOn_snoc]; simp; omega) (fun x hx => by
        rcases List.mem_append.1 hx with hx | hx
        · have := hle x hx; omega
        · obtain rfl := List.mem_singleton.1 hx; simp; omega)
      refine ⟨⟨1, nlB, l, p + 1 + 3 - f + 1⟩ :: us', by rw [hg]; simp, ?_⟩
      unfold like at hl ⊢
      simp [hl, h1, h3]
    · have hk := h1.kind
      obtain ⟨a, A, ht, hcase⟩ := h1
      have htl : t.text.data.toList = a :: A := by rw [ht]
      rw [show wordB t = [32, 9] ++ (a :: A) ++ [13, 32] by simp [wordB, hk, htl]] at h
      have a1 : From s p (32 :: (9 :: ((a :: A) ++ 13 :: (32 :: wordsB r)))) := by simpa using h
      have a2 := a1.next
      have a3 := a2.next
      have a4 : From s (p + 1 + 1 + (a :: A).length) (13 :: (32 :: wordsB r)) := a3.skip
      have a5 := a4.next
      have a6 := a5.next
      have key : ∃ c, scanG s (p + 1 + 1) l f us = scanG s (p + 1 + 1 + (a :: A).length) l f (us ++ [⟨t.kind, t.text, l, c⟩]) := by
        rcases hcase with ⟨k1, k2, k3, k4⟩ | ⟨k1, k2, k3, k4⟩ | ⟨k1, rfl, k3⟩
        · exact ⟨_, by rw [G_name a3 k2 k3 (by decide) k4, k1, ht]⟩
        · exact ⟨_, by rw [G_num a3 k2 k3 (by decide) k4, k1, ht]⟩
        · exact ⟨_, by rw [G_mark (L := 13 :: (32 :: wordsB r)) a3 k3, k1, ht]; rfl⟩
      obtain ⟨c, hkey⟩ := key
      rw [G_blank a1 (by decide), G_blank a2 (by decide), hkey, G_blank a4 (by decide), G_blank a5 (by decide)]
      obtain ⟨us', hg, hl⟩ := ih _ l f (us ++ [⟨t.kind, t.text, l, c⟩]) true a6 h4 (by rw [lastOn_snoc]; simp) (fun x hx => by
        rcases List.mem_append.1 hx with hx | hx
        · exact hle x hx
        · obtain rfl := List.mem_singleton.1 hx; simp)
      refine ⟨⟨t.kind, t.text, l, c⟩ :: us', by rw [hg]; simp, ?_⟩
      unfold like at hl ⊢
      simp [hl]
/-- The text that is made of words is scanned as the same words. -/
theorem blanks_all (s : ByteArray) (ts : List Tok) (hok : okR false ts false) (hs : s.data.toList = blankHead ++ wordsB ts) : ∃ us, scanF s (s.size + 1) 0 1 0 [] = .inl us ∧ like us ts := by
  have a0 : From s 0 (9 :: (10 :: (32 :: (35 :: [32, 255, 32, 39] ++ 10 :: wordsB ts)))) := ⟨Nat.zero_le _, by rw [List.drop_zero, hs]; rfl⟩
  have a1 := a0.next
  have a2 := a1.next
  have a3 := a2.next
  have a4 : From s (0 + 1 + 1 + 1 + 5) (10 :: wordsB ts) := From.skip (A := [35, 32, 255, 32, 39]) a3
  have a5 := a4.next
  have h0 : scanF s (s.size + 1) 0 1 0 [] = scanG s 0 1 0 [] := scanG_of s _ 0 1 0 [] (Nat.zero_le _) (by omega)
  rw [h0, G_blank a0 (by decide), G_nl a1, G_blank a2 (by decide), G_remark a3 (by decide), show 0 + 1 + 1 + 1 + (([32, 255, 32, 39] : List UInt8).length + 1) = 0 + 1 + 1 + 1 + 5 from rfl, G_nl a4, endTs_nil, endTs_nil]
  obtain ⟨us, h1, h2⟩ := blanks_scan s ts _ (1 + 1 + 1) (0 + 1 + 1 + 1 + 5 + 1) [] false a5 hok rfl (by simp)
  exact ⟨us, by simpa using h1, h2⟩
theorem blanks_size (s t : ByteArray) (ts : List Tok) (hok : okR false ts false) (hw : wsum ts ≤ t.size) (ht : t.size ≤ 4000) (hs : s.data.toList = blankHead ++ wordsB ts) : s.size ≤ 65536 := by
  have h1 := wordsB_len ts _ _ hok
  have h2 : s.size = s.data.toList.length := by simp
  rw [h2, hs, List.length_append]
  simp only [blankHead, List.length_cons, List.length_nil]
  simp at h1; omega
end Go.Proofs.YtebeimjgppidcaaDoor
