/- Plain facts on scanning: how much fuel it takes, a line ahead of the text, where each word stands. -/
import Derived.Test.YtpefldpmdhajfaaDoorScan
namespace Go.Proofs.YtpefldpmdhajfaaDoor
theorem scanF_fuel (s : ByteArray) : ∀ (n p l f : Nat) (ts : List Tok), p ≤ s.size → s.size + 1 - p ≤ n → scanF s (n + 1) p l f ts = scanF s n p l f ts := by
  intro n
  induction n with
  | zero => intro p l f ts hp hn; omega
  | succ n ih =>
    intro p l f ts hp hn
    rcases Nat.lt_or_ge p s.size with h | h
    · have hr := run_gt s p h
      have hl := line_gt s p h
      have hr2 : Lx.runE s.data.toList p ≤ s.size := Lx.runE_le s.data.toList p (by simpa using hp)
      have hl2 : Lx.lineE s.data.toList p ≤ s.size := Lx.lineE_le s.data.toList p (by simpa using hp)
      rw [scanF_at s (n + 1) p l f ts h, scanF_at s n p l f ts h]
      split
      · rename_i hc
        have := hr (by rw [hc]; decide)
        split
        · rfl
        · exact ih _ _ _ _ hr2 (by omega)
      split
      · rename_i hc
        have := hr (by rw [hc]; decide)
        split
        · exact ih _ _ _ _ hr2 (by omega)
        · rfl
      split
      · exact ih _ _ _ _ (by omega) (by omega)
      split
      · exact ih _ _ _ _ (by omega) (by omega)
      split
      · rename_i hc
        have := hl (by rw [hc]; decide)
        exact ih _ _ _ _ hl2 (by omega)
      split
      · exact ih _ _ _ _ (by omega) (by omega)
      · rfl
    · obtain rfl : p = s.size := by omega
      rw [scanF_end, scanF_end]
theorem scanF_more (s : ByteArray) (n p l f : Nat) (ts : List Tok) (hp : p ≤ s.size) (hn : s.size + 1 - p ≤ n) : ∀ k, scanF s (n + k) p l f ts = scanF s n p l f ts := by
  intro k
  induction k with
  | zero => rfl
  | succ k ih => rw [← ih]; exact scanF_fuel s (n + k) p l f ts hp (by omega)
def up (t : Tok) : Tok := ⟨t.kind, t.text, t.line + 1, t.col⟩
def upR : List Tok ⊕ (Nat × Nat × Nat) → List Tok ⊕ (Nat × Nat × Nat)
  | .inl ts => .inl (ts.map up)
  | .inr (k, l, c) => .inr (k, l + 1, c)
theorem endTs_up (ts : List Tok) (l c : Nat) : endTs (ts.map up) (l + 1) c = (endTs ts l c).map up := by
  have h : lastOn (ts.map up) (l + 1) = lastOn ts l := by
    unfold lastOn
    rw [List.getLast?_map]
    cases ts.getLast? with
    | none => rfl
    | some t => simp [up]
  unfold endTs
  rw [h]
  split <;> simp [up]
theorem extract_list (s : ByteArray) (a b : Nat) : (s.extract a b).data.toList = (s.data.toList.drop a).take (b - a) := by
  rw [ByteArray.data_extract, Array.toList_extract, List.extract_eq_take_drop]
theorem bytes_ext {a b : ByteArray} (h : a.data.toList = b.data.toList) : a = b := by
  cases a; cases b; simp at h; simp [h]
/-- A line ahead of a text. -/
def aheadB : ByteArray := ⟨#[35, 32, 120, 10]⟩
theorem ahead_list (s : ByteArray) : (aheadB ++ s).data.toList = [35, 32, 120, 10] ++ s.data.toList := by
  simp [aheadB]
theorem ahead_size (s : ByteArray) : (aheadB ++ s).size = s.size + 4 := by
  rw [ByteArray.size_append]; show 4 + s.size = _; omega
theorem ahead_at (s : ByteArray) (p : Nat) (h : p < s.size) : (aheadB ++ s)[p + 4]'(by rw [ahead_size]; omega) = s[p] := by
  rw [← list_at s p h, ← list_at (aheadB ++ s) (p + 4) (by rw [ahead_size]; omega)]
  simp only [ahead_list]
  rw [List.getElem_append_right (by simp)]
  simp
theorem ahead_drop (s : ByteArray) (p : Nat) : (aheadB ++ s).data.toList.drop (p + 4) = s.data.toList.drop p := by
  rw [ahead_list, List.drop_append]
  simp
theorem ahead_run (s : ByteArray) (p : Nat) : Lx.runE (aheadB ++ s).data.toList (p + 4) = Lx.runE s.data.toList p + 4 := by
  unfold Lx.runE; rw [ahead_drop]; omega
theorem ahead_line (s : ByteArray) (p : Nat) : Lx.lineE (aheadB ++ s).data.toList (p + 4) = Lx.lineE s.data.toList p + 4 := by
  unfold Lx.lineE; rw [ahead_drop]; omega
theorem ahead_extract (s : ByteArray) (p e : Nat) : (aheadB ++ s).extract (p + 4) (e + 4) = s.extract p e := by
  apply bytes_ext
  rw [extract_list, extract_list, ahead_drop]
  congr 1; omega
theorem scan_ahead (s : ByteArray) : ∀ (n p l f : Nat) (ts : List Tok), p ≤ s.size → scanF (aheadB ++ s) n (p + 4) (l + 1) (f + 4) (ts.map up) = upR (scanF s n p l f ts) := by
  intro n
  induction n with
  | zero => intro p l f ts _; rfl
  | succ n ih =>
    intro p l f ts hp
    have hc : p + 4 - (f + 4) + 1 = p - f + 1 := by omega
    rcases Nat.lt_or_ge p s.size with h | h
    · have hr2 : Lx.runE s.data.toList p ≤ s.size := Lx.runE_le s.data.toList p (by simpa using hp)
      have hl2 : Lx.lineE s.data.toList p ≤ s.size := Lx.lineE_le s.data.toList p (by simpa using hp)
      have hmap : ∀ (k : Nat) (x : ByteArray), ts.map up ++ [(⟨k, x, l + 1, p - f + 1⟩ : Tok)] = (ts ++ [(⟨k, x, l, p - f + 1⟩ : Tok)]).map up := fun k x => by simp [up]
      have h1 : p + 4 + 1 = p + 1 + 4 := by omega
      rw [scanF_at s n p l f ts h, scanF_at (aheadB ++ s) n (p + 4) (l + 1) (f + 4) _ (by rw [ahead_size]; omega)]
      rw [ahead_at s p h, ahead_run, ahead_line, ahead_extract, hc, h1, ahead_extract, hmap, hmap, hmap, endTs_up]
      have hd : Lx.runE s.data.toList p + 4 - (p + 4) = Lx.runE s.data.toList p - p := by omega
      rw [hd]
      split
      · split
        · rfl
        · exact ih _ _ _ _ hr2
      split
      · split
        · exact ih _ _ _ _ hr2
        · rfl
      split
      · exact ih _ _ _ _ (by omega)
      split
      · exact ih _ _ _ _ (by omega)
      split
      · exact ih _ _ _ _ hl2
      split
      · exact ih _ _ _ _ (by omega)
      · rfl
    · obtain rfl : p = s.size := by omega
      have he : s.size + 4 = (aheadB ++ s).size := (ahead_size s).symm
      rw [scanF_end, he, scanF_end, ← he, hc, endTs_up]; rfl
theorem scan_ahead_all (s : ByteArray) : scanF (aheadB ++ s) ((aheadB ++ s).size + 1) 0 1 0 [] = upR (scanF s (s.size + 1) 0 1 0 []) := by
  have hz := ahead_size s
  have h0 : (aheadB ++ s)[0]'(by omega) = 35 := by
    rw [← list_at (aheadB ++ s) 0 (by omega)]; simp only [ahead_list]; rfl
  have h3 : (aheadB ++ s)[3]'(by omega) = 10 := by
    rw [← list_at (aheadB ++ s) 3 (by omega)]; simp only [ahead_list]; rfl
  have hl : Lx.lineE (aheadB ++ s).data.toList 0 = 3 := by
    unfold Lx.lineE; rw [ahead_list]; simp [Lx.lineLen]
  have e1 : (aheadB ++ s).size + 1 = s.size + 1 + 2 + 2 := by omega
  rw [e1, scanF_at (aheadB ++ s) (s.size + 1 + 2 + 1) 0 1 0 [] (by omega)]
  rw [h0, hl]
  rw [if_neg (by decide), if_neg (by decide), if_neg (by decide), if_neg (by decide), if_pos (by decide)]
  rw [scanF_at (aheadB ++ s) (s.size + 1 + 2) 3 1 0 [] (by omega)]
  rw [h3]
  rw [if_neg (by decide), if_neg (by decide), if_neg (by decide), if_neg (by decide), if_neg (by decide), if_pos (by decide), endTs_nil]
  have := scan_ahead s (s.size + 1 + 2) 0 1 0 [] (by omega)
  simp only [List.map_nil, Nat.zero_add] at this
  rw [this, scanF_more s (s.size + 1) 0 1 0 [] (by omega) (by omega)]
/-- How many lines end ahead of a place. -/
def nls (l : List UInt8) (p : Nat) : Nat := (l.take p).countP fun c => c.toNat == 10
theorem nls_zero (l : List UInt8) : nls l 0 = 0 := by simp [nls]
theorem nls_succ (l : List UInt8) (p : Nat) (h : p < l.length) : nls l (p + 1) = nls l p + (if l[p].toNat = 10 then 1 else 0) := by
  unfold nls
  rw [List.take_succ_eq_append_getElem h, List.countP_append]
  congr 1
  simp only [List.countP_cons, List.countP_nil, Nat.zero_add, beq_iff_eq]
theorem nls_mono (l : List UInt8) (p q : Nat) (h : p ≤ q) : nls l p ≤ nls l q := by
  unfold nls
  exact List.Sublist.countP_le (List.take_sublist_take_left h)
/-- A line begins there. -/
def Begins (l : List UInt8) (f : Nat) : Prop := f = 0 ∨ ∃ h : f - 1 < l.length, 0 < f ∧ l[f - 1].toNat = 10
theorem begins_nls {l : List UInt8} {f q : Nat} (hb : Begins l f) (hq : q < f) : nls l q < nls l f := by
  rcases hb with rfl | ⟨h, h0, hc⟩
  · omega
  · have h1 := nls_succ l (f - 1) h
    rw [if_pos hc, show f - 1 + 1 = f from by omega] at h1
    have := nls_mono l q (f - 1) (by omega)
    omega
theorem nls_still (l : List UInt8) (p : Nat) : ∀ q, p ≤ q → q ≤ l.length → (∀ k (h : k < l.length), p ≤ k → k < q → l[k].toNat ≠ 10) → nls l q = nls l p := by
  intro q
  induction q with
  | zero => intro h _ _; obtain rfl : p = 0 := by omega
            rfl
  | succ q ih =>
    intro h1 h2 h3
    rcases Nat.lt_or_ge q p with h | h
    · obtain rfl : p = q + 1 := by omega
      rfl
    · rw [nls_succ l q (by omega), if_neg (h3 q (by omega) h (by omega)), ih h (by omega) (fun k hk a b => h3 k hk a (by omega))]; rfl
theorem run_bytes (l : List UInt8) : ∀ k (h : k < l.length), k < Lx.runLen l → Lx.goB (l[k].toNat : Int) = true := by
  induction l with
  | nil => intro k h; simp at h
  | cons c r ih =>
    intro k h hk
    simp only [Lx.runLen] at hk
    split at hk
    · rename_i hg
      cases k with
      | zero => exact hg
      | succ k => simpa using ih k (by simpa using h) (by omega)
    · omega
theorem goB_ten : Lx.goB 10 = false := by decide
theorem run_no_nl (l : List UInt8) (p : Nat) (hp : p ≤ l.length) : nls l (Lx.runE l p) = nls l p := by
  refine nls_still l p _ (Lx.runE_ge l p) (Lx.runE_le l p hp) fun k hk h1 h2 hc => ?_
  have h3 := run_bytes (l.drop p) (k - p) (by simp; omega) (by unfold Lx.runE at h2; omega)
  rw [List.getElem_drop] at h3
  have e : p + (k - p) = k := by omega
  simp only [e, hc] at h3
  revert h3; decide
theorem line_bytes (l : List UInt8) : ∀ k (h : k < l.length), k < Lx.lineLen l → l[k].toNat ≠ 10 := by
  induction l with
  | nil => intro k h; simp at h
  | cons c r ih =>
    intro k h hk
    simp only [Lx.lineLen] at hk
    split at hk
    · omega
    · rename_i hg
      cases k with
      | zero => exact hg
      | succ k => simpa using ih k (by simpa using h) (by omega)
theorem line_no_nl (l : List UInt8) (p : Nat) (hp : p ≤ l.length) : nls l (Lx.lineE l p) = nls l p := by
  refine nls_still l p _ (by unfold Lx.lineE; omega) (Lx.lineE_le l p hp) fun k hk h1 h2 hc => ?_
  have h3 := line_bytes (l.drop p) (k - p) (by simp; omega) (by unfold Lx.lineE at h2; omega)
  rw [List.getElem_drop] at h3
  have e : p + (k - p) = k := by omega
  simp only [e, hc] at h3
  exact h3 rfl
/-- A word stands on its line, at its column. -/
def Stands (s : ByteArray) (t : Tok) : Prop := ∃ f p, Begins s.data.toList f ∧ nls s.data.toList f + 1 = t.line ∧ f ≤ p ∧ p ≤ s.size ∧ t.col = p - f + 1 ∧ (t.kind = 1 ∨ ∃ e, t.kind ≠ 1 ∧ p ≤ e ∧ e ≤ s.size ∧ t.text = s.extract p e)
/-- All words stand where their places say, and no line comes ahead of an earlier one. -/
def AllStand (s : ByteArray) (ts : List Tok) (l : Nat) : Prop := (∀ t ∈ ts, Stands s t ∧ t.line ≤ l) ∧ ts.Pairwise (fun a b => a.line ≤ b.line)
theorem AllStand.snoc {s : ByteArray} {ts : List Tok} {l : Nat} {t : Tok} (h : AllStand s ts l) (ht : Stands s t) (hl : t.line = l) : AllStand s (ts ++ [t]) l := by
  refine ⟨fun x hx => ?_, ?_⟩
  · rcases List.mem_append.1 hx with hx | hx
    · exact h.1 x hx
    · obtain rfl := List.mem_singleton.1 hx
      exact ⟨ht, by omega⟩
  · rw [List.pairwise_append]
    refine ⟨h.2, List.pairwise_singleton _ _, fun a ha b hb => ?_⟩
    obtain rfl := List.mem_singleton.1 hb
    rw [hl]; exact (h.1 a ha).2
theorem AllStand.next {s : ByteArray} {ts : List Tok} {l : Nat} (h : AllStand s ts l) : AllStand s ts (l + 1) := ⟨fun t ht => ⟨(h.1 t ht).1, by have := (h.1 t ht).2; omega⟩, h.2⟩
theorem AllStand.end {s : ByteArray} {ts : List Tok} {l f p : Nat} (h : AllStand s ts l) (hb : Begins s.data.toList f) (hn : nls s.data.toList f + 1 = l) (hf : f ≤ p) (hp : p ≤ s.size) : AllStand s (endTs ts l (p - f + 1)) l := by
  unfold endTs
  split
  · exact h.snoc ⟨f, p, hb, hn, hf, hp, rfl, .inl rfl⟩ rfl
  · exact h
theorem scan_stand (s : ByteArray) : ∀ (n p l f : Nat) (ts ts' : List Tok), p ≤ s.size → f ≤ p → s.size + 1 - p ≤ n → Begins s.data.toList f → nls s.data.toList f + 1 = l → nls s.data.toList p = nls s.data.toList f → AllStand s ts l → scanF s n p l f ts = .inl ts' → ∃ l', AllStand s ts' l' := by
  intro n
  induction n with
  | zero => intro p l f ts ts' hp _ hn; omega
  | succ n ih =>
    intro p l f ts ts' hp hf hn hb hl hpf hA h
    have hlen : s.data.toList.length = s.size := by simp
    rcases Nat.lt_or_ge p s.size with hlt | hge
    · have hr2 : Lx.runE s.data.toList p ≤ s.size := Lx.runE_le s.data.toList p (by simpa using hp)
      have hl2 : Lx.lineE s.data.toList p ≤ s.size := Lx.lineE_le s.data.toList p (by simpa using hp)
      have hr1 := run_gt s p hlt
      have hl1 := line_gt s p hlt
      have hrn := run_no_nl s.data.toList p (by omega)
      have hln := line_no_nl s.data.toList p (by omega)
      have hat : s.data.toList[p]'(by omega) = s[p] := list_at s p hlt
      have hns := nls_succ s.data.toList p (by omega)
      rw [hat] at hns
      have hten : ∀ c : Int, Lx.powZ (s[p].toNat : Int) = c → c ≠ 64 → s[p].toNat ≠ 10 := fun c hc h64 he => by
        rw [he] at hc; exact h64 (hc.symm.trans (by decide))
      rw [scanF_at s n p l f ts hlt] at h
      split at h
      · rename_i hc
        have := hr1 (by rw [hc]; decide)
        split at h
        · cases h
        · exact ih _ _ _ _ _ hr2 (by omega) (by omega) hb hl (by omega) (hA.snoc ⟨f, p, hb, hl, hf, hp, rfl, .inr ⟨_, by simp, by omega, hr2, rfl⟩⟩ rfl) h
      split at h
      · rename_i hc
        have := hr1 (by rw [hc]; decide)
        split at h
        · exact ih _ _ _ _ _ hr2 (by omega) (by omega) hb hl (by omega) (hA.snoc ⟨f, p, hb, hl, hf, hp, rfl, .inr ⟨_, by simp, by omega, hr2, rfl⟩⟩ rfl) h
        · cases h
      split at h
      · rename_i hc
        rw [if_neg (hten _ hc (by decide))] at hns
        exact ih _ _ _ _ _ (by omega) (by omega) (by omega) hb hl (by omega) (hA.snoc ⟨f, p, hb, hl, hf, hp, rfl, .inr ⟨p + 1, by simp, by omega, by omega, rfl⟩⟩ rfl) h
      split at h
      · rename_i hc
        rw [if_neg (hten _ hc (by decide))] at hns
        exact ih _ _ _ _ _ (by omega) (by omega) (by omega) hb hl (by omega) hA h
      split at h
      · rename_i hc
        have := hl1 (by rw [hc]; decide)
        exact ih _ _ _ _ _ hl2 (by omega) (by omega) hb hl (by omega) hA h
      split at h
      · rename_i hc
        have h10 : s[p].toNat = 10 := by
          have hall : ∀ n : Fin 256, Lx.powZ (n.val : Int) = 64 → n.val = 10 := by decide +kernel
          exact hall ⟨s[p].toNat, s[p].toNat_lt⟩ hc
        rw [if_pos h10] at hns
        exact ih _ _ _ _ _ (by omega) (Nat.le_refl _) (by omega) (.inr ⟨by omega, by omega, by simpa [hat] using h10⟩) (by omega) rfl (hA.end hb hl hf hp).next h
      · cases h
    · obtain rfl : p = s.size := by omega
      rw [scanF_end] at h
      cases h
      exact ⟨l, hA.end hb hl hf hp⟩
theorem scan_stand_all (s : ByteArray) (ts : List Tok) (h : scanF s (s.size + 1) 0 1 0 [] = .inl ts) : ∃ l, AllStand s ts l :=
  scan_stand s _ 0 1 0 [] ts (Nat.zero_le _) (Nat.le_refl _) (by omega) (.inl rfl) (by rw [nls_zero]) rfl ⟨by simp, List.Pairwise.nil⟩ h
end Go.Proofs.YtpefldpmdhajfaaDoor
