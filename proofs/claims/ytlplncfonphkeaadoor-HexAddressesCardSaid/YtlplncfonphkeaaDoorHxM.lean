/- Texts of digits to the base 16, as lists of signs: plain arithmetic. A byte is two digits; the number of a row of digits; what is written is read. -/
import Derived.Test.YtlplncfonphkeaaDoorFromM
namespace Go.Proofs.YtlplncfonphkeaaDoor.SmWord
set_option maxRecDepth 100000

/-- The sign of a digit. -/
def hx (n : Nat) : UInt8 := if n < 10 then UInt8.ofNat (48 + n) else UInt8.ofNat (87 + n)
/-- What a sign stands for; 16, if it is no digit. -/
def vc (c : Nat) : Nat := if 48 ≤ c ∧ c ≤ 57 then c - 48 else if 97 ≤ c ∧ c ≤ 102 then c - 87 else if 65 ≤ c ∧ c ≤ 70 then c - 55 else 16
def vl (c : UInt8) : Nat := vc c.toNat
theorem vl_hx : ∀ n, n < 16 → vl (hx n) = n := by decide
theorem hx_low : ∀ n, n < 16 → 97 ≤ (hx n).toNat → vc ((hx n).toNat - 32) = n := by decide
theorem hx_small : ∀ n, n < 16 → (hx n).toNat < 128 := by decide
theorem hx_zero : ∀ n, n < 16 → hx n = 48 → n = 0 := by decide
theorem vc_lt (c : Nat) : vc c ≤ 16 := by
  unfold vc
  split
  · omega
  · split
    · omega
    · split <;> omega
theorem vl_le (c : UInt8) : vl c ≤ 16 := vc_lt _
theorem vl_zero {c : UInt8} (h : c = 48) : vl c = 0 := by subst h; decide

/-- Two digits a byte. -/
def tx (f : Nat → Nat) : Nat → List UInt8
  | 0 => []
  | n + 1 => tx f n ++ [hx (f n / 16), hx (f n % 16)]
theorem tx_length (f : Nat → Nat) : ∀ n, (tx f n).length = 2 * n
  | 0 => rfl
  | n + 1 => by simp [tx, tx_length f n]; omega
theorem tx_congr {f g : Nat → Nat} : ∀ {n : Nat}, (∀ i, i < n → f i = g i) → tx f n = tx g n
  | 0, _ => rfl
  | n + 1, h => by rw [tx, tx, tx_congr (fun i hi => h i (by omega)), h n (by omega)]
theorem tx_cons (f : Nat → Nat) : ∀ n, tx f (n + 1) = hx (f 0 / 16) :: hx (f 0 % 16) :: tx (fun i => f (i + 1)) n
  | 0 => rfl
  | n + 1 => by rw [tx, tx_cons f n]; simp [tx]
theorem tx_get (f : Nat → Nat) : ∀ {n i : Nat}, i < n → (tx f n)[2 * i]? = some (hx (f i / 16)) ∧ (tx f n)[2 * i + 1]? = some (hx (f i % 16))
  | 0, i, h => by omega
  | n + 1, i, h => by
    have hl := tx_length f n
    rw [tx]
    rcases Nat.lt_or_ge i n with h1 | h1
    · have := tx_get f h1
      rw [List.getElem?_append_left (by omega), List.getElem?_append_left (by omega)]
      exact this
    · obtain rfl : i = n := by omega
      rw [List.getElem?_append_right (by omega), List.getElem?_append_right (by omega), hl]
      simp

/-- The number of a row of digits. -/
def nm (l : List UInt8) : Nat := l.foldl (fun a c => 16 * a + vl c) 0
theorem nm_snoc (l : List UInt8) (c : UInt8) : nm (l ++ [c]) = 16 * nm l + vl c := by simp [nm]
theorem nm_zero (l : List UInt8) : nm (48 :: l) = nm l := by
  unfold nm; rw [List.foldl_cons]; rfl
/-- The byte of the i-th two digits. -/
def pv (l : List UInt8) (i : Nat) : Nat := vl (l.getD (2 * i) 0) * 16 + vl (l.getD (2 * i + 1) 0)
theorem val_cons (g : Nat → Nat) : ∀ k, val g (k + 1) = g 0 + 256 * val (fun i => g (i + 1)) k
  | 0 => by simp [val]
  | k + 1 => by
    rw [val, val_cons g k, val]
    have e : (256 : Nat) ^ (k + 1) = 256 * 256 ^ k := by rw [Nat.pow_succ, Nat.mul_comm]
    rw [e, Nat.mul_add, ← Nat.mul_assoc, ← Nat.mul_assoc]
    simp only [Nat.mul_comm, Nat.mul_assoc, Nat.add_assoc]
theorem nm_take (l : List UInt8) : ∀ k, 2 * k ≤ l.length → nm (l.take (2 * k)) = val (fun i => pv l (k - 1 - i)) k
  | 0, _ => rfl
  | k + 1, h => by
    have e1 : l.take (2 * (k + 1)) = l.take (2 * k) ++ [l.getD (2 * k) 0] ++ [l.getD (2 * k + 1) 0] := by
      rw [show 2 * (k + 1) = 2 * k + 1 + 1 by omega, List.take_succ_eq_append_getElem (by omega), List.take_succ_eq_append_getElem (by omega)]
      simp [List.getD, List.getElem?_eq_getElem (show 2 * k < l.length by omega), List.getElem?_eq_getElem (show 2 * k + 1 < l.length by omega)]
    have e2 : val (fun i => (fun i => pv l (k + 1 - 1 - i)) (i + 1)) k = val (fun i => pv l (k - 1 - i)) k := val_congr fun i _ => by
      show pv l (k + 1 - 1 - (i + 1)) = pv l (k - 1 - i); rw [show k + 1 - 1 - (i + 1) = k - 1 - i by omega]
    rw [e1, nm_snoc, nm_snoc, nm_take l k (by omega), val_cons, e2]
    show _ = pv l (k + 1 - 1 - 0) + _
    rw [show k + 1 - 1 - 0 = k by omega]
    unfold pv
    omega
theorem nm_pairs {l : List UInt8} {k : Nat} (h : l.length = 2 * k) : nm l = val (fun i => pv l (k - 1 - i)) k := by
  have := nm_take l k (by omega)
  rwa [List.take_of_length_le (by omega)] at this
theorem pv_tx {f : Nat → Nat} {n i : Nat} (hi : i < n) (hf : f i < 256) : pv (tx f n) i = f i := by
  obtain ⟨h1, h2⟩ := tx_get f hi
  unfold pv
  rw [List.getD, List.getD, h1, h2]
  simp only [Option.getD_some]
  rw [vl_hx _ (by omega), vl_hx _ (by omega)]
  omega

/-- All are digits. -/
def okD (l : List UInt8) : Prop := ∀ c, c ∈ l → vl c < 16
instance (l : List UInt8) : Decidable (okD l) := by unfold okD; infer_instance
theorem okD_get {l : List UInt8} (h : okD l) {i : Nat} (hi : i < l.length) : vl (l.getD i 0) < 16 := by
  rw [List.getD, List.getElem?_eq_getElem hi]
  exact h _ (List.getElem_mem hi)
theorem okD_tx {f : Nat → Nat} : ∀ {n : Nat}, (∀ i, i < n → f i < 256) → okD (tx f n)
  | 0, _ => by intro c hc; cases hc
  | n + 1, h => by
    intro c hc
    rw [tx] at hc
    have := h n (by omega)
    rcases List.mem_append.1 hc with hc | hc
    · exact okD_tx (fun i hi => h i (by omega)) c hc
    · simp only [List.mem_cons, List.mem_nil_iff, or_false] at hc
      rcases hc with rfl | rfl
      · rw [vl_hx _ (by omega)]; omega
      · rw [vl_hx _ (by omega)]; omega
theorem pv_lt {l : List UInt8} (h : okD l) {i : Nat} (hi : 2 * i + 1 < l.length) : pv l i < 256 := by
  have h1 := okD_get h (i := 2 * i) (by omega)
  have h2 := okD_get h hi
  unfold pv; omega

/-- Without noughts ahead; 0 as one nought. -/
def st (l : List UInt8) : List UInt8 := if l.dropWhile (· == 48) = [] then [48] else l.dropWhile (· == 48)
theorem nm_drop : ∀ l : List UInt8, nm (l.dropWhile (· == 48)) = nm l
  | [] => rfl
  | c :: l => by
    rw [List.dropWhile_cons]
    split
    · rename_i h
      rw [nm_drop l]
      have : c = 48 := by simpa using h
      rw [this, nm_zero]
    · rfl
theorem nm_st (l : List UInt8) : nm (st l) = nm l := by
  unfold st
  split
  · rename_i h
    rw [← nm_drop l, h]; rfl
  · exact nm_drop l
theorem st_nil (l : List UInt8) : st l ≠ [] := by
  unfold st
  split
  · simp
  · assumption
theorem st_head (l : List UInt8) {t : List UInt8} (h : st l = 48 :: t) : t = [] := by
  unfold st at h
  split at h
  · simp only [List.cons.injEq] at h; exact h.2.symm
  · have : ∀ l : List UInt8, ∀ t, l.dropWhile (· == 48) = 48 :: t → False := by
      intro l
      induction l with
      | nil => intro t h; cases h
      | cons c l ih =>
        intro t h
        rw [List.dropWhile_cons] at h
        split at h
        · exact ih t h
        · rename_i h1
          simp only [List.cons.injEq] at h
          exact h1 (by simpa using h.1)
    exact (this l t h).elim
theorem st_length (l : List UInt8) (h : l ≠ []) : (st l).length ≤ l.length := by
  have : 1 ≤ l.length := by cases l with | nil => exact absurd rfl h | cons => simp
  unfold st
  split
  · simpa using this
  · exact List.Sublist.length_le (List.dropWhile_sublist _)
theorem st_ok {l : List UInt8} (h : okD l) : okD (st l) := by
  unfold st
  split
  · intro c hc; simp only [List.mem_cons, List.mem_nil_iff, or_false] at hc; subst hc; decide
  · exact fun c hc => h c ((List.dropWhile_sublist _).mem hc)
theorem st_step (t : List UInt8) : st (48 :: t) = st t := by
  unfold st; rw [List.dropWhile_cons]; simp
theorem st_one (c : UInt8) : st [c] = [c] := by
  by_cases h : c = 48
  · subst h; decide
  · unfold st; rw [List.dropWhile_cons]; simp [h]
theorem st_other {c : UInt8} {t : List UInt8} (h : c ≠ 48) : st (c :: t) = c :: t := by
  unfold st; rw [List.dropWhile_cons]; simp [h]
end Go.Proofs.YtlplncfonphkeaaDoor.SmWord
