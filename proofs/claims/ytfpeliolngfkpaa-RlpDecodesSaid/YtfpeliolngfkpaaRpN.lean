/- Items in bytes, in plain words: no program is named here. Their writing, how it is read, and that what is written is read as it was. -/
import Derived.Test.YtfpeliolngfkpaaRpM
namespace Go.Proofs.Ytfpeliolngfkpaa.SmWord
set_option maxRecDepth 100000

theorem getD_left (l m : List Nat) {i : Nat} (h : i < l.length) : (l ++ m).getD i 0 = l.getD i 0 := by simp [List.getD, List.getElem?_append_left h]
theorem snoc_ind {P : List Nat → Prop} (h0 : P []) (h1 : ∀ l x, P l → P (l ++ [x])) (l : List Nat) : P l := by
  have h : ∀ m : List Nat, P m.reverse := fun m => by
    induction m with
    | nil => exact h0
    | cons x m ih => rw [List.reverse_cons]; exact h1 _ _ ih
  have := h l.reverse
  rwa [List.reverse_reverse] at this
/-- How many bytes a number has. -/
def nbl (n : Nat) : Nat := if n = 0 then 0 else n.log2 / 8 + 1
theorem nbl_lt (n : Nat) : n < 256 ^ nbl n := by
  unfold nbl
  split
  · rename_i h; simp [h]
  · rename_i h
    have h1 : n < 2 ^ (n.log2 + 1) := Nat.lt_log2_self
    have h2 : (2 : Nat) ^ (n.log2 + 1) ≤ 2 ^ (8 * (n.log2 / 8 + 1)) := Nat.pow_le_pow_right (by decide) (by omega)
    rw [Nat.pow_mul] at h2
    exact Nat.lt_of_lt_of_le h1 h2
theorem nbl_le {n : Nat} (h : n ≠ 0) : 256 ^ (nbl n - 1) ≤ n := by
  unfold nbl
  rw [if_neg h, Nat.add_sub_cancel, show (256 : Nat) = 2 ^ 8 from rfl, ← Nat.pow_mul]
  exact Nat.le_trans (Nat.pow_le_pow_right (by decide) (by omega)) (Nat.log2_self_le h)
theorem nbl_of {n k : Nat} (h1 : 256 ^ k ≤ n) (h2 : n < 256 ^ (k + 1)) : nbl n = k + 1 := by
  have hn : n ≠ 0 := by have := Nat.pow_pos (n := k) (show 0 < 256 by decide); omega
  have a := nbl_lt n
  have b := nbl_le hn
  have hp : nbl n ≠ 0 := by simp [nbl, hn]
  have c : k < nbl n := (Nat.pow_lt_pow_iff_right (by decide)).1 (Nat.lt_of_le_of_lt h1 a)
  have d : nbl n - 1 < k + 1 := (Nat.pow_lt_pow_iff_right (by decide)).1 (Nat.lt_of_le_of_lt b h2)
  omega
/-- The k lowest bytes of a number, the highest first. -/
def bdig : Nat → Nat → List Nat
  | 0, _ => []
  | k + 1, n => bdig k (n / 256) ++ [n % 256]
theorem bdig_length : ∀ k n, (bdig k n).length = k
  | 0, _ => rfl
  | k + 1, n => by simp [bdig, bdig_length k]
theorem bdig_lt : ∀ k n, ∀ x ∈ bdig k n, x < 256
  | 0, _, x, h => by simp [bdig] at h
  | k + 1, n, x, h => by
    simp only [bdig, List.mem_append, List.mem_singleton] at h
    rcases h with h | rfl
    · exact bdig_lt k _ x h
    · exact Nat.mod_lt _ (by decide)
theorem bdig_head : ∀ k n, (bdig (k + 1) n).getD 0 0 = n / 256 ^ k % 256
  | 0, n => by simp [bdig]
  | k + 1, n => by
    have h := bdig_head k (n / 256)
    rw [bdig, getD_left _ _ (by rw [bdig_length]; omega), h, Nat.div_div_eq_div_mul, Nat.pow_succ', Nat.mul_comm]
/-- The number that bytes say, the highest first. -/
def bval (l : List Nat) : Nat := l.foldl (fun n b => n * 256 + b) 0
theorem bval_snoc (l : List Nat) (x : Nat) : bval (l ++ [x]) = bval l * 256 + x := by simp [bval]
theorem bval_bdig : ∀ k n, n < 256 ^ k → bval (bdig k n) = n
  | 0, n, h => by simp at h; subst h; rfl
  | k + 1, n, h => by
    rw [bdig, bval_snoc, bval_bdig k (n / 256) (by rw [Nat.pow_succ] at h; omega)]
    omega
theorem bdig_bval : ∀ l : List Nat, (∀ x ∈ l, x < 256) → bdig l.length (bval l) = l := fun l => by
  refine snoc_ind (P := fun l => (∀ x ∈ l, x < 256) → bdig l.length (bval l) = l) (fun _ => rfl) (fun l x ih => ?_) l
  · intro h
    have hx := h x (by simp)
    rw [List.length_append, List.length_singleton, bdig, bval_snoc, show (bval l * 256 + x) / 256 = bval l by omega, show (bval l * 256 + x) % 256 = x by omega, ih fun y hy => h y (by simp [hy])]
theorem bval_lt : ∀ l : List Nat, (∀ x ∈ l, x < 256) → bval l < 256 ^ l.length := fun l => by
  refine snoc_ind (P := fun l => (∀ x ∈ l, x < 256) → bval l < 256 ^ l.length) (fun _ => by decide) (fun l x ih => ?_) l
  · intro h
    have hx := h x (by simp)
    have := ih fun y hy => h y (by simp [hy])
    rw [bval_snoc, List.length_append, List.length_singleton, Nat.pow_succ]
    omega
/-- The same, but never more than 10^9. -/
def cval (l : List Nat) : Nat := l.foldl (fun n b => min (n * 256 + b) 1000000000) 0
theorem cval_snoc (l : List Nat) (x : Nat) : cval (l ++ [x]) = min (cval l * 256 + x) 1000000000 := by simp [cval]
theorem cval_bval : ∀ l : List Nat, cval l = min (bval l) 1000000000 := fun l => by
  refine snoc_ind (P := fun l => cval l = min (bval l) 1000000000) rfl (fun l x ih => ?_) l
  rw [cval_snoc, bval_snoc, ih]
  omega
/-- What stands ahead of n bytes; m: 64 for a list. -/
def hea (n m : Nat) : List Nat := if n ≤ 55 then [128 + m + n] else (183 + m + nbl n) :: bdig (nbl n) n
/-- Bytes' writing. -/
def ws (b : List Nat) : List Nat := if b.length = 1 ∧ b.getD 0 0 < 128 then b else hea b.length 0 ++ b
/-- Items' writing. -/
def wrs : Fo → List Nat
  | .no => []
  | .st b nx => ws b ++ wrs nx
  | .li k nx => hea (wrs k).length 64 ++ wrs k ++ wrs nx
/-- What stands ahead, read: whether it is a list, how many bytes stand ahead, and how many it is; or an error. -/
inductive Hd where
  | bad (e : Nat)
  | got (ls : Bool) (u n : Nat)
def hdp (c : Nat) (R : List Nat) : Hd :=
  let ls := decide (192 ≤ c)
  let c' := if 192 ≤ c then c - 64 else c
  if c' ≤ 183 then .got ls 1 (c' - 128)
  else if R.length < c' - 183 then .bad 3
  else if R.getD 0 0 = 0 then .bad 2
  else if cval (R.take (c' - 183)) ≤ 55 then .bad 2
  else .got ls (1 + (c' - 183)) (cval (R.take (c' - 183)))
inductive Res where
  | err (e : Nat)
  | ok (l : List Nd) (u : Nat)
def lop (one : List Nat → Nat → Res) : Nat → List Nat → Nat → List Nd → Res
  | 0, _, _, _ => .err 99
  | f + 1, R, room, acc => if room = 0 then .ok acc 0 else match one R room with
    | .err e => .err e
    | .ok l u => lop one f (R.drop u) (room - u) (acc ++ l)
/-- An item read, of what is left and of the room that its list has, in lists of which d more may be. -/
def rdStep (sub : Option (List Nat → Nat → Res)) (R : List Nat) (room : Nat) : Res := match R with
  | [] => .err 3
  | c :: T => if c < 128 then .ok [⟨false, [c], 0⟩] 1 else match hdp c T with
    | .bad e => .err e
    | .got ls u n =>
      if (c :: T).length - u < n then .err 3
      else if room < u + n then .err 2
      else if ls = false then (if n = 1 ∧ (c :: T).getD u 0 < 128 then .err 2 else .ok [⟨false, ((c :: T).drop u).take n, 0⟩] (u + n))
      else match sub with
        | none => .err 4
        | some one => match lop one (n + 1) ((c :: T).drop u) n [] with
          | .err e => .err e
          | .ok l _ => .ok (⟨true, [], (l.length : Int)⟩ :: l) (u + n)
def rd : Nat → List Nat → Nat → Res
  | 0 => rdStep none
  | d + 1 => rdStep (some (rd d))

theorem nbl_le8 {n : Nat} (h : n ≤ 1048576) : nbl n ≤ 8 := by
  by_cases h0 : n = 0
  · simp [nbl, h0]
  · have a := nbl_le h0
    apply Classical.byContradiction
    intro h8
    have : (256 : Nat) ^ 8 ≤ 256 ^ (nbl n - 1) := Nat.pow_le_pow_right (by decide) (by omega)
    have : (256 : Nat) ^ 8 = 18446744073709551616 := by decide
    omega
theorem hea_long (n m : Nat) : 0 < (hea n m).length := by unfold hea; split <;> simp
theorem ws_long (b : List Nat) : 0 < (ws b).length := by
  unfold ws
  split
  · omega
  · have := hea_long b.length 0
    simp
    omega
theorem hea_read {n m : Nat} (hm : m = 0 ∨ m = 64) (hn : n ≤ 1048576) (X : List Nat) : ∃ c T, hea n m ++ X = c :: T ∧ 128 ≤ c ∧ hdp c T = .got (decide (m = 64)) (hea n m).length n := by
  by_cases h : n ≤ 55
  · refine ⟨128 + m + n, X, by simp [hea, h], by omega, ?_⟩
    rcases hm with rfl | rfl
    · simp [hdp, hea, h, show ¬ 192 ≤ 128 + n by omega, show 128 + n ≤ 183 by omega]
    · simp [hdp, hea, h, show 192 ≤ 128 + 64 + n by omega, show 128 + 64 + n - 64 ≤ 183 by omega]
      omega
  · have h0 : n ≠ 0 := by omega
    have h8 := nbl_le8 hn
    have hp : nbl n ≠ 0 := by simp [nbl, h0]
    have hv : cval (bdig (nbl n) n) = n := by rw [cval_bval, bval_bdig _ _ (nbl_lt n)]; omega
    obtain ⟨k, hk⟩ : ∃ k, nbl n = k + 1 := ⟨nbl n - 1, by omega⟩
    have hd : (bdig (nbl n) n).getD 0 0 ≠ 0 := by
      rw [hk, bdig_head]
      have a := nbl_le h0
      have b := nbl_lt n
      rw [hk] at a b
      rw [Nat.add_sub_cancel] at a
      have e1 : n / 256 ^ k < 256 := by rw [Nat.div_lt_iff_lt_mul (Nat.pow_pos (by decide)), Nat.mul_comm, ← Nat.pow_succ]; exact b
      have e2 : 0 < n / 256 ^ k := Nat.div_pos a (Nat.pow_pos (by decide))
      rw [Nat.mod_eq_of_lt e1]
      omega
    have hl : (bdig (nbl n) n).length = nbl n := bdig_length _ _
    refine ⟨183 + m + nbl n, bdig (nbl n) n ++ X, by simp [hea, h], by omega, ?_⟩
    have hg : (bdig (nbl n) n ++ X).getD 0 0 ≠ 0 := by rwa [getD_left _ _ (by omega)]
    have ht : (bdig (nbl n) n ++ X).take (nbl n) = bdig (nbl n) n := by rw [List.take_left' hl]
    have hx : nbl n ≤ (bdig (nbl n) n ++ X).length := by rw [List.length_append, hl]; omega
    have hc : ((if 192 ≤ 183 + m + nbl n then 183 + m + nbl n - 64 else 183 + m + nbl n) : Nat) = 183 + nbl n ∧ decide (192 ≤ 183 + m + nbl n) = decide (m = 64) := by
      rcases hm with rfl | rfl
      · rw [if_neg (by omega)]
        exact ⟨by omega, by simp; omega⟩
      · rw [if_pos (by omega)]
        exact ⟨by omega, by simp; omega⟩
    unfold hdp
    simp only
    rw [hc.1, hc.2, if_neg (by omega), Nat.add_sub_cancel_left, if_neg (by omega), if_neg hg, ht, hv, if_neg h]
    simp [hea, h, hl]
    omega
end Go.Proofs.Ytfpeliolngfkpaa.SmWord
