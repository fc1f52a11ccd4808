/- The instructions' table, as the chapter has it: names as bytes, what each takes, puts and costs, how many bytes belong to it. -/
import Derived.Lib.ItoaNum
import Derived.Test.YtokompkkbnbinaaDoorRows
import Derived.WalkKit
import Derived.WalkSpells
import Derived.WalkLawsBesides
import Derived.BigQuiet
import Derived.LoopN
namespace Go.Proofs.YtokompkkbnbinaaDoor.SmWord
set_option maxRecDepth 100000

/-- What is told of an instruction. -/
structure OpT where
  nm : ByteArray
  po : Nat
  pu : Nat
  ga : Nat
  da : Nat
def none0 : OpT := ⟨⟨#[]⟩, 0, 0, 0, 0⟩
def nm0 : List ByteArray := [⟨#[83, 84, 79, 80]⟩, ⟨#[65, 68, 68]⟩, ⟨#[77, 85, 76]⟩, ⟨#[83, 85, 66]⟩, ⟨#[68, 73, 86]⟩, ⟨#[83, 68, 73, 86]⟩, ⟨#[77, 79, 68]⟩, ⟨#[83, 77, 79, 68]⟩, ⟨#[65, 68, 68, 77, 79, 68]⟩, ⟨#[77, 85, 76, 77, 79, 68]⟩, ⟨#[69, 88, 80]⟩, ⟨#[83, 73, 71, 78, 69, 88, 84, 69, 78, 68]⟩]
def nu0 : List Nat := [0, 0, 0, 2, 1, 3, 2, 1, 5, 2, 1, 3, 2, 1, 5, 2, 1, 5, 2, 1, 5, 2, 1, 5, 3, 1, 8, 3, 1, 8, 2, 1, 10, 2, 1, 5]
def nm1 : List ByteArray := [⟨#[76, 84]⟩, ⟨#[71, 84]⟩, ⟨#[83, 76, 84]⟩, ⟨#[83, 71, 84]⟩, ⟨#[69, 81]⟩, ⟨#[73, 83, 90, 69, 82, 79]⟩, ⟨#[65, 78, 68]⟩, ⟨#[79, 82]⟩, ⟨#[88, 79, 82]⟩, ⟨#[78, 79, 84]⟩, ⟨#[66, 89, 84, 69]⟩, ⟨#[83, 72, 76]⟩, ⟨#[83, 72, 82]⟩, ⟨#[83, 65, 82]⟩]
def nu1 : List Nat := [2, 1, 3, 2, 1, 3, 2, 1, 3, 2, 1, 3, 2, 1, 3, 1, 1, 3, 2, 1, 3, 2, 1, 3, 2, 1, 3, 1, 1, 3, 2, 1, 3, 2, 1, 3, 2, 1, 3, 2, 1, 3]
def nm2 : List ByteArray := [⟨#[75, 69, 67, 67, 65, 75, 50, 53, 54]⟩]
def nu2 : List Nat := [2, 1, 30]
def nm3 : List ByteArray := [⟨#[65, 68, 68, 82, 69, 83, 83]⟩, ⟨#[66, 65, 76, 65, 78, 67, 69]⟩, ⟨#[79, 82, 73, 71, 73, 78]⟩, ⟨#[67, 65, 76, 76, 69, 82]⟩, ⟨#[67, 65, 76, 76, 86, 65, 76, 85, 69]⟩, ⟨#[67, 65, 76, 76, 68, 65, 84, 65, 76, 79, 65, 68]⟩, ⟨#[67, 65, 76, 76, 68, 65, 84, 65, 83, 73, 90, 69]⟩, ⟨#[67, 65, 76, 76, 68, 65, 84, 65, 67, 79, 80, 89]⟩, ⟨#[67, 79, 68, 69, 83, 73, 90, 69]⟩, ⟨#[67, 79, 68, 69, 67, 79, 80, 89]⟩, ⟨#[71, 65, 83, 80, 82, 73, 67, 69]⟩, ⟨#[69, 88, 84, 67, 79, 68, 69, 83, 73, 90, 69]⟩, ⟨#[69, 88, 84, 67, 79, 68, 69, 67, 79, 80, 89]⟩, ⟨#[82, 69, 84, 85, 82, 78, 68, 65, 84, 65, 83, 73, 90, 69]⟩, ⟨#[82, 69, 84, 85, 82, 78, 68, 65, 84, 65, 67, 79, 80, 89]⟩, ⟨#[69, 88, 84, 67, 79, 68, 69, 72, 65, 83, 72]⟩]
def nu3 : List Nat := [0, 1, 2, 1, 1, 100, 0, 1, 2, 0, 1, 2, 0, 1, 2, 1, 1, 3, 0, 1, 2, 3, 0, 3, 0, 1, 2, 3, 0, 3, 0, 1, 2, 1, 1, 100, 4, 0, 100, 0, 1, 2, 3, 0, 3, 1, 1, 100]
def nm4 : List ByteArray := [⟨#[66, 76, 79, 67, 75, 72, 65, 83, 72]⟩, ⟨#[67, 79, 73, 78, 66, 65, 83, 69]⟩, ⟨#[84, 73, 77, 69, 83, 84, 65, 77, 80]⟩, ⟨#[78, 85, 77, 66, 69, 82]⟩, ⟨#[80, 82, 69, 86, 82, 65, 78, 68, 65, 79]⟩, ⟨#[71, 65, 83, 76, 73, 77, 73, 84]⟩, ⟨#[67, 72, 65, 73, 78, 73, 68]⟩, ⟨#[83, 69, 76, 70, 66, 65, 76, 65, 78, 67, 69]⟩, ⟨#[66, 65, 83, 69, 70, 69, 69]⟩]
def nu4 : List Nat := [1, 1, 20, 0, 1, 2, 0, 1, 2, 0, 1, 2, 0, 1, 2, 0, 1, 2, 0, 1, 2, 0, 1, 5, 0, 1, 2]
def nm5 : List ByteArray := [⟨#[80, 79, 80]⟩, ⟨#[77, 76, 79, 65, 68]⟩, ⟨#[77, 83, 84, 79, 82, 69]⟩, ⟨#[77, 83, 84, 79, 82, 69, 56]⟩, ⟨#[83, 76, 79, 65, 68]⟩, ⟨#[83, 83, 84, 79, 82, 69]⟩, ⟨#[74, 85, 77, 80]⟩, ⟨#[74, 85, 77, 80, 73]⟩, ⟨#[80, 67]⟩, ⟨#[77, 83, 73, 90, 69]⟩, ⟨#[71, 65, 83]⟩, ⟨#[74, 85, 77, 80, 68, 69, 83, 84]⟩, ⟨#[45]⟩, ⟨#[45]⟩, ⟨#[45]⟩, ⟨#[80, 85, 83, 72, 48]⟩]
def nu5 : List Nat := [1, 0, 2, 1, 1, 3, 2, 0, 3, 2, 0, 3, 1, 1, 100, 2, 0, 100, 1, 0, 8, 2, 0, 10, 0, 1, 2, 0, 1, 2, 0, 1, 2, 0, 0, 1, 0, 0, 0, 0, 0, 0, 0, 0, 0, 0, 1, 2]
def nm15 : List ByteArray := [⟨#[67, 82, 69, 65, 84, 69]⟩, ⟨#[67, 65, 76, 76]⟩, ⟨#[67, 65, 76, 76, 67, 79, 68, 69]⟩, ⟨#[82, 69, 84, 85, 82, 78]⟩, ⟨#[68, 69, 76, 69, 71, 65, 84, 69, 67, 65, 76, 76]⟩, ⟨#[67, 82, 69, 65, 84, 69, 50]⟩, ⟨#[45]⟩, ⟨#[45]⟩, ⟨#[45]⟩, ⟨#[45]⟩, ⟨#[83, 84, 65, 84, 73, 67, 67, 65, 76, 76]⟩, ⟨#[45]⟩, ⟨#[45]⟩, ⟨#[82, 69, 86, 69, 82, 84]⟩, ⟨#[73, 78, 86, 65, 76, 73, 68]⟩, ⟨#[83, 69, 76, 70, 68, 69, 83, 84, 82, 85, 67, 84]⟩]
def nu15 : List Nat := [3, 1, 32000, 7, 1, 100, 7, 1, 100, 2, 0, 0, 6, 1, 100, 4, 1, 32000, 0, 0, 0, 0, 0, 0, 0, 0, 0, 0, 0, 0, 6, 1, 100, 0, 0, 0, 0, 0, 0, 2, 0, 0, 0, 0, 0, 1, 0, 5000]
/-- The names of a row of sixteen. -/
def nmL : Nat → List ByteArray
  | 0 => nm0
  | 1 => nm1
  | 2 => nm2
  | 3 => nm3
  | 4 => nm4
  | 5 => nm5
  | 15 => nm15
  | _ => []
/-- Its numbers, three by three. -/
def nuL : Nat → List Nat
  | 0 => nu0
  | 1 => nu1
  | 2 => nu2
  | 3 => nu3
  | 4 => nu4
  | 5 => nu5
  | 15 => nu15
  | _ => []
/-- The decimal digits of a number behind a name. -/
def nmd (s : ByteArray) (n : Nat) : ByteArray := s ++ ⟨(Lib.decDigits n).toArray⟩
def sPUSH : ByteArray := ⟨#[80, 85, 83, 72]⟩
def sDUP : ByteArray := ⟨#[68, 85, 80]⟩
def sSWAP : ByteArray := ⟨#[83, 87, 65, 80]⟩
def sLOG : ByteArray := ⟨#[76, 79, 71]⟩
/-- How many bytes behind an instruction belong to it. -/
def nb (b : Nat) : Nat := if 96 ≤ b ∧ b ≤ 127 then b - 95 else 0
/-- What is told of a byte of the table. -/
def opRow (r k : Nat) : OpT := if k < (nmL r).length ∧ (((nmL r).getD k ⟨#[]⟩).data.toList == [45]) = false then ⟨(nmL r).getD k ⟨#[]⟩, (nuL r).getD (3 * k) 0, (nuL r).getD (3 * k + 1) 0, (nuL r).getD (3 * k + 2) 0, 0⟩ else none0
def told (b : Nat) : OpT :=
  if 96 ≤ b ∧ b < 128 then ⟨nmd sPUSH (b - 95), 0, 1, 3, b - 95⟩
  else if 128 ≤ b ∧ b < 144 then ⟨nmd sDUP (b - 127), b - 127, b - 126, 3, 0⟩
  else if 144 ≤ b ∧ b < 160 then ⟨nmd sSWAP (b - 143), b - 142, b - 142, 3, 0⟩
  else if 160 ≤ b ∧ b < 165 then ⟨nmd sLOG (b - 160), b - 158, 0, 375 * (b - 159), 0⟩
  else opRow (b / 16) (b % 16)
/-- Whether it is an instruction. -/
def isI (b : Nat) : Bool := !(told b).nm.data.toList.isEmpty
end Go.Proofs.YtokompkkbnbinaaDoor.SmWord
/- Which bytes of a code are instructions, and which are destinations: plain arithmetic. -/
namespace Go.Proofs.YtokompkkbnbinaaDoor.SmWord
set_option maxRecDepth 100000

/-- How many bytes from place i on belong to an instruction ahead. -/
def lv (f : Nat → Nat) : Nat → Nat
  | 0 => 0
  | i + 1 => if lv f i = 0 then nb (f i) else lv f i - 1
/-- Where the last instruction ahead of place i stands. -/
def ow (f : Nat → Nat) : Nat → Nat
  | 0 => 0
  | i + 1 => if lv f i = 0 then i else ow f i
/-- Whose each byte is. -/
def ol (f : Nat → Nat) (n : Nat) : List Nat := (List.range n).map fun i => if lv f i = 0 then i else ow f i
def isD (f : Nat → Nat) (i : Nat) : Bool := decide (lv f i = 0) && decide (f i = 91)
/-- All destinations below n. -/
def ds (f : Nat → Nat) (n : Nat) : List Nat := (List.range n).filter (isD f)
theorem nb_le (b : Nat) : nb b ≤ 32 := by unfold nb; split <;> omega
theorem ds_succ (f : Nat → Nat) (n : Nat) : ds f (n + 1) = ds f n ++ (if lv f n = 0 ∧ f n = 91 then [n] else []) := by
  unfold ds
  rw [List.range_succ, List.filter_append]
  congr 1
  by_cases h : lv f n = 0 ∧ f n = 91
  · simp [isD, h.1, h.2]
  · rw [if_neg h]
    have : isD f n = false := by
      unfold isD
      rw [Bool.and_eq_false_iff, decide_eq_false_iff_not, decide_eq_false_iff_not]
      by_cases h1 : lv f n = 0
      · exact .inr fun h2 => h ⟨h1, h2⟩
      · exact .inl h1
    simp [this]
theorem ds_yes {f : Nat → Nat} {n : Nat} (h : lv f n = 0) (hf : f n = 91) : ds f (n + 1) = ds f n ++ [n] := by rw [ds_succ, if_pos ⟨h, hf⟩]
theorem ds_no {f : Nat → Nat} {n : Nat} (h : ¬ (lv f n = 0 ∧ f n = 91)) : ds f (n + 1) = ds f n := by rw [ds_succ, if_neg h, List.append_nil]
theorem ds_length_le (f : Nat → Nat) (n : Nat) : (ds f n).length ≤ n := by
  unfold ds
  exact Nat.le_trans (List.length_filter_le _ _) (by simp)
theorem mem_ds {f : Nat → Nat} {n i : Nat} : i ∈ ds f n ↔ i < n ∧ lv f i = 0 ∧ f i = 91 := by
  unfold ds isD
  simp [List.mem_filter]
theorem ds_lt {f : Nat → Nat} {n i : Nat} (h : i < (ds f n).length) : (ds f n).getD i 0 < n := by
  have e : (ds f n).getD i 0 = (ds f n)[i] := by simp [List.getD, h]
  rw [e]
  exact (mem_ds.1 (List.getElem_mem h)).1
theorem ol_length (f : Nat → Nat) (n : Nat) : (ol f n).length = n := by simp [ol]
theorem ol_get {f : Nat → Nat} {n i : Nat} (h : i < n) : (ol f n).getD i 0 = if lv f i = 0 then i else ow f i := by simp [ol, List.getD, h]
theorem ol_succ (f : Nat → Nat) (n : Nat) : ol f (n + 1) = ol f n ++ [if lv f n = 0 then n else ow f n] := by simp [ol, List.range_succ]
theorem ow_le (f : Nat → Nat) : ∀ i, ow f (i + 1) ≤ i
  | 0 => by simp [ow]
  | i + 1 => by
    have := ow_le f i
    rw [ow]
    split <;> omega
theorem ow_lt {f : Nat → Nat} {i : Nat} (h : lv f i ≠ 0) : ow f i < i := by
  cases i with
  | zero => exact absurd rfl h
  | succ i => have := ow_le f i; omega
/-- An instruction's place is its own, and no other's. -/
theorem ol_own {f : Nat → Nat} {n i : Nat} (h : i < n) : (ol f n).getD i 0 = i ↔ lv f i = 0 := by
  rw [ol_get h]
  by_cases h0 : lv f i = 0
  · rw [if_pos h0]; exact ⟨fun _ => h0, fun _ => rfl⟩
  · rw [if_neg h0]
    have := ow_lt h0
    exact ⟨fun e => by omega, fun e => absurd e h0⟩
theorem ol_le {f : Nat → Nat} {n i : Nat} (h : i < n) : (ol f n).getD i 0 ≤ i := by
  rw [ol_get h]
  split
  · exact Nat.le_refl _
  · rename_i h0
    exact Nat.le_of_lt (ow_lt h0)
/-- Behind an instruction: what belongs to it. -/
theorem lv_in {f : Nat → Nat} {i : Nat} (h : lv f i = 0) : ∀ j, j ≤ nb (f i) → lv f (i + 1 + j) = nb (f i) - j
  | 0, _ => by show lv f (i + 1) = _; rw [lv, if_pos h]; omega
  | j + 1, hj => by
    have e := lv_in h j (by omega)
    show lv f (i + 1 + j + 1) = _
    rw [lv, e, if_neg (by omega)]
    omega
theorem lv_next {f : Nat → Nat} {i : Nat} (h : lv f i = 0) : lv f (i + 1 + nb (f i)) = 0 := by
  rw [lv_in h _ (Nat.le_refl _)]; omega
theorem ds_in {f : Nat → Nat} {i : Nat} (h : lv f i = 0) : ∀ j, j ≤ nb (f i) → ds f (i + 1 + j) = ds f (i + 1)
  | 0, _ => rfl
  | j + 1, hj => by
    show ds f (i + 1 + j + 1) = _
    rw [ds_no (by rw [lv_in h j (by omega)]; omega)]
    exact ds_in h j (by omega)
theorem lv_congr {f g : Nat → Nat} : ∀ {i : Nat}, (∀ j, j < i → f j = g j) → lv f i = lv g i
  | 0, _ => rfl
  | i + 1, h => by rw [lv, lv, lv_congr (i := i) fun j hj => h j (by omega), h i (by omega)]
theorem ds_congr {f g : Nat → Nat} : ∀ {n : Nat}, (∀ j, j < n → f j = g j) → ds f n = ds g n
  | 0, _ => rfl
  | n + 1, h => by rw [ds_succ, ds_succ, ds_congr (n := n) fun j hj => h j (by omega), lv_congr (i := n) fun j hj => h j (by omega), h n (by omega)]
/-- Behind a place where an instruction stands all goes as at the front. -/
theorem lv_move {f : Nat → Nat} {m : Nat} (h : lv f m = 0) : ∀ i, lv f (m + i) = lv (fun j => f (m + j)) i
  | 0 => h
  | i + 1 => by
    show lv f (m + i + 1) = _
    rw [lv, lv, lv_move h i]
theorem ds_move {f : Nat → Nat} {m : Nat} (h : lv f m = 0) : ∀ n, ds f (m + n) = ds f m ++ (ds (fun j => f (m + j)) n).map (m + ·)
  | 0 => by simp [ds]
  | n + 1 => by
    show ds f (m + n + 1) = _
    rw [ds_succ, ds_succ, ds_move h n, lv_move h n, List.map_append, List.append_assoc]
    congr 2
    split <;> simp
/-- A push of k bytes, and another code. -/
theorem ds_push {f : Nat → Nat} {k : Nat} (hk : 1 ≤ k) (hk2 : k ≤ 32) (h0 : f 0 = 95 + k) (n : Nat) : ds f (k + 1 + n) = (ds (fun j => f (k + 1 + j)) n).map (k + 1 + ·) := by
  have hn : nb (f 0) = k := by rw [h0]; unfold nb; rw [if_pos (by omega)]; omega
  have l0 : lv f 0 = 0 := rfl
  have h1 := lv_next l0
  have h2 := ds_in l0 k (by omega)
  rw [hn, show 0 + 1 + k = k + 1 by omega] at h1
  rw [show 0 + 1 + k = k + 1 by omega] at h2
  rw [ds_move h1 n, h2, ds_no (by omega)]
  rfl
end Go.Proofs.YtokompkkbnbinaaDoor.SmWord
/- The document's rows of names and numbers: what they answer, in one new variable. -/
namespace Go.Proofs.YtokompkkbnbinaaDoor
open Go.RowKit SmWord
set_option maxRecDepth 100000

/-- A row of names, of numbers, as cells. -/
def sC (l : List ByteArray) : Array Value := (l.map Value.string).toArray
def iC (l : List Nat) : Array Value := (l.map fun x => Value.int .i64 ((x : Nat) : Int)).toArray
theorem nmL_none {r : Nat} (h0 : r ≠ 0) (h1 : r ≠ 1) (h2 : r ≠ 2) (h3 : r ≠ 3) (h4 : r ≠ 4) (h5 : r ≠ 5) (h6 : r ≠ 15) : nmL r = [] := by
  unfold nmL
  split <;> first | rfl | omega
theorem nuL_none {r : Nat} (h0 : r ≠ 0) (h1 : r ≠ 1) (h2 : r ≠ 2) (h3 : r ≠ 3) (h4 : r ≠ 4) (h5 : r ≠ 5) (h6 : r ≠ 15) : nuL r = [] := by
  unfold nuL
  split <;> first | rfl | omega
theorem int_ne {r k : Nat} (h : (((r : Nat) : Int) == (k : Int)) = false) : r ≠ k := by
  rintro rfl
  simp at h
theorem int_eq {r k : Nat} (h : (((r : Nat) : Int) == (k : Int)) = true) : r = k := by
  simpa [Int.ofNat_inj] using h
set_option maxHeartbeats 4000000 in
theorem names_walk (r : Nat) (w : World) : Calls Tryd.prog 14 #[.int .i64 (r : Int)] w fun e w' => e = .returned (.slice (some ⟨w.heap.size, 0, none⟩) (nmL r).length (nmL r).length) ∧ w' = w.alloc (.cells (sC (nmL r)) 9) := by
  go_enter Tryd.func14, Tryd.ntmps14
  go_wp2_with fail
  · rename_i h
    obtain rfl := int_eq (k := 0) h
    go_ret
    exact ⟨rfl, rfl⟩
  · rename_i _ h
    obtain rfl := int_eq (k := 1) h
    go_ret
    exact ⟨rfl, rfl⟩
  · rename_i _ _ h
    obtain rfl := int_eq (k := 2) h
    go_ret
    exact ⟨rfl, rfl⟩
  · rename_i _ _ _ h
    obtain rfl := int_eq (k := 3) h
    go_ret
    exact ⟨rfl, rfl⟩
  · rename_i _ _ _ _ h
    obtain rfl := int_eq (k := 4) h
    go_ret
    exact ⟨rfl, rfl⟩
  · rename_i _ _ _ _ _ h
    obtain rfl := int_eq (k := 5) h
    go_ret
    exact ⟨rfl, rfl⟩
  · rename_i _ _ _ _ _ _ h
    obtain rfl := int_eq (k := 15) h
    go_ret
    exact ⟨rfl, rfl⟩
  · rename_i h0 h1 h2 h3 h4 h5 h6
    have e := nmL_none (int_ne (k := 0) h0) (int_ne (k := 1) h1) (int_ne (k := 2) h2) (int_ne (k := 3) h3) (int_ne (k := 4) h4) (int_ne (k := 5) h5) (int_ne (k := 15) h6)
    rw [e]
    go_ret
    exact ⟨rfl, rfl⟩
set_option maxHeartbeats 4000000 in
theorem numbers_walk (r : Nat) (w : World) : Calls Tryd.prog 15 #[.int .i64 (r : Int)] w fun e w' => e = .returned (.slice (some ⟨w.heap.size, 0, none⟩) (nuL r).length (nuL r).length) ∧ w' = w.alloc (.cells (iC (nuL r)) 3) := by
  go_enter Tryd.func15, Tryd.ntmps15
  go_wp2_with fail
  · rename_i h
    obtain rfl := int_eq (k := 0) h
    go_ret
    exact ⟨rfl, rfl⟩
  · rename_i _ h
    obtain rfl := int_eq (k := 1) h
    go_ret
    exact ⟨rfl, rfl⟩
  · rename_i _ _ h
    obtain rfl := int_eq (k := 2) h
    go_ret
    exact ⟨rfl, rfl⟩
  · rename_i _ _ _ h
    obtain rfl := int_eq (k := 3) h
    go_ret
    exact ⟨rfl, rfl⟩
  · rename_i _ _ _ _ h
    obtain rfl := int_eq (k := 4) h
    go_ret
    exact ⟨rfl, rfl⟩
  · rename_i _ _ _ _ _ h
    obtain rfl := int_eq (k := 5) h
    go_ret
    exact ⟨rfl, rfl⟩
  · rename_i _ _ _ _ _ _ h
    obtain rfl := int_eq (k := 15) h
    go_ret
    exact ⟨rfl, rfl⟩
  · rename_i h0 h1 h2 h3 h4 h5 h6
    have e := nuL_none (int_ne (k := 0) h0) (int_ne (k := 1) h1) (int_ne (k := 2) h2) (int_ne (k := 3) h3) (int_ne (k := 4) h4) (int_ne (k := 5) h5) (int_ne (k := 15) h6)
    rw [e]
    go_ret
    exact ⟨rfl, rfl⟩
end Go.Proofs.YtokompkkbnbinaaDoor
