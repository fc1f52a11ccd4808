/- Plain arithmetic: how many bits a number has. -/
import Derived.Test.YtnjeoeekidnffaaGreatN5
import Derived.Lib.ItoaNum
import Derived.Test.YtnjeoeekidnffaaGreatN0
namespace Go.Proofs.YtnjeoeekidnffaaGreat.SmWord

/-- How many bits a number has. -/
def bl (x : Nat) : Nat := if x = 0 then 0 else x.log2 + 1
theorem bl_zero : bl 0 = 0 := rfl
theorem bl_eq {x k : Nat} (h1 : 2 ^ k ≤ x) (h2 : x < 2 ^ (k + 1)) : bl x = k + 1 := by
  have hx : x ≠ 0 := by have := Nat.two_pow_pos k; omega
  unfold bl
  rw [if_neg hx, (Nat.log2_eq_iff hx).2 ⟨h1, h2⟩]
theorem bl_spec {x : Nat} (hx : x ≠ 0) : ∃ k, bl x = k + 1 ∧ 2 ^ k ≤ x ∧ x < 2 ^ (k + 1) := by
  obtain ⟨h1, h2⟩ := (Nat.log2_eq_iff hx).1 rfl
  exact ⟨x.log2, by unfold bl; rw [if_neg hx], h1, h2⟩
theorem bl_lib {x : Nat} (h : x < B) : Lib.bitLen x = bl x := by
  by_cases hx : x = 0
  · subst hx; rfl
  · obtain ⟨a, b, c⟩ := Lib.bitLenAux_bounds 64 x (by simp only [B] at h; omega) hx
    have e : Lib.bitLen x = Lib.bitLenAux 64 x := rfl
    rw [← e] at a b c
    generalize Lib.bitLen x = L at *
    obtain ⟨k, rfl⟩ : ∃ k, L = k + 1 := ⟨L - 1, by omega⟩
    exact (bl_eq (by simpa using b) c).symm
theorem bl_up {r y s : Nat} (hr : r < 2 ^ s) (hy : y ≠ 0) : bl (r + 2 ^ s * y) = s + bl y := by
  obtain ⟨k, e, h1, h2⟩ := bl_spec hy
  rw [e, ← Nat.add_assoc]
  have e1 : 2 ^ (s + k) = 2 ^ s * 2 ^ k := Nat.pow_add _ _ _
  have e2 : 2 ^ (s + k + 1) = 2 ^ s * 2 ^ (k + 1) := by rw [Nat.add_assoc, Nat.pow_add]
  refine bl_eq ?_ ?_
  · rw [e1]; exact Nat.le_trans (Nat.mul_le_mul_left _ h1) (Nat.le_add_left _ _)
  · rw [e2]
    have := Nat.mul_le_mul_left (2 ^ s) (show y + 1 ≤ 2 ^ (k + 1) from h2)
    rw [Nat.mul_add] at this
    omega
theorem bl_le {x s : Nat} (h : x < 2 ^ s) : bl x ≤ s := by
  by_cases hx : x = 0
  · subst hx; exact Nat.zero_le _
  · obtain ⟨k, e, h1, _⟩ := bl_spec hx
    have : k < s := (Nat.pow_lt_pow_iff_right (by decide)).1 (Nat.lt_of_le_of_lt h1 h)
    omega
theorem bl_step (m k : Nat) : bl (m % 2 ^ (k + 1)) = if bitN m k = 1 then k + 1 else bl (m % 2 ^ k) := by
  have e : m % 2 ^ (k + 1) = m % 2 ^ k + 2 ^ k * bitN m k := by rw [Nat.pow_succ, Nat.mod_mul]; rfl
  have h := bitN_lt m k
  have hlt : m % 2 ^ k < 2 ^ k := Nat.mod_lt _ (Nat.two_pow_pos k)
  by_cases hb : bitN m k = 1
  · rw [if_pos hb, e, hb, Nat.mul_one]
    exact bl_eq (Nat.le_add_left _ _) (by rw [Nat.pow_succ]; omega)
  · rw [if_neg hb, e, show bitN m k = 0 by omega, Nat.mul_zero, Nat.add_zero]
theorem bl_num {a b c d : Nat} (ha : a < B) (hb : b < B) (hc : c < B) :
    (d ≠ 0 → bl (num a b c d) = 192 + bl d) ∧ (d = 0 → c ≠ 0 → bl (num a b c d) = 128 + bl c) ∧ (d = 0 → c = 0 → b ≠ 0 → bl (num a b c d) = 64 + bl b) ∧
    (d = 0 → c = 0 → b = 0 → bl (num a b c d) = bl a) := by
  refine ⟨fun h => ?_, fun h1 h => ?_, fun h1 h2 h => ?_, fun h1 h2 h3 => ?_⟩
  · rw [← bl_up (r := num a b c 0) (s := 192) (by unfold num; simp only [B] at *; omega) h]
    congr 1
    unfold num; simp only [B]; omega
  · subst h1
    rw [← bl_up (r := num a b 0 0) (s := 128) (by unfold num; simp only [B] at *; omega) h]
    congr 1
    unfold num; simp only [B]; omega
  · subst h1 h2
    rw [← bl_up (r := num a 0 0 0) (s := 64) (by unfold num; simp only [B] at *; omega) h]
    congr 1
  · subst h1 h2 h3
    congr 1
end Go.Proofs.YtnjeoeekidnffaaGreat.SmWord
/- What the functions Bit, Byte, Small, Len and Size of package word do, for every word: a bit, a byte, whether it is small, how many bits and bytes it has; all older memory is as it was. -/
namespace Go.Proofs.YtnjeoeekidnffaaGreat
open Go.RowKit SmWord
set_option maxRecDepth 100000

theorem lb_bit (m n : Nat) : lb m (n / 64) / 2 ^ (n % 64) % 2 = bitN m n := by
  unfold lb bitN
  have h8 : n % 64 < 64 := Nat.mod_lt _ (by decide)
  have hB : B = 2 ^ 64 := rfl
  have e2 : B = 2 ^ (n % 64) * 2 ^ (64 - n % 64) := by rw [← Nat.pow_add, hB]; congr 1; omega
  have e3 : (2 : Nat) ^ (64 - n % 64) = 2 * 2 ^ (63 - n % 64) := by rw [← Nat.pow_succ']; congr 1; omega
  have e4 : B ^ (n / 64) * 2 ^ (n % 64) = 2 ^ n := by rw [hB, ← Nat.pow_mul, ← Nat.pow_add]; congr 1; omega
  conv => lhs; arg 1; arg 1; arg 2; rw [e2]
  rw [Nat.mod_mul_right_div_self, e3, Nat.mod_mul_right_mod, Nat.div_div_eq_div_mul, e4]
theorem lb_lt (m i : Nat) : lb m i < B := Nat.mod_lt _ (by decide)

/-- The byte of a word at a place, the highest first; 0 where there is none. -/
def byteV (m n : Nat) : Nat := if n < 32 then dig m (31 - n) else 0
/-- Is a word below 2^64? -/
def smallB (m : Nat) : Bool := decide (m % M = l0 m % M)
end Go.Proofs.YtnjeoeekidnffaaGreat
/- A region that keeps the order of the text, whose operations read, and call functions that only make new memory: walked as the quiet ones are. -/
namespace Go.Proofs.YtnjeoeekidnffaaGreat
open Go.RowKit SmWord

theorem wpList_of_quiet {P : Program} {ops : Array Oper} {C : World → Prop} {Q' : Act → Prop} {Q : Exit → Act → World → Prop} (hQ : ∀ a w, C w → Q' a → Q .normal a w) :
    ∀ (l : List Oper) (a : Act) (w : World), C w → wpQuiet P ops C Q' l a → wpList P ops Q l a w
  | [], _, _, hw, h => hQ _ _ hw h
  | o :: l, a, w, hw, h => by
    unfold wpQuiet at h
    unfold wpList
    split
    · rename_i hwa
      rw [if_pos hwa] at h
      exact .inl (Oper.wp_of_quiet hw (fun a' w' hw' hk => wpList_of_quiet hQ l a' w' hw' hk) h)
    · rename_i hwa
      rw [if_neg hwa] at h
      exact wpList_of_quiet hQ l _ w hw h

theorem region_seq {P : Program} {id : Nat} {Q : Exit → Act → World → Prop} {a : Act} {w : World} {l : List Oper}
    (h : wpQuiet P l.toArray (fun w' => ∃ g : Ext w, w' = g.on) (fun a' => ∀ w', (∃ g : Ext w, w' = g.on) → Q .normal a' w') l a) : (Code.region id l.toArray false).wp P Q a w :=
  wp_region_lit (wpList_of_quiet (C := fun w' => ∃ g : Ext w, w' = g.on) (fun _ w' hw' h => h w' hw') l a w ⟨⟨w, Below.refl _ _⟩, rfl⟩ h)
end Go.Proofs.YtnjeoeekidnffaaGreat
/- What the method Word of the document's digits does: the word of digits. -/
namespace Go.Proofs.YtnjeoeekidnffaaGreat
open Go.RowKit SmWord
set_option maxRecDepth 100000
theorem acc_start (m : Nat) : arr .u64 4 (fun q => ((acc m 32 q : Nat) : Int)) = #[Value.int .u64 0, .int .u64 0, .int .u64 0, .int .u64 0] := by
  have : arr .u64 4 (fun _ => 0) = #[Value.int .u64 0, .int .u64 0, .int .u64 0, .int .u64 0] := rfl
  rw [← this]
  exact arr_congr fun q hq => by rw [acc_end m q hq]; rfl
theorem acc_last (m : Nat) : arr .u64 4 (fun q => ((acc m 0 q : Nat) : Int)) = wa m := by
  apply Array.ext_getElem?
  intro i
  by_cases hi : i < 4
  · rw [arr_get _ _ hi, wa_lb m i hi, acc_zero]
  · rw [Array.getElem?_eq_none (by simp [arr_size]; omega), Array.getElem?_eq_none (by rw [wa_size]; omega)]
theorem acc_val (m j : Nat) : IntKind.u64.wrap (IntKind.u64.wrap (((acc m (j + 1) (j / 8) : Nat) : Int) * 256) + IntKind.u64.wrap ((dig m j : Nat) : Int)) = ((acc m j (j / 8) : Nat) : Int) := by
  obtain ⟨h1, h2⟩ := acc_step m j
  have h3 := dig_lt m j
  rw [IntKind.wrap_u64, IntKind.wrap_u64, IntKind.wrap_u64]
  generalize acc m (j + 1) (j / 8) = x at *
  generalize acc m j (j / 8) = y at *
  generalize dig m j = d at *
  simp only [B] at h2
  omega
theorem acc_put (m j : Nat) (hj : j / 8 < 4) : (arr .u64 4 (fun q => ((acc m (j + 1) q : Nat) : Int))).setIfInBounds (j / 8) (.int .u64 ((acc m j (j / 8) : Nat) : Int)) = arr .u64 4 (fun q => ((acc m j q : Nat) : Int)) := by
  rw [arr_set _ _ _ hj]
  refine arr_congr fun q _ => ?_
  by_cases h : q = j / 8
  · subst h; simp
  · rw [if_neg h, acc_other m j q (fun e => h e.symm)]
theorem Tryz.infoWa {n : Nat} : (Tryz.prog.info? 44).map (·.size) = some (wa n).size := by rw [wa_size]; kernel_rfl
theorem wa_one {n : Nat} : (wa n).all (·.oneCell') = true := by simp [wa, Value.oneCell']
end Go.Proofs.YtnjeoeekidnffaaGreat
/- Plain arithmetic: the number whose digits to the base 256 these are. -/
namespace Go.Proofs.YtnjeoeekidnffaaGreat.SmWord

/-- The number with the digits g 0 .. g (k-1). -/
def val (g : Nat → Nat) : Nat → Nat
  | 0 => 0
  | k + 1 => val g k + g k * 256 ^ k
theorem val_lt {g : Nat → Nat} : ∀ {k : Nat}, (∀ i, i < k → g i < 256) → val g k < 256 ^ k
  | 0, _ => by simp [val]
  | k + 1, h => by
    have h1 := val_lt (g := g) (k := k) fun i hi => h i (by omega)
    have h2 : (g k + 1) * 256 ^ k ≤ 256 * 256 ^ k := Nat.mul_le_mul_right _ (h k (by omega))
    rw [Nat.add_mul] at h2
    rw [Nat.pow_succ', val]
    omega
theorem val_congr {g h : Nat → Nat} : ∀ {k : Nat}, (∀ i, i < k → g i = h i) → val g k = val h k
  | 0, _ => rfl
  | k + 1, e => by rw [val, val, val_congr fun i hi => e i (by omega), e k (by omega)]
theorem val_dig (a : Nat) : ∀ k : Nat, val (dig a) k = a % 256 ^ k
  | 0 => by simp [val, Nat.mod_one]
  | k + 1 => by rw [val, val_dig a k, Nat.pow_succ, Nat.mod_mul, Nat.mul_comm (dig a k)]; rfl
theorem dig_val_high {g : Nat → Nat} {k i : Nat} (h : ∀ i, i < k → g i < 256) (hi : k ≤ i) : dig (val g k) i = 0 := by
  unfold dig
  rw [Nat.div_eq_of_lt (Nat.lt_of_lt_of_le (val_lt h) (Nat.pow_le_pow_right (by decide) hi))]
theorem dig_val {g : Nat → Nat} : ∀ {k i : Nat}, (∀ i, i < k → g i < 256) → i < k → dig (val g k) i = g i
  | 0, _, _, hi => by omega
  | k + 1, i, h, hi => by
    have hl := val_lt (g := g) (k := k) fun i hi => h i (by omega)
    by_cases e : i = k
    · subst e
      unfold dig
      rw [val, Nat.add_mul_div_right _ _ (Nat.pow_pos (by decide)), Nat.div_eq_of_lt hl, Nat.zero_add, Nat.mod_eq_of_lt (h i (by omega))]
    · rw [← dig_val (k := k) (fun i hi => h i (by omega)) (show i < k by omega)]
      unfold dig
      rw [val]
      have e1 : 256 ^ k = 256 ^ i * (256 * 256 ^ (k - i - 1)) := by rw [← Nat.pow_succ', ← Nat.pow_add]; congr 1; omega
      rw [e1, show g k * (256 ^ i * (256 * 256 ^ (k - i - 1))) = 256 ^ i * (256 * (g k * 256 ^ (k - i - 1))) by generalize 256 ^ i = p; generalize 256 ^ (k - i - 1) = q; grind, Nat.add_mul_div_left _ _ (Nat.pow_pos (by decide)), Nat.add_mul_mod_self_left]
theorem B_pow (q : Nat) : B ^ q = 256 ^ (8 * q) := by rw [B_256, Nat.pow_mul]
theorem lb_other {g : Nat → Nat} {k q : Nat} (h : ∀ i, i < k + 1 → g i < 256) (hq : q ≠ k / 8) : lb (val g (k + 1)) q = lb (val g k) q := by
  unfold lb
  rw [B_pow]
  by_cases h1 : q < k / 8
  · have e1 : 256 ^ k = 256 ^ (8 * q) * (B * 256 ^ (k - 8 * q - 8)) := by rw [B_256, ← Nat.pow_add, ← Nat.pow_add]; congr 1; omega
    rw [val, e1, show g k * (256 ^ (8 * q) * (B * 256 ^ (k - 8 * q - 8))) = 256 ^ (8 * q) * (B * (g k * 256 ^ (k - 8 * q - 8))) by generalize 256 ^ (8 * q) = p; generalize 256 ^ (k - 8 * q - 8) = r; grind, Nat.add_mul_div_left _ _ (Nat.pow_pos (by decide)), Nat.add_mul_mod_self_left]
  · have e1 : val g (k + 1) < 256 ^ (8 * q) := Nat.lt_of_lt_of_le (val_lt h) (Nat.pow_le_pow_right (by decide) (by omega))
    have e2 : val g k < 256 ^ (8 * q) := Nat.lt_of_lt_of_le (val_lt fun i hi => h i (by omega)) (Nat.pow_le_pow_right (by decide) (by omega))
    rw [Nat.div_eq_of_lt e1, Nat.div_eq_of_lt e2]
theorem lb_here {g : Nat → Nat} {k : Nat} (h : ∀ i, i < k + 1 → g i < 256) :
    lb (val g k) (k / 8) < 2 ^ (8 * (k % 8)) ∧ lb (val g (k + 1)) (k / 8) = lb (val g k) (k / 8) ||| g k * 2 ^ (8 * (k % 8)) ∧ g k * 2 ^ (8 * (k % 8)) < B := by
  have hk : val g k < 256 ^ k := val_lt fun i hi => h i (by omega)
  have e0 : (2 : Nat) ^ (8 * (k % 8)) = 256 ^ (k % 8) := by rw [Nat.pow_mul]
  have e1 : 256 ^ k = B ^ (k / 8) * 256 ^ (k % 8) := by rw [B_pow, ← Nat.pow_add]; congr 1; omega
  have hB : B = 256 ^ (k % 8) * (256 * 256 ^ (7 - k % 8)) := by rw [← Nat.pow_succ', ← Nat.pow_add, B_256]; congr 1; omega
  have hp : 0 < 256 ^ (7 - k % 8) := Nat.pow_pos (by decide)
  have hle : 256 ^ (k % 8) * 256 ≤ B := by rw [hB, ← Nat.mul_assoc]; exact Nat.le_mul_of_pos_right _ hp
  have hg := h k (by omega)
  have hpos : 0 < B ^ (k / 8) := Nat.pow_pos (by decide)
  have hx : val g k / B ^ (k / 8) < 256 ^ (k % 8) := Nat.div_lt_of_lt_mul (by rw [← e1]; exact hk)
  have hmul : (g k + 1) * 256 ^ (k % 8) ≤ 256 * 256 ^ (k % 8) := Nat.mul_le_mul_right _ hg
  rw [Nat.add_mul] at hmul
  have hq : val g (k + 1) / B ^ (k / 8) = val g k / B ^ (k / 8) + g k * 256 ^ (k % 8) := by
    rw [val, e1, show g k * (B ^ (k / 8) * 256 ^ (k % 8)) = B ^ (k / 8) * (g k * 256 ^ (k % 8)) by generalize B ^ (k / 8) = p; generalize 256 ^ (k % 8) = r; grind, Nat.add_mul_div_left _ _ hpos]
  unfold lb
  rw [hq, e0]
  generalize val g k / B ^ (k / 8) = x at *
  have hb1 : x % B = x := Nat.mod_eq_of_lt (by omega)
  have hb2 : (x + g k * 256 ^ (k % 8)) % B = x + g k * 256 ^ (k % 8) := Nat.mod_eq_of_lt (by omega)
  rw [hb1, hb2]
  refine ⟨hx, ?_, by omega⟩
  rw [← e0] at hx ⊢
  rw [Nat.or_comm, Nat.mul_comm, ← Nat.two_pow_add_eq_or_of_lt hx, Nat.add_comm]
end Go.Proofs.YtnjeoeekidnffaaGreat.SmWord
/- What the method Bit and the function Bits of the document's digits do: a bit of a number, and the digits of the number whose bits these are. -/
namespace Go.Proofs.YtnjeoeekidnffaaGreat
open Go.RowKit SmWord
set_option maxRecDepth 100000

/-- A bit of n; 0 where there is none. -/
def bitI (n : Nat) (i : Int) : Int := if i < 0 ∨ 255 < i then 0 else ((bitN n i.toNat : Nat) : Int)
end Go.Proofs.YtnjeoeekidnffaaGreat
/- What the function Bits of the document's digits does: the digits of the number whose bits these are. -/
namespace Go.Proofs.YtnjeoeekidnffaaGreat
open Go.RowKit SmWord
set_option maxRecDepth 100000

/-- The bits of n. -/
def ba (n : Nat) : Array Value := arr .i64 256 (fun i => ((bitN n i : Nat) : Int))
def zB : Array Value := arr .i64 256 (fun _ => 0)
theorem ba_congr {m n : Nat} (h : m % M = n % M) : ba m = ba n := arr_congr fun _ hi => by rw [bit_congr h hi]
theorem accB_start (m : Nat) : arr .i64 32 (fun q => ((accB m 256 q : Nat) : Int)) = zD := arr_congr fun q hq => by rw [accB_end m q hq]; rfl
theorem accB_last (m : Nat) : arr .i64 32 (fun q => ((accB m 0 q : Nat) : Int)) = da m := arr_congr fun q _ => by rw [accB_zero]
theorem accB_val (m j : Nat) : ((accB m (j + 1) (j / 8) : Nat) : Int) * 2 + ((bitN m j : Nat) : Int) = ((accB m j (j / 8) : Nat) : Int) := by
  obtain ⟨h1, _⟩ := accB_step m j
  omega
theorem accB_put (m j : Nat) (hj : j / 8 < 32) : (arr .i64 32 (fun q => ((accB m (j + 1) q : Nat) : Int))).setIfInBounds (j / 8) (.int .i64 ((accB m j (j / 8) : Nat) : Int)) = arr .i64 32 (fun q => ((accB m j q : Nat) : Int)) := by
  rw [arr_set _ _ _ hj]
  refine arr_congr fun q _ => ?_
  by_cases h : q = j / 8
  · subst h; simp
  · rw [if_neg h, accB_other m j q (fun e => h e.symm)]
end Go.Proofs.YtnjeoeekidnffaaGreat
