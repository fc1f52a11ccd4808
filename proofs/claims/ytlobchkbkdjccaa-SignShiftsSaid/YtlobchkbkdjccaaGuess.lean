/- What math/bits.Div64 does in numbers, where the divisor's highest bit is 1; and what the function guessDigit of package wide does: it returns the guess, and leaves all older memory as it was. -/
import Derived.Test.YtlobchkbkdjccaaD64
import Derived.Test.YtlobchkbkdjccaaBlen
namespace Go.Proofs.Ytlobchkbkdjccaa
open Go.RowKit SmWord
set_option maxRecDepth 100000

theorem and_low (y : Nat) (hy : y < B) : bits .and .u64 (y : Int) 4294967295 = ((y % 4294967296 : Nat) : Int) := by
  have h := u64_and_nat y 4294967295 hy (by decide)
  have e : y &&& 4294967295 = y % 4294967296 := Nat.and_two_pow_sub_one_eq_mod y 32
  rw [e] at h
  exact h
theorem or_none (x l : Nat) (hx : x < B) (hl : l < B) : bits .or .u64 (x : Int) ((l : Int) / 18446744073709551616) = (x : Int) := by
  have e : (l : Int) / 18446744073709551616 = ((0 : Nat) : Int) := by simp only [B] at hl; omega
  rw [e, u64_or_nat x 0 hx (by decide), Nat.or_zero]
theorem half_nat {x l y : Nat} (hx : x < y) (hy : y < B) (hy2 : 9223372036854775808 ≤ y) (hl : l < 4294967296) :
    Half (x : Int) (l : Int) (y : Int) ((y / 4294967296 : Nat) : Int) ((y % 4294967296 : Nat) : Int) (((x * 4294967296 + l) / y : Nat) : Int) := by
  have h0 : 0 < y := by omega
  have e := Nat.div_add_mod (x * 4294967296 + l) y
  have f := Nat.mod_lt (x * 4294967296 + l) h0
  rw [Nat.mul_comm] at e
  generalize (x * 4294967296 + l) / y = q at *
  have c : ((q * y : Nat) : Int) = (q : Int) * (y : Int) := Int.natCast_mul _ _
  simp only [B] at hy
  refine ⟨by omega, by omega, by omega, by omega, by omega, by omega, by omega, by omega, by omega, ?_, ?_, by omega⟩
  · rw [← c]; omega
  · rw [← c]; omega
theorem half_rest {x l y : Nat} (hx : x < y) (hy : y < B) (hy2 : 9223372036854775808 ≤ y) (hl : l < 4294967296) :
    IntKind.u64.wrap (IntKind.u64.wrap (IntKind.u64.wrap ((x : Int) * 4294967296) + (l : Int)) - IntKind.u64.wrap ((((x * 4294967296 + l) / y : Nat) : Int) * (y : Int))) = (((x * 4294967296 + l) % y : Nat) : Int) := by
  have h := half_left (half_nat hx hy hy2 hl) (by simp only [B] at hy; omega)
  rw [IntKind.wrap_u64, IntKind.wrap_u64, IntKind.wrap_u64, IntKind.wrap_u64, h]
  have e := Nat.div_add_mod (x * 4294967296 + l) y
  rw [Nat.mul_comm] at e
  generalize (x * 4294967296 + l) / y = q at *
  generalize (x * 4294967296 + l) % y = r at *
  have c : ((q * y : Nat) : Int) = (q : Int) * (y : Int) := Int.natCast_mul _ _
  rw [← c]; omega
theorem top_zeros (y : Nat) (hy : y < B) (hy2 : 9223372036854775808 ≤ y) (w : World) :
    Calls Try.prog 64 #[.int .u64 (y : Int)] w fun e w' => e = .returned (.int .i64 0) ∧ w = w' := by
  refine (Try.bits_LeadingZeros64 y w (by omega) (by simp only [B] at hy; omega)).mono fun e w' ⟨h1, h2⟩ => ⟨?_, h2.symm⟩
  rw [h1, Int.toNat_natCast, bl_lib hy, bl_eq (k := 63) hy2 hy]
  rfl
theorem two_halves {x l y : Nat} (hy : 0 < y) :
    (x * 4294967296 + l / 4294967296) / y * 4294967296 + ((x * 4294967296 + l / 4294967296) % y * 4294967296 + l % 4294967296) / y = (x * B + l) / y ∧
    ((x * 4294967296 + l / 4294967296) % y * 4294967296 + l % 4294967296) % y = (x * B + l) % y := by
  have e := Nat.div_add_mod (x * 4294967296 + l / 4294967296) y
  have key : x * B + l = (x * 4294967296 + l / 4294967296) % y * 4294967296 + l % 4294967296 + y * ((x * 4294967296 + l / 4294967296) / y * 4294967296) := by
    rw [← Nat.mul_assoc]
    generalize (x * 4294967296 + l / 4294967296) % y = r at *
    generalize y * ((x * 4294967296 + l / 4294967296) / y) = z at *
    simp only [B]; omega
  rw [key, Nat.add_mul_div_left _ _ hy, Nat.add_mul_mod_self_left]
  exact ⟨Nat.add_comm _ _, rfl⟩

theorem div64_nat (x l y : Nat) (hx : x < y) (hl : l < B) (hy : y < B) (hy2 : 9223372036854775808 ≤ y) (w : World) :
    Calls Try.prog 61 #[.int .u64 (x : Int), .int .u64 (l : Int), .int .u64 (y : Int)] w fun e w' =>
      e = .returned (.tuple #[.int .u64 (((x * B + l) / y : Nat) : Int), .int .u64 (((x * B + l) % y : Nat) : Int)]) ∧ Below w.heap.size w w' := by
  have hp : 0 < y := by omega
  rcases Nat.eq_zero_or_pos x with h0 | h0
  · subst h0
    rw [Nat.zero_mul, Nat.zero_add]
    have g := div64_walk0 l y w (by omega) (by simp only [B] at hl; omega) (by omega)
      (by rw [IntKind.wrap_u64, ← Int.natCast_ediv]; have := Nat.div_le_self l y; generalize l / y = z at *; simp only [B] at hl; omega)
      (by rw [IntKind.wrap_u64, ← Int.natCast_emod]; have := Nat.mod_lt l hp; simp only [B] at hy; omega)
    rw [← Int.natCast_ediv, ← Int.natCast_emod] at g
    exact g
  · obtain ⟨t1, t2⟩ := two_halves (x := x) (l := l) hp
    have d1 : l / 4294967296 < 4294967296 := by simp only [B] at hl; omega
    have d2 : l % 4294967296 < 4294967296 := Nat.mod_lt _ (by decide)
    have d3 := Nat.mod_lt (x * 4294967296 + l / 4294967296) hp
    have H1 := half_nat hx hy hy2 d1
    have H2 := half_nat d3 hy hy2 d2
    have R1 := half_rest hx hy hy2 d1
    have R2 := half_rest d3 hy hy2 d2
    obtain ⟨a1, a2, a3, a4⟩ := half_div H1
    obtain ⟨b1, b2, b3, b4⟩ := half_div H2
    have g := div64_walk x l y _ _ _ _ _ _ _ _ w (by omega) (by omega) (by simp only [B] at hy; omega) (by omega) (by omega) (by simp only [B] at hl; omega)
      H1.hy1 H1.hy1' H1.hy0 H1.hy0' H1.hl H1.hl' H2.hl H2.hl' (by omega) (and_low y hy) (or_none x l (by omega) hl) (by omega) (and_low l hl)
      (Lib.hid H1) (Lib.hid H2) a1 a2 a3 a4 R1 b1 b2 b3 b4 R2 (Lib.hid (top_zeros y hy hy2))
    refine g.mono fun e w' ⟨h1, h2⟩ => ⟨?_, h2 ▸ Below.refl _ _⟩
    rw [h1, t2, ← t1]
    rfl

set_option maxHeartbeats 1000000 in
theorem guess_walk0 (a0 a1 a2 a3 b0 b1 b2 b3 : Int) (w : World) (h : b3 ≤ a3) :
    Calls Try.prog 58 #[.agg #[.int .u64 a0, .int .u64 a1, .int .u64 a2, .int .u64 a3], .agg #[.int .u64 b0, .int .u64 b1, .int .u64 b2, .int .u64 b3]] w fun e w' => e = .returned (.int .u64 18446744073709551615) ∧ Below w.heap.size w w' := by
  go_enter Try.func58, Try.ntmps58
  go_wp2
  go_ret
  exact ⟨rfl, ((Below.refl _ _).alloc (Nat.le_refl _) _).alloc (by simp) _⟩
set_option maxHeartbeats 1000000 in
theorem guess_walk1 (a0 a1 a2 a3 b0 b1 b2 b3 q r : Int) (w : World) (h : a3 < b3)
    (H : Hid (∀ w : World, Calls Try.prog 61 #[.int .u64 a3, .int .u64 a2, .int .u64 b3] w fun e w' => e = .returned (.tuple #[.int .u64 q, .int .u64 r]) ∧ Below w.heap.size w w')) :
    Calls Try.prog 58 #[.agg #[.int .u64 a0, .int .u64 a1, .int .u64 a2, .int .u64 a3], .agg #[.int .u64 b0, .int .u64 b1, .int .u64 b2, .int .u64 b3]] w fun e w' => e = .returned (.int .u64 q) ∧ Below w.heap.size w w' := by
  go_enter Try.func58, Try.ntmps58
  go_wp2_with (go_at_call 61; refine (H.out _).mono ?_; rintro e w' ⟨rfl, hb⟩)
  go_ret
  exact ⟨rfl, (((Below.refl _ _).alloc (Nat.le_refl _) _).alloc (by simp) _).trans (hb.mono (by simp; try omega))⟩
theorem guess_wd (r m : Nat) (hm : 9223372036854775808 ≤ l3 m) (w : World) :
    Calls Try.prog 58 #[wd r, wd m] w fun e w' => e = .returned (.int .u64 ((gs r m : Nat) : Int)) ∧ Below w.heap.size w w' := by
  unfold gs
  by_cases h : l3 m ≤ l3 r
  · rw [if_pos h]
    exact guess_walk0 _ _ _ _ _ _ _ _ w (by omega)
  · rw [if_neg h]
    exact guess_walk1 _ _ _ _ _ _ _ _ _ _ w (by omega) (Lib.hid fun w => div64_nat (l3 r) (l2 r) (l3 m) (by omega) (l_lt r).2.2.1 (l_lt m).2.2.2 hm w)
end Go.Proofs.Ytlobchkbkdjccaa
