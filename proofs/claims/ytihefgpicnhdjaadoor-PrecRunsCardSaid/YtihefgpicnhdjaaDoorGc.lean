/- What the functions Words and Price of package mem, and the document's, do. -/
import Derived.Test.YtihefgpicnhdjaaDoorG0
import Derived.Test.YtihefgpicnhdjaaDoorG3
import Derived.Test.YtihefgpicnhdjaaDoorG2
import Derived.Deep.DeepCutAuto
import Derived.Deep.CutBlock
namespace Go.Proofs.YtihefgpicnhdjaaDoor
open Go.RowKit SmWord
set_option maxRecDepth 100000

theorem words_wd (n : Nat) (w : World) (hn : n < B) : Calls Tryd.prog 16 #[.int .u64 (n : Int)] w fun e w' => e = .returned (.int .u64 ((wn n : Nat) : Int)) ∧ w = w' := by
  simp only [B] at hn
  have e1 : (n : Int) / 32 + (((n : Int) % 32 + 32 - 1) / 32) = ((wn n : Nat) : Int) := by unfold wn; omega
  have e2 : 0 ≤ (n : Int) % 32 := by omega
  go_enter Tryd.func16, Tryd.ntmps16
  go_wp2_with fail
  go_ret
  exact ⟨rfl, rfl⟩
theorem words_ref (n : Nat) (w : World) (hn : n < B) : Calls Tryd.prog 18 #[.int .u64 (n : Int)] w fun e w' => e = .returned (.int .u64 ((wn n : Nat) : Int)) ∧ w = w' := by
  simp only [B] at hn
  by_cases h : n % 32 = 0
  · have e1 : (n : Int) / 32 = ((wn n : Nat) : Int) := by unfold wn; omega
    have e2 : (((n : Int) % 32) == 0) = true := by simp; omega
    go_enter Tryd.func18, Tryd.ntmps18
    go_wp2_with fail
    go_ret
    exact ⟨rfl, rfl⟩
  · have e1 : (n : Int) / 32 + 1 = ((wn n : Nat) : Int) := by unfold wn; omega
    have e2 : (((n : Int) % 32) == 0) = false := by rw [beq_eq_false_iff_ne]; omega
    go_enter Tryd.func18, Tryd.ntmps18
    go_wp2_with fail
    go_ret
    exact ⟨rfl, rfl⟩
theorem div64_small (l y : Int) (w : World) (_hl0 : 0 ≤ l) (_hl : l < 18446744073709551616) (hy : 1 ≤ y) (_e1 : IntKind.u64.wrap (l / y) = l / y) (_e2 : IntKind.u64.wrap (l % y) = l % y) :
    Calls Tryd.prog 92 #[.int .u64 0, .int .u64 l, .int .u64 y] w fun e w' => e = .returned (.tuple #[.int .u64 (l / y), .int .u64 (l % y)]) ∧ Below w.heap.size w w' := by
  have h1 : (y == 0) = false := by rw [beq_eq_false_iff_ne]; omega
  have h2 : decide (y ≤ 0) = false := by simp; omega
  go_enter Tryd.func92, Tryd.ntmps92
  go_wp2_with fail
  go_region
  go_wp2_with fail
  go_ret2
  exact ⟨rfl, (Below.refl _ _).drew⟩
theorem div64_one (w : World) :
    Calls Tryd.prog 92 #[.int .u64 1, .int .u64 0, .int .u64 512] w fun e w' => e = .returned (.tuple #[.int .u64 36028797018963968, .int .u64 0]) ∧ Below w.heap.size w w' := by
  have K := Lib.hid fun w => Tryd.bits_LeadingZeros64 512 w (by decide) (by decide)
  rw [show (64 - ((Lib.bitLen (Int.toNat 512) : Nat) : Int)) = 54 by decide +kernel] at K
  have e1 : IntKind.u64.wrap 54 = 54 := by decide +kernel
  have e2 : IntKind.u64.wrap (512 * 2 ^ min (Int.toNat 54) 64) = 9223372036854775808 := by decide +kernel
  go_enter Tryd.func92, Tryd.ntmps92
  have b1 : bits .and .u64 9223372036854775808 4294967295 = 0 := by decide +kernel
  have b2 : bits .or .u64 18014398509481984 0 = 18014398509481984 := by decide +kernel
  have b3 : bits .and .u64 0 4294967295 = 0 := by decide +kernel
  go_upto_block 0 with (go_at_call 77; refine (K.out _).mono ?_; rintro e w' ⟨rfl, rfl⟩)
  go_wp2_with fail
  go_loop [15, 16] (fun q r => q = .int .u64 8388608 ∧ r = .int .u64 0) (fun _ _ => 0)
  case atStart => exact ⟨rfl, rfl⟩
  case round =>
    obtain ⟨rfl, rfl⟩ := hrel
    go_wp2_with fail
    go_loop [18, 16] (fun q r => q = .int .u64 0 ∧ r = .int .u64 0) (fun _ _ => 0)
    case atStart => exact ⟨rfl, rfl⟩
    case round =>
      obtain ⟨rfl, rfl⟩ := hrel
      go_wp2_with fail
      go_ret2
      exact ⟨rfl, Below.refl _ _⟩
end Go.Proofs.YtihefgpicnhdjaaDoor
