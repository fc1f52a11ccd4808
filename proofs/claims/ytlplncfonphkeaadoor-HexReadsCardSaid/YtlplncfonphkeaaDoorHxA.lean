/- What a sign of a digit stands for, and the sign of a digit: package hex's value and the document's Value and digit. -/
import Derived.Test.YtlplncfonphkeaaDoorHxM
import Derived.Test.YtlplncfonphkeaaDoorShelf
import Derived.Test.YtlplncfonphkeaaDoorRows
import Derived.WalkKit
import Derived.WalkSpells
import Derived.WalkLawsBesides
import Derived.BigQuiet
import Derived.LoopN
import Derived.Lib.Hide
namespace Go.Proofs.YtlplncfonphkeaaDoor
open Go.RowKit SmWord
set_option maxRecDepth 100000

/-- A string of these signs. -/
def str (l : List UInt8) : ByteArray := ⟨l.toArray⟩
theorem ret_pair {k : IntKind} {a b : Int} {x : Value} (h : a = b) : Ending.returned (.tuple #[.int k a, x]) = .returned (.tuple #[.int k b, x]) := by rw [h]
theorem ret_num {k : IntKind} {a b : Int} (h : a = b) : Ending.returned (.int k a) = .returned (.int k b) := by rw [h]

theorem vc_cases (c : Nat) : (48 ≤ c ∧ c ≤ 57 ∧ vc c = c - 48) ∨ (97 ≤ c ∧ c ≤ 102 ∧ vc c = c - 87) ∨ (65 ≤ c ∧ c ≤ 70 ∧ vc c = c - 55) ∨ (vc c = 16 ∧ (c < 48 ∨ (57 < c ∧ c < 65) ∨ (70 < c ∧ c < 97) ∨ 102 < c)) := by
  unfold vc
  split
  · omega
  · split
    · omega
    · split <;> omega

theorem value_yes (c : Nat) (w : World) (hc : c < 256) (hd : vc c < 16) :
    Calls Tryd.prog 39 #[.int .u8 (c : Int)] w fun e w' => e = .returned (.tuple #[.int .u8 ((vc c : Nat) : Int), .bool true]) ∧ w = w' := by
  rcases vc_cases c with ⟨h1, h2, h3⟩ | ⟨h1, h2, h3⟩ | ⟨h1, h2, h3⟩ | ⟨h1, _⟩
  · clear hd
    have H := Lib.hid h3
    clear h3
    go_enter Tryd.func39, Tryd.ntmps39
    go_wp2
    all_goals first | (exfalso; omega) | (go_ret2; exact ⟨ret_pair (by rw [H.out]; omega), rfl⟩)
  · clear hd
    have H := Lib.hid h3
    clear h3
    go_enter Tryd.func39, Tryd.ntmps39
    go_wp2
    all_goals first | (exfalso; omega) | (go_ret2; exact ⟨ret_pair (by rw [H.out]; omega), rfl⟩)
  · clear hd
    have H := Lib.hid h3
    clear h3
    go_enter Tryd.func39, Tryd.ntmps39
    go_wp2
    all_goals first | (exfalso; omega) | (go_ret2; exact ⟨ret_pair (by rw [H.out]; omega), rfl⟩)
  · omega
theorem value_no (c : Nat) (w : World) (hc : c < 256) (hd : vc c = 16) :
    Calls Tryd.prog 39 #[.int .u8 (c : Int)] w fun e w' => e = .returned (.tuple #[.int .u8 0, .bool false]) ∧ w = w' := by
  rcases vc_cases c with ⟨h1, h2, h3⟩ | ⟨h1, h2, h3⟩ | ⟨h1, h2, h3⟩ | ⟨_, h1⟩
  · omega
  · omega
  · omega
  · clear hd
    go_enter Tryd.func39, Tryd.ntmps39
    rcases h1 with h1 | ⟨h1, h2⟩ | ⟨h1, h2⟩ | h1
    all_goals
      go_wp2
      all_goals first | (exfalso; omega) | (go_ret2; exact ⟨rfl, rfl⟩)
theorem rvalue_yes (c : Nat) (w : World) (hc : c < 256) (hd : vc c < 16) :
    Calls Tryd.prog 27 #[.int .u8 (c : Int)] w fun e w' => e = .returned (.int .i64 ((vc c : Nat) : Int)) ∧ w = w' := by
  rcases vc_cases c with ⟨h1, h2, h3⟩ | ⟨h1, h2, h3⟩ | ⟨h1, h2, h3⟩ | ⟨h1, _⟩
  · clear hd
    have H := Lib.hid h3
    clear h3
    go_enter Tryd.func27, Tryd.ntmps27
    go_wp2
    all_goals first | (exfalso; omega) | (go_ret; exact ⟨ret_num (by rw [H.out]; omega), rfl⟩)
  · clear hd
    have H := Lib.hid h3
    clear h3
    go_enter Tryd.func27, Tryd.ntmps27
    go_wp2
    all_goals first | (exfalso; omega) | (go_ret; exact ⟨ret_num (by rw [H.out]; omega), rfl⟩)
  · clear hd
    have H := Lib.hid h3
    clear h3
    go_enter Tryd.func27, Tryd.ntmps27
    go_wp2
    all_goals first | (exfalso; omega) | (go_ret; exact ⟨ret_num (by rw [H.out]; omega), rfl⟩)
  · omega
theorem rvalue_no (c : Nat) (w : World) (hc : c < 256) (hd : vc c = 16) :
    Calls Tryd.prog 27 #[.int .u8 (c : Int)] w fun e w' => e = .returned (.int .i64 (-1)) ∧ w = w' := by
  rcases vc_cases c with ⟨h1, h2, h3⟩ | ⟨h1, h2, h3⟩ | ⟨h1, h2, h3⟩ | ⟨_, h1⟩
  · omega
  · omega
  · omega
  · clear hd
    go_enter Tryd.func27, Tryd.ntmps27
    rcases h1 with h1 | ⟨h1, h2⟩ | ⟨h1, h2⟩ | h1
    all_goals
      go_wp2
      all_goals first | (exfalso; omega) | (go_ret; exact ⟨rfl, rfl⟩)

theorem digit_cut : ∀ n, n < 16 → (⟨#[48, 49, 50, 51, 52, 53, 54, 55, 56, 57, 97, 98, 99, 100, 101, 102]⟩ : ByteArray).extract n (n + 1) = str [hx n] := by decide
theorem digit_ref (n : Nat) (w : World) (hn : n < 16) :
    Calls Tryd.prog 25 #[.int .i64 (n : Int)] w fun e w' => e = .returned (.string (str [hx n])) ∧ w = w' := by
  have H := Lib.hid (digit_cut n hn)
  go_enter Tryd.func25, Tryd.ntmps25
  go_wp2
  go_ret
  exact ⟨by rw [← H.out]; rfl, rfl⟩
end Go.Proofs.YtlplncfonphkeaaDoor
