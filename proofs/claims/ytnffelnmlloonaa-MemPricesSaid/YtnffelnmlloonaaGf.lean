/- The statement MemPrices at every number: it returns true. -/
import Derived.Test.YtnffelnmlloonaaG5
namespace Go.Proofs.Ytnffelnmlloonaa
open Go.RowKit SmWord
set_option maxRecDepth 100000

theorem prices_walk (n : Nat) (w : World) (hn : n < B) : Calls Try.prog 4 #[.int .u64 (n : Int)] w fun e w' => e = .returned (.bool true) ∧ Below w.heap.size w w' := by
  have K1 := Lib.hid (words_wd n w hn)
  have K2 := Lib.hid (words_ref n w hn)
  have KF := Lib.hid (mfixed_walk w)
  by_cases h1 : 4294967296 < n
  · have c1 : decide (4294967296 < (n : Int)) = true := by simp; omega
    have KP := Lib.hid fun w => price_far n w h1 hn
    go_enter Try.func4, Try.ntmps4
    go_wp2_with (first | (go_at_call 28; refine K1.out.mono ?_; rintro e w1 ⟨rfl, rfl⟩) | (go_at_call 29; refine K2.out.mono ?_; rintro e w1 ⟨rfl, rfl⟩) | (go_at_call 11; refine KF.out.mono ?_; rintro e w2 ⟨rfl, b2⟩) | (go_at_call 30; refine (KP.out _).mono ?_; rintro e w3 ⟨rfl, b3⟩))
    go_ret
    exact ⟨rfl, b2.trans (b3.mono b2.size)⟩
  · have c1 : decide (4294967296 < (n : Int)) = false := by simp; omega
    by_cases h2 : n = 4294967296
    · subst h2
      have KP := Lib.hid fun w => price_top w
      have c2 : decide ((4294967296 : Int) < 4294967296) = false := by decide +kernel
      go_enter Try.func4, Try.ntmps4
      go_wp2_with (first | (go_at_call 28; refine K1.out.mono ?_; rintro e w1 ⟨rfl, rfl⟩) | (go_at_call 29; refine K2.out.mono ?_; rintro e w1 ⟨rfl, rfl⟩) | (go_at_call 11; refine KF.out.mono ?_; rintro e w2 ⟨rfl, b2⟩) | (go_at_call 30; refine (KP.out _).mono ?_; rintro e w3 ⟨rfl, b3⟩))
      go_ret
      exact ⟨rfl, b2.trans (b3.mono b2.size)⟩
    · have c2 : ((n : Int) == 4294967296) = false := by rw [beq_eq_false_iff_ne]; omega
      have KP := Lib.hid fun w => price_wd n w (by omega)
      have KR := Lib.hid fun w => price_ref n w (by omega)
      go_enter Try.func4, Try.ntmps4
      go_wp2_with (first | (go_at_call 28; refine K1.out.mono ?_; rintro e w1 ⟨rfl, rfl⟩) | (go_at_call 29; refine K2.out.mono ?_; rintro e w1 ⟨rfl, rfl⟩) | (go_at_call 11; refine KF.out.mono ?_; rintro e w2 ⟨rfl, b2⟩) | (go_at_call 30; refine (KP.out _).mono ?_; rintro e w3 ⟨rfl, b3⟩) | (go_at_call 15; refine (KR.out _).mono ?_; rintro e w4 ⟨rfl, rfl⟩))
      go_ret
      exact ⟨rfl, b2.trans (b3.mono b2.size)⟩
end Go.Proofs.Ytnffelnmlloonaa
