/- What the prices of built-in contracts are: the code's and the document's. -/
import Derived.Test.YtihefgpicnhdjaaDoorGb
import Derived.Test.YtihefgpicnhdjaaDoorGc
namespace Go.Proofs.YtihefgpicnhdjaaDoor
open Go.RowKit SmWord
set_option maxRecDepth 100000

/-- What a built-in contract costs. -/
def pP (z : Int) (L : Nat) (f : Nat → Nat) : Nat := if z = 2 then 60 + 12 * wn L else if z = 4 then 15 + 3 * wn L else if z = 5 then gasN f L else 0
section
variable (L c : Nat) (f : Nat → Nat) (A : Option Addr) (w : World) (hL : L ≤ 100000)
include hL
theorem price_two : Calls Tryd.prog 10 #[.int .i64 2, .slice A L c] w fun e w' => e = .returned (.int .u64 ((60 + 12 * wn L : Nat) : Int)) ∧ Below w.heap.size w w' := by
  have K := Lib.hid fun w => words_wd L w (by simp only [B]; omega)
  have h1 : IntKind.u64.wrap (L : Int) = (L : Int) := by rw [IntKind.wrap_u64]; omega
  have h2 : wn L ≤ 100000 := by unfold wn; omega
  obtain ⟨q, hq⟩ : ∃ q, wn L = q := ⟨_, rfl⟩
  rw [hq] at h2 K ⊢
  clear hq
  have e1 : 12 * (q : Int) + 60 = ((60 + 12 * q : Nat) : Int) := by omega
  go_enter Tryd.func10, Tryd.ntmps10
  go_wp2_with (go_at_call 16; refine (K.out _).mono ?_; rintro e w' ⟨rfl, rfl⟩)
  go_ret
  exact ⟨by simp, Below.refl _ _⟩
theorem price_four : Calls Tryd.prog 10 #[.int .i64 4, .slice A L c] w fun e w' => e = .returned (.int .u64 ((15 + 3 * wn L : Nat) : Int)) ∧ Below w.heap.size w w' := by
  have K := Lib.hid fun w => words_wd L w (by simp only [B]; omega)
  have h1 : IntKind.u64.wrap (L : Int) = (L : Int) := by rw [IntKind.wrap_u64]; omega
  have h2 : wn L ≤ 100000 := by unfold wn; omega
  obtain ⟨q, hq⟩ : ∃ q, wn L = q := ⟨_, rfl⟩
  rw [hq] at h2 K ⊢
  clear hq
  go_enter Tryd.func10, Tryd.ntmps10
  go_wp2_with (go_at_call 16; refine (K.out _).mono ?_; rintro e w' ⟨rfl, rfl⟩)
  go_ret
  exact ⟨by simp, Below.refl _ _⟩
theorem price_five (hc : L ≤ c) (hA : A = none → L = 0 ∧ c = 0) (hs : Sl w A L f) : Calls Tryd.prog 10 #[.int .i64 5, .slice A L c] w fun e w' => e = .returned (.int .u64 ((gasN f L : Nat) : Int)) ∧ Below w.heap.size w w' := by
  have K := Lib.hid fun w => words_wd L w (by simp only [B]; omega)
  have h1 : IntKind.u64.wrap (L : Int) = (L : Int) := by rw [IntKind.wrap_u64]; omega
  have G := Lib.hid (gas_walk A L c f w hL hc hA hs)
  obtain ⟨q, hq⟩ : ∃ q, gasN f L = q := ⟨_, rfl⟩
  rw [hq] at G ⊢
  clear hq hs hA hc
  go_enter Tryd.func10, Tryd.ntmps10
  go_wp2_with (first | (go_at_call 16; refine (K.out _).mono ?_; rintro e w' ⟨rfl, rfl⟩) | (go_at_call 17; refine G.out.mono ?_; rintro e w1 ⟨rfl, b1⟩))
  go_ret
  exact ⟨rfl, b1⟩
theorem price_other (z : Int) (h2 : z ≠ 2) (h4 : z ≠ 4) (h5 : z ≠ 5) : Calls Tryd.prog 10 #[.int .i64 z, .slice A L c] w fun e w' => e = .returned (.int .u64 ((0 : Nat) : Int)) ∧ Below w.heap.size w w' := by
  have K := Lib.hid fun w => words_wd L w (by simp only [B]; omega)
  have h1 : IntKind.u64.wrap (L : Int) = (L : Int) := by rw [IntKind.wrap_u64]; omega
  have e2 : (z == 2) = false := by rw [beq_eq_false_iff_ne]; exact h2
  have e4 : (z == 4) = false := by rw [beq_eq_false_iff_ne]; exact h4
  have e5 : (z == 5) = false := by rw [beq_eq_false_iff_ne]; exact h5
  clear h2 h4 h5
  go_enter Tryd.func10, Tryd.ntmps10
  go_wp2_with (go_at_call 16; refine (K.out _).mono ?_; rintro e w' ⟨rfl, rfl⟩)
  go_ret
  exact ⟨rfl, Below.refl _ _⟩
theorem price_any (hc : L ≤ c) (hA : A = none → L = 0 ∧ c = 0) (hs : Sl w A L f) (z : Int) : Calls Tryd.prog 10 #[.int .i64 z, .slice A L c] w fun e w' => e = .returned (.int .u64 ((pP z L f : Nat) : Int)) ∧ Below w.heap.size w w' := by
  unfold pP
  by_cases h2 : z = 2
  · subst h2; exact price_two L c A w hL
  · rw [if_neg h2]
    by_cases h4 : z = 4
    · subst h4; exact price_four L c A w hL
    · rw [if_neg h4]
      by_cases h5 : z = 5
      · subst h5; exact price_five L c f A w hL hc hA hs
      · rw [if_neg h5]; exact price_other L c A w hL z h2 h4 h5
theorem rprice_two : Calls Tryd.prog 11 #[.int .i64 2, .slice A L c] w fun e w' => e = .returned (.int .u64 ((60 + 12 * wn L : Nat) : Int)) ∧ Below w.heap.size w w' := by
  have K := Lib.hid fun w => words_ref L w (by simp only [B]; omega)
  have h1 : IntKind.u64.wrap (L : Int) = (L : Int) := by rw [IntKind.wrap_u64]; omega
  have h2 : wn L ≤ 100000 := by unfold wn; omega
  obtain ⟨q, hq⟩ : ∃ q, wn L = q := ⟨_, rfl⟩
  rw [hq] at h2 K ⊢
  clear hq
  go_enter Tryd.func11, Tryd.ntmps11
  go_wp2_with (go_at_call 18; refine (K.out _).mono ?_; rintro e w' ⟨rfl, rfl⟩)
  go_ret
  exact ⟨by simp; omega, Below.refl _ _⟩
theorem rprice_four : Calls Tryd.prog 11 #[.int .i64 4, .slice A L c] w fun e w' => e = .returned (.int .u64 ((15 + 3 * wn L : Nat) : Int)) ∧ Below w.heap.size w w' := by
  have K := Lib.hid fun w => words_ref L w (by simp only [B]; omega)
  have h1 : IntKind.u64.wrap (L : Int) = (L : Int) := by rw [IntKind.wrap_u64]; omega
  have h2 : wn L ≤ 100000 := by unfold wn; omega
  obtain ⟨q, hq⟩ : ∃ q, wn L = q := ⟨_, rfl⟩
  rw [hq] at h2 K ⊢
  clear hq
  go_enter Tryd.func11, Tryd.ntmps11
  go_wp2_with (go_at_call 18; refine (K.out _).mono ?_; rintro e w' ⟨rfl, rfl⟩)
  go_ret
  exact ⟨by simp; omega, Below.refl _ _⟩
theorem rprice_five (hs : Sl w A L f) : Calls Tryd.prog 11 #[.int .i64 5, .slice A L c] w fun e w' => e = .returned (.int .u64 ((gasN f L : Nat) : Int)) ∧ Below w.heap.size w w' := by
  have K := Lib.hid fun w => words_ref L w (by simp only [B]; omega)
  have h1 : IntKind.u64.wrap (L : Int) = (L : Int) := by rw [IntKind.wrap_u64]; omega
  have G := Lib.hid (rgas_walk A L c f w hL hs)
  obtain ⟨q, hq⟩ : ∃ q, gasN f L = q := ⟨_, rfl⟩
  rw [hq] at G ⊢
  clear hq hs
  go_enter Tryd.func11, Tryd.ntmps11
  go_wp2_with (first | (go_at_call 18; refine (K.out _).mono ?_; rintro e w' ⟨rfl, rfl⟩) | (go_at_call 19; refine G.out.mono ?_; rintro e w1 ⟨rfl, b1⟩))
  go_ret
  exact ⟨rfl, b1⟩
theorem rprice_other (z : Int) (h2 : z ≠ 2) (h4 : z ≠ 4) (h5 : z ≠ 5) : Calls Tryd.prog 11 #[.int .i64 z, .slice A L c] w fun e w' => e = .returned (.int .u64 ((0 : Nat) : Int)) ∧ Below w.heap.size w w' := by
  have K := Lib.hid fun w => words_ref L w (by simp only [B]; omega)
  have h1 : IntKind.u64.wrap (L : Int) = (L : Int) := by rw [IntKind.wrap_u64]; omega
  have e2 : (z == 2) = false := by rw [beq_eq_false_iff_ne]; exact h2
  have e4 : (z == 4) = false := by rw [beq_eq_false_iff_ne]; exact h4
  have e5 : (z == 5) = false := by rw [beq_eq_false_iff_ne]; exact h5
  clear h2 h4 h5
  go_enter Tryd.func11, Tryd.ntmps11
  go_wp2_with (go_at_call 18; refine (K.out _).mono ?_; rintro e w' ⟨rfl, rfl⟩)
  go_ret
  exact ⟨rfl, Below.refl _ _⟩
theorem rprice_any (hs : Sl w A L f) (z : Int) : Calls Tryd.prog 11 #[.int .i64 z, .slice A L c] w fun e w' => e = .returned (.int .u64 ((pP z L f : Nat) : Int)) ∧ Below w.heap.size w w' := by
  unfold pP
  by_cases h2 : z = 2
  · subst h2; exact rprice_two L c A w hL
  · rw [if_neg h2]
    by_cases h4 : z = 4
    · subst h4; exact rprice_four L c A w hL
    · rw [if_neg h4]
      by_cases h5 : z = 5
      · subst h5; exact rprice_five L c f A w hL hs
      · rw [if_neg h5]; exact rprice_other L c A w hL z h2 h4 h5
end
end Go.Proofs.YtihefgpicnhdjaaDoor
