/- What the function High of the document's numbers does, with the very slice that it returns; and what returns a quotient, whatever the divisor. -/
import Derived.Test.YtlobchkbkdjccaaNumE
namespace Go.Proofs.Ytlobchkbkdjccaa
open Go.RowKit SmWord
set_option maxRecDepth 100000

theorem high_num {w : World} {b off n c X : Nat} (h : NumS w (.slice (some ⟨b, off, none⟩) n c) n X) (hn : 32 < n) : NumS w (.slice (some ⟨b, off + 32, none⟩) (n - 32) (c - 32)) (n - 32) (X / M) := by
  obtain ⟨⟨A, c', e, hnc, hs⟩, hl, hm⟩ := h
  cases e
  obtain ⟨b', o', e, hb, hc⟩ := hs (by omega)
  cases e
  refine ⟨⟨_, _, rfl, by omega, fun _ => ⟨b, off + 32, rfl, hb, fun i hi => ?_⟩⟩, ?_, by omega⟩
  · have := hc (32 + i) (by omega)
    rw [← Nat.add_assoc] at this
    rw [this, M_256, dig_shift]
  · rw [M_256, Nat.div_lt_iff_lt_mul (Nat.pow_pos (by decide)), ← Nat.pow_add, show n - 32 + 32 = n by omega]
    exact hl
theorem NumS.form {w : World} {v : Value} {n X : Nat} (h : NumS w v n X) (hn : 0 < n) : ∃ b off c, v = .slice (some ⟨b, off, none⟩) n c ∧ n ≤ c := by
  obtain ⟨⟨A, c, rfl, hnc, hs⟩, _, _⟩ := h
  obtain ⟨b, off, rfl, _, _⟩ := hs hn
  exact ⟨b, off, c, rfl, hnc⟩
theorem rdiv_ref (v u : Value) (n m X Y : Nat) (w : World) (h : NumS w v n X) (g : NumS w u m Y) (hsm : n ≤ 400 ∧ m ≤ 400) : Calls Try.prog 31 #[v, u] w (RetD n (X / Y) (rs X Y) w) := by
  rcases Nat.eq_zero_or_pos Y with h0 | h0
  · subst h0
    rw [Nat.div_zero, rs_zero]
    exact rdiv_zero v u n m X w h g
  · rw [rs_pos (by omega)]
    exact rdiv_pos v u n m X Y w h g h0 hsm
theorem zero_below (v : Value) (n X : Nat) (w : World) (h : NumS w v n X) : Calls Try.prog 46 #[v] w fun e w' => e = .returned (.bool (decide (X = 0))) ∧ Below w.heap.size w w' :=
  (zero_ref v n X w h).mono fun _ _ ⟨h1, h2⟩ => ⟨h1, h2 ▸ Below.refl _ _⟩
end Go.Proofs.Ytlobchkbkdjccaa
