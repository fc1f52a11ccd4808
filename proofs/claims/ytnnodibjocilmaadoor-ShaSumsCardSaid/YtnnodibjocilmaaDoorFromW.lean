/- What the function From of package word, and the document's, do with any bytes: the word whose bytes end with them, the highest first; all older memory is as it was. -/
import Derived.Test.YtnnodibjocilmaaDoorRefW
import Derived.Test.YtnnodibjocilmaaDoorFromM
import Derived.Test.YtnnodibjocilmaaDoorShiftR
import Derived.Deep.LoopGhost
namespace Go.Proofs.YtnnodibjocilmaaDoor
open Go.RowKit SmWord
set_option maxRecDepth 100000

/-- What a slice of bytes holds, a nil one too. -/
structure Sl (w : World) (A : Option Addr) (n : Nat) (f : Nat → Nat) : Prop where
  small : ∀ i, i < n → f i < 256
  cells : 0 < n → ∃ b off, A = some ⟨b, off, none⟩ ∧ b < w.heap.size ∧ ∀ i, i < n → w.cell? ⟨b, off + i, none⟩ = some (.int .u8 ((f i : Nat) : Int))
theorem Sl.below {w w' : World} {A : Option Addr} {n : Nat} {f : Nat → Nat} (h : Sl w A n f) (hb : Below w.heap.size w w') : Sl w' A n f :=
  ⟨h.small, fun hn => by
    obtain ⟨b, off, e, hlt, hc⟩ := h.cells hn
    exact ⟨b, off, e, Nat.lt_of_lt_of_le hlt hb.size, fun i hi => (hb.cell (p := ⟨b, off + i, none⟩) hlt).trans (hc i hi)⟩⟩
/-- The digits of a slice of bytes, the lowest first. -/
def gd (f : Nat → Nat) (n i : Nat) : Nat := f (n - 1 - i)
theorem gd_small {w : World} {A : Option Addr} {n : Nat} {f : Nat → Nat} (h : Sl w A n f) {k : Nat} (hk : k ≤ n) : ∀ i, i < k → gd f n i < 256 := fun i hi => h.small _ (by omega)

theorem wa_set (x y q : Nat) (hq : q < 4) (h1 : ∀ j, j < 4 → j ≠ q → lb y j = lb x j) : (wa x).setIfInBounds q (.int .u64 ((lb y q : Nat) : Int)) = wa y := by
  apply Array.ext_getElem?
  intro j
  by_cases hj : j < 4
  · by_cases e : j = q
    · subst e; rw [Array.getElem?_setIfInBounds_self_of_lt (by rw [wa_size]; exact hj), wa_lb y j hj]
    · rw [Array.getElem?_setIfInBounds_ne (fun h => e h.symm), wa_lb x j hj, wa_lb y j hj, h1 j hj e]
  · rw [Array.getElem?_eq_none (by simp [wa_size]; omega), Array.getElem?_eq_none (by rw [wa_size]; omega)]

theorem val_none (f : Nat → Nat) (n : Nat) : wa (val (gd f n) 0) = #[Value.int .u64 0, .int .u64 0, .int .u64 0, .int .u64 0] := by rw [show val (gd f n) 0 = 0 from rfl]; rfl
theorem or_put {x d s : Nat} (hx : x < B) (h : d * 2 ^ s < B) : bits .or .u64 (x : Int) (IntKind.u64.wrap ((d : Int) * 2 ^ s)) = ((x ||| d * 2 ^ s : Nat) : Int) := by
  have e : ((d : Int) * 2 ^ s) = ((d * 2 ^ s : Nat) : Int) := by simp
  have e2 : IntKind.u64.wrap ((d * 2 ^ s : Nat) : Int) = ((d * 2 ^ s : Nat) : Int) := by
    rw [IntKind.wrap_u64]
    simp only [B] at h
    generalize d * 2 ^ s = y at *
    omega
  rw [e, e2, u64_or_nat _ _ hx h]
theorem val_digits {f : Nat → Nat} {n mn : Nat} (h : ∀ i, i < mn → gd f n i < 256) : arr .i64 32 (fun j => if j < mn then ((gd f n j : Nat) : Int) else 0) = da (val (gd f n) mn) :=
  arr_congr fun i _ => by
    by_cases hi : i < mn
    · rw [if_pos hi, dig_val h hi]
    · rw [if_neg hi, dig_val_high h (by omega)]; rfl
end Go.Proofs.YtnnodibjocilmaaDoor
