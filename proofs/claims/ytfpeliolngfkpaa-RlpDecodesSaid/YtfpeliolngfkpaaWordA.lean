/- What the functions Of, Not, And, Or, Xor, Add, Sub and mulAdd of package word do, for every word: each returns the word it should, and leaves all older memory as it was. -/
import Derived.Test.YtfpeliolngfkpaaRows
import Derived.Test.YtfpeliolngfkpaaMath
import Derived.Test.YtfpeliolngfkpaaShelf
import Derived.WalkKit
import Derived.WalkSpells
import Derived.WalkLawsBesides
import Derived.BigQuiet
import Derived.LoopN
namespace Go.Proofs.Ytfpeliolngfkpaa
open Go.RowKit SmWord
set_option maxRecDepth 100000

/-- The parts of the word n (of n its rest by 2^256). -/
def wa (n : Nat) : Array Value := #[.int .u64 ((l0 n : Nat) : Int), .int .u64 ((l1 n : Nat) : Int), .int .u64 ((l2 n : Nat) : Int), .int .u64 ((l3 n : Nat) : Int)]
/-- The word n. -/
abbrev wd (n : Nat) : Value := .agg (wa n)

theorem wa_congr {m n : Nat} (h : m % M = n % M) : wa m = wa n := by
  obtain ⟨h0, h1, h2, h3⟩ := parts_congr h
  unfold wa; rw [h0, h1, h2, h3]
theorem wa_inj {m n : Nat} (h : wa m = wa n) : m % M = n % M := by
  unfold wa at h
  simp only [Array.mk.injEq, List.cons.injEq, Value.int.injEq, true_and, and_true] at h
  obtain ⟨h0, h1, h2, h3⟩ := h
  exact congr_parts (by omega) (by omega) (by omega) (by omega)
theorem wd_congr {m n : Nat} (h : m % M = n % M) : wd m = wd n := congrArg Value.agg (wa_congr h)
theorem wd_num {a b c d : Nat} (ha : a < B) (hb : b < B) (hc : c < B) (hd : d < B) :
    wd (num a b c d) = .agg #[.int .u64 (a : Int), .int .u64 (b : Int), .int .u64 (c : Int), .int .u64 (d : Int)] := by
  obtain ⟨h0, h1, h2, h3⟩ := parts_num ha hb hc hd
  unfold wd wa; rw [h0, h1, h2, h3]
theorem wd_inj {m n : Nat} (h : wd m = wd n) : m % M = n % M := wa_inj (Value.agg.inj h)

def sub64Entry : Array Value → Sem Value := fun args => do
  let (x, y, b) ← Extern.MathBitsCarry.three "Sub64" args
  pure (Extern.MathBitsCarry.pair ((x + Extern.MathBitsCarry.m64 - y - b) % Extern.MathBitsCarry.m64) (if x < y + b then 1 else 0))
set_option maxHeartbeats 400000 in
theorem of_wd (n : Nat) (w : World) (hn : n < B) :
    Calls Try.prog 32 #[.int .u64 (n : Int)] w fun e w' => e = .returned (wd n) ∧ Below w.heap.size w w' := by
  have hv : wd n = .agg #[.int .u64 (n : Int), .int .u64 0, .int .u64 0, .int .u64 0] := by
    have := wd_num (a := n) (b := 0) (c := 0) (d := 0) hn (by decide) (by decide) (by decide)
    simpa [num] using this
  rw [hv]
  clear hv hn
  go_enter Try.func32, Try.ntmps32
  go_wp2
  refine bodyPost_ret (v := .agg #[.int .u64 (n : Int), .int .u64 0, .int .u64 0, .int .u64 0]) (by simp [results, Try.results32, go_sem]) rfl ⟨rfl, ?_⟩
  exact (Below.refl _ _).alloc (Nat.le_refl _) _

end Go.Proofs.Ytfpeliolngfkpaa
