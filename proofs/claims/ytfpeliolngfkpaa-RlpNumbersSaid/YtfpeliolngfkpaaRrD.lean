/- The measures of nodes: fits, measureBytes. -/
import Derived.Test.YtfpeliolngfkpaaRrC
namespace Go.Proofs.Ytfpeliolngfkpaa
open Go.RowKit SmWord
set_option maxRecDepth 100000

def fit (ls : Bool) (n : Nat) (z : Int) (m : Nat) : Bool := if ls then decide (n = 0 ∧ 0 ≤ z ∧ z ≤ (m : Int)) else decide (z = 0)
theorem fits_walk (ls : Bool) (A : Option Addr) (n c : Nat) (z : Int) (m : Nat) (w : World) (hn : n ≤ maxLen) (hz : -9223372036854775808 ≤ z ∧ z ≤ 9223372036854775807) (hm : m ≤ maxLen) :
    Calls Try.prog 28 #[.agg #[.bool ls, .slice A n c, .int .i64 z], .int .i64 (m : Int)] w fun e w' => e = .returned (.bool (fit ls n z m)) ∧ Below w.heap.size w w' := by
  have hn' : n ≤ 9223372036854775807 := hn
  have hm' : m ≤ 9223372036854775807 := hm
  obtain ⟨hz1, hz2⟩ := hz
  cases ls
  · go_enter Try.func28, Try.ntmps28
    go_wp2_with fail
    go_ret
    refine ⟨?_, (Below.refl _ _).alloc (Nat.le_refl _) _⟩
    show Ending.returned (.bool (z == 0)) = _
    rw [show (z == 0) = decide (z = 0) from (by by_cases h : z = 0 <;> simp [h])]
    rfl
  · by_cases h1 : n = 0
    · subst h1
      go_enter Try.func28, Try.ntmps28
      go_wp2_with fail
      all_goals
        go_ret
        refine ⟨?_, (Below.refl _ _).alloc (Nat.le_refl _) _⟩
        refine congrArg (fun b => Ending.returned (.bool b)) ?_
        simp [fit]
        try omega
    · have d1 : decide ((n : Int) = 0) = false := decide_eq_false (by omega)
      go_enter Try.func28, Try.ntmps28
      go_wp2_with fail
      go_ret
      refine ⟨?_, (Below.refl _ _).alloc (Nat.le_refl _) _⟩
      refine congrArg (fun b => Ending.returned (.bool b)) ?_
      simp [fit, h1]
theorem Try.infoM : (Try.prog.info? 49).map (·.size) = some 3 := by kernel_rfl
/-- How many bytes the writing of bytes has. -/
def wz (n : Nat) (x : Nat) : Nat := if n = 1 ∧ x < 128 then n else hz n + n
theorem mbytes_walk (A : Option Addr) (n c : Nat) (f : Nat → Nat) (w : World) (hn : n ≤ 1000000) (hs : Sl w A n f) :
    Calls Try.prog 29 #[.slice A n c] w fun e w' => e = .returned (.agg #[.int .u64 (n : Int), .int .u64 ((wz n (f 0) : Nat) : Int), .int .i64 0]) ∧ Below w.heap.size w w' := by
  have K1 := Lib.hid fun w hs => bare_walk A n c f w (by unfold maxLen; omega) hs
  have K2 := Lib.hid fun w => hsize_walk n w (by unfold B; omega)
  have hz9 := hz_le (n := n) (by unfold B; omega)
  have HS := Lib.hid (hs.below ((Below.refl _ _).alloc (Nat.le_refl _) (.cells #[.int .u64 0, .int .u64 0, .int .i64 0] 49)))
  have bW : Below w.heap.size w (w.alloc (.cells #[.int .u64 0, .int .u64 0, .int .i64 0] 49)) := (Below.refl _ _).alloc (Nat.le_refl _) _
  have hf : (w.alloc (.cells #[.int .u64 0, .int .u64 0, .int .i64 0] 49)).heap[w.heap.size]? = some (.cells #[.int .u64 0, .int .u64 0, .int .i64 0] 49) := heap_alloc_new _ _
  have HW := Lib.hid (show wz n (f 0) = if decide (n = 1 ∧ f 0 < 128) then n else hz n + n by unfold wz; by_cases h : n = 1 ∧ f 0 < 128 <;> simp [h])
  generalize wz n (f 0) = x at *
  generalize decide (n = 1 ∧ f 0 < 128) = p at *
  clear hs
  generalize hz n = k at *
  have HF := Lib.hid hf
  have HB := Lib.hid bW
  clear hf bW
  cases p
  · have hx := HW.out
    simp only [Bool.false_eq_true, if_false] at hx
    have e1 : (k : Int) + (n : Int) = (x : Int) := by omega
    clear HW hx
    go_enter Try.func29, Try.ntmps29
    go_wp2_with fail
    refine (K1.out _ HS.out).mono ?_
    rintro e w1 ⟨rfl, e1⟩
    go_wp2_with fail
    refine (K2.out _).mono ?_
    rintro e w2 ⟨rfl, b2⟩
    have hf2 := stay b2 HF.out
    have HB2 := Lib.hid (HB.out.trans (b2.mono HB.out.size))
    have c0 := blk_cell (j := 0) hf2 rfl
    have c1 := blk_cell (j := 1) hf2 rfl
    have c2 := blk_cell (j := 2) hf2 rfl
    have z0 := blk_frozen (j := 0) hf2
    have z1 := blk_frozen (j := 1) hf2
    have z2 := blk_frozen (j := 2) hf2
    have HF2 := Lib.hid hf2
    clear hf2 b2
    go_wp2_with fail
    exact bodyPost_ret (v := .agg #[.int .u64 (n : Int), .int .u64 (x : Int), .int .i64 0]) (results_cell_row rfl _ _ _ 49 #[.int .u64 (n : Int), .int .u64 (x : Int), .int .i64 0] (0, 0) _ rfl (blk_set (blk_set (blk_set HF2.out _) _) _) Try.underlying49 rfl Try.infoM) rfl
      ⟨rfl, ((HB2.out.setCell (Nat.le_refl _) _).setCell (Nat.le_refl _) _).setCell (Nat.le_refl _) _⟩
  · have hx := HW.out
    simp only [if_true] at hx
    subst hx
    have hf2 := HF.out
    have HB2 := HB
    go_enter Try.func29, Try.ntmps29
    go_wp2_with fail
    refine (K1.out _ HS.out).mono ?_
    rintro e w1 ⟨rfl, rfl⟩
    generalize (w.alloc (.cells #[.int .u64 0, .int .u64 0, .int .i64 0] 49)) = w2 at *
    have c0 := blk_cell (j := 0) hf2 rfl
    have c1 := blk_cell (j := 1) hf2 rfl
    have c2 := blk_cell (j := 2) hf2 rfl
    have z0 := blk_frozen (j := 0) hf2
    have z1 := blk_frozen (j := 1) hf2
    have z2 := blk_frozen (j := 2) hf2
    clear K1
    have HF2 := Lib.hid hf2
    clear hf2
    go_wp2_with fail
    exact bodyPost_ret (v := .agg #[.int .u64 (x : Int), .int .u64 (x : Int), .int .i64 0]) (results_cell_row rfl _ _ _ 49 #[.int .u64 (x : Int), .int .u64 (x : Int), .int .i64 0] (0, 0) _ rfl (blk_set (blk_set (blk_set HF2.out _) _) _) Try.underlying49 rfl Try.infoM) rfl
      ⟨rfl, ((HB2.out.setCell (Nat.le_refl _) _).setCell (Nat.le_refl _) _).setCell (Nat.le_refl _) _⟩
end Go.Proofs.Ytfpeliolngfkpaa
