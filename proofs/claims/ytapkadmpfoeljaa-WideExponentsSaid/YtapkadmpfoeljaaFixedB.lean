/- The chapter's examples, as the function fixed of the statements of layer 2 puts them together: it returns true, and leaves all older memory as it was. -/
import Derived.Test.YtapkadmpfoeljaaWideC
import Derived.Test.YtapkadmpfoeljaaSeq
namespace Go.Proofs.Ytapkadmpfoeljaa
open Go.RowKit SmWord
set_option maxRecDepth 100000

theorem store_pairA (w : World) (a : Nat) : (storeCells ⟨w.heap.size, 0, none⟩ (wa a).toList 0).run Try.prog ((w.alloc (.cells #[.int .u64 0, .int .u64 0, .int .u64 0, .int .u64 0] 24)).alloc (.cells #[.int .u64 0, .int .u64 0, .int .u64 0, .int .u64 0] 24)) = .ok () ((w.alloc (.cells (wa a) 24)).alloc (.cells #[.int .u64 0, .int .u64 0, .int .u64 0, .int .u64 0] 24)) := store_pair1 w a
theorem store_pairB (w : World) (a b : Nat) : (storeCells ⟨w.heap.size + 1, 0, none⟩ (wa b).toList 0).run Try.prog ((w.alloc (.cells (wa a) 24)).alloc (.cells #[.int .u64 0, .int .u64 0, .int .u64 0, .int .u64 0] 24)) = .ok () ((w.alloc (.cells (wa a) 24)).alloc (.cells (wa b) 24)) := store_pair2 w a b
def kOnes : Nat := M - 1
def kHigh : Nat := 2 ^ 255
def kExp : Nat := 2 ^ (255 % M)
theorem fy_div1 (w : World) : Calls Try.prog 9 #[.agg #[.int .u64 7, .int .u64 0, .int .u64 0, .int .u64 0], .agg #[.int .u64 2, .int .u64 0, .int .u64 0, .int .u64 0]] w fun e w' => e = .returned (.tuple #[wd 3, wd 1]) ∧ Below w.heap.size w w' := by
  have := div_wd 7 2 w
  rw [show 7 % M / (2 % M) = 3 by decide, show rs (7 % M) (2 % M) = 1 by decide] at this
  exact this
theorem fy_div2 (w : World) : Calls Try.prog 9 #[.agg #[.int .u64 7, .int .u64 0, .int .u64 0, .int .u64 0], .agg #[.int .u64 0, .int .u64 0, .int .u64 0, .int .u64 0]] w fun e w' => e = .returned (.tuple #[wd 0, wd 0]) ∧ Below w.heap.size w w' := by
  have := div_wd 7 0 w
  rw [show 7 % M / (0 % M) = 0 by decide, show rs (7 % M) (0 % M) = 0 by decide] at this
  exact this
theorem fy_add (w : World) : Calls Try.prog 20 #[.agg #[.int .u64 18446744073709551615, .int .u64 18446744073709551615, .int .u64 18446744073709551615, .int .u64 18446744073709551615], .agg #[.int .u64 2, .int .u64 0, .int .u64 0, .int .u64 0], .agg #[.int .u64 2, .int .u64 0, .int .u64 0, .int .u64 0]] w fun e w' => e = .returned (wd 1) ∧ Below w.heap.size w w' := by
  have := addMod_wd kOnes 2 2 w
  rw [show rs (kOnes % M + 2 % M) (2 % M) = 1 by decide] at this
  exact this
theorem fy_mul (w : World) : Calls Try.prog 21 #[.agg #[.int .u64 0, .int .u64 0, .int .u64 0, .int .u64 9223372036854775808], .agg #[.int .u64 2, .int .u64 0, .int .u64 0, .int .u64 0], .agg #[.int .u64 3, .int .u64 0, .int .u64 0, .int .u64 0]] w fun e w' => e = .returned (wd 1) ∧ Below w.heap.size w w' := by
  have := mulMod_wd kHigh 2 3 w
  rw [show rs (kHigh % M * (2 % M)) (3 % M) = 1 by decide] at this
  exact this
theorem fy_exp (w : World) : Calls Try.prog 22 #[.agg #[.int .u64 2, .int .u64 0, .int .u64 0, .int .u64 0], .agg #[.int .u64 255, .int .u64 0, .int .u64 0, .int .u64 0]] w fun e w' => e = .returned (wd kExp) ∧ Below w.heap.size w w' := exp_wd 2 255 w
theorem fy_e3 (w : World) : (Op.equalIn 10000 24 (.agg (wa 3)) (.agg #[.int .u64 3, .int .u64 0, .int .u64 0, .int .u64 0])).run Try.prog w = .ok true w := by
  have := equal_wa 3 3 w
  rw [decide_eq_true rfl] at this
  exact this
theorem fy_e1 (w : World) : (Op.equalIn 10000 24 (.agg (wa 1)) (.agg #[.int .u64 1, .int .u64 0, .int .u64 0, .int .u64 0])).run Try.prog w = .ok true w := by
  have := equal_wa 1 1 w
  rw [decide_eq_true rfl] at this
  exact this
theorem fy_e0 (w : World) : (Op.equalIn 10000 24 (.agg (wa 0)) (.agg #[.int .u64 0, .int .u64 0, .int .u64 0, .int .u64 0])).run Try.prog w = .ok true w := by
  have := equal_wa 0 0 w
  rw [decide_eq_true rfl] at this
  exact this
theorem fy_eE (w : World) : (Op.equalIn 10000 24 (.agg (wa kExp)) (.agg #[.int .u64 0, .int .u64 0, .int .u64 0, .int .u64 9223372036854775808])).run Try.prog w = .ok true w := by
  have := equal_wa kExp kHigh w
  rw [decide_eq_true (by decide)] at this
  exact this

set_option maxHeartbeats 2000000 in
theorem fixed2_walk (w : World) : Calls Try.prog 12 #[] w fun e w' => e = .returned (.bool true) ∧ Below w.heap.size w w' := by
  have hs := store_new
  have hsz := wa_size
  have hp1 := store_pairA
  have hp2 := store_pairB
  go_enter Try.func12, Try.ntmps12
  go_wp2_with fail
  refine (fy_div1 _).mono ?_
  rintro e w1 ⟨rfl, b1⟩
  go_wp2_with fail
  have f1 : ((w1.alloc (.cells (wa 3) 24)).alloc (.cells (wa 1) 24)).heap[w1.heap.size]? = some (.cells (wa 3) 24) := blk_alloc (blk_new _ rfl)
  have f2 : ((w1.alloc (.cells (wa 3) 24)).alloc (.cells (wa 1) 24)).heap[w1.heap.size + 1]? = some (.cells (wa 1) 24) := blk_new _ (by simp)
  have bW : Below w.heap.size w ((w1.alloc (.cells (wa 3) 24)).alloc (.cells (wa 1) 24)) := (b1.alloc b1.size _).alloc (by have := b1.size; simp; omega) _
  clear b1
  generalize (w1.alloc (.cells (wa 3) 24)).alloc (.cells (wa 1) 24) = w2 at *
  generalize w1.heap.size = p1 at *
  refine (fy_div2 _).mono ?_
  rintro e w3 ⟨rfl, b1⟩
  replace f1 := Below.stays b1 f1
  replace f2 := Below.stays b1 f2
  replace bW := bW.trans (b1.mono bW.size)
  clear b1
  go_wp2_with fail
  replace f1 := blk_alloc (o' := .cells (wa 0) 24) (blk_alloc (o' := .cells (wa 0) 24) f1)
  replace f2 := blk_alloc (o' := .cells (wa 0) 24) (blk_alloc (o' := .cells (wa 0) 24) f2)
  have f3 : ((w3.alloc (.cells (wa 0) 24)).alloc (.cells (wa 0) 24)).heap[w3.heap.size]? = some (.cells (wa 0) 24) := blk_alloc (blk_new _ rfl)
  have f4 : ((w3.alloc (.cells (wa 0) 24)).alloc (.cells (wa 0) 24)).heap[w3.heap.size + 1]? = some (.cells (wa 0) 24) := blk_new _ (by simp)
  replace bW : Below w.heap.size w ((w3.alloc (.cells (wa 0) 24)).alloc (.cells (wa 0) 24)) := (bW.alloc bW.size _).alloc (by have := bW.size; simp; omega) _
  generalize (w3.alloc (.cells (wa 0) 24)).alloc (.cells (wa 0) 24) = w4 at *
  generalize w3.heap.size = p3 at *
  refine (fy_add _).mono ?_
  rintro e w5 ⟨rfl, b1⟩
  replace f1 := Below.stays b1 f1
  replace f2 := Below.stays b1 f2
  replace f3 := Below.stays b1 f3
  replace f4 := Below.stays b1 f4
  replace bW := bW.trans (b1.mono bW.size)
  clear b1
  go_wp2_with fail
  replace f1 := blk_alloc (o' := .cells (wa 1) 24) f1
  replace f2 := blk_alloc (o' := .cells (wa 1) 24) f2
  replace f3 := blk_alloc (o' := .cells (wa 1) 24) f3
  replace f4 := blk_alloc (o' := .cells (wa 1) 24) f4
  have f5 : (w5.alloc (.cells (wa 1) 24)).heap[w5.heap.size]? = some (.cells (wa 1) 24) := blk_new _ rfl
  replace bW : Below w.heap.size w (w5.alloc (.cells (wa 1) 24)) := bW.alloc bW.size _
  generalize w5.alloc (.cells (wa 1) 24) = w6 at *
  generalize w5.heap.size = p5 at *
  refine (fy_mul _).mono ?_
  rintro e w7 ⟨rfl, b1⟩
  replace f1 := Below.stays b1 f1
  replace f2 := Below.stays b1 f2
  replace f3 := Below.stays b1 f3
  replace f4 := Below.stays b1 f4
  replace f5 := Below.stays b1 f5
  replace bW := bW.trans (b1.mono bW.size)
  clear b1
  go_upto_region 5 with fail
  replace f1 := blk_alloc (o' := .cells (wa 1) 24) f1
  replace f2 := blk_alloc (o' := .cells (wa 1) 24) f2
  replace f3 := blk_alloc (o' := .cells (wa 1) 24) f3
  replace f4 := blk_alloc (o' := .cells (wa 1) 24) f4
  replace f5 := blk_alloc (o' := .cells (wa 1) 24) f5
  have f6 : (w7.alloc (.cells (wa 1) 24)).heap[w7.heap.size]? = some (.cells (wa 1) 24) := blk_new _ rfl
  replace bW : Below w.heap.size w (w7.alloc (.cells (wa 1) 24)) := bW.alloc bW.size _
  generalize w7.alloc (.cells (wa 1) 24) = W at *
  generalize w7.heap.size = p7 at *
  have g1 := fun g : Ext W => g.word f1
  have g2 := fun g : Ext W => g.word f2
  have g3 := fun g : Ext W => g.word f3
  have g4 := fun g : Ext W => g.word f4
  have g5 := fun g : Ext W => g.word f5
  have g6 := fun g : Ext W => g.word f6
  have fo := fold_wa
  have e3 := fy_e3
  have e1 := fy_e1
  have e0 := fy_e0
  have eE := fy_eE
  have eg := Try.guardW
  clear f1 f2 f3 f4 f5 f6 hs hsz hp1 hp2
  refine region_seq ?_
  repeat (go_big_quiet_step ((go_at_call 22; exact calls_ext (fy_exp _))))
  refine wpQuiet_nil ?_
  rintro _ ⟨g, rfl⟩
  go_wp2
  go_ret
  exact ⟨rfl, bW.trans (g.below.mono bW.size)⟩
end Go.Proofs.Ytapkadmpfoeljaa
