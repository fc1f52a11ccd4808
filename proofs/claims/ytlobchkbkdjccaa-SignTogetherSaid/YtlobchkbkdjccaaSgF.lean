/- The chapter's examples, as the function fixed of the statements of layer 3 puts them together: it returns true, and leaves all older memory as it was. -/
import Derived.Test.YtlobchkbkdjccaaSgD
import Derived.Test.YtlobchkbkdjccaaSgE
import Derived.Test.YtlobchkbkdjccaaSgM
namespace Go.Proofs.Ytlobchkbkdjccaa
open Go.RowKit SmWord
set_option maxRecDepth 100000

theorem store_pairA (w : World) (a : Nat) : (storeCells ⟨w.heap.size, 0, none⟩ (wa a).toList 0).run Try.prog ((w.alloc (.cells #[.int .u64 0, .int .u64 0, .int .u64 0, .int .u64 0] 24)).alloc (.cells #[.int .u64 0, .int .u64 0, .int .u64 0, .int .u64 0] 24)) = .ok () ((w.alloc (.cells (wa a) 24)).alloc (.cells #[.int .u64 0, .int .u64 0, .int .u64 0, .int .u64 0] 24)) := store_pair1 w a
theorem store_pairB (w : World) (a b : Nat) : (storeCells ⟨w.heap.size + 1, 0, none⟩ (wa b).toList 0).run Try.prog ((w.alloc (.cells (wa a) 24)).alloc (.cells #[.int .u64 0, .int .u64 0, .int .u64 0, .int .u64 0] 24)) = .ok () ((w.alloc (.cells (wa a) 24)).alloc (.cells (wa b) 24)) := store_pair2 w a b
set_option maxHeartbeats 1000000 in
theorem minus_walk (n v : Int) (w : World) (hv : IntKind.u64.wrap (-n) = v) : Calls Try.prog 35 #[.int .u64 n] w fun e w' => e = .returned (.agg #[.int .u64 v, .int .u64 18446744073709551615, .int .u64 18446744073709551615, .int .u64 18446744073709551615]) ∧ Below w.heap.size w w' := by
  go_enter Try.func35, Try.ntmps35
  go_wp2
  refine bodyPost_ret (v := .agg #[.int .u64 v, .int .u64 18446744073709551615, .int .u64 18446744073709551615, .int .u64 18446744073709551615]) (by simp [results, Try.results35, go_sem]) rfl ⟨rfl, ?_⟩
  exact (Below.refl _ _).alloc (Nat.le_refl _) _
def kM (n : Nat) : Nat := M - n
theorem fz_m1 (w : World) : Calls Try.prog 35 #[.int .u64 1] w fun e w' => e = .returned (wd (kM 1)) ∧ Below w.heap.size w w' := minus_walk 1 18446744073709551615 w (by decide)
theorem fz_m3 (w : World) : Calls Try.prog 35 #[.int .u64 3] w fun e w' => e = .returned (wd (kM 3)) ∧ Below w.heap.size w w' := minus_walk 3 18446744073709551613 w (by decide)
theorem fz_m4 (w : World) : Calls Try.prog 35 #[.int .u64 4] w fun e w' => e = .returned (wd (kM 4)) ∧ Below w.heap.size w w' := minus_walk 4 18446744073709551612 w (by decide)
theorem fz_m7 (w : World) : Calls Try.prog 35 #[.int .u64 7] w fun e w' => e = .returned (wd (kM 7)) ∧ Below w.heap.size w w' := minus_walk 7 18446744073709551609 w (by decide)
theorem fz_m8 (w : World) : Calls Try.prog 35 #[.int .u64 8] w fun e w' => e = .returned (wd (kM 8)) ∧ Below w.heap.size w w' := minus_walk 8 18446744073709551608 w (by decide)
def cQ : Nat := sq (kM 7) 2
def cR : Nat := sr (kM 7) 2
def cE : Nat := exn 0 255
def cS : Nat := sar (kM 8) 1
def cT : Nat := sar (kM 1) 300
theorem fz_div (w : World) : Calls Try.prog 8 #[wd (kM 7), .agg #[.int .u64 2, .int .u64 0, .int .u64 0, .int .u64 0]] w fun e w' => e = .returned (.tuple #[wd cQ, wd cR]) ∧ Below w.heap.size w w' := sdiv_wd (kM 7) 2 w
theorem fz_less (w : World) : Calls Try.prog 21 #[wd (kM 1), .agg #[.int .u64 0, .int .u64 0, .int .u64 0, .int .u64 0]] w fun e w' => e = .returned (.bool true) ∧ Below w.heap.size w w' := by
  have := sless_wd (kM 1) 0 w
  rw [show sless (kM 1) 0 = true by decide +kernel] at this
  exact this
theorem fz_ext (w : World) : Calls Try.prog 23 #[.agg #[.int .u64 0, .int .u64 0, .int .u64 0, .int .u64 0], .agg #[.int .u64 255, .int .u64 0, .int .u64 0, .int .u64 0]] w fun e w' => e = .returned (wd cE) ∧ Below w.heap.size w w' := extend_wd 0 255 w
theorem fz_s1 (w : World) : Calls Try.prog 25 #[wd (kM 8), .int .u64 1] w fun e w' => e = .returned (wd cS) ∧ Below w.heap.size w w' := sar_wd (kM 8) 1 (by decide) w
theorem fz_s2 (w : World) : Calls Try.prog 25 #[wd (kM 1), .int .u64 300] w fun e w' => e = .returned (wd cT) ∧ Below w.heap.size w w' := sar_wd (kM 1) 300 (by decide) w
theorem fz_eQ (w : World) : (Op.equalIn 10000 24 (.agg (wa cQ)) (.agg (wa (kM 3)))).run Try.prog w = .ok true w := by
  rw [equal_wa, decide_eq_true (by decide +kernel)]
theorem fz_eR (w : World) : (Op.equalIn 10000 24 (.agg (wa cR)) (.agg (wa (kM 1)))).run Try.prog w = .ok true w := by
  rw [equal_wa, decide_eq_true (by decide +kernel)]
theorem fz_eE (w : World) : (Op.equalIn 10000 24 (.agg (wa cE)) (.agg (wa (kM 1)))).run Try.prog w = .ok true w := by
  rw [equal_wa, decide_eq_true (by decide +kernel)]
theorem fz_eS (w : World) : (Op.equalIn 10000 24 (.agg (wa cS)) (.agg (wa (kM 4)))).run Try.prog w = .ok true w := by
  rw [equal_wa, decide_eq_true (by decide +kernel)]
theorem fz_eT (w : World) : (Op.equalIn 10000 24 (.agg (wa cT)) (.agg (wa (kM 1)))).run Try.prog w = .ok true w := by
  rw [equal_wa, decide_eq_true (by decide +kernel)]

set_option maxHeartbeats 4000000 in
theorem fixed3_walk (w : World) :
    Calls Try.prog 10 #[] w fun e w' => e = .returned (.bool true) ∧ Below w.heap.size w w' := by
  have hsz := wa_size
  have hp1 := store_pairA
  have hp2 := store_pairB
  go_enter Try.func10, Try.ntmps10
  go_wp2_with fail
  refine (fz_m7 _).mono ?_
  rintro e w0 ⟨rfl, b0⟩
  go_wp2_with fail
  refine (fz_div _).mono ?_
  rintro e w1 ⟨rfl, b1⟩
  replace b1 := b0.trans (b1.mono b0.size)
  clear b0
  go_upto_region 2 with fail
  have f1 : ((w1.alloc (.cells (wa cQ) 24)).alloc (.cells (wa cR) 24)).heap[w1.heap.size]? = some (.cells (wa cQ) 24) := blk_alloc (blk_new _ rfl)
  have f2 : ((w1.alloc (.cells (wa cQ) 24)).alloc (.cells (wa cR) 24)).heap[w1.heap.size + 1]? = some (.cells (wa cR) 24) := blk_new _ (by simp)
  have bW : Below w.heap.size w ((w1.alloc (.cells (wa cQ) 24)).alloc (.cells (wa cR) 24)) := (b1.alloc b1.size _).alloc (by have := b1.size; simp; omega) _
  clear b1 hsz hp1 hp2
  generalize ((w1.alloc (.cells (wa cQ) 24)).alloc (.cells (wa cR) 24)) = w2 at *
  generalize w1.heap.size = p1 at *
  have g1 := fun g : Ext w2 => g.word f1
  have g2 := fun g : Ext w2 => g.word f2
  have fo := fold_wa
  have eg := Try.guardW
  have eQ := fz_eQ
  have eR := fz_eR
  have eE := fz_eE
  have eS := fz_eS
  have eT := fz_eT
  refine region_ext (by kernel_rfl) (by kernel_rfl) ?_
  repeat (go_big_quiet_step (first | (go_at_call 35; first | with_reducible exact calls_ext (fz_m1 _) | with_reducible exact calls_ext (fz_m3 _) | with_reducible exact calls_ext (fz_m4 _) | with_reducible exact calls_ext (fz_m8 _)) | (go_at_call 21; with_reducible exact calls_ext (fz_less _)) | (go_at_call 23; with_reducible exact calls_ext (fz_ext _)) | (go_at_call 25; first | with_reducible exact calls_ext (fz_s1 _) | with_reducible exact calls_ext (fz_s2 _))))
  refine wpQuiet_nil ?_
  rintro _ ⟨g, rfl⟩
  go_wp2
  go_ret
  exact ⟨rfl, bW.trans (g.below.mono bW.size)⟩
theorem eqw_yes {m n : Nat} (h : m % M = n % M) (w : World) : (Op.equalIn 10000 24 (.agg (wa m)) (.agg (wa n))).run Try.prog w = .ok true w := by
  rw [equal_wa, decide_eq_true h]
theorem eqw_no {m n : Nat} (h : ¬ m % M = n % M) (w : World) : (Op.equalIn 10000 24 (.agg (wa m)) (.agg (wa n))).run Try.prog w = .ok false w := by
  rw [equal_wa, decide_eq_false h]
end Go.Proofs.Ytlobchkbkdjccaa
