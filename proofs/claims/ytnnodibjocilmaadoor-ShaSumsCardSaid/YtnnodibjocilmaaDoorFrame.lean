/- A word as an argument of a statement: it reads as the four parts of a number. -/
import Derived.Test.YtnnodibjocilmaaDoorArr
import Derived.ProofKit
import Derived.Laws.IdiomArrays
import Derived.Lib.SmallJoins
namespace Go.Proofs.YtnnodibjocilmaaDoor
open Go.ChangeShapes Go.WideShapes Go.ChangeAt Go.RowKit SmWord
set_option maxRecDepth 100000

theorem Tryd.own : ownKnob Tryd.prog.godebug = none := by kernel_rfl
/-- A word that is written out: 0. -/
def w0000 : Value := .agg #[.int .u64 0, .int .u64 0, .int .u64 0, .int .u64 0]
def dw {H : Type} (n : Nat) : DataW H := .agg [.lit (.int .u64 ((l0 n : Nat) : Int)), .lit (.int .u64 ((l1 n : Nat) : Int)), .lit (.int .u64 ((l2 n : Nat) : Int)), .lit (.int .u64 ((l3 n : Nat) : Int))]

theorem wf_u64 {x : Int} (h : (Lit.int .u64 x).wf = true) : ∃ n : Nat, x = (n : Int) ∧ n < B := by
  have h2 : 0 ≤ x ∧ x ≤ 18446744073709551615 := by simpa [Lit.wf, IntKind.min, IntKind.max, IntKind.signed, IntKind.bits] using h
  exact ⟨x.toNat, by omega, by simp only [B]; omega⟩
theorem nat_wf_u64 {n : Nat} (h : n < B) : (Lit.int .u64 (n : Int)).wf = true := by
  have h2 : (0 : Int) ≤ (n : Int) ∧ (n : Int) ≤ 18446744073709551615 := by simp only [B] at h; omega
  simpa [Lit.wf, IntKind.min, IntKind.max, IntKind.signed, IntKind.bits] using h2

end Go.Proofs.YtnnodibjocilmaaDoor
