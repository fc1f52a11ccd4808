/- A word as an argument of a statement: it reads as the four parts of a number. -/
import Derived.Test.YtfpeliolngfkpaaArr
import Derived.ProofKit
import Derived.Laws.IdiomArrays
import Derived.Lib.SmallJoins
namespace Go.Proofs.Ytfpeliolngfkpaa
open Go.ChangeShapes Go.WideShapes Go.ChangeAt Go.RowKit SmWord
set_option maxRecDepth 100000

theorem Try.own : ownKnob Try.prog.godebug = none := by kernel_rfl
theorem Try.cellsW : Try.prog.cellsOf 39 = 4 := by kernel_rfl

/-- A word that is written out: 0. -/
def w0000 : Value := .agg #[.int .u64 0, .int .u64 0, .int .u64 0, .int .u64 0]
def dw {H : Type} (n : Nat) : DataW H := .agg [.lit (.int .u64 ((l0 n : Nat) : Int)), .lit (.int .u64 ((l1 n : Nat) : Int)), .lit (.int .u64 ((l2 n : Nat) : Int)), .lit (.int .u64 ((l3 n : Nat) : Int))]

theorem wf_u64 {x : Int} (h : (Lit.int .u64 x).wf = true) : ∃ n : Nat, x = (n : Int) ∧ n < B := by
  have h2 : 0 ≤ x ∧ x ≤ 18446744073709551615 := by simpa [Lit.wf, IntKind.min, IntKind.max, IntKind.signed, IntKind.bits] using h
  exact ⟨x.toNat, by omega, by simp only [B]; omega⟩
theorem nat_wf_u64 {n : Nat} (h : n < B) : (Lit.int .u64 (n : Int)).wf = true := by
  have h2 : (0 : Int) ≤ (n : Int) ∧ (n : Int) ≤ 18446744073709551615 := by simp only [B] at h; omega
  simpa [Lit.wf, IntKind.min, IntKind.max, IntKind.signed, IntKind.bits] using h2

theorem open_word {H : Type} {enc : TypeId × Value → H} {W : World} {base : Nat} {v : Value} {d : DataW H} {p : List MemPlace} {sp : Nat → Bool} {hd : Bool}
    (hv : Value.okWide Try.prog W .any base 39 v) (h : DataW.Trod enc Try.prog W 0 sp hd 39 v d p) : ∃ n : Nat, v = wd n ∧ d = dw n ∧ p = [] := by
  obtain ⟨cs, rfl, hsz, _⟩ : ∃ cs, v = .agg cs ∧ cs.size = Try.prog.cellsOf 39 ∧ Row.okWide Try.prog W .any base 39 cs := by
    simpa [Value.okWide, Try.underlying39] using hv
  rw [Try.cellsW] at hsz
  obtain ⟨c0, c1, c2, c3, rfl⟩ := Joins.array4 hsz
  obtain ⟨fuel, hf⟩ := h
  obtain ⟨y0, y1, y2, y3, m, hx, hy0, hy1, hy2, hy3⟩ := trod_array4 Try.underlying39 Try.cells37 hf
  obtain ⟨x0, e0, rfl, w0⟩ := DataW.trod_int Try.underlying37 hy0
  obtain ⟨x1, e1, rfl, w1⟩ := DataW.trod_int Try.underlying37 hy1
  obtain ⟨x2, e2, rfl, w2⟩ := DataW.trod_int Try.underlying37 hy2
  obtain ⟨x3, e3, rfl, w3⟩ := DataW.trod_int Try.underlying37 hy3
  simp at e0 e1 e2 e3
  subst e0 e1 e2 e3
  simp only [Prod.mk.injEq] at hx
  obtain ⟨rfl, rfl⟩ := hx
  obtain ⟨n0, rfl, b0⟩ := wf_u64 w0
  obtain ⟨n1, rfl, b1⟩ := wf_u64 w1
  obtain ⟨n2, rfl, b2⟩ := wf_u64 w2
  obtain ⟨n3, rfl, b3⟩ := wf_u64 w3
  obtain ⟨h0, h1, h2, h3⟩ := parts_num b0 b1 b2 b3
  refine ⟨num n0 n1 n2 n3, (wd_num b0 b1 b2 b3).symm, ?_, rfl⟩
  unfold dw
  rw [h0, h1, h2, h3]
theorem shut_word {H : Type} {enc : TypeId × Value → H} (n : Nat) (W : World) (sp : Nat → Bool) {base : Nat} {hd : Bool} : DataW.Trod enc Try.prog W base sp hd 39 (wd n) (dw n) [] := by
  obtain ⟨A0, A1, A2, A3⟩ := l_lt n
  exact ⟨2, by simp [DataW.trod, Value.cells, wa, dw, Try.underlying39, Try.underlying37, Try.cellsW, Try.cells37, show List.range 4 = [0, 1, 2, 3] from rfl, nat_wf_u64 A0, nat_wf_u64 A1, nat_wf_u64 A2, nat_wf_u64 A3]⟩
end Go.Proofs.Ytfpeliolngfkpaa
