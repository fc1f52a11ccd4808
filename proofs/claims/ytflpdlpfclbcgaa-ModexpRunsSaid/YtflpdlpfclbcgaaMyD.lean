/- What the document's Gas does. -/
import Derived.Test.YtflpdlpfclbcgaaMyC
namespace Go.Proofs.Ytflpdlpfclbcgaa
open Go.RowKit SmWord
set_option maxRecDepth 100000

/-- What returns a number of 64 bits, and whether. -/
def LenV (L : Nat) (x : Bool) (w : World) (e : Ending) (w' : World) : Prop := e = .returned (.tuple #[.int .u64 (L : Int), .bool x]) ∧ Below w.heap.size w w'
set_option maxHeartbeats 4000000 in
theorem rgas_bad (A : Option Addr) (n c : Nat) (G L0 L1 L2 : Nat) (x y z : Bool) (w : World)
    (H0 : Hid (Calls Try.prog 20 #[.slice A n c, .int .i64 0] w (LenV L0 x w)))
    (H1 : Hid (∀ w', Below w.heap.size w w' → Calls Try.prog 20 #[.slice A n c, .int .i64 1] w' (LenV L1 y w')))
    (H2 : Hid (∀ w', Below w.heap.size w w' → Calls Try.prog 20 #[.slice A n c, .int .i64 2] w' (LenV L2 z w')))
    (hc : Hid ((x = true ∧ z = true ∧ L0 = 0 ∧ L2 = 0 ∧ G = 200) ∨ (x = false ∧ G = 18446744073709551615) ∨ (x = true ∧ z = false ∧ G = 18446744073709551615) ∨ (x = true ∧ z = true ∧ y = false ∧ L0 ≠ 0 ∧ G = 18446744073709551615) ∨ (x = true ∧ z = true ∧ y = false ∧ L0 = 0 ∧ L2 ≠ 0 ∧ G = 18446744073709551615))) :
    Calls Try.prog 18 #[.slice A n c] w fun e w' => e = .returned (.int .u64 (G : Int)) ∧ Below w.heap.size w w' := by
  go_enter Try.func18, Try.ntmps18
  go_wp2_with fail
  refine (H0.out).mono ?_
  rintro _ w1 ⟨rfl, b1⟩
  have HL := Lib.hid (H1.out _ b1)
  have BW := Lib.hid b1
  clear H0 H1 b1
  go_wp2_with fail
  refine (HL.out).mono ?_
  rintro _ w2 ⟨rfl, b1⟩
  have BW2 := Lib.hid (BW.out.trans (b1.mono BW.out.size))
  have HL2 := Lib.hid (H2.out _ BW2.out)
  clear HL BW b1 H2
  go_wp2_with fail
  refine (HL2.out).mono ?_
  rintro _ w3 ⟨rfl, b1⟩
  have BW := Lib.hid (BW2.out.trans (b1.mono BW2.out.size))
  clear HL2 BW2 b1
  rcases hc.out with ⟨rfl, rfl, rfl, rfl, hg⟩ | ⟨rfl, hg⟩ | ⟨rfl, rfl, hg⟩ | ⟨rfl, rfl, rfl, h0, hg⟩ | ⟨rfl, rfl, rfl, rfl, h2, hg⟩
  · have HG := Lib.hid hg
    clear hc hg
    go_wp2_with fail
    go_ret
    exact ⟨by rw [HG.out]; rfl, BW.out⟩
  · have HG := Lib.hid hg
    clear hc hg
    go_wp2_with fail
    go_ret
    exact ⟨by rw [HG.out]; rfl, BW.out⟩
  · have HG := Lib.hid hg
    clear hc hg
    cases y <;> (go_wp2_with fail; go_ret; exact ⟨by rw [HG.out]; rfl, BW.out⟩)
  · have HG := Lib.hid hg
    have e2 : (((L0 : Nat) : Int) == 0) = false := by rw [beq_eq_false_iff_ne]; omega
    clear hc hg
    go_wp2_with fail
    go_ret
    exact ⟨by rw [HG.out]; rfl, BW.out⟩
  · have HG := Lib.hid hg
    have e2 : (((L2 : Nat) : Int) == 0) = false := by rw [beq_eq_false_iff_ne]; omega
    clear hc hg
    go_wp2_with fail
    go_ret
    exact ⟨by rw [HG.out]; rfl, BW.out⟩
end Go.Proofs.Ytflpdlpfclbcgaa
