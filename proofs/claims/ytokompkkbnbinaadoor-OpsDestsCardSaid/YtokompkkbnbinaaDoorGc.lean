/- What the arguments of layer 11's statements are; a world in which the library's three tables lie as its text lays them. -/
import Derived.Test.YtokompkkbnbinaaDoorGa
import Derived.Test.YtokompkkbnbinaaDoorGb
import Derived.Test.YtokompkkbnbinaaDoorCards
import Derived.Test.YtokompkkbnbinaaDoorTie
import Derived.Carry
import Derived.OpenShut
import Derived.Deep.DeepHandedRow
namespace Go.Proofs.YtokompkkbnbinaaDoor
open Go.ChangeShapes Go.WideShapes Go.ChangeAt Go.RowKit SmWord
set_option maxRecDepth 100000

theorem Tryd.laidOutX : laidOutB Tryd.prog = true := by kernel_rfl
theorem open_arg {H : Type} {enc : TypeId × Value → H} {W : World} {base : Nat} {v : Value} {d : DataW H} {p : List MemPlace}
    (hv : Value.okWide Tryd.prog W .any base 29 v) (h : DataW.Trod enc Tryd.prog W 0 (fun _ => true) true 29 v d p) : ∃ (A : Option Addr) (n c : Nat) (f : Nat → Nat), v = .slice A n c ∧ n ≤ maxLen ∧ n ≤ c ∧ (A = none → n = 0 ∧ c = 0) ∧ Sl W A n f := by
  obtain ⟨a1, len, cap, rfl⟩ := okWide_slice Tryd.underlying29 hv
  obtain ⟨fuel, hf⟩ := h
  exact open_bytes Tryd.underlying29 Tryd.underlying5 (by kernel_rfl) hf
theorem open_u8 {H : Type} {enc : TypeId × Value → H} {W : World} {base : Nat} {v : Value} {d : DataW H} {p : List MemPlace}
    (hv : Value.okWide Tryd.prog W .any base 5 v) (h : DataW.Trod enc Tryd.prog W 0 (fun _ => true) true 5 v d p) : ∃ z : Nat, v = .int .u8 (z : Int) ∧ z < 256 := by
  obtain ⟨n, rfl⟩ := okWide_int Tryd.underlying5 hv
  obtain ⟨fuel, hf⟩ := h
  obtain ⟨z, e, _, wz⟩ := DataW.trod_int Tryd.underlying5 hf
  simp [Value.cells] at e
  subst e
  have hz : 0 ≤ n ∧ n ≤ 255 := by simpa [Lit.wf, IntKind.min, IntKind.max, IntKind.signed, IntKind.bits] using wz
  exact ⟨n.toNat, by rw [Int.toNat_of_nonneg hz.1], by omega⟩
theorem open_wd {H : Type} {enc : TypeId × Value → H} {W : World} {base : Nat} {v : Value} {d : DataW H} {p : List MemPlace}
    (hv : Value.okWide Tryd.prog W .any base 31 v) (h : DataW.Trod enc Tryd.prog W 0 (fun _ => true) true 31 v d p) : ∃ z : Nat, v = wd z ∧ z < M := by
  obtain ⟨n, rfl, _, _⟩ := open_word hv h
  exact ⟨n % M, congrArg Value.agg (wa_congr (Nat.mod_mod _ _)).symm, Nat.mod_lt _ (by decide)⟩
/-- The cells of a table of numbers. -/
def litV : DataW Unit → Value
  | .lit (.int k z) => .int k z
  | _ => undef
def tabA : DataW Unit → Array Value
  | .agg l => (l.map litV).toArray
  | _ => #[]
def layRow (C : Array Value) : Obj → Obj
  | .cells _ t frozen => .cells C t frozen
  | o => o
/-- The settled world, with the three tables laid. -/
noncomputable def laidWorld (os : Os) : World :=
  { World.holding Tryd.prog os ⟨#[], #[], []⟩ with heap := (((World.holding Tryd.prog os ⟨#[], #[], []⟩).heap.modify 2 (layRow (tabA Rows.laid_math_bits_deBruijn32tab))).modify 3 (layRow (tabA Rows.laid_math_bits_deBruijn64tab))).modify 0 (layRow (tabA Rows.laid_internal_strconv_uint64pow10)) }
theorem laid_met (os : Os) (args : Array Value) : laidMet Tryd.prog Rows.opsInfoRow.laid ((laidWorld os).forCall (fun _ _ => 0) ⟨#[], args, []⟩).memory :=
  laidMet_of_run' 8 (by kernel_rfl) (by kernel_rfl)
end Go.Proofs.YtokompkkbnbinaaDoor
