/- What the arguments of layer 4's statements are, and a world in which Go's two tables of runes lie as the library's text lays them. -/
import Derived.Test.YtlplncfonphkeaaDoorHxS
import Derived.Test.YtlplncfonphkeaaDoorFrame
import Derived.Test.YtlplncfonphkeaaDoorCards
import Derived.Test.YtlplncfonphkeaaDoorTie
import Derived.Carry
import Derived.OpenShut
import Derived.ChangeMaps5
import Derived.ShutString
import Derived.Deep.DeepHandedRow
namespace Go.Proofs.YtlplncfonphkeaaDoor
open Go.ChangeShapes Go.WideShapes Go.ChangeAt Go.RowKit SmWord
set_option maxRecDepth 100000

theorem Tryd.laidOutX : laidOutB Tryd.prog = true := by kernel_rfl
theorem open_slice {H : Type} {enc : TypeId × Value → H} {W : World} {base : Nat} {v : Value} {d : DataW H} {p : List MemPlace}
    (hv : Value.okWide Tryd.prog W .any base 22 v) (h : DataW.Trod enc Tryd.prog W 0 (fun _ => true) true 22 v d p) : ∃ (A : Option Addr) (n c : Nat) (f : Nat → Nat), v = .slice A n c ∧ n ≤ maxLen ∧ Sl W A n f := by
  obtain ⟨a1, len, cap, rfl⟩ := okWide_slice Tryd.underlying22 hv
  obtain ⟨fuel, hf⟩ := h
  rcases open_ints Tryd.underlying22 Tryd.underlying5 Tryd.cellsB hf with ⟨hcs, hx⟩ | ⟨a, len', cap', zs, hcs, _, hl, hm, hz, hx, hcell, hwz⟩
  · simp [Value.cells] at hcs
    obtain ⟨rfl, rfl, rfl⟩ := hcs
    exact ⟨none, 0, 0, fun _ => 0, rfl, Nat.zero_le _, fun _ _ => by decide, fun h => absurd h (by omega)⟩
  · simp [Value.cells] at hcs
    obtain ⟨rfl, rfl, rfl⟩ := hcs
    simp only [if_true] at hz
    refine ⟨some a, len, cap, fun i => (zs.getD i 0).toNat, rfl, Nat.le_trans hl hm, fun i _ => ?_, fun hn => ?_⟩
    · have := range_u8 hwz i
      rw [List.getD_eq_getElem?_getD]
      omega
    · obtain ⟨b, off, spot⟩ := a
      have hspot : spot = none := by simpa [Addr.add] using World.cell?_spot (hcell 0 (by omega))
      subst hspot
      have h0 := hcell 0 (by omega)
      refine ⟨b, off, rfl, by simpa [Addr.add] using World.block_lt_of_cell? W _ h0, fun i hi => ?_⟩
      have hi' := hcell i (by omega)
      rw [Addr.add_lit] at hi'
      have := range_u8 hwz i
      rw [← List.getD_eq_getElem?_getD] at this
      rw [hi', Int.toNat_of_nonneg this.1]
theorem Tryd.cellsA : Tryd.prog.cellsOf 40 = 20 := by kernel_rfl
theorem open_addr {H : Type} {enc : TypeId × Value → H} {W : World} {base : Nat} {v : Value} {d : DataW H} {p : List MemPlace}
    (hv : Value.okWide Tryd.prog W .any base 40 v) (h : DataW.Trod enc Tryd.prog W 0 (fun _ => true) true 40 v d p) : ∃ f : Nat → Nat, v = .agg (aa f) ∧ ∀ i, i < 20 → f i < 256 := by
  obtain ⟨cs, rfl, hsz, _⟩ : ∃ cs, v = .agg cs ∧ cs.size = Tryd.prog.cellsOf 40 ∧ Row.okWide Tryd.prog W .any base 40 cs := by
    simpa [Value.okWide, Tryd.underlying40] using hv
  rw [Tryd.cellsA] at hsz
  obtain ⟨fuel, hf⟩ := h
  obtain ⟨xs, m, _, _, _, hl, hel⟩ := DataW.trod_array Tryd.underlying40 hf
  have hi : ∀ i, i < 20 → ∃ n : Nat, n < 256 ∧ cs[i]? = some (.int .u8 (n : Int)) := fun i hi => by
    have h1 := hel i hi
    rw [Tryd.cellsB, Nat.mul_one] at h1
    have hc : (Value.agg cs).cells.toList = cs.toList := rfl
    rw [hc] at h1
    have hlt : i < cs.toList.length := by simpa [hsz] using hi
    have e : (cs.toList.drop i).take 1 = [cs.toList[i]] := by
      rw [List.drop_eq_getElem_cons hlt]; rfl
    rw [e, List.getElem?_eq_getElem (by omega)] at h1
    obtain ⟨n, e1, _, wf⟩ := DataW.trod_int Tryd.underlying5 h1
    have hb : 0 ≤ n ∧ n ≤ 255 := by simpa [Lit.wf, IntKind.min, IntKind.max, IntKind.signed, IntKind.bits] using wf
    refine ⟨n.toNat, by omega, ?_⟩
    rw [← Array.getElem?_toList, List.getElem?_eq_getElem hlt]
    simp only [List.cons.injEq, and_true] at e1
    rw [e1, Int.toNat_of_nonneg hb.1]
  refine ⟨fun i => match cs[i]? with | some (.int _ x) => x.toNat | _ => 0, ?_, fun i h => ?_⟩
  · congr 1
    apply Array.ext'
    apply List.ext_getElem?
    intro i
    rw [Array.getElem?_toList, Array.getElem?_toList]
    by_cases h : i < 20
    · obtain ⟨n, _, e⟩ := hi i h
      unfold aa
      rw [arr_get .u8 _ h]
      simp [e]
    · rw [Array.getElem?_eq_none (by omega), Array.getElem?_eq_none (by rw [aa_size]; omega)]
  · obtain ⟨n, hn, e⟩ := hi i h
    show (match cs[i]? with | some (.int _ x) => x.toNat | _ => 0) < 256
    rw [e]
    simpa using hn

/-- What Go's two tables hold. -/
def runesFirst : Array Value := (Go.Pinned.utf8FirstZ.map fun n : Nat => Value.int .u8 (n : Int)).toArray
def runesRanges : Array Value := ([128, 191, 160, 191, 128, 159, 144, 191, 128, 143, 0, 0, 0, 0, 0, 0, 0, 0, 0, 0, 0, 0, 0, 0, 0, 0, 0, 0, 0, 0, 0, 0].map fun n : Nat => Value.int .u8 (n : Int)).toArray
def layRow (C : Array Value) : Obj → Obj
  | .cells _ t frozen => .cells C t frozen
  | o => o
/-- The settled world, with them laid. -/
noncomputable def laidWorld (os : Os) : World :=
  { World.holding Tryd.prog os ⟨#[], #[], []⟩ with heap := ((World.holding Tryd.prog os ⟨#[], #[], []⟩).heap.modify 1 (layRow runesFirst)).modify 2 (layRow runesRanges) }
theorem laid_met (os : Os) (args : Array Value) : laidMet Tryd.prog Rows.hexAddressesRow.laid ((laidWorld os).forCall (fun _ _ => 0) ⟨#[], args, []⟩).memory :=
  laidMet_of_run' 8 (by kernel_rfl) (by kernel_rfl)
end Go.Proofs.YtlplncfonphkeaaDoor
