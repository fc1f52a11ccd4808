/- What the arguments of layer 16's statements are; what the rows' lists say of the table; a world in which it lies as the program's text lays it. -/
import Derived.Test.YtihefgpicnhdjaaDoorPcG
import Derived.Test.YtihefgpicnhdjaaDoorCards
import Derived.Test.YtihefgpicnhdjaaDoorTie
import Derived.Carry
import Derived.OpenShut
import Derived.Lib.LaidTab
import Derived.Stop.LaidErr
import Derived.Deep.DeepHandedRow
namespace Go.Proofs.YtihefgpicnhdjaaDoor
open Go.ChangeShapes Go.WideShapes Go.ChangeAt Go.RowKit SmWord
set_option maxRecDepth 100000

theorem Tryd.laidOutX : laidOutB Tryd.prog = true := by kernel_rfl
theorem open_slice {H : Type} {enc : TypeId × Value → H} {W : World} {base : Nat} {v : Value} {d : DataW H} {p : List MemPlace}
    (hv : Value.okWide Tryd.prog W .any base 22 v) (h : DataW.Trod enc Tryd.prog W 0 (fun _ => true) true 22 v d p) : ∃ (A : Option Addr) (n c : Nat) (f : Nat → Nat), v = .slice A n c ∧ n ≤ maxLen ∧ n ≤ c ∧ (A = none → n = 0 ∧ c = 0) ∧ Sl W A n f := by
  obtain ⟨a1, len, cap, rfl⟩ := okWide_slice Tryd.underlying22 hv
  obtain ⟨fuel, hf⟩ := h
  rcases open_ints Tryd.underlying22 Tryd.underlying5 Tryd.cells8 hf with ⟨hcs, hx⟩ | ⟨a, len', cap', zs, hcs, _, hl, hm, hz, hx, hcell, hwz⟩
  · simp [Value.cells] at hcs
    obtain ⟨rfl, rfl, rfl⟩ := hcs
    exact ⟨none, 0, 0, fun _ => 0, rfl, Nat.zero_le _, Nat.le_refl _, fun _ => ⟨rfl, rfl⟩, fun _ _ => by decide, fun h => absurd h (by omega)⟩
  · simp [Value.cells] at hcs
    obtain ⟨rfl, rfl, rfl⟩ := hcs
    simp only [if_true] at hz
    refine ⟨some a, len, cap, fun i => (zs.getD i 0).toNat, rfl, Nat.le_trans hl hm, hl, (fun h => by cases h), fun i _ => ?_, fun hn => ?_⟩
    · have := range_u8 hwz i
      rw [List.getD_eq_getElem?_getD]
      omega
    · obtain ⟨b, off, spot⟩ := a
      have hspot : spot = none := by simpa [Addr.add] using World.cell?_spot (hcell 0 (by omega))
      subst hspot
      have h0 := hcell 0 (by omega)
      refine ⟨b, off, rfl, by simpa [Addr.add] using World.block_lt_of_cell? W _ h0, fun i hi => ?_⟩
      have hi' := hcell i (by omega)
      rw [Addr.add_lit] at hi'
      have := range_u8 hwz i
      rw [← List.getD_eq_getElem?_getD] at this
      rw [hi', Int.toNat_of_nonneg this.1]
theorem open_u64 {H : Type} {enc : TypeId × Value → H} {W : World} {base : Nat} {v : Value} {d : DataW H} {p : List MemPlace}
    (hv : Value.okWide Tryd.prog W .any base 23 v) (h : DataW.Trod enc Tryd.prog W 0 (fun _ => true) true 23 v d p) : ∃ z : Nat, v = .int .u64 (z : Int) ∧ z < B := by
  obtain ⟨n, rfl⟩ := okWide_int Tryd.underlying23 hv
  obtain ⟨fuel, hf⟩ := h
  obtain ⟨z, e, _, wz⟩ := DataW.trod_int Tryd.underlying23 hf
  simp [Value.cells] at e
  subst e
  obtain ⟨m, rfl, hm⟩ := wf_u64 wz
  exact ⟨m, rfl, hm⟩
theorem open_int {H : Type} {enc : TypeId × Value → H} {W : World} {base : Nat} {v : Value} {d : DataW H} {p : List MemPlace}
    (hv : Value.okWide Tryd.prog W .any base 3 v) (_h : DataW.Trod enc Tryd.prog W 0 (fun _ => true) true 3 v d p) : ∃ z : Int, v = .int .i64 z := by
  obtain ⟨n, rfl⟩ := okWide_int Tryd.underlying3 hv
  exact ⟨n, rfl⟩

/-! The table. -/
theorem Tryd.gCon : Tryd.prog.globalNamed "smithy/sha.constants" = some 0 := by kernel_rfl
theorem Tryd.gConType : (Tryd.prog.globals[0]?).map (·.type) = some 48 := by kernel_rfl
theorem Tryd.cellsC : Tryd.prog.cellsOf 48 = 64 := by kernel_rfl
theorem Tryd.cells32 : Tryd.prog.cellsOf 47 = 1 := by kernel_rfl
def conL : List Int := (List.range 64).map fun k => ((ck k : Nat) : Int)
theorem laid_eqR : Rows.precRunsRow.laid = [("smithy/sha.constants", Lib.tabData .u32 conL)] := by kernel_rfl
theorem laid_eqP : Rows.precPaidRow.laid = [("smithy/sha.constants", Lib.tabData .u32 conL)] := by kernel_rfl
theorem tab_of {W : World} {L : List (String × DataW Unit)} (hl : L = [("smithy/sha.constants", Lib.tabData .u32 conL)]) (h : laidMet Tryd.prog L W) : Tab W := by
  rw [hl] at h
  have h1 := Lib.tabIs_of_head Tryd.gCon Tryd.gConType Tryd.underlying48 Tryd.underlying47 Tryd.cells32 Tryd.cellsC h
  have c1 : ∀ k, k < 64 → W.cell? ⟨0, k, none⟩ = some (.int .u32 ((ck k : Nat) : Int)) := fun k hk => by
    have := h1.cell Tryd.gCon k (by simp [conL, hk])
    rw [this]
    simp [conL, hk]
  have h0 := World.block_lt_of_cell? W _ (c1 0 (by omega))
  exact ⟨by have : (⟨0, 0, none⟩ : Addr).block < W.heap.size := h0; simp at this; omega, c1⟩
/-- What it holds. -/
def conA : Array Value := (conL.map fun z => Value.int .u32 z).toArray
def layRow (C : Array Value) : Obj → Obj
  | .cells _ t frozen => .cells C t frozen
  | o => o
/-- The settled world, with it laid. -/
noncomputable def laidWorld (os : Os) : World :=
  { World.holding Tryd.prog os ⟨#[], #[], []⟩ with heap := (World.holding Tryd.prog os ⟨#[], #[], []⟩).heap.modify 0 (layRow conA) }
theorem laid_metR (os : Os) (args : Array Value) : laidMet Tryd.prog Rows.precRunsRow.laid ((laidWorld os).forCall (fun _ _ => 0) ⟨#[], args, []⟩).memory :=
  laidMet_of_run' 8 (by kernel_rfl) (by kernel_rfl)
theorem laid_metP (os : Os) (args : Array Value) : laidMet Tryd.prog Rows.precPaidRow.laid ((laidWorld os).forCall (fun _ _ => 0) ⟨#[], args, []⟩).memory :=
  laidMet_of_run' 8 (by kernel_rfl) (by kernel_rfl)
end Go.Proofs.YtihefgpicnhdjaaDoor
