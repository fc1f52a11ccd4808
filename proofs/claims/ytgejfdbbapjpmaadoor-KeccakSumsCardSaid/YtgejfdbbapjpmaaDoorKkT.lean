/- What the arguments of layer 5's statements are; what the row's list says of the two tables; a world in which they lie as the program's text lays them. -/
import Derived.Test.YtgejfdbbapjpmaaDoorKkS
import Derived.Test.YtgejfdbbapjpmaaDoorFrame
import Derived.Test.YtgejfdbbapjpmaaDoorCards
import Derived.Test.YtgejfdbbapjpmaaDoorTie
import Derived.Carry
import Derived.OpenShut
import Derived.Lib.LaidTab
import Derived.Stop.LaidErr
import Derived.Deep.DeepHandedRow
namespace Go.Proofs.YtgejfdbbapjpmaaDoor
open Go.ChangeShapes Go.WideShapes Go.ChangeAt Go.RowKit SmWord
set_option maxRecDepth 100000

theorem Tryd.laidOutX : laidOutB Tryd.prog = true := by kernel_rfl
theorem open_slice {H : Type} {enc : TypeId × Value → H} {W : World} {base : Nat} {v : Value} {d : DataW H} {p : List MemPlace}
    (hv : Value.okWide Tryd.prog W .any base 27 v) (h : DataW.Trod enc Tryd.prog W 0 (fun _ => true) true 27 v d p) : ∃ (A : Option Addr) (n c : Nat) (f : Nat → Nat), v = .slice A n c ∧ n ≤ maxLen ∧ n ≤ c ∧ (A = none → n = 0 ∧ c = 0) ∧ Sl W A n f := by
  obtain ⟨a1, len, cap, rfl⟩ := okWide_slice Tryd.underlying27 hv
  obtain ⟨fuel, hf⟩ := h
  rcases open_ints Tryd.underlying27 Tryd.underlying5 Tryd.cells8 hf with ⟨hcs, hx⟩ | ⟨a, len', cap', zs, hcs, _, hl, hm, hz, hx, hcell, hwz⟩
  · simp [Value.cells] at hcs
    obtain ⟨rfl, rfl, rfl⟩ := hcs
    exact ⟨none, 0, 0, fun _ => 0, rfl, Nat.zero_le _, Nat.le_refl _, fun _ => ⟨rfl, rfl⟩, fun _ _ => by decide, fun h => absurd h (by omega)⟩
  · simp [Value.cells] at hcs
    obtain ⟨rfl, rfl, rfl⟩ := hcs
    simp only [if_true] at hz
    refine ⟨some a, len, cap, fun i => (zs.getD i 0).toNat, rfl, Nat.le_trans hl hm, hl, (fun h => by cases h), fun i _ => ?_, fun hn => ?_⟩
    · have := range_u8 hwz i
      rw [List.getD_eq_getElem?_getD]
      omega
    · obtain ⟨b, off, spot⟩ := a
      have hspot : spot = none := by simpa [Addr.add] using World.cell?_spot (hcell 0 (by omega))
      subst hspot
      have h0 := hcell 0 (by omega)
      refine ⟨b, off, rfl, by simpa [Addr.add] using World.block_lt_of_cell? W _ h0, fun i hi => ?_⟩
      have hi' := hcell i (by omega)
      rw [Addr.add_lit] at hi'
      have := range_u8 hwz i
      rw [← List.getD_eq_getElem?_getD] at this
      rw [hi', Int.toNat_of_nonneg this.1]
theorem Tryd.cellsS : Tryd.prog.cellsOf 23 = 25 := by kernel_rfl
theorem open_state {H : Type} {enc : TypeId × Value → H} {W : World} {base : Nat} {v : Value} {d : DataW H} {p : List MemPlace}
    (hv : Value.okWide Tryd.prog W .any base 23 v) (h : DataW.Trod enc Tryd.prog W 0 (fun _ => true) true 23 v d p) : ∃ S : Nat → Nat, v = .agg (sa S) ∧ okS S := by
  obtain ⟨cs, rfl, hsz, _⟩ : ∃ cs, v = .agg cs ∧ cs.size = Tryd.prog.cellsOf 23 ∧ Row.okWide Tryd.prog W .any base 23 cs := by
    simpa [Value.okWide, Tryd.underlying23] using hv
  rw [Tryd.cellsS] at hsz
  obtain ⟨fuel, hf⟩ := h
  obtain ⟨xs, m, _, _, _, hl, hel⟩ := DataW.trod_array Tryd.underlying23 hf
  have hi : ∀ i, i < 25 → ∃ n : Nat, n < B ∧ cs[i]? = some (.int .u64 (n : Int)) := fun i hi => by
    have h1 := hel i hi
    rw [Tryd.cells22, Nat.mul_one] at h1
    have hc : (Value.agg cs).cells.toList = cs.toList := rfl
    rw [hc] at h1
    have hlt : i < cs.toList.length := by simpa [hsz] using hi
    have e : (cs.toList.drop i).take 1 = [cs.toList[i]] := by
      rw [List.drop_eq_getElem_cons hlt]; rfl
    rw [e, List.getElem?_eq_getElem (by omega)] at h1
    obtain ⟨n, e1, _, wf⟩ := DataW.trod_int Tryd.underlying22 h1
    obtain ⟨n', rfl, hb⟩ := wf_u64 wf
    refine ⟨n', hb, ?_⟩
    rw [← Array.getElem?_toList, List.getElem?_eq_getElem hlt]
    simp only [List.cons.injEq, and_true] at e1
    rw [e1]
  refine ⟨fun i => match cs[i]? with | some (.int _ x) => x.toNat | _ => 0, ?_, fun i h => ?_⟩
  · congr 1
    apply Array.ext'
    apply List.ext_getElem?
    intro i
    rw [Array.getElem?_toList, Array.getElem?_toList]
    by_cases h : i < 25
    · obtain ⟨n, _, e⟩ := hi i h
      unfold sa
      rw [arr_get .u64 _ h]
      simp [e]
    · rw [Array.getElem?_eq_none (by omega), Array.getElem?_eq_none (by rw [sa, arr_size]; omega)]
  · obtain ⟨n, hn, e⟩ := hi i h
    show (match cs[i]? with | some (.int _ x) => x.toNat | _ => 0) < B
    rw [e]
    simpa using hn
theorem wf_u8 {x : Int} (h : (Lit.int .u8 x).wf = true) : ∃ n : Nat, x = (n : Int) ∧ n < 256 := by
  have h2 : 0 ≤ x ∧ x ≤ 255 := by simpa [Lit.wf, IntKind.min, IntKind.max, IntKind.signed, IntKind.bits] using h
  exact ⟨x.toNat, by omega, by omega⟩

/-! The tables. -/
theorem Tryd.gCon : Tryd.prog.globalNamed "smithy/keccak.constants" = some 0 := by kernel_rfl
theorem Tryd.gWay : Tryd.prog.globalNamed "smithy/keccak.way" = some 1 := by kernel_rfl
theorem Tryd.gConType : (Tryd.prog.globals[0]?).map (·.type) = some 38 := by kernel_rfl
theorem Tryd.gWayType : (Tryd.prog.globals[1]?).map (·.type) = some 51 := by kernel_rfl
theorem Tryd.cellsC : Tryd.prog.cellsOf 38 = 24 := by kernel_rfl
theorem Tryd.cellsI : Tryd.prog.cellsOf 51 = 24 := by kernel_rfl
theorem Tryd.cells1 : Tryd.prog.cellsOf 3 = 1 := by kernel_rfl
def conL : List Int := (List.range 24).map fun k => ((kc k : Nat) : Int)
def wayL : List Int := (List.range 24).map fun k => ((pos (k + 1) : Nat) : Int)
theorem laid_eq : Rows.keccakTurnsRow.laid = [("smithy/keccak.constants", Lib.tabData .u64 conL), ("smithy/keccak.way", Lib.tabData .i64 wayL)] := by kernel_rfl
theorem tab_of_laid {W : World} (h : laidMet Tryd.prog Rows.keccakTurnsRow.laid W) : Tab W := by
  rw [laid_eq] at h
  have h1 := Lib.tabIs_of_head Tryd.gCon Tryd.gConType Tryd.underlying38 Tryd.underlying22 Tryd.cells22 Tryd.cellsC h
  have h2 := Lib.tabIs_of_head Tryd.gWay Tryd.gWayType Tryd.underlying51 Tryd.underlying3 Tryd.cells1 Tryd.cellsI h.tail
  have c1 : ∀ k, k < 24 → W.cell? ⟨0, k, none⟩ = some (.int .u64 ((kc k : Nat) : Int)) := fun k hk => by
    have := h1.cell Tryd.gCon k (by simp [conL, hk])
    rw [this]
    simp [conL, hk]
  have c2 : ∀ k, k < 24 → W.cell? ⟨1, k, none⟩ = some (.int .i64 ((pos (k + 1) : Nat) : Int)) := fun k hk => by
    have := h2.cell Tryd.gWay k (by simp [wayL, hk])
    rw [this]
    simp [wayL, hk]
  have h0 := World.block_lt_of_cell? W _ (c2 0 (by omega))
  exact ⟨h0, c1, c2⟩
/-- What they hold. -/
def conA : Array Value := (conL.map fun z => Value.int .u64 z).toArray
def wayA : Array Value := (wayL.map fun z => Value.int .i64 z).toArray
def layRow (C : Array Value) : Obj → Obj
  | .cells _ t frozen => .cells C t frozen
  | o => o
/-- The settled world, with them laid. -/
noncomputable def laidWorld (os : Os) : World :=
  { World.holding Tryd.prog os ⟨#[], #[], []⟩ with heap := ((World.holding Tryd.prog os ⟨#[], #[], []⟩).heap.modify 0 (layRow conA)).modify 1 (layRow wayA) }
theorem laid_met (os : Os) (args : Array Value) : laidMet Tryd.prog Rows.keccakTurnsRow.laid ((laidWorld os).forCall (fun _ _ => 0) ⟨#[], args, []⟩).memory :=
  laidMet_of_run' 8 (by kernel_rfl) (by kernel_rfl)
end Go.Proofs.YtgejfdbbapjpmaaDoor
