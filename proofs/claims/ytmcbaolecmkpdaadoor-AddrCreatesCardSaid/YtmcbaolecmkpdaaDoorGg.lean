/- The statement AddrWords at every address and word: it returns true. -/
import Derived.Test.YtmcbaolecmkpdaaDoorGf
import Derived.Test.YtmcbaolecmkpdaaDoorGe
import Derived.Test.YtmcbaolecmkpdaaDoorG3
import Derived.Test.YtmcbaolecmkpdaaDoorCards
import Derived.Test.YtmcbaolecmkpdaaDoorTie
import Derived.Carry
import Derived.OpenShut
import Derived.Lib.LaidTab
import Derived.Stop.LaidErr
import Derived.Deep.DeepHandedRow
namespace Go.Proofs.YtmcbaolecmkpdaaDoor
open Go.RowKit SmWord
set_option maxRecDepth 100000

theorem Tryd.guardA : Tryd.prog.eqGuardType Tryd.prog.depth 23 = false := by kernel_rfl
theorem Tryd.cells8 : Tryd.prog.cellsOf 5 = 1 := by kernel_rfl
theorem equal_aa (f : Nat → Nat) (w : World) : (Op.equalIn 10000 23 (.agg (aa f)) (.agg (aa f))).run Tryd.prog w = .ok true w := by
  obtain ⟨r, hr, hiff⟩ := equal_ints (k := .u8) Tryd.underlying23 Tryd.underlying5 Tryd.cells8 (aa f) (aa f) (arr_size _ _ _) (arr_size _ _ _) (fun i hi => ⟨_, _, arr_get .u8 _ hi, arr_get .u8 _ hi⟩) w
  rw [hr, hiff.2 rfl]
theorem equal_wd (V : Nat) (w : World) : (Op.equalIn 10000 26 (.agg (wa V)) (.agg (wa V))).run Tryd.prog w = .ok true w := by
  rw [equal_wa]; simp
set_option maxHeartbeats 2000000 in
theorem words_core (f g : Nat → Nat) (m V : Nat) (w : World) (hT : Tab w)
    (H1 : Hid (∀ w : World, Calls Tryd.prog 8 #[.agg (aa f)] w fun e w' => e = .returned (wd V) ∧ Below w.heap.size w w'))
    (H2 : Hid (∀ w : World, Calls Tryd.prog 9 #[.agg (aa f)] w fun e w' => e = .returned (wd V) ∧ Below w.heap.size w w'))
    (H3 : Hid (∀ w : World, Calls Tryd.prog 10 #[wd m] w fun e w' => e = .returned (.agg (aa g)) ∧ Below w.heap.size w w'))
    (H4 : Hid (∀ w : World, Calls Tryd.prog 11 #[wd m] w fun e w' => e = .returned (.agg (aa g)) ∧ Below w.heap.size w w'))
    (H5 : Hid (∀ w : World, Calls Tryd.prog 10 #[wd V] w fun e w' => e = .returned (.agg (aa f)) ∧ Below w.heap.size w w')) :
    Calls Tryd.prog 3 #[.agg (aa f), wd m] w fun e w' => e = .returned (.bool true) ∧ Below w.heap.size w w' := by
  have e1 := fun w => equal_wd V w
  have e2 := fun w => equal_aa g w
  have e3 := fun w => equal_aa f w
  have g1 := Tryd.guardA
  have g2 := Tryd.guardW
  have HT := Lib.hid hT
  clear hT
  have f0 : ((w.alloc (.cells (aa f) 23)).alloc (.cells (wa m) 26)).heap[w.heap.size]? = some (.cells (aa f) 23) := blk_alloc (heap_alloc_new _ _)
  have f1 : ((w.alloc (.cells (aa f) 23)).alloc (.cells (wa m) 26)).heap[w.heap.size + 1]? = some (.cells (wa m) 26) := heap_alloc2_new _ _ _
  have bW : Below w.heap.size w ((w.alloc (.cells (aa f) 23)).alloc (.cells (wa m) 26)) := ((Below.refl _ _).alloc (Nat.le_refl _) _).alloc (by simp) _
  go_enter Tryd.func3, Tryd.ntmps3
  go_wp2_with fail
  generalize ((w.alloc (.cells (aa f) 23)).alloc (.cells (wa m) 26)) = W at *
  replace HT := Lib.hid (HT.out.below bW)
  have HB := Lib.hid bW
  clear bW
  refine region_ext (by kernel_rfl) (by kernel_rfl) ?_
  repeat (first | (go_big_quiet_want; refine quiet_load_row 23 _ rfl (w.heap.size) (aa f) rfl (fun w2 hw2 => by obtain ⟨g, rfl⟩ := hw2; exact g.block f0) Tryd.underlying23 (infoArrA _) ?_; simp only [Act.put, List.setIfInBounds_toArray, List.set_cons_succ, List.set_cons_zero]; go_big_quiet_on) | (go_big_quiet_want; refine quiet_load_row 26 _ rfl (w.heap.size + 1) (wa m) rfl (fun w2 hw2 => by obtain ⟨g, rfl⟩ := hw2; exact g.block f1) Tryd.underlying26 Tryd.infoWa ?_; simp only [Act.put, List.setIfInBounds_toArray, List.set_cons_succ, List.set_cons_zero]; go_big_quiet_on) | go_big_quiet_step (first | (go_at_call 7; exact calls_ext (afixed_walk _ (HT.out.below (Ext.below _)))) | (go_at_call 8; exact calls_ext (H1.out _)) | (go_at_call 9; exact calls_ext (H2.out _)) | (go_at_call 11; exact calls_ext (H4.out _)) | (go_at_call 10; first | with_reducible exact calls_ext (H3.out _) | with_reducible exact calls_ext (H5.out _))))
  refine wpQuiet_nil ?_
  rintro _ ⟨g, rfl⟩
  go_wp2_with fail
  go_ret
  exact ⟨rfl, HB.out.trans (g.below.mono HB.out.size)⟩
theorem words_walk (f : Nat → Nat) (m : Nat) (w : World) (hf : ∀ i, i < 20 → f i < 256) (hT : Tab w) :
    Calls Tryd.prog 3 #[.agg (aa f), wd m] w fun e w' => e = .returned (.bool true) ∧ Below w.heap.size w w' := by
  have h5 := fun w => aof_walk (val (gd f 20) 20) w
  rw [aa_congr (f := fun i => dig (val (gd f 20) 20) (19 - i)) (g := f) (fun i hi => by
    show dig (val (gd f 20) 20) (19 - i) = f i
    rw [dig_val (g := gd f 20) (fun j _ => hf _ (by omega)) (by omega)]
    unfold gd
    rw [show 20 - 1 - (19 - i) = i by omega])] at h5
  exact words_core f (fun i => dig m (19 - i)) m _ w hT (Lib.hid fun w => aword_walk f w hf) (Lib.hid fun w => rword_walk f w hf) (Lib.hid fun w => aof_walk m w) (Lib.hid fun w => rof_walk m w) (Lib.hid h5)
end Go.Proofs.YtmcbaolecmkpdaaDoor
/- What the arguments of layer 8's statements are; what the row's list says of the two tables; a world in which they lie as the program's text lays them. -/
namespace Go.Proofs.YtmcbaolecmkpdaaDoor
open Go.ChangeShapes Go.WideShapes Go.ChangeAt Go.RowKit SmWord
set_option maxRecDepth 100000

theorem Tryd.laidOutX : laidOutB Tryd.prog = true := by kernel_rfl
theorem open_slice {H : Type} {enc : TypeId × Value → H} {W : World} {base : Nat} {v : Value} {d : DataW H} {p : List MemPlace}
    (hv : Value.okWide Tryd.prog W .any base 33 v) (h : DataW.Trod enc Tryd.prog W 0 (fun _ => true) true 33 v d p) : ∃ (A : Option Addr) (n c : Nat) (f : Nat → Nat), v = .slice A n c ∧ n ≤ maxLen ∧ n ≤ c ∧ (A = none → n = 0 ∧ c = 0) ∧ Sl W A n f := by
  obtain ⟨a1, len, cap, rfl⟩ := okWide_slice Tryd.underlying33 hv
  obtain ⟨fuel, hf⟩ := h
  rcases open_ints Tryd.underlying33 Tryd.underlying5 Tryd.cells8 hf with ⟨hcs, hx⟩ | ⟨a, len', cap', zs, hcs, _, hl, hm, hz, hx, hcell, hwz⟩
  · simp [Value.cells] at hcs
    obtain ⟨rfl, rfl, rfl⟩ := hcs
    exact ⟨none, 0, 0, fun _ => 0, rfl, Nat.zero_le _, Nat.le_refl _, fun _ => ⟨rfl, rfl⟩, fun _ _ => by decide, fun h => absurd h (by omega)⟩
  · simp [Value.cells] at hcs
    obtain ⟨rfl, rfl, rfl⟩ := hcs
    simp only [if_true] at hz
    refine ⟨some a, len, cap, fun i => (zs.getD i 0).toNat, rfl, Nat.le_trans hl hm, hl, (fun h => by cases h), fun i _ => ?_, fun hn => ?_⟩
    · have := range_u8 hwz i
      rw [List.getD_eq_getElem?_getD]
      omega
    · obtain ⟨b, off, spot⟩ := a
      have hspot : spot = none := by simpa [Addr.add] using World.cell?_spot (hcell 0 (by omega))
      subst hspot
      have h0 := hcell 0 (by omega)
      refine ⟨b, off, rfl, by simpa [Addr.add] using World.block_lt_of_cell? W _ h0, fun i hi => ?_⟩
      have hi' := hcell i (by omega)
      rw [Addr.add_lit] at hi'
      have := range_u8 hwz i
      rw [← List.getD_eq_getElem?_getD] at this
      rw [hi', Int.toNat_of_nonneg this.1]
theorem aa_size (f : Nat → Nat) : (aa f).size = 20 := arr_size _ _ _
theorem Tryd.cellsA : Tryd.prog.cellsOf 23 = 20 := by kernel_rfl
theorem open_addr {H : Type} {enc : TypeId × Value → H} {W : World} {base : Nat} {v : Value} {d : DataW H} {p : List MemPlace}
    (hv : Value.okWide Tryd.prog W .any base 23 v) (h : DataW.Trod enc Tryd.prog W 0 (fun _ => true) true 23 v d p) : ∃ f : Nat → Nat, v = .agg (aa f) ∧ ∀ i, i < 20 → f i < 256 := by
  obtain ⟨cs, rfl, hsz, _⟩ : ∃ cs, v = .agg cs ∧ cs.size = Tryd.prog.cellsOf 23 ∧ Row.okWide Tryd.prog W .any base 23 cs := by
    simpa [Value.okWide, Tryd.underlying23] using hv
  rw [Tryd.cellsA] at hsz
  obtain ⟨fuel, hf⟩ := h
  obtain ⟨xs, m, _, _, _, hl, hel⟩ := DataW.trod_array Tryd.underlying23 hf
  have hi : ∀ i, i < 20 → ∃ n : Nat, n < 256 ∧ cs[i]? = some (.int .u8 (n : Int)) := fun i hi => by
    have h1 := hel i hi
    rw [Tryd.cells8, Nat.mul_one] at h1
    have hc : (Value.agg cs).cells.toList = cs.toList := rfl
    rw [hc] at h1
    have hlt : i < cs.toList.length := by simpa [hsz] using hi
    have e : (cs.toList.drop i).take 1 = [cs.toList[i]] := by
      rw [List.drop_eq_getElem_cons hlt]; rfl
    rw [e, List.getElem?_eq_getElem (by omega)] at h1
    obtain ⟨n, e1, _, wf⟩ := DataW.trod_int Tryd.underlying5 h1
    have hb : 0 ≤ n ∧ n ≤ 255 := by simpa [Lit.wf, IntKind.min, IntKind.max, IntKind.signed, IntKind.bits] using wf
    refine ⟨n.toNat, by omega, ?_⟩
    rw [← Array.getElem?_toList, List.getElem?_eq_getElem hlt]
    simp only [List.cons.injEq, and_true] at e1
    rw [e1, Int.toNat_of_nonneg hb.1]
  refine ⟨fun i => match cs[i]? with | some (.int _ x) => x.toNat | _ => 0, ?_, fun i h => ?_⟩
  · congr 1
    apply Array.ext'
    apply List.ext_getElem?
    intro i
    rw [Array.getElem?_toList, Array.getElem?_toList]
    by_cases h : i < 20
    · obtain ⟨n, _, e⟩ := hi i h
      unfold aa
      rw [arr_get .u8 _ h]
      simp [e]
    · rw [Array.getElem?_eq_none (by omega), Array.getElem?_eq_none (by rw [aa_size]; omega)]
  · obtain ⟨n, hn, e⟩ := hi i h
    show (match cs[i]? with | some (.int _ x) => x.toNat | _ => 0) < 256
    rw [e]
    simpa using hn

theorem wf_u8 {x : Int} (h : (Lit.int .u8 x).wf = true) : ∃ n : Nat, x = (n : Int) ∧ n < 256 := by
  have h2 : 0 ≤ x ∧ x ≤ 255 := by simpa [Lit.wf, IntKind.min, IntKind.max, IntKind.signed, IntKind.bits] using h
  exact ⟨x.toNat, by omega, by omega⟩

/-! The tables. -/
theorem Tryd.gCon : Tryd.prog.globalNamed "smithy/keccak.constants" = some 0 := by kernel_rfl
theorem Tryd.gWay : Tryd.prog.globalNamed "smithy/keccak.way" = some 2 := by kernel_rfl
theorem Tryd.gConType : (Tryd.prog.globals[0]?).map (·.type) = some 87 := by kernel_rfl
theorem Tryd.gWayType : (Tryd.prog.globals[2]?).map (·.type) = some 95 := by kernel_rfl
theorem Tryd.cellsC : Tryd.prog.cellsOf 87 = 24 := by kernel_rfl
theorem Tryd.cellsI : Tryd.prog.cellsOf 95 = 24 := by kernel_rfl
theorem Tryd.cells1 : Tryd.prog.cellsOf 3 = 1 := by kernel_rfl
def conL : List Int := (List.range 24).map fun k => ((kc k : Nat) : Int)
def wayL : List Int := (List.range 24).map fun k => ((pos (k + 1) : Nat) : Int)
theorem laid_eq : Rows.addrWordsRow.laid = [("smithy/keccak.constants", Lib.tabData .u64 conL), ("smithy/keccak.way", Lib.tabData .i64 wayL)] := by kernel_rfl
theorem tab_of_laid {W : World} (h : laidMet Tryd.prog Rows.addrWordsRow.laid W) : Tab W := by
  rw [laid_eq] at h
  have h1 := Lib.tabIs_of_head Tryd.gCon Tryd.gConType Tryd.underlying87 Tryd.underlying24 Tryd.cells24 Tryd.cellsC h
  have h2 := Lib.tabIs_of_head Tryd.gWay Tryd.gWayType Tryd.underlying95 Tryd.underlying3 Tryd.cells1 Tryd.cellsI h.tail
  have c1 : ∀ k, k < 24 → W.cell? ⟨0, k, none⟩ = some (.int .u64 ((kc k : Nat) : Int)) := fun k hk => by
    have := h1.cell Tryd.gCon k (by simp [conL, hk])
    rw [this]
    simp [conL, hk]
  have c2 : ∀ k, k < 24 → W.cell? ⟨2, k, none⟩ = some (.int .i64 ((pos (k + 1) : Nat) : Int)) := fun k hk => by
    have := h2.cell Tryd.gWay k (by simp [wayL, hk])
    rw [this]
    simp [wayL, hk]
  have h0 := World.block_lt_of_cell? W _ (c2 0 (by omega))
  exact ⟨h0, c1, c2⟩
/-- What they hold. -/
def conA : Array Value := (conL.map fun z => Value.int .u64 z).toArray
def wayA : Array Value := (wayL.map fun z => Value.int .i64 z).toArray
def layRow (C : Array Value) : Obj → Obj
  | .cells _ t frozen => .cells C t frozen
  | o => o
/-- The settled world, with them laid. -/
noncomputable def laidWorld (os : Os) : World :=
  { World.holding Tryd.prog os ⟨#[], #[], []⟩ with heap := ((World.holding Tryd.prog os ⟨#[], #[], []⟩).heap.modify 0 (layRow conA)).modify 2 (layRow wayA) }
theorem laid_met (os : Os) (args : Array Value) : laidMet Tryd.prog Rows.addrWordsRow.laid ((laidWorld os).forCall (fun _ _ => 0) ⟨#[], args, []⟩).memory :=
  laidMet_of_run' 8 (by kernel_rfl) (by kernel_rfl)
end Go.Proofs.YtmcbaolecmkpdaaDoor
