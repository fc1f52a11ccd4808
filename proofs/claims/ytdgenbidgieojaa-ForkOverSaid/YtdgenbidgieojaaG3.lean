/- What the functions Of, Word, Add, Neg and Sub of the document's own answers do, for every number: its digits, the word of digits, sums and differences of digits, going round; all older memory is as it was. -/
import Derived.Test.YtdgenbidgieojaaG2
import Derived.Test.YtdgenbidgieojaaG0
import Derived.Deep.LoopGhost
import Derived.OpenShut
import Derived.Deep.Slices
import Derived.Deep.Fields
import Derived.ChangeSame
import Derived.Deep.DeepHandedRow
import Derived.Lib.ItoaNum
import Derived.Test.YtdgenbidgieojaaG1
namespace Go.Proofs.Ytdgenbidgieojaa
open Go.RowKit SmWord
set_option maxRecDepth 100000

/-- The digits of n. -/
def da (n : Nat) : Array Value := arr .i64 32 (fun i => ((dig n i : Nat) : Int))
def zD : Array Value := arr .i64 32 (fun _ => 0)
theorem zD_run (w : World) : (zeroValue 104).run Try.prog w = .ok (.agg zD) w := by rw [Try.zeroValue104]; rfl
theorem Try.infoD : (Try.prog.info? 104).map (·.size) = some 32 := by kernel_rfl
theorem infoArr (f : Nat → Int) : (Try.prog.info? 104).map (·.size) = some (arr .i64 32 f).size := by rw [arr_size]; exact Try.infoD
theorem da_congr {m n : Nat} (h : m % M = n % M) : da m = da n := arr_congr fun _ hi => by rw [dig_congr h hi]
theorem wa_lb (n i : Nat) (hi : i < 4) : (wa n)[i]? = some (.int .u64 ((lb n i : Nat) : Int)) := by
  have : i = 0 ∨ i = 1 ∨ i = 2 ∨ i = 3 := by omega
  unfold lb
  rcases this with rfl | rfl | rfl | rfl
  · simp [wa, l0]
  · simp [wa, l1]
  · simp [wa, l2, Nat.div_div_eq_div_mul, Nat.pow_succ]
  · simp [wa, l3, Nat.div_div_eq_div_mul, Nat.pow_succ, Nat.mul_assoc]
theorem dig_of (m k : Nat) : wrap64 ((((lb m (k / 8) : Nat) : Int) / 2 ^ (8 * (k % 8))).tmod 256) = ((dig m k : Nat) : Int) := by
  have e : ((lb m (k / 8) : Nat) : Int) / 2 ^ (8 * (k % 8)) = ((lb m (k / 8) / 2 ^ (8 * (k % 8)) : Nat) : Int) := by
    rw [Int.natCast_ediv, Int.natCast_pow]; rfl
  have h := lb_dig m k
  have h2 := dig_lt m k
  rw [e, Int.tmod_eq_emod_of_nonneg (Int.natCast_nonneg _)]
  have e2 : ((lb m (k / 8) / 2 ^ (8 * (k % 8)) : Nat) : Int) % 256 = ((dig m k : Nat) : Int) := by rw [← h]; rfl
  rw [e2]
  exact IntWalk.wrap64_in _ ⟨by omega, by omega⟩
theorem fill_step (f : Nat → Int) (k : Nat) (hk : k < 32) (v : Int) (hv : v = f k) :
    (arr .i64 32 (fun j => if j < k then f j else 0)).setIfInBounds k (.int .i64 v) = arr .i64 32 (fun j => if j < k + 1 then f j else 0) := by
  rw [arr_set _ _ _ hk]
  refine arr_congr fun i _ => ?_
  by_cases h1 : i = k
  · subst h1; simp [hv]
  · by_cases h2 : i < k
    · simp [h1, h2, show i < k + 1 by omega]
    · simp [h1, h2, show ¬ i < k + 1 by omega]
theorem fill_start (f : Nat → Int) : arr .i64 32 (fun j => if j < 0 then f j else 0) = zD := arr_congr fun i _ => by simp
theorem fill_end (f : Nat → Int) : arr .i64 32 (fun j => if j < 32 then f j else 0) = arr .i64 32 f := arr_congr fun i hi => by simp [hi]

set_option maxHeartbeats 1000000 in
theorem of_ref (m : Nat) (w : World) : Calls Try.prog 50 #[wd m] w fun e w' => e = .returned (.agg (da m)) ∧ Below w.heap.size w w' := by
  go_enter Try.func50, Try.ntmps50
  go_wp2_with (first | (refine wpList_alloc_row rfl 104 rfl zD zD_run ?_) | (refine wpList_build_zero rfl 104 rfl Try.underlying104 Try.sizeOf3 zD zD_run ?_) | (refine wpList_store_row rfl 104 _ _ rfl _ zD zD rfl rfl (heap_alloc_new _ _) (infoArr _) rfl (arr_one _ _ _) ?_))
  have f0 : ((((w.alloc (.cells (wa m) 35)).alloc (.cells zD 104)).alloc (.cells zD 104)).setRow (w.heap.size + 1 + 1) zD).heap[w.heap.size]? = some (.cells (wa m) 35) := blk_row_other (blk_alloc (blk_alloc (by have := heap_alloc_new w (.cells (wa m) 35); simpa using this))) (by omega)
  have f1 : ((((w.alloc (.cells (wa m) 35)).alloc (.cells zD 104)).alloc (.cells zD 104)).setRow (w.heap.size + 1 + 1) zD).heap[w.heap.size + 1]? = some (.cells zD 104) := blk_row_other (blk_alloc (by have := heap_alloc_new (w.alloc (.cells (wa m) 35)) (.cells zD 104); simpa using this)) (by omega)
  have f2 : ((((w.alloc (.cells (wa m) 35)).alloc (.cells zD 104)).alloc (.cells zD 104)).setRow (w.heap.size + 1 + 1) zD).heap[w.heap.size + 1 + 1]? = some (.cells zD 104) := blk_row (by have := heap_alloc_new ((w.alloc (.cells (wa m) 35)).alloc (.cells zD 104)) (.cells zD 104); simpa using this)
  have bW : Below w.heap.size w ((((w.alloc (.cells (wa m) 35)).alloc (.cells zD 104)).alloc (.cells zD 104)).setRow (w.heap.size + 1 + 1) zD) := below_setRow ((((Below.refl _ _).alloc (by simp; try omega) _).alloc (by simp; try omega) _).alloc (by simp; try omega) _) (by omega) _
  generalize ((((w.alloc (.cells (wa m) 35)).alloc (.cells zD 104)).alloc (.cells zD 104)).setRow (w.heap.size + 1 + 1) zD) = W at *
  go_loopw [4] (fun i wr => ∃ k : Nat, k ≤ 32 ∧ i = .int .i64 k ∧ Below w.heap.size w wr ∧ wr.heap[w.heap.size]? = some (.cells (wa m) 35) ∧ wr.heap[w.heap.size + 1]? = some (.cells zD 104) ∧
      wr.heap[w.heap.size + 1 + 1]? = some (.cells (arr .i64 32 (fun j => if j < k then ((dig m j : Nat) : Int) else 0)) 104)) (fun i _ => 32 - (intOf i).toNat)
  case atStart => exact ⟨0, Nat.zero_le _, rfl, bW, f0, f1, by rw [fill_start]; exact f2⟩
  case round =>
    obtain ⟨k, hk, rfl, hb, ha, hr, hd⟩ := hrel
    clear f0 f1 f2 bW
    by_cases hlt : k < 32
    · have c1 := blk_cell ha (wa_lb m (k / 8) (by omega))
      have c2 := blk_cell hd (arr_get .i64 _ hlt)
      have c3 := blk_frozen (j := k) hd
      have HA := Lib.hid ha
      have HR := Lib.hid hr
      have HD := Lib.hid hd
      have HB := Lib.hid hb
      clear ha hr hd hb
      have q1 : k / 8 < 4 := by omega
      go_wp2_with fail
      rw [dig_of]
      refine ⟨⟨k + 1, by omega, by go_num, HB.out.setCell (by simp; omega) _, blk_other HA.out (by omega) _, blk_other HR.out (by omega) _, ?_⟩, by simp [intOf]; omega⟩
      rw [← fill_step (fun j => ((dig m j : Nat) : Int)) k hlt _ rfl]
      exact blk_set HD.out _
    · obtain rfl : k = 32 := by omega
      rw [fill_end] at hd
      have HB := Lib.hid hb
      clear hb
      go_wp2_with (first | (refine wpList_load_row rfl 104 _ rfl _ rfl 104 (da m) (0, 0) _ hd Try.underlying104 rfl (infoArr _) ?_) | (refine wpList_store_row rfl 104 _ _ rfl _ zD (da m) rfl rfl hr (infoArr _) rfl (arr_one _ _ _) ?_))
      refine bodyPost_ret (v := .agg (da m)) (results_cell_row rfl _ _ _ 104 (da m) (0, 0) _ rfl (blk_row hr) Try.underlying104 rfl (infoArr _)) rfl ⟨rfl, below_setRow HB.out (by omega) _⟩
end Go.Proofs.Ytdgenbidgieojaa
/- What the method Word of the document's digits does: the word of digits. -/
namespace Go.Proofs.Ytdgenbidgieojaa
open Go.RowKit SmWord
set_option maxRecDepth 100000
theorem acc_start (m : Nat) : arr .u64 4 (fun q => ((acc m 32 q : Nat) : Int)) = #[Value.int .u64 0, .int .u64 0, .int .u64 0, .int .u64 0] := by
  have : arr .u64 4 (fun _ => 0) = #[Value.int .u64 0, .int .u64 0, .int .u64 0, .int .u64 0] := rfl
  rw [← this]
  exact arr_congr fun q hq => by rw [acc_end m q hq]; rfl
theorem acc_last (m : Nat) : arr .u64 4 (fun q => ((acc m 0 q : Nat) : Int)) = wa m := by
  apply Array.ext_getElem?
  intro i
  by_cases hi : i < 4
  · rw [arr_get _ _ hi, wa_lb m i hi, acc_zero]
  · rw [Array.getElem?_eq_none (by simp [arr_size]; omega), Array.getElem?_eq_none (by rw [wa_size]; omega)]
theorem acc_val (m j : Nat) : IntKind.u64.wrap (IntKind.u64.wrap (((acc m (j + 1) (j / 8) : Nat) : Int) * 256) + IntKind.u64.wrap ((dig m j : Nat) : Int)) = ((acc m j (j / 8) : Nat) : Int) := by
  obtain ⟨h1, h2⟩ := acc_step m j
  have h3 := dig_lt m j
  rw [IntKind.wrap_u64, IntKind.wrap_u64, IntKind.wrap_u64]
  generalize acc m (j + 1) (j / 8) = x at *
  generalize acc m j (j / 8) = y at *
  generalize dig m j = d at *
  simp only [B] at h2
  omega
theorem acc_put (m j : Nat) (hj : j / 8 < 4) : (arr .u64 4 (fun q => ((acc m (j + 1) q : Nat) : Int))).setIfInBounds (j / 8) (.int .u64 ((acc m j (j / 8) : Nat) : Int)) = arr .u64 4 (fun q => ((acc m j q : Nat) : Int)) := by
  rw [arr_set _ _ _ hj]
  refine arr_congr fun q _ => ?_
  by_cases h : q = j / 8
  · subst h; simp
  · rw [if_neg h, acc_other m j q (fun e => h e.symm)]
theorem Try.infoWa {n : Nat} : (Try.prog.info? 35).map (·.size) = some (wa n).size := by rw [wa_size]; kernel_rfl
theorem wa_one {n : Nat} : (wa n).all (·.oneCell') = true := by simp [wa, Value.oneCell']
end Go.Proofs.Ytdgenbidgieojaa
/- What the method Bit and the function Bits of the document's digits do: a bit of a number, and the digits of the number whose bits these are. -/
namespace Go.Proofs.Ytdgenbidgieojaa
open Go.RowKit SmWord
set_option maxRecDepth 100000

/-- A bit of n; 0 where there is none. -/
def bitI (n : Nat) (i : Int) : Int := if i < 0 ∨ 255 < i then 0 else ((bitN n i.toNat : Nat) : Int)
end Go.Proofs.Ytdgenbidgieojaa
/- What the function Bits of the document's digits does: the digits of the number whose bits these are. -/
namespace Go.Proofs.Ytdgenbidgieojaa
open Go.RowKit SmWord
set_option maxRecDepth 100000

/-- The bits of n. -/
def ba (n : Nat) : Array Value := arr .i64 256 (fun i => ((bitN n i : Nat) : Int))
def zB : Array Value := arr .i64 256 (fun _ => 0)
theorem ba_congr {m n : Nat} (h : m % M = n % M) : ba m = ba n := arr_congr fun _ hi => by rw [bit_congr h hi]
theorem accB_start (m : Nat) : arr .i64 32 (fun q => ((accB m 256 q : Nat) : Int)) = zD := arr_congr fun q hq => by rw [accB_end m q hq]; rfl
theorem accB_last (m : Nat) : arr .i64 32 (fun q => ((accB m 0 q : Nat) : Int)) = da m := arr_congr fun q _ => by rw [accB_zero]
theorem accB_val (m j : Nat) : ((accB m (j + 1) (j / 8) : Nat) : Int) * 2 + ((bitN m j : Nat) : Int) = ((accB m j (j / 8) : Nat) : Int) := by
  obtain ⟨h1, _⟩ := accB_step m j
  omega
theorem accB_put (m j : Nat) (hj : j / 8 < 32) : (arr .i64 32 (fun q => ((accB m (j + 1) q : Nat) : Int))).setIfInBounds (j / 8) (.int .i64 ((accB m j (j / 8) : Nat) : Int)) = arr .i64 32 (fun q => ((accB m j q : Nat) : Int)) := by
  rw [arr_set _ _ _ hj]
  refine arr_congr fun q _ => ?_
  by_cases h : q = j / 8
  · subst h; simp
  · rw [if_neg h, accB_other m j q (fun e => h e.symm)]
end Go.Proofs.Ytdgenbidgieojaa
/- What the function Shift of the document's digits does: the digits of the number whose bits stand so many places up, or down. -/
namespace Go.Proofs.Ytdgenbidgieojaa
open Go.RowKit SmWord
set_option maxRecDepth 100000

theorem stay {w w' : World} (h : Below w.heap.size w w') {b : Nat} {o : Obj} (hb : w.heap[b]? = some o) : w'.heap[b]? = some o := Ext.block ⟨w', h⟩ hb
theorem fillB_step (f : Nat → Int) (k : Nat) (hk : k < 256) (v : Int) (hv : v = f k) :
    (arr .i64 256 (fun j => if j < k then f j else 0)).setIfInBounds k (.int .i64 v) = arr .i64 256 (fun j => if j < k + 1 then f j else 0) := by
  rw [arr_set _ _ _ hk]
  refine arr_congr fun i _ => ?_
  by_cases h1 : i = k
  · subst h1; simp [hv]
  · by_cases h2 : i < k
    · simp [h1, h2, show i < k + 1 by omega]
    · simp [h1, h2, show ¬ i < k + 1 by omega]
theorem fillB_start (f : Nat → Int) : arr .i64 256 (fun j => if j < 0 then f j else 0) = zB := arr_congr fun i _ => by simp
theorem fillB_end (f : Nat → Int) : arr .i64 256 (fun j => if j < 256 then f j else 0) = arr .i64 256 f := arr_congr fun i hi => by simp [hi]
end Go.Proofs.Ytdgenbidgieojaa
/- What the function From of package word, and the document's, do with any bytes: the word whose bytes end with them, the highest first; all older memory is as it was. -/
namespace Go.Proofs.Ytdgenbidgieojaa
open Go.RowKit SmWord
set_option maxRecDepth 100000

/-- What a slice of bytes holds, a nil one too. -/
structure Sl (w : World) (A : Option Addr) (n : Nat) (f : Nat → Nat) : Prop where
  small : ∀ i, i < n → f i < 256
  cells : 0 < n → ∃ b off, A = some ⟨b, off, none⟩ ∧ b < w.heap.size ∧ ∀ i, i < n → w.cell? ⟨b, off + i, none⟩ = some (.int .u8 ((f i : Nat) : Int))
theorem Sl.below {w w' : World} {A : Option Addr} {n : Nat} {f : Nat → Nat} (h : Sl w A n f) (hb : Below w.heap.size w w') : Sl w' A n f :=
  ⟨h.small, fun hn => by
    obtain ⟨b, off, e, hlt, hc⟩ := h.cells hn
    exact ⟨b, off, e, Nat.lt_of_lt_of_le hlt hb.size, fun i hi => (hb.cell (p := ⟨b, off + i, none⟩) hlt).trans (hc i hi)⟩⟩
/-- The digits of a slice of bytes, the lowest first. -/
def gd (f : Nat → Nat) (n i : Nat) : Nat := f (n - 1 - i)
theorem gd_small {w : World} {A : Option Addr} {n : Nat} {f : Nat → Nat} (h : Sl w A n f) {k : Nat} (hk : k ≤ n) : ∀ i, i < k → gd f n i < 256 := fun i hi => h.small _ (by omega)

theorem wa_set (x y q : Nat) (hq : q < 4) (h1 : ∀ j, j < 4 → j ≠ q → lb y j = lb x j) : (wa x).setIfInBounds q (.int .u64 ((lb y q : Nat) : Int)) = wa y := by
  apply Array.ext_getElem?
  intro j
  by_cases hj : j < 4
  · by_cases e : j = q
    · subst e; rw [Array.getElem?_setIfInBounds_self_of_lt (by rw [wa_size]; exact hj), wa_lb y j hj]
    · rw [Array.getElem?_setIfInBounds_ne (fun h => e h.symm), wa_lb x j hj, wa_lb y j hj, h1 j hj e]
  · rw [Array.getElem?_eq_none (by simp [wa_size]; omega), Array.getElem?_eq_none (by rw [wa_size]; omega)]

theorem val_none (f : Nat → Nat) (n : Nat) : wa (val (gd f n) 0) = #[Value.int .u64 0, .int .u64 0, .int .u64 0, .int .u64 0] := by rw [show val (gd f n) 0 = 0 from rfl]; rfl
theorem or_put {x d s : Nat} (hx : x < B) (h : d * 2 ^ s < B) : bits .or .u64 (x : Int) (IntKind.u64.wrap ((d : Int) * 2 ^ s)) = ((x ||| d * 2 ^ s : Nat) : Int) := by
  have e : ((d : Int) * 2 ^ s) = ((d * 2 ^ s : Nat) : Int) := by simp
  have e2 : IntKind.u64.wrap ((d * 2 ^ s : Nat) : Int) = ((d * 2 ^ s : Nat) : Int) := by
    rw [IntKind.wrap_u64]
    simp only [B] at h
    generalize d * 2 ^ s = y at *
    omega
  rw [e, e2, u64_or_nat _ _ hx h]
theorem val_digits {f : Nat → Nat} {n mn : Nat} (h : ∀ i, i < mn → gd f n i < 256) : arr .i64 32 (fun j => if j < mn then ((gd f n j : Nat) : Int) else 0) = da (val (gd f n) mn) :=
  arr_congr fun i _ => by
    by_cases hi : i < mn
    · rw [if_pos hi, dig_val h hi]
    · rw [if_neg hi, dig_val_high h (by omega)]; rfl
end Go.Proofs.Ytdgenbidgieojaa
/- Rows of nodes in memory (a node: a bool, a slice of bytes, an integer), whatever the program: how they read, and an argument that is one. -/
namespace Go.Proofs.Ytdgenbidgieojaa
open Go.ChangeShapes Go.WideShapes Go.RowKit Go.Deep SmWord
set_option maxRecDepth 100000

/-- What a node's three cells say. -/
structure NodeAt (w : World) (b off : Nat) (x : Nd) : Prop where
  ls : w.cell? ⟨b, off, none⟩ = some (.bool x.ls)
  by' : ∃ A c, w.cell? ⟨b, off + 1, none⟩ = some (.slice A x.by'.length c) ∧ x.by'.length ≤ c ∧ x.by'.length ≤ maxLen ∧ (A = none → x.by'.length = 0 ∧ c = 0) ∧ Sl w A x.by'.length (fun i => x.by'.getD i 0)
  sz : w.cell? ⟨b, off + 2, none⟩ = some (.int .i64 x.sz)
/-- What a slice of nodes says, a nil one too. -/
structure NodesS (w : World) (A : Option Addr) (l : List Nd) : Prop where
  cells : 0 < l.length → ∃ b off, A = some ⟨b, off, none⟩ ∧ b < w.heap.size ∧ ∀ i x, l[i]? = some x → NodeAt w b (off + 3 * i) x
theorem NodeAt.below {w w' : World} {b off : Nat} {x : Nd} (h : NodeAt w b off x) (hb : Below w.heap.size w w') (hl : b < w.heap.size) : NodeAt w' b off x := by
  obtain ⟨h1, ⟨A, c, h2, h3, h4, h5, h6⟩, h7⟩ := h
  exact ⟨(hb.cell (p := ⟨b, off, none⟩) hl).trans h1, ⟨A, c, (hb.cell (p := ⟨b, off + 1, none⟩) hl).trans h2, h3, h4, h5, h6.below hb⟩, (hb.cell (p := ⟨b, off + 2, none⟩) hl).trans h7⟩
theorem NodesS.below {w w' : World} {A : Option Addr} {l : List Nd} (h : NodesS w A l) (hb : Below w.heap.size w w') : NodesS w' A l :=
  ⟨fun hn => by
    obtain ⟨b, off, e, hlt, hc⟩ := h.cells hn
    exact ⟨b, off, e, Nat.lt_of_lt_of_le hlt hb.size, fun i x hx => (hc i x hx).below hb hlt⟩⟩
section
variable {H : Type} {enc : TypeId × Value → H} {P : Program} {W : World}
theorem open_bytes {t u : TypeId} {fuel : Nat} {v : Value} {y : DataW H × List MemPlace} (ht : P.underlying t = some (.slice u)) (hu : P.underlying u = some (.int .u8)) (hcu : P.cellsOf u = 1)
    (h : DataW.trod enc P W 0 (fun _ => true) true fuel t [v] = some y) : ∃ (A : Option Addr) (n c : Nat) (f : Nat → Nat), v = .slice A n c ∧ n ≤ maxLen ∧ n ≤ c ∧ (A = none → n = 0 ∧ c = 0) ∧ Sl W A n f := by
  rcases open_ints ht hu hcu h with ⟨hcs, _⟩ | ⟨a, len, cap, zs, hcs, _, hl, hm, hz, _, hcell, hwz⟩
  · simp at hcs
    subst hcs
    exact ⟨none, 0, 0, fun _ => 0, rfl, Nat.zero_le _, Nat.le_refl _, fun _ => ⟨rfl, rfl⟩, fun _ _ => by decide, fun h => absurd h (by omega)⟩
  · simp at hcs
    subst hcs
    simp only [if_true] at hz
    refine ⟨some a, len, cap, fun i => (zs.getD i 0).toNat, rfl, Nat.le_trans hl hm, hl, (fun h => by cases h), fun i _ => ?_, fun hn => ?_⟩
    · have := range_u8 hwz i
      rw [List.getD_eq_getElem?_getD]
      omega
    · obtain ⟨b, off, spot⟩ := a
      have hspot : spot = none := by simpa [Addr.add] using World.cell?_spot (hcell 0 (by omega))
      subst hspot
      have h0 := hcell 0 (by omega)
      refine ⟨b, off, rfl, by simpa [Addr.add] using World.block_lt_of_cell? W _ h0, fun i hi => ?_⟩
      have hi' := hcell i (by omega)
      rw [Addr.add_lit] at hi'
      have := range_u8 hwz i
      rw [← List.getD_eq_getElem?_getD] at this
      rw [hi', Int.toNat_of_nonneg this.1]
theorem open_nodes {t e u : TypeId} {f0 f1 f2 : Field} {v : Value} {d : DataW H} {p : List MemPlace} (ht : P.underlying t = some (.slice e)) (he : P.underlying e = some (.struct #[f0, f1, f2])) (hone : oneCellFields P #[f0, f1, f2] = true) (hC : P.cellsOf e = 3)
    (h0 : P.underlying f0.type = some .bool) (h1 : P.underlying f1.type = some (.slice u)) (hu : P.underlying u = some (.int .u8)) (hcu : P.cellsOf u = 1) (h2 : P.underlying f2.type = some (.int .i64))
    (h : DataW.Trod enc P W 0 (fun _ => true) true t v d p) (hv : v.cells = #[v]) : ∃ (A : Option Addr) (n c : Nat) (l : List Nd), v = .slice A n c ∧ l.length = n ∧ n ≤ maxLen ∧ n ≤ c ∧ (A = none → n = 0 ∧ c = 0) ∧ NodesS W A l ∧ (∀ (i : Nat) (x : Nd), l[i]? = some x → (∀ b ∈ x.by', b < 256) ∧ -9223372036854775808 ≤ x.sz ∧ x.sz ≤ 9223372036854775807) := by
  obtain ⟨fuel, hf⟩ := h
  have hvl : v.cells.toList = [v] := by rw [hv]
  rw [hvl] at hf
  rcases Go.Deep.open_slice ht hf with ⟨hcs, _⟩ | ⟨a, len, cap, m, n, D, Pl, hcs, _, hl, hm, hmm, _, hel⟩
  · simp at hcs
    subst hcs
    exact ⟨none, 0, 0, [], rfl, rfl, Nat.zero_le _, Nat.le_refl _, fun _ => ⟨rfl, rfl⟩, ⟨fun h => by simp at h⟩, fun i x h => by simp at h⟩
  · simp at hcs
    subst hcs
    simp only [if_true] at hmm
    subst hmm
    obtain ⟨b0, s0, spot⟩ := a
    have hsp : 0 < m → spot = none ∧ b0 < W.heap.size := fun h => by
      obtain ⟨cs', hc, _⟩ := hel 0 h
      rw [hC] at hc
      obtain ⟨_, hlen, hat⟩ := World.cells?_some hc
      have a0 := hat 0 (by omega)
      rw [List.getElem?_eq_getElem (by omega)] at a0
      exact ⟨by simpa [Addr.add] using World.cell?_spot a0, by simpa [Addr.add] using World.block_lt_of_cell? W _ a0⟩
    have one : ∀ i, i < m → ∃ x : Nd, NodeAt W b0 (s0 + 3 * i) x ∧ (∀ b ∈ x.by', b < 256) ∧ -9223372036854775808 ≤ x.sz ∧ x.sz ≤ 9223372036854775807 := fun i hi => by
      obtain ⟨rfl, hbl⟩ := hsp (by omega)
      obtain ⟨cs', hc, ht'⟩ := hel i hi
      rw [hC] at hc
      obtain ⟨ys, n', _, _, hlen, hys, hg⟩ := DataW.trod_struct he ht'
      rw [hC] at hlen
      obtain ⟨_, _, hat⟩ := World.cells?_some hc
      obtain ⟨o0, k0⟩ := hone_of hone 0 f0 rfl
      obtain ⟨o1, k1⟩ := hone_of hone 1 f1 rfl
      obtain ⟨o2, k2⟩ := hone_of hone 2 f2 rfl
      have hys3 : ys.length = 3 := hys
      clear hc ht'
      match cs', hlen, hg, hat with
      | [c0, c1, c2], _, hg, hat =>
        have g0 := hg 0 f0 rfl
        have g1 := hg 1 f1 rfl
        have g2 := hg 2 f2 rfl
        rw [o0, k0, List.getElem?_eq_getElem (by omega)] at g0
        rw [o1, k1, List.getElem?_eq_getElem (by omega)] at g1
        rw [o2, k2, List.getElem?_eq_getElem (by omega)] at g2
        have a0 := hat 0 (by omega)
        have a1 := hat 1 (by omega)
        have a2 := hat 2 (by omega)
        rw [Addr.add_lit, Addr.add_lit] at a0 a1 a2
        obtain ⟨bb, e0, _⟩ := DataW.trod_bool h0 g0
        obtain ⟨A, k, c, f, e1, q1, q2, q3, q4⟩ := open_bytes h1 hu hcu g1
        obtain ⟨z, e2, _, wz⟩ := DataW.trod_int h2 g2
        simp at e0 e2
        subst e0 e1 e2
        have hz : -9223372036854775808 ≤ z ∧ z ≤ 9223372036854775807 := by simpa [Lit.wf, IntKind.min, IntKind.max, IntKind.signed, IntKind.bits] using wz
        refine ⟨⟨bb, bf f 0 k, z⟩, ⟨?_, ⟨A, c, ?_, ?_, ?_, ?_, ?_⟩, ?_⟩, fun x hx => ?_, hz.1, hz.2⟩
        · rw [show s0 + 3 * i = s0 + i * 3 + 0 by omega]
          exact a0
        · rw [bf_length, show s0 + 3 * i + 1 = s0 + i * 3 + 1 by omega]
          exact a1
        · rw [bf_length]; exact q2
        · rw [bf_length]; exact q1
        · rw [bf_length]; exact q3
        · rw [bf_length]
          refine ⟨fun j hj => ?_, fun hk => ?_⟩
          · simp only
            rw [bf_get f 0 hj, Nat.zero_add]
            exact q4.small j hj
          · obtain ⟨b, off, e, hb, hcell⟩ := q4.cells hk
            refine ⟨b, off, e, hb, fun j hj => ?_⟩
            simp only
            rw [bf_get f 0 hj, Nat.zero_add]
            exact hcell j hj
        · rw [show s0 + 3 * i + 2 = s0 + i * 3 + 2 by omega]
          exact a2
        · simp [bf] at hx
          obtain ⟨j, hj, rfl⟩ := hx
          exact q4.small j hj
    have hch : ∃ N : Nat → Nd, ∀ i, i < m → NodeAt W b0 (s0 + 3 * i) (N i) ∧ (∀ b ∈ (N i).by', b < 256) ∧ -9223372036854775808 ≤ (N i).sz ∧ (N i).sz ≤ 9223372036854775807 :=
      ⟨fun i => if h : i < m then Classical.choose (one i h) else ⟨false, [], 0⟩, fun i hi => by
        simp only [hi, dif_pos]
        exact Classical.choose_spec (one i hi)⟩
    obtain ⟨N, hN⟩ := hch
    have hget : ∀ (i : Nat) (x : Nd), ((List.range len).map N)[i]? = some x → i < len ∧ x = N i := fun i x hx => by
      have hi : i < len := by have := (List.getElem?_eq_some_iff.1 hx).1; simpa using this
      rw [List.getElem?_map, List.getElem?_range hi] at hx
      exact ⟨hi, (Option.some.inj hx).symm⟩
    refine ⟨some ⟨b0, s0, spot⟩, len, m, (List.range len).map N, rfl, by simp, by omega, hl, (fun h => by cases h), ⟨fun hn => ?_⟩, fun i x hx => ?_⟩
    · have hn' : 0 < len := by simpa using hn
      obtain ⟨rfl, hbl⟩ := hsp (by omega)
      refine ⟨b0, s0, rfl, hbl, fun i x hx => ?_⟩
      obtain ⟨hi, rfl⟩ := hget i x hx
      exact (hN i (by omega)).1
    · obtain ⟨hi, rfl⟩ := hget i x hx
      exact (hN i (by omega)).2
end
end Go.Proofs.Ytdgenbidgieojaa
/- Plain arithmetic: how many bits a number has. -/
namespace Go.Proofs.Ytdgenbidgieojaa.SmWord

/-- How many bits a number has. -/
def bl (x : Nat) : Nat := if x = 0 then 0 else x.log2 + 1
theorem bl_zero : bl 0 = 0 := rfl
theorem bl_eq {x k : Nat} (h1 : 2 ^ k ≤ x) (h2 : x < 2 ^ (k + 1)) : bl x = k + 1 := by
  have hx : x ≠ 0 := by have := Nat.two_pow_pos k; omega
  unfold bl
  rw [if_neg hx, (Nat.log2_eq_iff hx).2 ⟨h1, h2⟩]
theorem bl_spec {x : Nat} (hx : x ≠ 0) : ∃ k, bl x = k + 1 ∧ 2 ^ k ≤ x ∧ x < 2 ^ (k + 1) := by
  obtain ⟨h1, h2⟩ := (Nat.log2_eq_iff hx).1 rfl
  exact ⟨x.log2, by unfold bl; rw [if_neg hx], h1, h2⟩
theorem bl_lib {x : Nat} (h : x < B) : Lib.bitLen x = bl x := by
  by_cases hx : x = 0
  · subst hx; rfl
  · obtain ⟨a, b, c⟩ := Lib.bitLenAux_bounds 64 x (by simp only [B] at h; omega) hx
    have e : Lib.bitLen x = Lib.bitLenAux 64 x := rfl
    rw [← e] at a b c
    generalize Lib.bitLen x = L at *
    obtain ⟨k, rfl⟩ : ∃ k, L = k + 1 := ⟨L - 1, by omega⟩
    exact (bl_eq (by simpa using b) c).symm
theorem bl_up {r y s : Nat} (hr : r < 2 ^ s) (hy : y ≠ 0) : bl (r + 2 ^ s * y) = s + bl y := by
  obtain ⟨k, e, h1, h2⟩ := bl_spec hy
  rw [e, ← Nat.add_assoc]
  have e1 : 2 ^ (s + k) = 2 ^ s * 2 ^ k := Nat.pow_add _ _ _
  have e2 : 2 ^ (s + k + 1) = 2 ^ s * 2 ^ (k + 1) := by rw [Nat.add_assoc, Nat.pow_add]
  refine bl_eq ?_ ?_
  · rw [e1]; exact Nat.le_trans (Nat.mul_le_mul_left _ h1) (Nat.le_add_left _ _)
  · rw [e2]
    have := Nat.mul_le_mul_left (2 ^ s) (show y + 1 ≤ 2 ^ (k + 1) from h2)
    rw [Nat.mul_add] at this
    omega
theorem bl_le {x s : Nat} (h : x < 2 ^ s) : bl x ≤ s := by
  by_cases hx : x = 0
  · subst hx; exact Nat.zero_le _
  · obtain ⟨k, e, h1, _⟩ := bl_spec hx
    have : k < s := (Nat.pow_lt_pow_iff_right (by decide)).1 (Nat.lt_of_le_of_lt h1 h)
    omega
theorem bl_step (m k : Nat) : bl (m % 2 ^ (k + 1)) = if bitN m k = 1 then k + 1 else bl (m % 2 ^ k) := by
  have e : m % 2 ^ (k + 1) = m % 2 ^ k + 2 ^ k * bitN m k := by rw [Nat.pow_succ, Nat.mod_mul]; rfl
  have h := bitN_lt m k
  have hlt : m % 2 ^ k < 2 ^ k := Nat.mod_lt _ (Nat.two_pow_pos k)
  by_cases hb : bitN m k = 1
  · rw [if_pos hb, e, hb, Nat.mul_one]
    exact bl_eq (Nat.le_add_left _ _) (by rw [Nat.pow_succ]; omega)
  · rw [if_neg hb, e, show bitN m k = 0 by omega, Nat.mul_zero, Nat.add_zero]
theorem bl_num {a b c d : Nat} (ha : a < B) (hb : b < B) (hc : c < B) :
    (d ≠ 0 → bl (num a b c d) = 192 + bl d) ∧ (d = 0 → c ≠ 0 → bl (num a b c d) = 128 + bl c) ∧ (d = 0 → c = 0 → b ≠ 0 → bl (num a b c d) = 64 + bl b) ∧
    (d = 0 → c = 0 → b = 0 → bl (num a b c d) = bl a) := by
  refine ⟨fun h => ?_, fun h1 h => ?_, fun h1 h2 h => ?_, fun h1 h2 h3 => ?_⟩
  · rw [← bl_up (r := num a b c 0) (s := 192) (by unfold num; simp only [B] at *; omega) h]
    congr 1
    unfold num; simp only [B]; omega
  · subst h1
    rw [← bl_up (r := num a b 0 0) (s := 128) (by unfold num; simp only [B] at *; omega) h]
    congr 1
    unfold num; simp only [B]; omega
  · subst h1 h2
    rw [← bl_up (r := num a 0 0 0) (s := 64) (by unfold num; simp only [B] at *; omega) h]
    congr 1
  · subst h1 h2 h3
    congr 1
end Go.Proofs.Ytdgenbidgieojaa.SmWord
/- What the functions Bit, Byte, Small, Len and Size of package word do, for every word: a bit, a byte, whether it is small, how many bits and bytes it has; all older memory is as it was. -/
namespace Go.Proofs.Ytdgenbidgieojaa
open Go.RowKit SmWord
set_option maxRecDepth 100000

theorem lb_bit (m n : Nat) : lb m (n / 64) / 2 ^ (n % 64) % 2 = bitN m n := by
  unfold lb bitN
  have h8 : n % 64 < 64 := Nat.mod_lt _ (by decide)
  have hB : B = 2 ^ 64 := rfl
  have e2 : B = 2 ^ (n % 64) * 2 ^ (64 - n % 64) := by rw [← Nat.pow_add, hB]; congr 1; omega
  have e3 : (2 : Nat) ^ (64 - n % 64) = 2 * 2 ^ (63 - n % 64) := by rw [← Nat.pow_succ']; congr 1; omega
  have e4 : B ^ (n / 64) * 2 ^ (n % 64) = 2 ^ n := by rw [hB, ← Nat.pow_mul, ← Nat.pow_add]; congr 1; omega
  conv => lhs; arg 1; arg 1; arg 2; rw [e2]
  rw [Nat.mod_mul_right_div_self, e3, Nat.mod_mul_right_mod, Nat.div_div_eq_div_mul, e4]
theorem lb_lt (m i : Nat) : lb m i < B := Nat.mod_lt _ (by decide)

/-- The byte of a word at a place, the highest first; 0 where there is none. -/
def byteV (m n : Nat) : Nat := if n < 32 then dig m (31 - n) else 0
/-- Is a word below 2^64? -/
def smallB (m : Nat) : Bool := decide (m % M = l0 m % M)
end Go.Proofs.Ytdgenbidgieojaa
/- What the methods Len and Bytes and the function Compare of the document's digits do: how many bits, the bytes with the highest first, and -1, 0 or 1 as the first is less, the same or more. -/
namespace Go.Proofs.Ytdgenbidgieojaa
open Go.RowKit SmWord
set_option maxRecDepth 100000

theorem cmp_low (m n k : Nat) : m % 256 ^ (k + 1) = m % 256 ^ k + 256 ^ k * dig m k ∧ n % 256 ^ (k + 1) = n % 256 ^ k + 256 ^ k * dig n k := by
  constructor <;> (rw [Nat.pow_succ, Nat.mod_mul]; rfl)
/-- From the highest digit down: as long as they are the same, what is below decides. -/
theorem cmp_step (m n k : Nat) : (dig m k < dig n k → cmpN (m % 256 ^ (k + 1)) (n % 256 ^ (k + 1)) = -1) ∧ (dig n k < dig m k → cmpN (m % 256 ^ (k + 1)) (n % 256 ^ (k + 1)) = 1) ∧
    (dig m k = dig n k → cmpN (m % 256 ^ (k + 1)) (n % 256 ^ (k + 1)) = cmpN (m % 256 ^ k) (n % 256 ^ k)) := by
  obtain ⟨e1, e2⟩ := cmp_low m n k
  rw [e1, e2]
  have hp : 0 < 256 ^ k := Nat.pow_pos (by decide)
  have h1 : m % 256 ^ k < 256 ^ k := Nat.mod_lt _ hp
  have h2 : n % 256 ^ k < 256 ^ k := Nat.mod_lt _ hp
  generalize m % 256 ^ k = x at *
  generalize n % 256 ^ k = y at *
  generalize 256 ^ k = p at *
  generalize dig m k = a at *
  generalize dig n k = b at *
  have key : ∀ {a b x y : Nat}, x < p → a < b → x + p * a < y + p * b := fun {a b x y} hx hab => by
    have := Nat.mul_le_mul_left p (show a + 1 ≤ b from hab)
    rw [Nat.mul_add] at this
    omega
  unfold cmpN
  refine ⟨fun h => ?_, fun h => ?_, fun h => ?_⟩
  · rw [if_pos (key h1 h)]
  · have := key (y := x) h2 h
    rw [if_neg (by omega), if_pos this]
  · subst h
    (repeat' split) <;> omega

set_option maxHeartbeats 2000000 in
theorem compare_ref (m n : Nat) (w : World) : Calls Try.prog 49 #[.agg (da m), .agg (da n)] w fun e w' => e = .returned (.int .i64 (cmpN (m % M) (n % M))) ∧ Below w.heap.size w w' := by
  have hds : ∀ x, (da x).size = 32 := fun x => arr_size _ _ _
  go_enter Try.func49, Try.ntmps49
  go_wp2_with fail
  clear hds
  have f0 : ((w.alloc (.cells (da m) 104)).alloc (.cells (da n) 104)).heap[w.heap.size]? = some (.cells (da m) 104) := blk_alloc (heap_alloc_new _ _)
  have f1 : ((w.alloc (.cells (da m) 104)).alloc (.cells (da n) 104)).heap[w.heap.size + 1]? = some (.cells (da n) 104) := heap_alloc2_new _ _ _
  have bW : Below w.heap.size w ((w.alloc (.cells (da m) 104)).alloc (.cells (da n) 104)) := ((Below.refl _ _).alloc (Nat.le_refl _) _).alloc (by simp) _
  generalize (w.alloc (.cells (da m) 104)).alloc (.cells (da n) 104) = W at *
  go_loopw [5] (fun i wr => ∃ k : Nat, k ≤ 32 ∧ i = .int .i64 ((k : Int) - 1) ∧ Hid (cmpN (m % M) (n % M) = cmpN (m % 256 ^ k) (n % 256 ^ k)) ∧ Below w.heap.size w wr ∧ wr.heap[w.heap.size]? = some (.cells (da m) 104) ∧ wr.heap[w.heap.size + 1]? = some (.cells (da n) 104)) (fun i _ => (intOf i + 1).toNat)
  case atStart => exact ⟨32, Nat.le_refl _, rfl, by rw [M_256]; exact Lib.hid rfl, bW, f0, f1⟩
  case round =>
    obtain ⟨k, hk, rfl, HC, hb, ha, hn⟩ := hrel
    clear f0 f1 bW
    by_cases hlt : 0 < k
    · obtain ⟨j, rfl⟩ : ∃ j, k = j + 1 := ⟨k - 1, by omega⟩
      have e1 : ((j + 1 : Nat) : Int) - 1 = (j : Int) := by omega
      rw [e1]
      have hj : j < 32 := by omega
      have c1 := blk_cell ha (arr_get .i64 _ hj)
      have c2 := blk_cell hn (arr_get .i64 _ hj)
      have HA := Lib.hid ha
      have HN := Lib.hid hn
      have HB := Lib.hid hb
      obtain ⟨s1, s2, s3⟩ := cmp_step m n j
      have S1 := Lib.hid s1
      have S2 := Lib.hid s2
      have S3 := Lib.hid s3
      clear ha hn hb e1 s1 s2 s3
      have ht : (dig m j < dig n j) ∨ (dig n j < dig m j) ∨ dig m j = dig n j := by omega
      rcases ht with ht | ht | ht
      · have d1 : decide (((dig m j : Nat) : Int) < ((dig n j : Nat) : Int)) = true := by simp; omega
        go_wp2_with fail
        go_region
        go_wp2_with fail
        go_ret
        exact ⟨by rw [HC.out, S1.out ht]; rfl, HB.out.drew⟩
      · have d1 : decide (((dig m j : Nat) : Int) < ((dig n j : Nat) : Int)) = false := by simp; omega
        have d2 : decide (((dig n j : Nat) : Int) < ((dig m j : Nat) : Int)) = true := by simp; omega
        go_wp2_with fail
        go_region
        go_wp2_with fail
        go_region
        go_wp2_with fail
        go_ret
        exact ⟨by rw [HC.out, S2.out ht]; rfl, HB.out.drew.drew⟩
      · have d1 : decide (((dig m j : Nat) : Int) < ((dig n j : Nat) : Int)) = false := by simp; omega
        have d2 : decide (((dig n j : Nat) : Int) < ((dig m j : Nat) : Int)) = false := by simp; omega
        go_wp2_with fail
        go_region
        go_wp2_with fail
        go_region
        go_wp2_with fail
        exact ⟨⟨j, by omega, rfl, Lib.hid (by rw [HC.out, S3.out ht]), HB.out.drew.drew, HA.out, HN.out⟩, by simp [intOf]⟩
    · obtain rfl : k = 0 := by omega
      go_wp2_with fail
      go_ret
      refine ⟨?_, hb⟩
      rw [HC.out]
      simp [Nat.mod_one, cmpN]

/-- The bytes of n, the highest first. -/
def ya (n : Nat) : Array Value := arr .u8 32 (fun i => ((dig n (31 - i) : Nat) : Int))
def zY : Array Value := arr .u8 32 (fun _ => 0)
theorem ya_congr {m n : Nat} (h : m % M = n % M) : ya m = ya n := arr_congr fun _ hi => by rw [dig_congr h (by omega)]
theorem fillH_step (f : Nat → Int) (k : Nat) (hk : k < 32) (v : Int) (hv : v = f (31 - k)) :
    (arr .u8 32 (fun j => if 32 - k ≤ j then f j else 0)).setIfInBounds (31 - k) (.int .u8 v) = arr .u8 32 (fun j => if 32 - (k + 1) ≤ j then f j else 0) := by
  rw [arr_set _ _ _ (by omega)]
  refine arr_congr fun i _ => ?_
  by_cases h1 : i = 31 - k
  · subst h1; rw [if_pos rfl, if_pos (by omega), hv]
  · rw [if_neg h1]
    by_cases h2 : 32 - k ≤ i
    · rw [if_pos h2, if_pos (by omega)]
    · rw [if_neg h2, if_neg (by omega)]
theorem fillH_start (f : Nat → Int) : arr .u8 32 (fun j => if 32 - 0 ≤ j then f j else 0) = zY := arr_congr fun i hi => by rw [if_neg (by omega)]
theorem fillH_end (f : Nat → Int) : arr .u8 32 (fun j => if 32 - 32 ≤ j then f j else 0) = arr .u8 32 f := arr_congr fun i hi => by rw [if_pos (by omega)]
end Go.Proofs.Ytdgenbidgieojaa
/- What the function Bytes of package word does: the bytes of a word, the highest first; all older memory is as it was. -/
namespace Go.Proofs.Ytdgenbidgieojaa
open Go.RowKit SmWord
set_option maxRecDepth 100000
theorem fillY_step (f : Nat → Int) (k : Nat) (hk : k < 32) (v : Int) (hv : v = f k) :
    (arr .u8 32 (fun j => if j < k then f j else 0)).setIfInBounds k (.int .u8 v) = arr .u8 32 (fun j => if j < k + 1 then f j else 0) := by
  rw [arr_set _ _ _ hk]
  refine arr_congr fun i _ => ?_
  by_cases h1 : i = k
  · subst h1; simp [hv]
  · by_cases h2 : i < k
    · simp [h1, h2, show i < k + 1 by omega]
    · simp [h1, h2, show ¬ i < k + 1 by omega]
theorem fillY_start (f : Nat → Int) : arr .u8 32 (fun j => if j < 0 then f j else 0) = zY := arr_congr fun i _ => by simp
theorem fillY_end (f : Nat → Int) : arr .u8 32 (fun j => if j < 32 then f j else 0) = arr .u8 32 f := arr_congr fun i hi => by simp [hi]
end Go.Proofs.Ytdgenbidgieojaa
