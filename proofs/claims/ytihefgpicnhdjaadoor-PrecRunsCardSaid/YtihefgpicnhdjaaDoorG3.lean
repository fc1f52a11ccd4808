/- What the functions Of, Word, Add, Neg and Sub of the document's own answers do, for every number: its digits, the word of digits, sums and differences of digits, going round; all older memory is as it was. -/
import Derived.Test.YtihefgpicnhdjaaDoorG2
import Derived.Test.YtihefgpicnhdjaaDoorG0
import Derived.Deep.LoopGhost
import Derived.OpenShut
import Derived.Deep.Slices
import Derived.Deep.Fields
import Derived.ChangeSame
import Derived.Deep.DeepHandedRow
import Derived.Lib.ItoaNum
import Derived.Test.YtihefgpicnhdjaaDoorG1
import Derived.Laws.AppendOwn
import Derived.Laws.AppendOwnNone
import Derived.Maps.AppendAt
import Derived.Lib.SlBytesRow
import Derived.Lib.ConvBytes
import Derived.Deep.OwnRows
import Derived.Deep.CutRange
import Derived.Deep.QuietTactic
import Derived.Deep.RegionWith
import Derived.Deep.RegionHeld3
import Derived.Deep.MidRow
import Derived.Lib.SlBytesConst
namespace Go.Proofs.YtihefgpicnhdjaaDoor
open Go.RowKit SmWord
set_option maxRecDepth 100000

/-- The digits of n. -/
def da (n : Nat) : Array Value := arr .i64 32 (fun i => ((dig n i : Nat) : Int))
def zD : Array Value := arr .i64 32 (fun _ => 0)
theorem zD_run (w : World) : (zeroValue 98).run Tryd.prog w = .ok (.agg zD) w := by rw [Tryd.zeroValue98]; rfl
theorem Tryd.infoD : (Tryd.prog.info? 98).map (·.size) = some 32 := by kernel_rfl
theorem infoArr (f : Nat → Int) : (Tryd.prog.info? 98).map (·.size) = some (arr .i64 32 f).size := by rw [arr_size]; exact Tryd.infoD
theorem da_congr {m n : Nat} (h : m % M = n % M) : da m = da n := arr_congr fun _ hi => by rw [dig_congr h hi]
theorem wa_lb (n i : Nat) (hi : i < 4) : (wa n)[i]? = some (.int .u64 ((lb n i : Nat) : Int)) := by
  have : i = 0 ∨ i = 1 ∨ i = 2 ∨ i = 3 := by omega
  unfold lb
  rcases this with rfl | rfl | rfl | rfl
  · simp [wa, l0]
  · simp [wa, l1]
  · simp [wa, l2, Nat.div_div_eq_div_mul, Nat.pow_succ]
  · simp [wa, l3, Nat.div_div_eq_div_mul, Nat.pow_succ, Nat.mul_assoc]
theorem dig_of (m k : Nat) : wrap64 ((((lb m (k / 8) : Nat) : Int) / 2 ^ (8 * (k % 8))).tmod 256) = ((dig m k : Nat) : Int) := by
  have e : ((lb m (k / 8) : Nat) : Int) / 2 ^ (8 * (k % 8)) = ((lb m (k / 8) / 2 ^ (8 * (k % 8)) : Nat) : Int) := by
    rw [Int.natCast_ediv, Int.natCast_pow]; rfl
  have h := lb_dig m k
  have h2 := dig_lt m k
  rw [e, Int.tmod_eq_emod_of_nonneg (Int.natCast_nonneg _)]
  have e2 : ((lb m (k / 8) / 2 ^ (8 * (k % 8)) : Nat) : Int) % 256 = ((dig m k : Nat) : Int) := by rw [← h]; rfl
  rw [e2]
  exact IntWalk.wrap64_in _ ⟨by omega, by omega⟩
theorem fill_step (f : Nat → Int) (k : Nat) (hk : k < 32) (v : Int) (hv : v = f k) :
    (arr .i64 32 (fun j => if j < k then f j else 0)).setIfInBounds k (.int .i64 v) = arr .i64 32 (fun j => if j < k + 1 then f j else 0) := by
  rw [arr_set _ _ _ hk]
  refine arr_congr fun i _ => ?_
  by_cases h1 : i = k
  · subst h1; simp [hv]
  · by_cases h2 : i < k
    · simp [h1, h2, show i < k + 1 by omega]
    · simp [h1, h2, show ¬ i < k + 1 by omega]
theorem fill_start (f : Nat → Int) : arr .i64 32 (fun j => if j < 0 then f j else 0) = zD := arr_congr fun i _ => by simp
theorem fill_end (f : Nat → Int) : arr .i64 32 (fun j => if j < 32 then f j else 0) = arr .i64 32 f := arr_congr fun i hi => by simp [hi]

end Go.Proofs.YtihefgpicnhdjaaDoor
/- What the method Word of the document's digits does: the word of digits. -/
namespace Go.Proofs.YtihefgpicnhdjaaDoor
open Go.RowKit SmWord
set_option maxRecDepth 100000
theorem acc_start (m : Nat) : arr .u64 4 (fun q => ((acc m 32 q : Nat) : Int)) = #[Value.int .u64 0, .int .u64 0, .int .u64 0, .int .u64 0] := by
  have : arr .u64 4 (fun _ => 0) = #[Value.int .u64 0, .int .u64 0, .int .u64 0, .int .u64 0] := rfl
  rw [← this]
  exact arr_congr fun q hq => by rw [acc_end m q hq]; rfl
theorem acc_last (m : Nat) : arr .u64 4 (fun q => ((acc m 0 q : Nat) : Int)) = wa m := by
  apply Array.ext_getElem?
  intro i
  by_cases hi : i < 4
  · rw [arr_get _ _ hi, wa_lb m i hi, acc_zero]
  · rw [Array.getElem?_eq_none (by simp [arr_size]; omega), Array.getElem?_eq_none (by rw [wa_size]; omega)]
theorem acc_val (m j : Nat) : IntKind.u64.wrap (IntKind.u64.wrap (((acc m (j + 1) (j / 8) : Nat) : Int) * 256) + IntKind.u64.wrap ((dig m j : Nat) : Int)) = ((acc m j (j / 8) : Nat) : Int) := by
  obtain ⟨h1, h2⟩ := acc_step m j
  have h3 := dig_lt m j
  rw [IntKind.wrap_u64, IntKind.wrap_u64, IntKind.wrap_u64]
  generalize acc m (j + 1) (j / 8) = x at *
  generalize acc m j (j / 8) = y at *
  generalize dig m j = d at *
  simp only [B] at h2
  omega
theorem acc_put (m j : Nat) (hj : j / 8 < 4) : (arr .u64 4 (fun q => ((acc m (j + 1) q : Nat) : Int))).setIfInBounds (j / 8) (.int .u64 ((acc m j (j / 8) : Nat) : Int)) = arr .u64 4 (fun q => ((acc m j q : Nat) : Int)) := by
  rw [arr_set _ _ _ hj]
  refine arr_congr fun q _ => ?_
  by_cases h : q = j / 8
  · subst h; simp
  · rw [if_neg h, acc_other m j q (fun e => h e.symm)]
theorem Tryd.infoWa {n : Nat} : (Tryd.prog.info? 55).map (·.size) = some (wa n).size := by rw [wa_size]; kernel_rfl
theorem wa_one {n : Nat} : (wa n).all (·.oneCell') = true := by simp [wa, Value.oneCell']
end Go.Proofs.YtihefgpicnhdjaaDoor
/- What the method Bit and the function Bits of the document's digits do: a bit of a number, and the digits of the number whose bits these are. -/
namespace Go.Proofs.YtihefgpicnhdjaaDoor
open Go.RowKit SmWord
set_option maxRecDepth 100000

/-- A bit of n; 0 where there is none. -/
def bitI (n : Nat) (i : Int) : Int := if i < 0 ∨ 255 < i then 0 else ((bitN n i.toNat : Nat) : Int)
set_option maxHeartbeats 1000000 in
theorem bit_low (n : Nat) (i : Int) (w : World) (h1 : i < 0) : Calls Tryd.prog 74 #[.agg (da n), .int .i64 i] w fun e w' => e = .returned (.int .i64 0) ∧ Below w.heap.size w w' := by
  have hds : (da n).size = 32 := arr_size _ _ _
  go_enter Tryd.func74, Tryd.ntmps74
  go_wp2
  go_ret
  exact ⟨rfl, (Below.refl _ _).alloc (Nat.le_refl _) _⟩
set_option maxHeartbeats 1000000 in
theorem bit_high (n : Nat) (i : Int) (w : World) (h1 : 255 < i) : Calls Tryd.prog 74 #[.agg (da n), .int .i64 i] w fun e w' => e = .returned (.int .i64 0) ∧ Below w.heap.size w w' := by
  have hds : (da n).size = 32 := arr_size _ _ _
  have h0 : ¬ i < 0 := by omega
  go_enter Tryd.func74, Tryd.ntmps74
  go_wp2
  go_ret
  exact ⟨rfl, (Below.refl _ _).alloc (Nat.le_refl _) _⟩
set_option maxHeartbeats 1000000 in
theorem bit_mid (n k : Nat) (w : World) (hk : k < 256) : Calls Tryd.prog 74 #[.agg (da n), .int .i64 (k : Int)] w fun e w' => e = .returned (.int .i64 ((bitN n k : Nat) : Int)) ∧ Below w.heap.size w w' := by
  have hds : (da n).size = 32 := arr_size _ _ _
  have h0 : ¬ (k : Int) < 0 := by omega
  have h1 : ¬ (255 : Int) < (k : Int) := by omega
  have hq : k / 8 < 32 := by omega
  have fb : (w.alloc (.cells (da n) 98)).heap[w.heap.size]? = some (.cells (da n) 98) := heap_alloc_new _ _
  have c1 := blk_cell fb (arr_get .i64 _ hq)
  clear fb
  have HK := Lib.hid (dig_bit n k)
  have d1 := dig_lt n (k / 8)
  go_enter Tryd.func74, Tryd.ntmps74
  go_wp2
  go_loop [5, 6] (fun x i => ∃ j : Nat, j ≤ k % 8 ∧ i = .int .i64 j ∧ x = .int .i64 ((dig n (k / 8) / 2 ^ j : Nat) : Int)) (fun _ i => 8 - (intOf i).toNat)
  case atStart => exact ⟨0, Nat.zero_le _, rfl, by simp⟩
  case round =>
    obtain ⟨j, hj, rfl, rfl⟩ := hrel
    have d2 : dig n (k / 8) / 2 ^ j < 256 := Nat.lt_of_le_of_lt (Nat.div_le_self _ _) d1
    by_cases hlt : j < k % 8
    · have HJ : Hid (dig n (k / 8) / 2 ^ (j + 1) = dig n (k / 8) / 2 ^ j / 2) := Lib.hid (by rw [Nat.pow_succ, Nat.div_div_eq_div_mul])
      generalize dig n (k / 8) / 2 ^ j = y at *
      go_wp2
      go_round
      case rel => exact ⟨j + 1, by omega, by go_num, by rw [HJ.out]; rfl⟩
      case measure => simp [intOf]; omega
    · obtain rfl : j = k % 8 := by omega
      have HJ : Hid (dig n (k / 8) / 2 ^ (k % 8) % 2 = bitN n k) := HK
      generalize dig n (k / 8) / 2 ^ (k % 8) = y at *
      go_wp2
      go_ret
      exact ⟨by rw [← HJ.out]; rfl, (Below.refl _ _).alloc (Nat.le_refl _) _⟩
theorem bit_ref (n : Nat) (i : Int) (w : World) : Calls Tryd.prog 74 #[.agg (da n), .int .i64 i] w fun e w' => e = .returned (.int .i64 (bitI n i)) ∧ Below w.heap.size w w' := by
  unfold bitI
  by_cases h1 : i < 0
  · rw [if_pos (.inl h1)]; exact bit_low n i w h1
  · by_cases h2 : 255 < i
    · rw [if_pos (.inr h2)]; exact bit_high n i w h2
    · rw [if_neg (by omega)]
      obtain ⟨k, rfl⟩ := Int.eq_ofNat_of_zero_le (show 0 ≤ i by omega)
      rw [Int.toNat_natCast]
      exact bit_mid n k w (by omega)
end Go.Proofs.YtihefgpicnhdjaaDoor
/- What the function Bits of the document's digits does: the digits of the number whose bits these are. -/
namespace Go.Proofs.YtihefgpicnhdjaaDoor
open Go.RowKit SmWord
set_option maxRecDepth 100000

/-- The bits of n. -/
def ba (n : Nat) : Array Value := arr .i64 256 (fun i => ((bitN n i : Nat) : Int))
def zB : Array Value := arr .i64 256 (fun _ => 0)
theorem ba_congr {m n : Nat} (h : m % M = n % M) : ba m = ba n := arr_congr fun _ hi => by rw [bit_congr h hi]
theorem accB_start (m : Nat) : arr .i64 32 (fun q => ((accB m 256 q : Nat) : Int)) = zD := arr_congr fun q hq => by rw [accB_end m q hq]; rfl
theorem accB_last (m : Nat) : arr .i64 32 (fun q => ((accB m 0 q : Nat) : Int)) = da m := arr_congr fun q _ => by rw [accB_zero]
theorem accB_val (m j : Nat) : ((accB m (j + 1) (j / 8) : Nat) : Int) * 2 + ((bitN m j : Nat) : Int) = ((accB m j (j / 8) : Nat) : Int) := by
  obtain ⟨h1, _⟩ := accB_step m j
  omega
theorem accB_put (m j : Nat) (hj : j / 8 < 32) : (arr .i64 32 (fun q => ((accB m (j + 1) q : Nat) : Int))).setIfInBounds (j / 8) (.int .i64 ((accB m j (j / 8) : Nat) : Int)) = arr .i64 32 (fun q => ((accB m j q : Nat) : Int)) := by
  rw [arr_set _ _ _ hj]
  refine arr_congr fun q _ => ?_
  by_cases h : q = j / 8
  · subst h; simp
  · rw [if_neg h, accB_other m j q (fun e => h e.symm)]
end Go.Proofs.YtihefgpicnhdjaaDoor
/- What the function Shift of the document's digits does: the digits of the number whose bits stand so many places up, or down. -/
namespace Go.Proofs.YtihefgpicnhdjaaDoor
open Go.RowKit SmWord
set_option maxRecDepth 100000

theorem stay {w w' : World} (h : Below w.heap.size w w') {b : Nat} {o : Obj} (hb : w.heap[b]? = some o) : w'.heap[b]? = some o := Ext.block ⟨w', h⟩ hb
theorem fillB_step (f : Nat → Int) (k : Nat) (hk : k < 256) (v : Int) (hv : v = f k) :
    (arr .i64 256 (fun j => if j < k then f j else 0)).setIfInBounds k (.int .i64 v) = arr .i64 256 (fun j => if j < k + 1 then f j else 0) := by
  rw [arr_set _ _ _ hk]
  refine arr_congr fun i _ => ?_
  by_cases h1 : i = k
  · subst h1; simp [hv]
  · by_cases h2 : i < k
    · simp [h1, h2, show i < k + 1 by omega]
    · simp [h1, h2, show ¬ i < k + 1 by omega]
theorem fillB_start (f : Nat → Int) : arr .i64 256 (fun j => if j < 0 then f j else 0) = zB := arr_congr fun i _ => by simp
theorem fillB_end (f : Nat → Int) : arr .i64 256 (fun j => if j < 256 then f j else 0) = arr .i64 256 f := arr_congr fun i hi => by simp [hi]
end Go.Proofs.YtihefgpicnhdjaaDoor
/- What the function From of package word, and the document's, do with any bytes: the word whose bytes end with them, the highest first; all older memory is as it was. -/
namespace Go.Proofs.YtihefgpicnhdjaaDoor
open Go.RowKit SmWord
set_option maxRecDepth 100000

/-- What a slice of bytes holds, a nil one too. -/
structure Sl (w : World) (A : Option Addr) (n : Nat) (f : Nat → Nat) : Prop where
  small : ∀ i, i < n → f i < 256
  cells : 0 < n → ∃ b off, A = some ⟨b, off, none⟩ ∧ b < w.heap.size ∧ ∀ i, i < n → w.cell? ⟨b, off + i, none⟩ = some (.int .u8 ((f i : Nat) : Int))
theorem Sl.below {w w' : World} {A : Option Addr} {n : Nat} {f : Nat → Nat} (h : Sl w A n f) (hb : Below w.heap.size w w') : Sl w' A n f :=
  ⟨h.small, fun hn => by
    obtain ⟨b, off, e, hlt, hc⟩ := h.cells hn
    exact ⟨b, off, e, Nat.lt_of_lt_of_le hlt hb.size, fun i hi => (hb.cell (p := ⟨b, off + i, none⟩) hlt).trans (hc i hi)⟩⟩
/-- The digits of a slice of bytes, the lowest first. -/
def gd (f : Nat → Nat) (n i : Nat) : Nat := f (n - 1 - i)
theorem gd_small {w : World} {A : Option Addr} {n : Nat} {f : Nat → Nat} (h : Sl w A n f) {k : Nat} (hk : k ≤ n) : ∀ i, i < k → gd f n i < 256 := fun i hi => h.small _ (by omega)

theorem wa_set (x y q : Nat) (hq : q < 4) (h1 : ∀ j, j < 4 → j ≠ q → lb y j = lb x j) : (wa x).setIfInBounds q (.int .u64 ((lb y q : Nat) : Int)) = wa y := by
  apply Array.ext_getElem?
  intro j
  by_cases hj : j < 4
  · by_cases e : j = q
    · subst e; rw [Array.getElem?_setIfInBounds_self_of_lt (by rw [wa_size]; exact hj), wa_lb y j hj]
    · rw [Array.getElem?_setIfInBounds_ne (fun h => e h.symm), wa_lb x j hj, wa_lb y j hj, h1 j hj e]
  · rw [Array.getElem?_eq_none (by simp [wa_size]; omega), Array.getElem?_eq_none (by rw [wa_size]; omega)]

theorem val_none (f : Nat → Nat) (n : Nat) : wa (val (gd f n) 0) = #[Value.int .u64 0, .int .u64 0, .int .u64 0, .int .u64 0] := by rw [show val (gd f n) 0 = 0 from rfl]; rfl
theorem or_put {x d s : Nat} (hx : x < B) (h : d * 2 ^ s < B) : bits .or .u64 (x : Int) (IntKind.u64.wrap ((d : Int) * 2 ^ s)) = ((x ||| d * 2 ^ s : Nat) : Int) := by
  have e : ((d : Int) * 2 ^ s) = ((d * 2 ^ s : Nat) : Int) := by simp
  have e2 : IntKind.u64.wrap ((d * 2 ^ s : Nat) : Int) = ((d * 2 ^ s : Nat) : Int) := by
    rw [IntKind.wrap_u64]
    simp only [B] at h
    generalize d * 2 ^ s = y at *
    omega
  rw [e, e2, u64_or_nat _ _ hx h]
set_option maxHeartbeats 2000000 in
theorem from_wd (A : Option Addr) (n c mn : Nat) (f : Nat → Nat) (w : World) (hn : n ≤ maxLen) (hmin : min (n : Int) 32 = (mn : Int)) (hs : Sl w A n f) :
    Calls Tryd.prog 33 #[.slice A n c] w fun e w' => e = .returned (wd (val (gd f n) mn)) ∧ Below w.heap.size w w' := by
  have hm1 : mn ≤ n := by omega
  have hm2 : mn ≤ 32 := by omega
  have hn' : n ≤ 9223372036854775807 := hn
  go_enter Tryd.func33, Tryd.ntmps33
  go_wp2_with fail
  have f0 : ((w.alloc (.cells #[Value.int .u64 0, .int .u64 0, .int .u64 0, .int .u64 0] 55)).alloc (.cells #[Value.int .u64 0, .int .u64 0, .int .u64 0, .int .u64 0] 55)).heap[w.heap.size]? = some (.cells #[Value.int .u64 0, .int .u64 0, .int .u64 0, .int .u64 0] 55) := blk_alloc (heap_alloc_new _ _)
  have f1 : ((w.alloc (.cells #[Value.int .u64 0, .int .u64 0, .int .u64 0, .int .u64 0] 55)).alloc (.cells #[Value.int .u64 0, .int .u64 0, .int .u64 0, .int .u64 0] 55)).heap[w.heap.size + 1]? = some (.cells #[Value.int .u64 0, .int .u64 0, .int .u64 0, .int .u64 0] 55) := heap_alloc2_new _ _ _
  have bW : Below w.heap.size w ((w.alloc (.cells #[Value.int .u64 0, .int .u64 0, .int .u64 0, .int .u64 0] 55)).alloc (.cells #[Value.int .u64 0, .int .u64 0, .int .u64 0, .int .u64 0] 55)) := ((Below.refl _ _).alloc (Nat.le_refl _) _).alloc (by simp) _
  generalize ((w.alloc (.cells #[Value.int .u64 0, .int .u64 0, .int .u64 0, .int .u64 0] 55)).alloc (.cells #[Value.int .u64 0, .int .u64 0, .int .u64 0, .int .u64 0] 55)) = W at *
  clear hmin
  go_loopw [9] (fun i wr => ∃ k : Nat, k ≤ mn ∧ i = .int .i64 k ∧ Below w.heap.size w wr ∧ wr.heap[w.heap.size]? = some (.cells #[Value.int .u64 0, .int .u64 0, .int .u64 0, .int .u64 0] 55) ∧ wr.heap[w.heap.size + 1]? = some (.cells (wa (val (gd f n) k)) 55)) (fun i _ => mn - (intOf i).toNat)
  case atStart => exact ⟨0, Nat.zero_le _, rfl, bW, f0, f1.trans (by rw [val_none])⟩
  case round =>
    obtain ⟨k, hk, rfl, hb, hr, hd⟩ := hrel
    clear f0 f1 bW
    by_cases hlt : k < mn
    · have hq : k / 8 < 4 := by omega
      have c1 := blk_cell hd (wa_lb _ _ hq)
      have c3 := blk_frozen (j := k / 8) hd
      obtain ⟨b, off, rfl, hbl, hc⟩ := (hs.below hb).cells (by omega)
      have c2 := hc (n - 1 - k) (by omega)
      have HH := Lib.hid (lb_here (g := gd f n) (k := k) (gd_small hs (by omega)))
      have HO := Lib.hid (fun q => lb_other (g := gd f n) (k := k) (q := q) (gd_small hs (by omega)))
      have hf := hs.small (n - 1 - k) (by omega)
      have HR := Lib.hid hr
      have HD := Lib.hid hd
      have HB := Lib.hid hb
      have HS := Lib.hid hs
      clear hr hd hb hc hs
      have e1 : (n : Int) - 1 - (k : Int) = ((n - 1 - k : Nat) : Int) := by omega
      have i1 : n - 1 - k < n := by omega
      have hg : gd f n k = f (n - 1 - k) := rfl
      rw [hg] at HH
      clear hg
      generalize n - 1 - k = j at *
      go_wp2_with fail
      obtain ⟨H1, H2, H3⟩ := HH.out
      rw [or_put (show lb (val (gd f n) k) (k / 8) < B from Nat.mod_lt _ (by decide)) H3, ← H2]
      refine ⟨⟨k + 1, by omega, by go_num, HB.out.setCell (by simp) _, blk_other HR.out (by omega) _, ?_⟩, by simp [intOf]; omega⟩
      rw [← wa_set (val (gd f n) k) (val (gd f n) (k + 1)) (k / 8) hq (fun q _ hne => HO.out q hne)]
      exact blk_set HD.out _
    · obtain rfl : k = mn := by omega
      have HB := Lib.hid hb
      clear hb
      go_wp2_with (first | (refine wpList_load_row rfl 55 _ rfl _ rfl 55 (wa (val (gd f n) k)) (0, 0) _ hd Tryd.underlying55 rfl Tryd.infoWa ?_) | (refine wpList_store_row rfl 55 _ _ rfl _ #[Value.int .u64 0, .int .u64 0, .int .u64 0, .int .u64 0] (wa (val (gd f n) k)) rfl rfl hr Tryd.infoWa rfl wa_one ?_))
      refine bodyPost_ret (v := wd (val (gd f n) k)) (results_cell_row rfl _ _ _ 55 (wa (val (gd f n) k)) (0, 0) _ rfl (blk_row hr) Tryd.underlying55 rfl Tryd.infoWa) rfl ⟨rfl, below_setRow HB.out (by omega) _⟩

theorem val_digits {f : Nat → Nat} {n mn : Nat} (h : ∀ i, i < mn → gd f n i < 256) : arr .i64 32 (fun j => if j < mn then ((gd f n j : Nat) : Int) else 0) = da (val (gd f n) mn) :=
  arr_congr fun i _ => by
    by_cases hi : i < mn
    · rw [if_pos hi, dig_val h hi]
    · rw [if_neg hi, dig_val_high h (by omega)]; rfl
set_option maxHeartbeats 2000000 in
theorem from_ref_walk (A : Option Addr) (n c mn V : Nat) (f : Nat → Nat) (w : World) (hn : n ≤ maxLen) (hmin : mn = min n 32) (hs : Sl w A n f) (HV : Hid (arr .i64 32 (fun j => if j < mn then ((gd f n j : Nat) : Int) else 0) = da V)) :
    Calls Tryd.prog 61 #[.slice A n c] w fun e w' => e = .returned (.agg (da V)) ∧ Below w.heap.size w w' := by
  have hm1 : mn ≤ n := by omega
  have hm2 : mn ≤ 32 := by omega
  have hn' : n ≤ 9223372036854775807 := hn
  go_enter Tryd.func61, Tryd.ntmps61
  go_wp2_with (first | (refine wpList_alloc_row rfl 98 rfl zD zD_run ?_) | (refine wpList_build_zero rfl 98 rfl Tryd.underlying98 Tryd.sizeOf3 zD zD_run ?_) | (refine wpList_store_row rfl 98 _ _ rfl _ zD zD rfl rfl (heap_alloc_new _ _) (infoArr _) rfl (arr_one _ _ _) ?_))
  have f0 : (((w.alloc (.cells zD 98)).alloc (.cells zD 98)).setRow (w.heap.size + 1) zD).heap[w.heap.size]? = some (.cells zD 98) := blk_row_other (blk_alloc (by have := heap_alloc_new w (.cells zD 98); simpa using this)) (by omega)
  have f1 : (((w.alloc (.cells zD 98)).alloc (.cells zD 98)).setRow (w.heap.size + 1) zD).heap[w.heap.size + 1]? = some (.cells zD 98) := blk_row (by have := heap_alloc_new (w.alloc (.cells zD 98)) (.cells zD 98); simpa using this)
  have bW : Below w.heap.size w (((w.alloc (.cells zD 98)).alloc (.cells zD 98)).setRow (w.heap.size + 1) zD) := below_setRow (((Below.refl _ _).alloc (by simp; try omega) _).alloc (by simp; try omega) _) (by omega) _
  generalize (((w.alloc (.cells zD 98)).alloc (.cells zD 98)).setRow (w.heap.size + 1) zD) = W at *
  go_loopw [4] (fun i wr => ∃ k : Nat, k ≤ mn ∧ i = .int .i64 k ∧ Below w.heap.size w wr ∧ wr.heap[w.heap.size]? = some (.cells zD 98) ∧ wr.heap[w.heap.size + 1]? = some (.cells (arr .i64 32 (fun j => if j < k then ((gd f n j : Nat) : Int) else 0)) 98)) (fun i _ => mn - (intOf i).toNat)
  case atStart => exact ⟨0, Nat.zero_le _, rfl, bW, f0, by rw [fill_start]; exact f1⟩
  case round =>
    obtain ⟨k, hk, rfl, hb, hr, hd⟩ := hrel
    clear f0 f1 bW
    by_cases hlt : k < mn
    · have hk32 : k < 32 := by omega
      have hkn : k < n := by omega
      have c1 := blk_cell hd (arr_get .i64 _ hk32)
      have c3 := blk_frozen (j := k) hd
      obtain ⟨b, off, rfl, hbl, hc⟩ := (hs.below hb).cells (by omega)
      have c2 := hc (n - 1 - k) (by omega)
      have hf := hs.small (n - 1 - k) (by omega)
      have HR := Lib.hid hr
      have HD := Lib.hid hd
      have HB := Lib.hid hb
      have HS := Lib.hid hs
      clear hr hd hb hc hs hmin HV
      have e1 : (n : Int) - 1 - (k : Int) = ((n - 1 - k : Nat) : Int) := by omega
      have i1 : n - 1 - k < n := by omega
      have HG : Hid (f (n - 1 - k) = gd f n k) := Lib.hid rfl
      generalize n - 1 - k = j at *
      go_wp2_with fail
      refine ⟨⟨k + 1, by omega, by go_num, HB.out.setCell (by simp) _, blk_other HR.out (by omega) _, ?_⟩, by simp [intOf]; omega⟩
      rw [← fill_step (fun j => ((gd f n j : Nat) : Int)) k hk32 ((f j : Nat) : Int) (by rw [HG.out])]
      exact blk_set HD.out _
    · obtain rfl : k = mn := by omega
      rw [HV.out] at hd
      clear HV hs
      have HB := Lib.hid hb
      clear hb
      have h32 : k = 32 ∨ (n = k ∧ k < 32) := by omega
      clear hmin hlt hk
      rcases h32 with rfl | ⟨rfl, h32⟩
      · go_wp2_with (first | (refine wpList_load_row rfl 98 _ rfl _ rfl 98 (da V) (0, 0) _ hd Tryd.underlying98 rfl (infoArr _) ?_) | (refine wpList_store_row rfl 98 _ _ rfl _ zD (da V) rfl rfl hr (infoArr _) rfl (arr_one _ _ _) ?_))
        refine bodyPost_ret (v := .agg (da V)) (results_cell_row rfl _ _ _ 98 (da V) (0, 0) _ rfl (blk_row hr) Tryd.underlying98 rfl (infoArr _)) rfl ⟨rfl, below_setRow HB.out (by omega) _⟩
      · go_wp2_with (first | (refine wpList_load_row rfl 98 _ rfl _ rfl 98 (da V) (0, 0) _ hd Tryd.underlying98 rfl (infoArr _) ?_) | (refine wpList_store_row rfl 98 _ _ rfl _ zD (da V) rfl rfl hr (infoArr _) rfl (arr_one _ _ _) ?_))
        refine bodyPost_ret (v := .agg (da V)) (results_cell_row rfl _ _ _ 98 (da V) (0, 0) _ rfl (blk_row hr) Tryd.underlying98 rfl (infoArr _)) rfl ⟨rfl, below_setRow HB.out (by omega) _⟩
theorem from_ref (A : Option Addr) (n c mn : Nat) (f : Nat → Nat) (w : World) (hn : n ≤ maxLen) (hmin : mn = min n 32) (hs : Sl w A n f) :
    Calls Tryd.prog 61 #[.slice A n c] w fun e w' => e = .returned (.agg (da (val (gd f n) mn))) ∧ Below w.heap.size w w' :=
  from_ref_walk A n c mn _ f w hn hmin hs (val_digits (gd_small hs (by omega)))
end Go.Proofs.YtihefgpicnhdjaaDoor
/- Rows of nodes in memory (a node: a bool, a slice of bytes, an integer), whatever the program: how they read, and an argument that is one. -/
namespace Go.Proofs.YtihefgpicnhdjaaDoor
open Go.ChangeShapes Go.WideShapes Go.RowKit Go.Deep SmWord
set_option maxRecDepth 100000

/-- What a node's three cells say. -/
structure NodeAt (w : World) (b off : Nat) (x : Nd) : Prop where
  ls : w.cell? ⟨b, off, none⟩ = some (.bool x.ls)
  by' : ∃ A c, w.cell? ⟨b, off + 1, none⟩ = some (.slice A x.by'.length c) ∧ x.by'.length ≤ c ∧ x.by'.length ≤ maxLen ∧ (A = none → x.by'.length = 0 ∧ c = 0) ∧ Sl w A x.by'.length (fun i => x.by'.getD i 0)
  sz : w.cell? ⟨b, off + 2, none⟩ = some (.int .i64 x.sz)
/-- What a slice of nodes says, a nil one too. -/
structure NodesS (w : World) (A : Option Addr) (l : List Nd) : Prop where
  cells : 0 < l.length → ∃ b off, A = some ⟨b, off, none⟩ ∧ b < w.heap.size ∧ ∀ i x, l[i]? = some x → NodeAt w b (off + 3 * i) x
theorem NodeAt.below {w w' : World} {b off : Nat} {x : Nd} (h : NodeAt w b off x) (hb : Below w.heap.size w w') (hl : b < w.heap.size) : NodeAt w' b off x := by
  obtain ⟨h1, ⟨A, c, h2, h3, h4, h5, h6⟩, h7⟩ := h
  exact ⟨(hb.cell (p := ⟨b, off, none⟩) hl).trans h1, ⟨A, c, (hb.cell (p := ⟨b, off + 1, none⟩) hl).trans h2, h3, h4, h5, h6.below hb⟩, (hb.cell (p := ⟨b, off + 2, none⟩) hl).trans h7⟩
theorem NodesS.below {w w' : World} {A : Option Addr} {l : List Nd} (h : NodesS w A l) (hb : Below w.heap.size w w') : NodesS w' A l :=
  ⟨fun hn => by
    obtain ⟨b, off, e, hlt, hc⟩ := h.cells hn
    exact ⟨b, off, e, Nat.lt_of_lt_of_le hlt hb.size, fun i x hx => (hc i x hx).below hb hlt⟩⟩
section
variable {H : Type} {enc : TypeId × Value → H} {P : Program} {W : World}
theorem open_bytes {t u : TypeId} {fuel : Nat} {v : Value} {y : DataW H × List MemPlace} (ht : P.underlying t = some (.slice u)) (hu : P.underlying u = some (.int .u8)) (hcu : P.cellsOf u = 1)
    (h : DataW.trod enc P W 0 (fun _ => true) true fuel t [v] = some y) : ∃ (A : Option Addr) (n c : Nat) (f : Nat → Nat), v = .slice A n c ∧ n ≤ maxLen ∧ n ≤ c ∧ (A = none → n = 0 ∧ c = 0) ∧ Sl W A n f := by
  rcases open_ints ht hu hcu h with ⟨hcs, _⟩ | ⟨a, len, cap, zs, hcs, _, hl, hm, hz, _, hcell, hwz⟩
  · simp at hcs
    subst hcs
    exact ⟨none, 0, 0, fun _ => 0, rfl, Nat.zero_le _, Nat.le_refl _, fun _ => ⟨rfl, rfl⟩, fun _ _ => by decide, fun h => absurd h (by omega)⟩
  · simp at hcs
    subst hcs
    simp only [if_true] at hz
    refine ⟨some a, len, cap, fun i => (zs.getD i 0).toNat, rfl, Nat.le_trans hl hm, hl, (fun h => by cases h), fun i _ => ?_, fun hn => ?_⟩
    · have := range_u8 hwz i
      rw [List.getD_eq_getElem?_getD]
      omega
    · obtain ⟨b, off, spot⟩ := a
      have hspot : spot = none := by simpa [Addr.add] using World.cell?_spot (hcell 0 (by omega))
      subst hspot
      have h0 := hcell 0 (by omega)
      refine ⟨b, off, rfl, by simpa [Addr.add] using World.block_lt_of_cell? W _ h0, fun i hi => ?_⟩
      have hi' := hcell i (by omega)
      rw [Addr.add_lit] at hi'
      have := range_u8 hwz i
      rw [← List.getD_eq_getElem?_getD] at this
      rw [hi', Int.toNat_of_nonneg this.1]
theorem open_nodes {t e u : TypeId} {f0 f1 f2 : Field} {v : Value} {d : DataW H} {p : List MemPlace} (ht : P.underlying t = some (.slice e)) (he : P.underlying e = some (.struct #[f0, f1, f2])) (hone : oneCellFields P #[f0, f1, f2] = true) (hC : P.cellsOf e = 3)
    (h0 : P.underlying f0.type = some .bool) (h1 : P.underlying f1.type = some (.slice u)) (hu : P.underlying u = some (.int .u8)) (hcu : P.cellsOf u = 1) (h2 : P.underlying f2.type = some (.int .i64))
    (h : DataW.Trod enc P W 0 (fun _ => true) true t v d p) (hv : v.cells = #[v]) : ∃ (A : Option Addr) (n c : Nat) (l : List Nd), v = .slice A n c ∧ l.length = n ∧ n ≤ maxLen ∧ n ≤ c ∧ (A = none → n = 0 ∧ c = 0) ∧ NodesS W A l ∧ (∀ (i : Nat) (x : Nd), l[i]? = some x → (∀ b ∈ x.by', b < 256) ∧ -9223372036854775808 ≤ x.sz ∧ x.sz ≤ 9223372036854775807) := by
  obtain ⟨fuel, hf⟩ := h
  have hvl : v.cells.toList = [v] := by rw [hv]
  rw [hvl] at hf
  rcases Go.Deep.open_slice ht hf with ⟨hcs, _⟩ | ⟨a, len, cap, m, n, D, Pl, hcs, _, hl, hm, hmm, _, hel⟩
  · simp at hcs
    subst hcs
    exact ⟨none, 0, 0, [], rfl, rfl, Nat.zero_le _, Nat.le_refl _, fun _ => ⟨rfl, rfl⟩, ⟨fun h => by simp at h⟩, fun i x h => by simp at h⟩
  · simp at hcs
    subst hcs
    simp only [if_true] at hmm
    subst hmm
    obtain ⟨b0, s0, spot⟩ := a
    have hsp : 0 < m → spot = none ∧ b0 < W.heap.size := fun h => by
      obtain ⟨cs', hc, _⟩ := hel 0 h
      rw [hC] at hc
      obtain ⟨_, hlen, hat⟩ := World.cells?_some hc
      have a0 := hat 0 (by omega)
      rw [List.getElem?_eq_getElem (by omega)] at a0
      exact ⟨by simpa [Addr.add] using World.cell?_spot a0, by simpa [Addr.add] using World.block_lt_of_cell? W _ a0⟩
    have one : ∀ i, i < m → ∃ x : Nd, NodeAt W b0 (s0 + 3 * i) x ∧ (∀ b ∈ x.by', b < 256) ∧ -9223372036854775808 ≤ x.sz ∧ x.sz ≤ 9223372036854775807 := fun i hi => by
      obtain ⟨rfl, hbl⟩ := hsp (by omega)
      obtain ⟨cs', hc, ht'⟩ := hel i hi
      rw [hC] at hc
      obtain ⟨ys, n', _, _, hlen, hys, hg⟩ := DataW.trod_struct he ht'
      rw [hC] at hlen
      obtain ⟨_, _, hat⟩ := World.cells?_some hc
      obtain ⟨o0, k0⟩ := hone_of hone 0 f0 rfl
      obtain ⟨o1, k1⟩ := hone_of hone 1 f1 rfl
      obtain ⟨o2, k2⟩ := hone_of hone 2 f2 rfl
      have hys3 : ys.length = 3 := hys
      clear hc ht'
      match cs', hlen, hg, hat with
      | [c0, c1, c2], _, hg, hat =>
        have g0 := hg 0 f0 rfl
        have g1 := hg 1 f1 rfl
        have g2 := hg 2 f2 rfl
        rw [o0, k0, List.getElem?_eq_getElem (by omega)] at g0
        rw [o1, k1, List.getElem?_eq_getElem (by omega)] at g1
        rw [o2, k2, List.getElem?_eq_getElem (by omega)] at g2
        have a0 := hat 0 (by omega)
        have a1 := hat 1 (by omega)
        have a2 := hat 2 (by omega)
        rw [Addr.add_lit, Addr.add_lit] at a0 a1 a2
        obtain ⟨bb, e0, _⟩ := DataW.trod_bool h0 g0
        obtain ⟨A, k, c, f, e1, q1, q2, q3, q4⟩ := open_bytes h1 hu hcu g1
        obtain ⟨z, e2, _, wz⟩ := DataW.trod_int h2 g2
        simp at e0 e2
        subst e0 e1 e2
        have hz : -9223372036854775808 ≤ z ∧ z ≤ 9223372036854775807 := by simpa [Lit.wf, IntKind.min, IntKind.max, IntKind.signed, IntKind.bits] using wz
        refine ⟨⟨bb, bf f 0 k, z⟩, ⟨?_, ⟨A, c, ?_, ?_, ?_, ?_, ?_⟩, ?_⟩, fun x hx => ?_, hz.1, hz.2⟩
        · rw [show s0 + 3 * i = s0 + i * 3 + 0 by omega]
          exact a0
        · rw [bf_length, show s0 + 3 * i + 1 = s0 + i * 3 + 1 by omega]
          exact a1
        · rw [bf_length]; exact q2
        · rw [bf_length]; exact q1
        · rw [bf_length]; exact q3
        · rw [bf_length]
          refine ⟨fun j hj => ?_, fun hk => ?_⟩
          · simp only
            rw [bf_get f 0 hj, Nat.zero_add]
            exact q4.small j hj
          · obtain ⟨b, off, e, hb, hcell⟩ := q4.cells hk
            refine ⟨b, off, e, hb, fun j hj => ?_⟩
            simp only
            rw [bf_get f 0 hj, Nat.zero_add]
            exact hcell j hj
        · rw [show s0 + 3 * i + 2 = s0 + i * 3 + 2 by omega]
          exact a2
        · simp [bf] at hx
          obtain ⟨j, hj, rfl⟩ := hx
          exact q4.small j hj
    have hch : ∃ N : Nat → Nd, ∀ i, i < m → NodeAt W b0 (s0 + 3 * i) (N i) ∧ (∀ b ∈ (N i).by', b < 256) ∧ -9223372036854775808 ≤ (N i).sz ∧ (N i).sz ≤ 9223372036854775807 :=
      ⟨fun i => if h : i < m then Classical.choose (one i h) else ⟨false, [], 0⟩, fun i hi => by
        simp only [hi, dif_pos]
        exact Classical.choose_spec (one i hi)⟩
    obtain ⟨N, hN⟩ := hch
    have hget : ∀ (i : Nat) (x : Nd), ((List.range len).map N)[i]? = some x → i < len ∧ x = N i := fun i x hx => by
      have hi : i < len := by have := (List.getElem?_eq_some_iff.1 hx).1; simpa using this
      rw [List.getElem?_map, List.getElem?_range hi] at hx
      exact ⟨hi, (Option.some.inj hx).symm⟩
    refine ⟨some ⟨b0, s0, spot⟩, len, m, (List.range len).map N, rfl, by simp, by omega, hl, (fun h => by cases h), ⟨fun hn => ?_⟩, fun i x hx => ?_⟩
    · have hn' : 0 < len := by simpa using hn
      obtain ⟨rfl, hbl⟩ := hsp (by omega)
      refine ⟨b0, s0, rfl, hbl, fun i x hx => ?_⟩
      obtain ⟨hi, rfl⟩ := hget i x hx
      exact (hN i (by omega)).1
    · obtain ⟨hi, rfl⟩ := hget i x hx
      exact (hN i (by omega)).2
end
end Go.Proofs.YtihefgpicnhdjaaDoor
/- Plain arithmetic: how many bits a number has. -/
namespace Go.Proofs.YtihefgpicnhdjaaDoor.SmWord

/-- How many bits a number has. -/
def bl (x : Nat) : Nat := if x = 0 then 0 else x.log2 + 1
theorem bl_zero : bl 0 = 0 := rfl
theorem bl_eq {x k : Nat} (h1 : 2 ^ k ≤ x) (h2 : x < 2 ^ (k + 1)) : bl x = k + 1 := by
  have hx : x ≠ 0 := by have := Nat.two_pow_pos k; omega
  unfold bl
  rw [if_neg hx, (Nat.log2_eq_iff hx).2 ⟨h1, h2⟩]
theorem bl_spec {x : Nat} (hx : x ≠ 0) : ∃ k, bl x = k + 1 ∧ 2 ^ k ≤ x ∧ x < 2 ^ (k + 1) := by
  obtain ⟨h1, h2⟩ := (Nat.log2_eq_iff hx).1 rfl
  exact ⟨x.log2, by unfold bl; rw [if_neg hx], h1, h2⟩
theorem bl_lib {x : Nat} (h : x < B) : Lib.bitLen x = bl x := by
  by_cases hx : x = 0
  · subst hx; rfl
  · obtain ⟨a, b, c⟩ := Lib.bitLenAux_bounds 64 x (by simp only [B] at h; omega) hx
    have e : Lib.bitLen x = Lib.bitLenAux 64 x := rfl
    rw [← e] at a b c
    generalize Lib.bitLen x = L at *
    obtain ⟨k, rfl⟩ : ∃ k, L = k + 1 := ⟨L - 1, by omega⟩
    exact (bl_eq (by simpa using b) c).symm
theorem bl_up {r y s : Nat} (hr : r < 2 ^ s) (hy : y ≠ 0) : bl (r + 2 ^ s * y) = s + bl y := by
  obtain ⟨k, e, h1, h2⟩ := bl_spec hy
  rw [e, ← Nat.add_assoc]
  have e1 : 2 ^ (s + k) = 2 ^ s * 2 ^ k := Nat.pow_add _ _ _
  have e2 : 2 ^ (s + k + 1) = 2 ^ s * 2 ^ (k + 1) := by rw [Nat.add_assoc, Nat.pow_add]
  refine bl_eq ?_ ?_
  · rw [e1]; exact Nat.le_trans (Nat.mul_le_mul_left _ h1) (Nat.le_add_left _ _)
  · rw [e2]
    have := Nat.mul_le_mul_left (2 ^ s) (show y + 1 ≤ 2 ^ (k + 1) from h2)
    rw [Nat.mul_add] at this
    omega
theorem bl_le {x s : Nat} (h : x < 2 ^ s) : bl x ≤ s := by
  by_cases hx : x = 0
  · subst hx; exact Nat.zero_le _
  · obtain ⟨k, e, h1, _⟩ := bl_spec hx
    have : k < s := (Nat.pow_lt_pow_iff_right (by decide)).1 (Nat.lt_of_le_of_lt h1 h)
    omega
theorem bl_step (m k : Nat) : bl (m % 2 ^ (k + 1)) = if bitN m k = 1 then k + 1 else bl (m % 2 ^ k) := by
  have e : m % 2 ^ (k + 1) = m % 2 ^ k + 2 ^ k * bitN m k := by rw [Nat.pow_succ, Nat.mod_mul]; rfl
  have h := bitN_lt m k
  have hlt : m % 2 ^ k < 2 ^ k := Nat.mod_lt _ (Nat.two_pow_pos k)
  by_cases hb : bitN m k = 1
  · rw [if_pos hb, e, hb, Nat.mul_one]
    exact bl_eq (Nat.le_add_left _ _) (by rw [Nat.pow_succ]; omega)
  · rw [if_neg hb, e, show bitN m k = 0 by omega, Nat.mul_zero, Nat.add_zero]
theorem bl_num {a b c d : Nat} (ha : a < B) (hb : b < B) (hc : c < B) :
    (d ≠ 0 → bl (num a b c d) = 192 + bl d) ∧ (d = 0 → c ≠ 0 → bl (num a b c d) = 128 + bl c) ∧ (d = 0 → c = 0 → b ≠ 0 → bl (num a b c d) = 64 + bl b) ∧
    (d = 0 → c = 0 → b = 0 → bl (num a b c d) = bl a) := by
  refine ⟨fun h => ?_, fun h1 h => ?_, fun h1 h2 h => ?_, fun h1 h2 h3 => ?_⟩
  · rw [← bl_up (r := num a b c 0) (s := 192) (by unfold num; simp only [B] at *; omega) h]
    congr 1
    unfold num; simp only [B]; omega
  · subst h1
    rw [← bl_up (r := num a b 0 0) (s := 128) (by unfold num; simp only [B] at *; omega) h]
    congr 1
    unfold num; simp only [B]; omega
  · subst h1 h2
    rw [← bl_up (r := num a 0 0 0) (s := 64) (by unfold num; simp only [B] at *; omega) h]
    congr 1
  · subst h1 h2 h3
    congr 1
end Go.Proofs.YtihefgpicnhdjaaDoor.SmWord
/- What the functions Bit, Byte, Small, Len and Size of package word do, for every word: a bit, a byte, whether it is small, how many bits and bytes it has; all older memory is as it was. -/
namespace Go.Proofs.YtihefgpicnhdjaaDoor
open Go.RowKit SmWord
set_option maxRecDepth 100000

theorem lb_bit (m n : Nat) : lb m (n / 64) / 2 ^ (n % 64) % 2 = bitN m n := by
  unfold lb bitN
  have h8 : n % 64 < 64 := Nat.mod_lt _ (by decide)
  have hB : B = 2 ^ 64 := rfl
  have e2 : B = 2 ^ (n % 64) * 2 ^ (64 - n % 64) := by rw [← Nat.pow_add, hB]; congr 1; omega
  have e3 : (2 : Nat) ^ (64 - n % 64) = 2 * 2 ^ (63 - n % 64) := by rw [← Nat.pow_succ']; congr 1; omega
  have e4 : B ^ (n / 64) * 2 ^ (n % 64) = 2 ^ n := by rw [hB, ← Nat.pow_mul, ← Nat.pow_add]; congr 1; omega
  conv => lhs; arg 1; arg 1; arg 2; rw [e2]
  rw [Nat.mod_mul_right_div_self, e3, Nat.mod_mul_right_mod, Nat.div_div_eq_div_mul, e4]
theorem lb_lt (m i : Nat) : lb m i < B := Nat.mod_lt _ (by decide)

/-- The byte of a word at a place, the highest first; 0 where there is none. -/
def byteV (m n : Nat) : Nat := if n < 32 then dig m (31 - n) else 0
set_option maxHeartbeats 1000000 in
theorem small_walk (m : Nat) (q : Bool) (w : World) (E : ∀ w : World, (Op.equalIn 10000 55 (.agg (wa m)) (.agg (wa (l0 m)))).run Tryd.prog w = .ok q w) :
    Calls Tryd.prog 55 #[wd m] w fun e w' => e = .returned (.tuple #[.int .u64 (if q then ((l0 m : Nat) : Int) else 0), .bool q]) ∧ Below w.heap.size w w' := by
  have hz := wa_size
  have hl : l0 m < B := (l_lt m).1
  go_enter Tryd.func55, Tryd.ntmps55
  go_wp2_with fail
  have f1 : (w.alloc (.cells (wa m) 55)).heap[w.heap.size]? = some (.cells (wa m) 55) := heap_alloc_new _ _
  have bW : Below w.heap.size w (w.alloc (.cells (wa m) 55)) := (Below.refl _ _).alloc (Nat.le_refl _) _
  generalize w.alloc (.cells (wa m) 55) = W at *
  have g1 := fun g : Ext W => g.word f1
  have fo := fold_wa
  have eg := Tryd.guardW
  cases q
  · refine region_ext (by kernel_rfl) (by kernel_rfl) ?_
    repeat (go_big_quiet_step ((go_at_call 31; with_reducible exact calls_ext (of_wd _ _ hl))))
    refine wpQuiet_nil ?_
    rintro _ ⟨g, rfl⟩
    go_wp2
    go_ret2
    exact ⟨rfl, bW.trans (g.below.mono bW.size)⟩
  · refine region_ext (by kernel_rfl) (by kernel_rfl) ?_
    repeat (go_big_quiet_step ((go_at_call 31; with_reducible exact calls_ext (of_wd _ _ hl))))
    refine wpQuiet_nil ?_
    rintro _ ⟨g, rfl⟩
    obtain ⟨k0, _, _, _⟩ := g1 g
    go_wp2
    go_ret2
    exact ⟨rfl, bW.trans (g.below.mono bW.size)⟩
/-- Is a word below 2^64? -/
def smallB (m : Nat) : Bool := decide (m % M = l0 m % M)
theorem small_wd (m : Nat) (w : World) : Calls Tryd.prog 55 #[wd m] w fun e w' => e = .returned (.tuple #[.int .u64 (if smallB m then ((l0 m : Nat) : Int) else 0), .bool (smallB m)]) ∧ Below w.heap.size w w' :=
  small_walk m _ w fun w => equal_wa m (l0 m) w

theorem len_wd (m : Nat) (w : World) : Calls Tryd.prog 32 #[wd m] w fun e w' => e = .returned (.int .i64 ((bl (m % M) : Nat) : Int)) ∧ Below w.heap.size w w' := by
  obtain ⟨A0, A1, A2, A3⟩ := l_lt m
  obtain ⟨t3, t2, t1, t0⟩ := bl_num (d := l3 m) A0 A1 A2
  rw [num_parts] at t3 t2 t1 t0
  have hb : ∀ x : Nat, x < B → bl x ≤ 64 := fun x hx => bl_le (by simp only [B] at hx; omega)
  have hf : ∀ x : Nat, x ≠ 0 → ((x : Int) != 0) = true := fun x hx => by simp [hx]
  have hg : ∀ x : Nat, x = 0 → ((x : Int) != 0) = false := fun x hx => by simp [hx]
  have hl : ∀ (x : Nat), x < B → ∀ w : World, Calls Tryd.prog 56 #[.int .u64 (x : Int)] w fun e w' => e = .returned (.int .i64 ((bl x : Nat) : Int)) ∧ w = w' := fun x hx w => by
    rw [← bl_lib hx]; exact len64_nat x w hx
  by_cases h3 : l3 m = 0
  · by_cases h2 : l2 m = 0
    · by_cases h1 : l1 m = 0
      · by_cases h0 : l0 m = 0
        · rw [t0 h3 h2 h1, h0]
          exact len_walkZ _ _ _ _ w (hg _ h3) (hg _ h2) (hg _ h1) (hg _ h0)
        · rw [t0 h3 h2 h1, show ((bl (l0 m) : Nat) : Int) = 0 + ((bl (l0 m) : Nat) : Int) by omega]
          exact len_walk0 _ _ _ _ _ w (hg _ h3) (hg _ h2) (hg _ h1) (hf _ h0) (by omega) (by have := hb _ A0; omega) (hl _ A0)
      · rw [t1 h3 h2 h1, show ((64 + bl (l1 m) : Nat) : Int) = 64 + ((bl (l1 m) : Nat) : Int) by omega]
        exact len_walk1 _ _ _ _ _ w (hg _ h3) (hg _ h2) (hf _ h1) (by omega) (by have := hb _ A1; omega) (hl _ A1)
    · rw [t2 h3 h2, show ((128 + bl (l2 m) : Nat) : Int) = 128 + ((bl (l2 m) : Nat) : Int) by omega]
      exact len_walk2 _ _ _ _ _ w (hg _ h3) (hf _ h2) (by omega) (by have := hb _ A2; omega) (hl _ A2)
  · rw [t3 h3, show ((192 + bl (l3 m) : Nat) : Int) = 192 + ((bl (l3 m) : Nat) : Int) by omega]
    exact len_walk3 _ _ _ _ _ w (hf _ h3) (by omega) (by have := hb _ A3; omega) (hl _ A3)

end Go.Proofs.YtihefgpicnhdjaaDoor
/- What the methods Len and Bytes and the function Compare of the document's digits do: how many bits, the bytes with the highest first, and -1, 0 or 1 as the first is less, the same or more. -/
namespace Go.Proofs.YtihefgpicnhdjaaDoor
open Go.RowKit SmWord
set_option maxRecDepth 100000

set_option maxHeartbeats 2000000 in
theorem len_ref (m : Nat) (w : World) : Calls Tryd.prog 62 #[.agg (da m)] w fun e w' => e = .returned (.int .i64 ((bl (m % M) : Nat) : Int)) ∧ Below w.heap.size w w' := by
  have hds : (da m).size = 32 := arr_size _ _ _
  go_enter Tryd.func62, Tryd.ntmps62
  go_wp2_with fail
  clear hds
  have f0 : (w.alloc (.cells (da m) 98)).heap[w.heap.size]? = some (.cells (da m) 98) := heap_alloc_new _ _
  have bW : Below w.heap.size w (w.alloc (.cells (da m) 98)) := (Below.refl _ _).alloc (Nat.le_refl _) _
  generalize w.alloc (.cells (da m) 98) = W at *
  go_loopw [3, 4] (fun n i wr => ∃ k : Nat, k ≤ 256 ∧ i = .int .i64 k ∧ n = .int .i64 ((bl (m % 2 ^ k) : Nat) : Int) ∧ Below w.heap.size w wr ∧ wr.heap[w.heap.size]? = some (.cells (da m) 98)) (fun _ i _ => 256 - (intOf i).toNat)
  case atStart => exact ⟨0, Nat.zero_le _, rfl, by simp [Nat.mod_one, bl_zero], bW, f0⟩
  case round =>
    obtain ⟨k, hk, rfl, rfl, hb, ha⟩ := hrel
    clear f0 bW
    by_cases hlt : k < 256
    · have HS := Lib.hid (bl_step m k)
      have HA := Lib.hid ha
      have HB := Lib.hid hb
      clear ha hb
      have b1 := bitN_lt m k
      have h0 : bitN m k = 0 ∨ bitN m k = 1 := by omega
      have K1 := fun w => bit_mid m k w hlt
      rcases h0 with h0 | h0
      all_goals
        rw [h0] at K1 HS
        clear h0 b1
        go_wp2_with (refine wpList_load_row rfl 98 _ rfl _ rfl 98 (da m) (0, 0) _ HA.out Tryd.underlying98 rfl (infoArr _) ?_)
        refine (K1 _).mono ?_
        rintro e w1 ⟨rfl, b1⟩
        have ha := stay b1 HA.out
        have hb := HB.out.trans (b1.mono HB.out.size)
        have HA := Lib.hid ha
        have HB := Lib.hid hb
        clear ha hb b1 K1
        go_wp2_with fail
        refine ⟨⟨k + 1, by omega, by go_num, ?_, HB.out, HA.out⟩, by simp [intOf]; omega⟩
        rw [HS.out]
        simp
    · obtain rfl : k = 256 := by omega
      rw [← M_2]
      go_wp2_with fail
      go_ret
      exact ⟨rfl, hb⟩

theorem cmp_low (m n k : Nat) : m % 256 ^ (k + 1) = m % 256 ^ k + 256 ^ k * dig m k ∧ n % 256 ^ (k + 1) = n % 256 ^ k + 256 ^ k * dig n k := by
  constructor <;> (rw [Nat.pow_succ, Nat.mod_mul]; rfl)
/-- From the highest digit down: as long as they are the same, what is below decides. -/
theorem cmp_step (m n k : Nat) : (dig m k < dig n k → cmpN (m % 256 ^ (k + 1)) (n % 256 ^ (k + 1)) = -1) ∧ (dig n k < dig m k → cmpN (m % 256 ^ (k + 1)) (n % 256 ^ (k + 1)) = 1) ∧
    (dig m k = dig n k → cmpN (m % 256 ^ (k + 1)) (n % 256 ^ (k + 1)) = cmpN (m % 256 ^ k) (n % 256 ^ k)) := by
  obtain ⟨e1, e2⟩ := cmp_low m n k
  rw [e1, e2]
  have hp : 0 < 256 ^ k := Nat.pow_pos (by decide)
  have h1 : m % 256 ^ k < 256 ^ k := Nat.mod_lt _ hp
  have h2 : n % 256 ^ k < 256 ^ k := Nat.mod_lt _ hp
  generalize m % 256 ^ k = x at *
  generalize n % 256 ^ k = y at *
  generalize 256 ^ k = p at *
  generalize dig m k = a at *
  generalize dig n k = b at *
  have key : ∀ {a b x y : Nat}, x < p → a < b → x + p * a < y + p * b := fun {a b x y} hx hab => by
    have := Nat.mul_le_mul_left p (show a + 1 ≤ b from hab)
    rw [Nat.mul_add] at this
    omega
  unfold cmpN
  refine ⟨fun h => ?_, fun h => ?_, fun h => ?_⟩
  · rw [if_pos (key h1 h)]
  · have := key (y := x) h2 h
    rw [if_neg (by omega), if_pos this]
  · subst h
    (repeat' split) <;> omega

/-- The bytes of n, the highest first. -/
def ya (n : Nat) : Array Value := arr .u8 32 (fun i => ((dig n (31 - i) : Nat) : Int))
def zY : Array Value := arr .u8 32 (fun _ => 0)
theorem Tryd.infoY : (Tryd.prog.info? 41).map (fun i => (i.zero, i.size)) = some (some (.agg zY), 32) := by kernel_rfl
theorem zY_run (w : World) : (zeroValue 41).run Tryd.prog w = .ok (.agg zY) w := (zero_of_info Tryd.infoY).1 w
theorem infoArrY (f : Nat → Int) : (Tryd.prog.info? 41).map (·.size) = some (arr .u8 32 f).size := by rw [arr_size]; exact (zero_of_info Tryd.infoY).2
theorem ya_congr {m n : Nat} (h : m % M = n % M) : ya m = ya n := arr_congr fun _ hi => by rw [dig_congr h (by omega)]
theorem fillH_step (f : Nat → Int) (k : Nat) (hk : k < 32) (v : Int) (hv : v = f (31 - k)) :
    (arr .u8 32 (fun j => if 32 - k ≤ j then f j else 0)).setIfInBounds (31 - k) (.int .u8 v) = arr .u8 32 (fun j => if 32 - (k + 1) ≤ j then f j else 0) := by
  rw [arr_set _ _ _ (by omega)]
  refine arr_congr fun i _ => ?_
  by_cases h1 : i = 31 - k
  · subst h1; rw [if_pos rfl, if_pos (by omega), hv]
  · rw [if_neg h1]
    by_cases h2 : 32 - k ≤ i
    · rw [if_pos h2, if_pos (by omega)]
    · rw [if_neg h2, if_neg (by omega)]
theorem fillH_start (f : Nat → Int) : arr .u8 32 (fun j => if 32 - 0 ≤ j then f j else 0) = zY := arr_congr fun i hi => by rw [if_neg (by omega)]
theorem fillH_end (f : Nat → Int) : arr .u8 32 (fun j => if 32 - 32 ≤ j then f j else 0) = arr .u8 32 f := arr_congr fun i hi => by rw [if_pos (by omega)]
end Go.Proofs.YtihefgpicnhdjaaDoor
/- What the function Bytes of package word does: the bytes of a word, the highest first; all older memory is as it was. -/
namespace Go.Proofs.YtihefgpicnhdjaaDoor
open Go.RowKit SmWord
set_option maxRecDepth 100000
theorem fillY_step (f : Nat → Int) (k : Nat) (hk : k < 32) (v : Int) (hv : v = f k) :
    (arr .u8 32 (fun j => if j < k then f j else 0)).setIfInBounds k (.int .u8 v) = arr .u8 32 (fun j => if j < k + 1 then f j else 0) := by
  rw [arr_set _ _ _ hk]
  refine arr_congr fun i _ => ?_
  by_cases h1 : i = k
  · subst h1; simp [hv]
  · by_cases h2 : i < k
    · simp [h1, h2, show i < k + 1 by omega]
    · simp [h1, h2, show ¬ i < k + 1 by omega]
theorem fillY_start (f : Nat → Int) : arr .u8 32 (fun j => if j < 0 then f j else 0) = zY := arr_congr fun i _ => by simp
theorem fillY_end (f : Nat → Int) : arr .u8 32 (fun j => if j < 32 then f j else 0) = arr .u8 32 f := arr_congr fun i hi => by simp [hi]
end Go.Proofs.YtihefgpicnhdjaaDoor
/- Rows of bytes that a call appends to, at any program with bytes: with one byte, and with a slice of bytes; a slice of bytes as a string; rows of nodes that a call appends to. -/
namespace Go.Proofs.YtihefgpicnhdjaaDoor
open Go.RowKit SmWord
set_option maxRecDepth 100000

theorem Tryd.info8 : (Tryd.prog.info? 5).map (fun i => (i.zero, i.size, i.bytes)) = some (some (.int .u8 0), 1, 1) := by kernel_rfl
theorem Tryd.parts8 : ∃ i, Tryd.prog.info? 5 = some i ∧ i.zero = some (.int .u8 0) ∧ i.size = 1 ∧ i.bytes = 1 := info_parts Tryd.info8
/-- A node without bytes, and no list. -/
def zN : Array Value := #[.bool false, .slice none 0 0, .int .i64 0]
/-- n bytes as a list. -/
def bb (f : Nat → Nat) (n : Nat) : List Value := (List.range n).map fun i => Value.int .u8 ((f i : Nat) : Int)
theorem bb_length (f : Nat → Nat) (n : Nat) : (bb f n).length = n := by simp [bb]
theorem bb_get (f : Nat → Nat) {n i : Nat} (h : i < n) : (bb f n)[i]? = some (.int .u8 ((f i : Nat) : Int)) := by simp [bb, h]
theorem bb_congr {f g : Nat → Nat} {n : Nat} (h : ∀ i, i < n → f i = g i) : bb f n = bb g n := List.map_congr_left fun i hi => by rw [h i (List.mem_range.1 hi)]
/-- A list of bytes. -/
def lb8 (l : List Nat) : List Value := l.map fun x => Value.int .u8 ((x : Nat) : Int)
theorem lb8_length (l : List Nat) : (lb8 l).length = l.length := by simp [lb8]
theorem lb8_app (l m : List Nat) : lb8 (l ++ m) = lb8 l ++ lb8 m := by simp [lb8]
theorem bb_lb8 (f : Nat → Nat) (n : Nat) : bb f n = lb8 (bf f 0 n) := by simp [bb, lb8, bf]
theorem lb8_bb (l : List Nat) : lb8 l = bb (fun i => l.getD i 0) l.length := by rw [bb_lb8, bf_list]
theorem own_val {w : World} {base : Nat} {t : TypeId} {s : Nat} {v : Value} {k : Nat} {xs : List Value} (h : w.ownsRow base t s v k xs) : ∃ A c, v = .slice A k c := by
  rcases h.2 with ⟨rfl, rfl⟩ | ⟨g, cap, cur, rfl, _⟩
  · exact ⟨none, 0, rfl⟩
  · exact ⟨_, _, rfl⟩
/-- A slice of bytes is appended. -/
theorem append_sl {ops : Array Oper} {rest : List Oper} {o : Oper} {a : Act} {w : World} {Q : Exit → Act → World → Prop} (hg : o.guard = none) (s x : Operand)
    (ho : o.op = .call { callee := .builtin .append, args := #[s, x], argTypes := #[22, 22] }) (base : Nat) (v : Value) (k : Nat) (xs : List Value) (hs : a.eval s = v) (hown : w.ownsRow base 5 1 v k xs)
    (A : Option Addr) (n c : Nat) (f : Nat → Nat) (hx : a.eval x = .slice A n c) (hA : A = none → n = 0 ∧ c = 0) (hsl : Sl w A n f) (hk : k + n ≤ 140737488355328) (hbase : base ≤ w.heap.size)
    (h : ∀ v' w', w'.ownsRow base 5 1 v' (k + n) (xs ++ bb f n) → w.grownBy w' v.ownBlock → wpList Tryd.prog ops Q rest (a.put o.dst v') w') : wpList Tryd.prog ops Q (o :: rest) a w := by
  obtain ⟨i0, hi0, hz0, hz1, hz2⟩ := Tryd.parts8
  cases A with
  | none =>
    obtain ⟨rfl, rfl⟩ := hA rfl
    refine wpList_append_own_none hg s x 22 ho base 5 i0 1 Tryd.underlying22 hi0 v k xs hs hown hx (h v w (by simpa [bb] using hown) ⟨rfl, rfl, rfl, Nat.le_refl _, fun _ _ _ => rfl⟩)
  | some ad =>
    refine wpList_append_own_at w hg s x 22 ho base 5 i0 (.int .u8 0) 1 1 Tryd.underlying22 hi0 hz0 hz1 hz2 rfl (by decide) v k xs hs hown ad n c (bb f n) hx (by rw [bb_length, Nat.mul_one]) (fun j u hj => ?_) (fun u hu => ?_) (by unfold maxLen; omega) (by omega) hbase (fun v' w' h1 h2 _ _ => h v' w' h1 h2)
    · have hjn : j < n := by have := (List.getElem?_eq_some_iff.1 hj).1; rwa [bb_length] at this
      obtain ⟨b, off, e, _, hc⟩ := hsl.cells (by omega)
      cases e
      rw [bb_get f hjn] at hj
      cases hj
      have hadd : (⟨b, off, none⟩ : Addr).add j = ⟨b, off + j, none⟩ := by unfold Addr.add; split <;> simp_all
      rw [hadd]
      exact hc j hjn
    · simp [bb] at hu
      obtain ⟨i, _, rfl⟩ := hu
      rfl
/-- A byte is appended. -/
theorem append_one {ops : Array Oper} {rest : List Oper} {o : Oper} {a : Act} {w : World} {Q : Exit → Act → World → Prop} (hg : o.guard = none) (s x : Operand)
    (ho : o.op = .call { callee := .builtin .append, args := #[s, x], argTypes := #[22, 22] }) (base : Nat) (v : Value) (k : Nat) (xs : List Value) (hs : a.eval s = v) (hown : w.ownsRow base 5 1 v k xs)
    (ad : Addr) (u : Int) (hx : a.eval x = .slice (some ad) 1 1) (hnews : ∀ j v, [Value.int .u8 u][j]? = some v → w.cell? (ad.add j) = some v) (hk : k < 140737488355328) (hbase : base ≤ w.heap.size)
    (h : ∀ v' w', w'.ownsRow base 5 1 v' (k + 1) (xs ++ [.int .u8 u]) → w.grownBy w' v.ownBlock → wpList Tryd.prog ops Q rest (a.put o.dst v') w') : wpList Tryd.prog ops Q (o :: rest) a w := by
  obtain ⟨i0, hi0, hz0, hz1, hz2⟩ := Tryd.parts8
  refine wpList_append_own_at w hg s x 22 ho base 5 i0 (.int .u8 0) 1 1 Tryd.underlying22 hi0 hz0 hz1 hz2 rfl (by decide) v k xs hs hown ad 1 1 [.int .u8 u] hx rfl hnews (fun v hv => ?_) (by unfold maxLen; omega) (by omega) hbase (fun v' w' h1 h2 _ _ => h v' w' h1 h2)
  simp at hv
  subst hv
  rfl
theorem own_sl {w : World} {base : Nat} {v : Value} {k : Nat} {f : Nat → Nat} (h : w.ownsRow base 5 1 v k (bb f k)) (hf : ∀ i, i < k → f i < 256) : ∃ A c, v = .slice A k c ∧ k ≤ c ∧ (A = none → k = 0 ∧ c = 0) ∧ Sl w A k f := by
  rcases h.2 with ⟨rfl, rfl⟩ | ⟨g, cap, cur, rfl, hb, hg, h1, h2, h3, h4⟩
  · exact ⟨none, 0, rfl, Nat.le_refl _, fun _ => ⟨rfl, rfl⟩, hf, fun h => by omega⟩
  · refine ⟨_, cap, rfl, h1, (fun e => by cases e), hf, fun h => ⟨g, 0, rfl, (Array.getElem?_eq_some_iff.1 hg).1, fun i hi => ?_⟩⟩
    rw [Nat.zero_add]
    refine blk_cell hg ?_
    have e : cur.toList[i]? = (cur.toList.take (k * 1))[i]? := by rw [List.getElem?_take_of_lt (by omega)]
    rw [← Array.getElem?_toList, e, h4, bb_get f hi]
def str (l : List UInt8) : ByteArray := ⟨l.toArray⟩
theorem str_size (l : List UInt8) : (str l).size = l.length := by simp [str, ByteArray.size]
theorem str_get (l : List UInt8) {i : Nat} (hi : i < (str l).size) : (str l)[i].toNat = (l.getD i 0).toNat := by
  have h : i < l.length := by rw [← str_size]; exact hi
  rw [List.getD, List.getElem?_eq_getElem h]
  rfl
/-- The signs of these bytes. -/
def bs (f : Nat → Nat) (n : Nat) : List UInt8 := (List.range n).map fun i => UInt8.ofNat (f i)
theorem bs_length (f : Nat → Nat) (n : Nat) : (bs f n).length = n := by simp [bs]
theorem bs_congr {f g : Nat → Nat} {n : Nat} (h : ∀ i, i < n → f i = g i) : bs f n = bs g n := by
  unfold bs
  exact List.map_congr_left fun i hi => by rw [h i (List.mem_range.1 hi)]
theorem conv_list (w : World) (b off c : Nat) (l : List UInt8) (h : ∀ i, i < l.length → w.cell? ⟨b, off + i, none⟩ = some (.int .u8 (((l.getD i 0).toNat : Nat) : Int))) :
    (convert 22 9 (.slice (some ⟨b, off, none⟩) l.length c)).run Tryd.prog w = .ok (.string (str l)) w := by
  have hb : Lib.Bytes w b off (str l) := fun i hi => by
    rw [h i (by rw [← str_size]; exact hi), str_get l hi]
  have := Lib.run_convert_whole (P := Tryd.prog) w 22 5 9 Tryd.underlying22 Tryd.underlying5 Tryd.underlying9 b off (str l) hb c
  rwa [str_size] at this
theorem conv_sl {w : World} {A : Option Addr} {n c : Nat} {f : Nat → Nat} (h : Sl w A n f) :
    (convert 22 9 (.slice A n c)).run Tryd.prog w = .ok (.string (str (bs f n))) w := by
  by_cases hn : 0 < n
  · obtain ⟨b, off, rfl, _, hc⟩ := h.cells hn
    have := conv_list w b off c (bs f n) (fun i hi => by
      rw [bs_length] at hi
      rw [hc i hi]
      have e : (bs f n).getD i 0 = UInt8.ofNat (f i) := by simp [bs, List.getD, hi]
      rw [e]
      have := h.small i hi
      simp
      omega)
    rwa [bs_length] at this
  · obtain rfl : n = 0 := by omega
    cases A with
    | none => exact run_convert_bytes_nil (P := Tryd.prog) w 22 5 Tryd.underlying22 Tryd.underlying5 0 c 9 Tryd.underlying9
    | some a =>
      rw [run_convert_bytes_string w 22 9 5 (some a) 0 c Tryd.underlying22 Tryd.underlying5 Tryd.underlying9]
      exact run_bytesToString (P := Tryd.prog) w a 0 c [] (by kernel_rfl)
end Go.Proofs.YtihefgpicnhdjaaDoor
