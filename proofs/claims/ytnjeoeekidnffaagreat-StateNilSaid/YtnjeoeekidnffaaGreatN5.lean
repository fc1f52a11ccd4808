/- What the functions Shl and Shr of package word do, for every word and every number of bits: they return the word times 2^n, going round, and divided by 2^n, cut down, and leave all older memory as it was. -/
import Derived.Test.YtnjeoeekidnffaaGreatN4
import Derived.Test.YtnjeoeekidnffaaGreatN2
import Derived.Deep.LoopGhost
namespace Go.Proofs.YtnjeoeekidnffaaGreat
open Go.RowKit SmWord
set_option maxRecDepth 100000

end Go.Proofs.YtnjeoeekidnffaaGreat
/- What the functions Shl and Shr of package word do, in numbers: for every word m and every n, Shl returns m * 2^n (going round) and Shr returns m / 2^n, and all older memory is as it was. -/
namespace Go.Proofs.YtnjeoeekidnffaaGreat
open Go.RowKit SmWord
set_option maxRecDepth 100000

theorem int_mul_pow (a r : Nat) : (a : Int) * 2 ^ r = ((a * 2 ^ r : Nat) : Int) := by
  rw [Int.natCast_mul, Int.natCast_pow]; rfl
theorem int_div_pow (a r : Nat) : (a : Int) / 2 ^ r = ((a / 2 ^ r : Nat) : Int) := by
  rw [Int.natCast_ediv, Int.natCast_pow]; rfl
theorem slo_int (a r : Nat) : IntKind.u64.wrap ((a : Int) * 2 ^ ((r : Nat) : Int).toNat) = ((slo a r : Nat) : Int) := by
  rw [Int.toNat_natCast, int_mul_pow, IntKind.wrap_u64]; unfold slo; simp only [B]; omega
theorem shi_int (a r : Nat) (hr : r < 64) : (a : Int) / 2 ^ (64 - ((r : Nat) : Int)).toNat = ((shi a r : Nat) : Int) := by
  rw [show (64 - ((r : Nat) : Int)).toNat = 64 - r by omega, int_div_pow]; rfl
theorem shl_cell (a b r : Nat) (hb : b < B) (hr : r < 64) :
    bits .or .u64 (IntKind.u64.wrap ((a : Int) * 2 ^ ((r : Nat) : Int).toNat)) ((b : Int) / 2 ^ (64 - ((r : Nat) : Int)).toNat) = ((slo a r + shi b r : Nat) : Int) := by
  have h := shl_or (a := a) hb (r := r) (by omega)
  have hs : shi b r < B := by omega
  rw [slo_int, shi_int b r hr, u64_or_nat _ _ (slo_lt a r) hs, h.1]

theorem shr_cell (a b r : Nat) (ha : a < B) (hr : r < 64) :
    bits .or .u64 ((a : Int) / 2 ^ ((r : Nat) : Int).toNat) (IntKind.u64.wrap ((b : Int) * 2 ^ (64 - ((r : Nat) : Int)).toNat)) = ((down a b r : Nat) : Int) := by
  have h := down_or (b := b) ha (r := r) (by omega)
  have e : IntKind.u64.wrap ((b : Int) * 2 ^ (64 - ((r : Nat) : Int)).toNat) = ((b * 2 ^ (64 - r) % B : Nat) : Int) := by
    rw [show (64 - ((r : Nat) : Int)).toNat = 64 - r by omega, int_mul_pow, IntKind.wrap_u64]; simp only [B]; omega
  rw [e, Int.toNat_natCast, int_div_pow, u64_or_nat _ _ (Nat.lt_of_le_of_lt (Nat.div_le_self _ _) ha) (Nat.mod_lt _ (by decide)), h.1]
theorem shr_last (a r : Nat) : (a : Int) / 2 ^ ((r : Nat) : Int).toNat = ((down a 0 r : Nat) : Int) := by
  rw [Int.toNat_natCast, int_div_pow]; unfold down; rw [Nat.zero_mod, Nat.zero_mul, Nat.add_zero]
theorem down_zero (r : Nat) : down 0 0 r = 0 := by unfold down; simp

end Go.Proofs.YtnjeoeekidnffaaGreat
/- The chapter's examples, as the function fixed of the statements puts them together: it returns true, and leaves all older memory as it was. -/
namespace Go.Proofs.YtnjeoeekidnffaaGreat
open Go.RowKit SmWord
set_option maxRecDepth 100000

theorem Tryz.infoW : (Tryz.prog.info? 44).map (·.size) = some 4 := by kernel_rfl
theorem store_new (w : World) (m : Nat) : (storeCells ⟨w.heap.size, 0, none⟩ (wa m).toList 0).run Tryz.prog (w.alloc (.cells #[.int .u64 0, .int .u64 0, .int .u64 0, .int .u64 0] 44)) = .ok () (w.alloc (.cells (wa m) 44)) :=
  run_storeCells_new (P := Tryz.prog) w 44 _ (wa m) Tryz.infoW rfl (by simp [wa, Value.oneCell'])

def kAll : Nat := M - 1
def k255 : Nat := 1 * 2 ^ 255
def k256 : Nat := k255 * 2
def k63 : Nat := B % M / 2 ^ 1
def kNot : Nat := M - 1 - 0 % M
theorem fx_e1 (w : World) : (Op.equalIn 10000 44 (.agg (wa kAll)) (.agg (wa kNot))).run Tryz.prog w = .ok true w := by
  rw [equal_wa, decide_eq_true (by decide)]
theorem fx_e2 (w : World) : (Op.equalIn 10000 44 (.agg (wa k256)) (.agg #[.int .u64 0, .int .u64 0, .int .u64 0, .int .u64 0])).run Tryz.prog w = .ok true w := by
  have := equal_wa k256 0 w
  rw [decide_eq_true (by decide)] at this
  exact this
theorem fx_e3 (w : World) : (Op.equalIn 10000 44 (.agg (wa k63)) (.agg (wa 9223372036854775808))).run Tryz.prog w = .ok true w := by
  rw [equal_wa, decide_eq_true (by decide)]

theorem fold_wa (n : Nat) : #[Value.int .u64 ((l0 n : Nat) : Int), .int .u64 ((l1 n : Nat) : Int), .int .u64 ((l2 n : Nat) : Int), .int .u64 ((l3 n : Nat) : Int)] = wa n := rfl
/-- The four cells of a word that lies, wherever the world has come to. -/
theorem Ext.word {w : World} (g : Ext w) {b m : Nat} {t : TypeId} {fr : Nat × Nat} (hb : w.heap[b]? = some (.cells (wa m) t fr)) :
    g.on.cell? ⟨b, 0, none⟩ = some (.int .u64 ((l0 m : Nat) : Int)) ∧ g.on.cell? ⟨b, 1, none⟩ = some (.int .u64 ((l1 m : Nat) : Int)) ∧
    g.on.cell? ⟨b, 2, none⟩ = some (.int .u64 ((l2 m : Nat) : Int)) ∧ g.on.cell? ⟨b, 3, none⟩ = some (.int .u64 ((l3 m : Nat) : Int)) := by
  have h := g.block hb
  exact ⟨cell_of_row _ _ 0 _ _ _ h, cell_of_row _ _ 1 _ _ _ h, cell_of_row _ _ 2 _ _ _ h, cell_of_row _ _ 3 _ _ _ h⟩

/-- A block that lies stays, whatever is made behind it. -/
theorem Below.stays {w w' : World} (h : Below w.heap.size w w') {b : Nat} {o : Obj} (hb : w.heap[b]? = some o) : w'.heap[b]? = some o := by
  rw [h.block b (Array.getElem?_eq_some_iff.1 hb).1, hb]

end Go.Proofs.YtnjeoeekidnffaaGreat
/- What the functions Of, Word, Add, Neg and Sub of the document's own answers do, for every number: its digits, the word of digits, sums and differences of digits, going round; all older memory is as it was. -/
namespace Go.Proofs.YtnjeoeekidnffaaGreat
open Go.RowKit SmWord
set_option maxRecDepth 100000

/-- The digits of n. -/
def da (n : Nat) : Array Value := arr .i64 32 (fun i => ((dig n i : Nat) : Int))
def zD : Array Value := arr .i64 32 (fun _ => 0)
theorem zD_run (w : World) : (zeroValue 148).run Tryz.prog w = .ok (.agg zD) w := by rw [Tryz.zeroValue148]; rfl
theorem Tryz.infoD : (Tryz.prog.info? 148).map (·.size) = some 32 := by kernel_rfl
theorem infoArr (f : Nat → Int) : (Tryz.prog.info? 148).map (·.size) = some (arr .i64 32 f).size := by rw [arr_size]; exact Tryz.infoD
theorem da_congr {m n : Nat} (h : m % M = n % M) : da m = da n := arr_congr fun _ hi => by rw [dig_congr h hi]
theorem wa_lb (n i : Nat) (hi : i < 4) : (wa n)[i]? = some (.int .u64 ((lb n i : Nat) : Int)) := by
  have : i = 0 ∨ i = 1 ∨ i = 2 ∨ i = 3 := by omega
  unfold lb
  rcases this with rfl | rfl | rfl | rfl
  · simp [wa, l0]
  · simp [wa, l1]
  · simp [wa, l2, Nat.div_div_eq_div_mul, Nat.pow_succ]
  · simp [wa, l3, Nat.div_div_eq_div_mul, Nat.pow_succ, Nat.mul_assoc]
theorem dig_of (m k : Nat) : wrap64 ((((lb m (k / 8) : Nat) : Int) / 2 ^ (8 * (k % 8))).tmod 256) = ((dig m k : Nat) : Int) := by
  have e : ((lb m (k / 8) : Nat) : Int) / 2 ^ (8 * (k % 8)) = ((lb m (k / 8) / 2 ^ (8 * (k % 8)) : Nat) : Int) := by
    rw [Int.natCast_ediv, Int.natCast_pow]; rfl
  have h := lb_dig m k
  have h2 := dig_lt m k
  rw [e, Int.tmod_eq_emod_of_nonneg (Int.natCast_nonneg _)]
  have e2 : ((lb m (k / 8) / 2 ^ (8 * (k % 8)) : Nat) : Int) % 256 = ((dig m k : Nat) : Int) := by rw [← h]; rfl
  rw [e2]
  exact IntWalk.wrap64_in _ ⟨by omega, by omega⟩
theorem fill_step (f : Nat → Int) (k : Nat) (hk : k < 32) (v : Int) (hv : v = f k) :
    (arr .i64 32 (fun j => if j < k then f j else 0)).setIfInBounds k (.int .i64 v) = arr .i64 32 (fun j => if j < k + 1 then f j else 0) := by
  rw [arr_set _ _ _ hk]
  refine arr_congr fun i _ => ?_
  by_cases h1 : i = k
  · subst h1; simp [hv]
  · by_cases h2 : i < k
    · simp [h1, h2, show i < k + 1 by omega]
    · simp [h1, h2, show ¬ i < k + 1 by omega]
theorem fill_start (f : Nat → Int) : arr .i64 32 (fun j => if j < 0 then f j else 0) = zD := arr_congr fun i _ => by simp
theorem fill_end (f : Nat → Int) : arr .i64 32 (fun j => if j < 32 then f j else 0) = arr .i64 32 f := arr_congr fun i hi => by simp [hi]

set_option maxHeartbeats 1000000 in
theorem of_ref (m : Nat) (w : World) : Calls Tryz.prog 86 #[wd m] w fun e w' => e = .returned (.agg (da m)) ∧ Below w.heap.size w w' := by
  go_enter Tryz.func86, Tryz.ntmps86
  go_wp2_with (first | (refine wpList_alloc_row rfl 148 rfl zD zD_run ?_) | (refine wpList_build_zero rfl 148 rfl Tryz.underlying148 Tryz.sizeOf3 zD zD_run ?_) | (refine wpList_store_row rfl 148 _ _ rfl _ zD zD rfl rfl (heap_alloc_new _ _) (infoArr _) rfl (arr_one _ _ _) ?_))
  have f0 : ((((w.alloc (.cells (wa m) 44)).alloc (.cells zD 148)).alloc (.cells zD 148)).setRow (w.heap.size + 1 + 1) zD).heap[w.heap.size]? = some (.cells (wa m) 44) := blk_row_other (blk_alloc (blk_alloc (by have := heap_alloc_new w (.cells (wa m) 44); simpa using this))) (by omega)
  have f1 : ((((w.alloc (.cells (wa m) 44)).alloc (.cells zD 148)).alloc (.cells zD 148)).setRow (w.heap.size + 1 + 1) zD).heap[w.heap.size + 1]? = some (.cells zD 148) := blk_row_other (blk_alloc (by have := heap_alloc_new (w.alloc (.cells (wa m) 44)) (.cells zD 148); simpa using this)) (by omega)
  have f2 : ((((w.alloc (.cells (wa m) 44)).alloc (.cells zD 148)).alloc (.cells zD 148)).setRow (w.heap.size + 1 + 1) zD).heap[w.heap.size + 1 + 1]? = some (.cells zD 148) := blk_row (by have := heap_alloc_new ((w.alloc (.cells (wa m) 44)).alloc (.cells zD 148)) (.cells zD 148); simpa using this)
  have bW : Below w.heap.size w ((((w.alloc (.cells (wa m) 44)).alloc (.cells zD 148)).alloc (.cells zD 148)).setRow (w.heap.size + 1 + 1) zD) := below_setRow ((((Below.refl _ _).alloc (by simp; try omega) _).alloc (by simp; try omega) _).alloc (by simp; try omega) _) (by omega) _
  generalize ((((w.alloc (.cells (wa m) 44)).alloc (.cells zD 148)).alloc (.cells zD 148)).setRow (w.heap.size + 1 + 1) zD) = W at *
  go_loopw [4] (fun i wr => ∃ k : Nat, k ≤ 32 ∧ i = .int .i64 k ∧ Below w.heap.size w wr ∧ wr.heap[w.heap.size]? = some (.cells (wa m) 44) ∧ wr.heap[w.heap.size + 1]? = some (.cells zD 148) ∧
      wr.heap[w.heap.size + 1 + 1]? = some (.cells (arr .i64 32 (fun j => if j < k then ((dig m j : Nat) : Int) else 0)) 148)) (fun i _ => 32 - (intOf i).toNat)
  case atStart => exact ⟨0, Nat.zero_le _, rfl, bW, f0, f1, by rw [fill_start]; exact f2⟩
  case round =>
    obtain ⟨k, hk, rfl, hb, ha, hr, hd⟩ := hrel
    clear f0 f1 f2 bW
    by_cases hlt : k < 32
    · have c1 := blk_cell ha (wa_lb m (k / 8) (by omega))
      have c2 := blk_cell hd (arr_get .i64 _ hlt)
      have c3 := blk_frozen (j := k) hd
      have HA := Lib.hid ha
      have HR := Lib.hid hr
      have HD := Lib.hid hd
      have HB := Lib.hid hb
      clear ha hr hd hb
      have q1 : k / 8 < 4 := by omega
      go_wp2_with fail
      rw [dig_of]
      refine ⟨⟨k + 1, by omega, by go_num, HB.out.setCell (by simp; omega) _, blk_other HA.out (by omega) _, blk_other HR.out (by omega) _, ?_⟩, by simp [intOf]; omega⟩
      rw [← fill_step (fun j => ((dig m j : Nat) : Int)) k hlt _ rfl]
      exact blk_set HD.out _
    · obtain rfl : k = 32 := by omega
      rw [fill_end] at hd
      have HB := Lib.hid hb
      clear hb
      go_wp2_with (first | (refine wpList_load_row rfl 148 _ rfl _ rfl 148 (da m) (0, 0) _ hd Tryz.underlying148 rfl (infoArr _) ?_) | (refine wpList_store_row rfl 148 _ _ rfl _ zD (da m) rfl rfl hr (infoArr _) rfl (arr_one _ _ _) ?_))
      refine bodyPost_ret (v := .agg (da m)) (results_cell_row rfl _ _ _ 148 (da m) (0, 0) _ rfl (blk_row hr) Tryz.underlying148 rfl (infoArr _)) rfl ⟨rfl, below_setRow HB.out (by omega) _⟩
end Go.Proofs.YtnjeoeekidnffaaGreat
/- Plain arithmetic on the bits of digits. -/
namespace Go.Proofs.YtnjeoeekidnffaaGreat.SmWord

def bitN (n i : Nat) : Nat := n / 2 ^ i % 2
theorem bitN_lt (n i : Nat) : bitN n i < 2 := Nat.mod_lt _ (by decide)
theorem dig_bit (n k : Nat) : dig n (k / 8) / 2 ^ (k % 8) % 2 = bitN n k := by
  unfold dig bitN
  have h8 : k % 8 < 8 := Nat.mod_lt _ (by decide)
  have e2 : 256 = 2 ^ (k % 8) * 2 ^ (8 - k % 8) := by rw [← Nat.pow_add, show k % 8 + (8 - k % 8) = 8 by omega]
  have e3 : (2 : Nat) ^ (8 - k % 8) = 2 * 2 ^ (7 - k % 8) := by rw [← Nat.pow_succ']; congr 1; omega
  have e4 : 256 ^ (k / 8) * 2 ^ (k % 8) = 2 ^ k := by rw [show (256 : Nat) = 2 ^ 8 from rfl, ← Nat.pow_mul, ← Nat.pow_add]; congr 1; omega
  conv => lhs; arg 1; arg 1; arg 2; rw [e2]
  rw [Nat.mod_mul_right_div_self, e3, Nat.mod_mul_right_mod, Nat.div_div_eq_div_mul, e4]
theorem M_2 : M = 2 ^ 256 := by decide
theorem bit_congr {m n : Nat} (h : m % M = n % M) {i : Nat} (hi : i < 256) : bitN m i = bitN n i := by
  have k : ∀ x : Nat, bitN (x % M) i = bitN x i := fun x => by
    unfold bitN
    have e : M = 2 ^ i * (2 * 2 ^ (255 - i)) := by rw [← Nat.pow_succ', ← Nat.pow_add, M_2]; congr 1; omega
    rw [e, Nat.mod_mul_right_div_self, Nat.mod_mul_right_mod]
  rw [← k m, ← k n, h]
theorem bitN_high {n i : Nat} (h : n < M) (hi : 256 ≤ i) : bitN n i = 0 := by
  unfold bitN
  rw [Nat.div_eq_of_lt (Nat.lt_of_lt_of_le h (by rw [M_2]; exact Nat.pow_le_pow_right (by decide) hi))]
theorem bitN_test (n i : Nat) : (bitN n i = 1) = (n.testBit i = true) := by
  unfold bitN
  rw [Nat.testBit_eq_decide_div_mod_eq]; simp
theorem bit_up (x s i : Nat) (h : s ≤ i) : bitN (x * 2 ^ s) i = bitN x (i - s) := by
  unfold bitN
  have e : 2 ^ i = 2 ^ (i - s) * 2 ^ s := by rw [← Nat.pow_add]; congr 1; omega
  rw [e, Nat.mul_div_mul_right _ _ (Nat.two_pow_pos s)]
theorem bit_up_low (x s i : Nat) (h : i < s) : bitN (x * 2 ^ s) i = 0 := by
  unfold bitN
  have e : x * 2 ^ s = 2 ^ i * (2 * (x * 2 ^ (s - i - 1))) := by
    have : 2 ^ s = 2 ^ i * (2 * 2 ^ (s - i - 1)) := by rw [← Nat.pow_succ', ← Nat.pow_add]; congr 1; omega
    rw [this]; generalize 2 ^ i = p; generalize 2 ^ (s - i - 1) = q; grind
  rw [e, Nat.mul_div_cancel_left _ (Nat.two_pow_pos i), Nat.mul_mod_right]
theorem bit_down (x s i : Nat) : bitN (x / 2 ^ s) i = bitN x (i + s) := by
  unfold bitN
  rw [Nat.div_div_eq_div_mul, ← Nat.pow_add, Nat.add_comm s i]

/-! Digits out of bits, from the highest on. -/
def accB (m k q : Nat) : Nat := if k ≤ 8 * q then dig m q else if 8 * q + 8 ≤ k then 0 else m / 2 ^ k % 2 ^ (8 * q + 8 - k)
theorem accB_zero (m q : Nat) : accB m 0 q = dig m q := by simp [accB]
theorem accB_end (m q : Nat) (hq : q < 32) : accB m 256 q = 0 := by
  unfold accB; rw [if_neg (by omega), if_pos (by omega)]
theorem accB_other (m k q : Nat) (h : k / 8 ≠ q) : accB m (k + 1) q = accB m k q := by
  unfold accB
  by_cases h1 : k + 1 ≤ 8 * q
  · rw [if_pos h1, if_pos (by omega)]
  · rw [if_neg h1]
    by_cases h2 : k ≤ 8 * q
    · omega
    · rw [if_neg h2, if_pos (by omega), if_pos (by omega)]
theorem accB_step (m k : Nat) : accB m (k + 1) (k / 8) * 2 + bitN m k = accB m k (k / 8) ∧ accB m k (k / 8) < 256 := by
  have key : ∀ x N : Nat, x / 2 % N * 2 + x % 2 = x % (2 * N) := fun x N => by
    rw [Nat.mod_mul]; omega
  have e0 : accB m k (k / 8) = m / 2 ^ k % 2 ^ (8 * (k / 8) + 8 - k) := by
    unfold accB
    by_cases h : k ≤ 8 * (k / 8)
    · have hk : k = 8 * (k / 8) := by omega
      rw [if_pos h]
      unfold dig
      have e1 : 256 ^ (k / 8) = 2 ^ k := by rw [show (256 : Nat) = 2 ^ 8 from rfl, ← Nat.pow_mul, ← hk]
      rw [e1, show 8 * (k / 8) + 8 - k = 8 by omega]
    · rw [if_neg h, if_neg (by omega)]
  have e1 : accB m (k + 1) (k / 8) = m / 2 ^ (k + 1) % 2 ^ (8 * (k / 8) + 8 - (k + 1)) := by
    unfold accB
    rw [if_neg (by omega)]
    by_cases h : 8 * (k / 8) + 8 ≤ k + 1
    · rw [if_pos h, show 8 * (k / 8) + 8 - (k + 1) = 0 by omega, Nat.pow_zero, Nat.mod_one]
    · rw [if_neg h]
  refine ⟨?_, ?_⟩
  · rw [e0, e1, Nat.pow_succ, ← Nat.div_div_eq_div_mul]
    unfold bitN
    rw [key, ← Nat.pow_succ']
    congr 2
    omega
  · rw [e0]
    refine Nat.lt_of_lt_of_le (Nat.mod_lt _ (Nat.two_pow_pos _)) ?_
    rw [show (256 : Nat) = 2 ^ 8 from rfl]
    exact Nat.pow_le_pow_right (by decide) (by omega)
end Go.Proofs.YtnjeoeekidnffaaGreat.SmWord
