/- What the method Bit and the function Bits of the document's digits do: a bit of a number, and the digits of the number whose bits these are. -/
import Derived.Test.YtdpbjdecbilaeaaG3
import Derived.Test.YtdpbjdecbilaeaaG0
import Derived.Test.YtdpbjdecbilaeaaG4
import Derived.Deep.LoopGhost
namespace Go.Proofs.Ytdpbjdecbilaeaa
open Go.RowKit SmWord
set_option maxRecDepth 100000

/-- A bit of n; 0 where there is none. -/
def bitI (n : Nat) (i : Int) : Int := if i < 0 ∨ 255 < i then 0 else ((bitN n i.toNat : Nat) : Int)
end Go.Proofs.Ytdpbjdecbilaeaa
/- What the function Bits of the document's digits does: the digits of the number whose bits these are. -/
namespace Go.Proofs.Ytdpbjdecbilaeaa
open Go.RowKit SmWord
set_option maxRecDepth 100000

/-- The bits of n. -/
def ba (n : Nat) : Array Value := arr .i64 256 (fun i => ((bitN n i : Nat) : Int))
def zB : Array Value := arr .i64 256 (fun _ => 0)
theorem ba_congr {m n : Nat} (h : m % M = n % M) : ba m = ba n := arr_congr fun _ hi => by rw [bit_congr h hi]
theorem accB_start (m : Nat) : arr .i64 32 (fun q => ((accB m 256 q : Nat) : Int)) = zD := arr_congr fun q hq => by rw [accB_end m q hq]; rfl
theorem accB_last (m : Nat) : arr .i64 32 (fun q => ((accB m 0 q : Nat) : Int)) = da m := arr_congr fun q _ => by rw [accB_zero]
theorem accB_val (m j : Nat) : ((accB m (j + 1) (j / 8) : Nat) : Int) * 2 + ((bitN m j : Nat) : Int) = ((accB m j (j / 8) : Nat) : Int) := by
  obtain ⟨h1, _⟩ := accB_step m j
  omega
theorem accB_put (m j : Nat) (hj : j / 8 < 32) : (arr .i64 32 (fun q => ((accB m (j + 1) q : Nat) : Int))).setIfInBounds (j / 8) (.int .i64 ((accB m j (j / 8) : Nat) : Int)) = arr .i64 32 (fun q => ((accB m j q : Nat) : Int)) := by
  rw [arr_set _ _ _ hj]
  refine arr_congr fun q _ => ?_
  by_cases h : q = j / 8
  · subst h; simp
  · rw [if_neg h, accB_other m j q (fun e => h e.symm)]
end Go.Proofs.Ytdpbjdecbilaeaa
/- What the function Shift of the document's digits does: the digits of the number whose bits stand so many places up, or down. -/
namespace Go.Proofs.Ytdpbjdecbilaeaa
open Go.RowKit SmWord
set_option maxRecDepth 100000

theorem stay {w w' : World} (h : Below w.heap.size w w') {b : Nat} {o : Obj} (hb : w.heap[b]? = some o) : w'.heap[b]? = some o := Ext.block ⟨w', h⟩ hb
theorem fillB_step (f : Nat → Int) (k : Nat) (hk : k < 256) (v : Int) (hv : v = f k) :
    (arr .i64 256 (fun j => if j < k then f j else 0)).setIfInBounds k (.int .i64 v) = arr .i64 256 (fun j => if j < k + 1 then f j else 0) := by
  rw [arr_set _ _ _ hk]
  refine arr_congr fun i _ => ?_
  by_cases h1 : i = k
  · subst h1; simp [hv]
  · by_cases h2 : i < k
    · simp [h1, h2, show i < k + 1 by omega]
    · simp [h1, h2, show ¬ i < k + 1 by omega]
theorem fillB_start (f : Nat → Int) : arr .i64 256 (fun j => if j < 0 then f j else 0) = zB := arr_congr fun i _ => by simp
theorem fillB_end (f : Nat → Int) : arr .i64 256 (fun j => if j < 256 then f j else 0) = arr .i64 256 f := arr_congr fun i hi => by simp [hi]
end Go.Proofs.Ytdpbjdecbilaeaa
/- What the methods Len and Bytes and the function Compare of the document's digits do: how many bits, the bytes with the highest first, and -1, 0 or 1 as the first is less, the same or more. -/
namespace Go.Proofs.Ytdpbjdecbilaeaa
open Go.RowKit SmWord
set_option maxRecDepth 100000

theorem cmp_low (m n k : Nat) : m % 256 ^ (k + 1) = m % 256 ^ k + 256 ^ k * dig m k ∧ n % 256 ^ (k + 1) = n % 256 ^ k + 256 ^ k * dig n k := by
  constructor <;> (rw [Nat.pow_succ, Nat.mod_mul]; rfl)
/-- From the highest digit down: as long as they are the same, what is below decides. -/
theorem cmp_step (m n k : Nat) : (dig m k < dig n k → cmpN (m % 256 ^ (k + 1)) (n % 256 ^ (k + 1)) = -1) ∧ (dig n k < dig m k → cmpN (m % 256 ^ (k + 1)) (n % 256 ^ (k + 1)) = 1) ∧
    (dig m k = dig n k → cmpN (m % 256 ^ (k + 1)) (n % 256 ^ (k + 1)) = cmpN (m % 256 ^ k) (n % 256 ^ k)) := by
  obtain ⟨e1, e2⟩ := cmp_low m n k
  rw [e1, e2]
  have hp : 0 < 256 ^ k := Nat.pow_pos (by decide)
  have h1 : m % 256 ^ k < 256 ^ k := Nat.mod_lt _ hp
  have h2 : n % 256 ^ k < 256 ^ k := Nat.mod_lt _ hp
  generalize m % 256 ^ k = x at *
  generalize n % 256 ^ k = y at *
  generalize 256 ^ k = p at *
  generalize dig m k = a at *
  generalize dig n k = b at *
  have key : ∀ {a b x y : Nat}, x < p → a < b → x + p * a < y + p * b := fun {a b x y} hx hab => by
    have := Nat.mul_le_mul_left p (show a + 1 ≤ b from hab)
    rw [Nat.mul_add] at this
    omega
  unfold cmpN
  refine ⟨fun h => ?_, fun h => ?_, fun h => ?_⟩
  · rw [if_pos (key h1 h)]
  · have := key (y := x) h2 h
    rw [if_neg (by omega), if_pos this]
  · subst h
    (repeat' split) <;> omega

/-- The bytes of n, the highest first. -/
def ya (n : Nat) : Array Value := arr .u8 32 (fun i => ((dig n (31 - i) : Nat) : Int))
def zY : Array Value := arr .u8 32 (fun _ => 0)
theorem ya_congr {m n : Nat} (h : m % M = n % M) : ya m = ya n := arr_congr fun _ hi => by rw [dig_congr h (by omega)]
theorem fillH_step (f : Nat → Int) (k : Nat) (hk : k < 32) (v : Int) (hv : v = f (31 - k)) :
    (arr .u8 32 (fun j => if 32 - k ≤ j then f j else 0)).setIfInBounds (31 - k) (.int .u8 v) = arr .u8 32 (fun j => if 32 - (k + 1) ≤ j then f j else 0) := by
  rw [arr_set _ _ _ (by omega)]
  refine arr_congr fun i _ => ?_
  by_cases h1 : i = 31 - k
  · subst h1; rw [if_pos rfl, if_pos (by omega), hv]
  · rw [if_neg h1]
    by_cases h2 : 32 - k ≤ i
    · rw [if_pos h2, if_pos (by omega)]
    · rw [if_neg h2, if_neg (by omega)]
theorem fillH_start (f : Nat → Int) : arr .u8 32 (fun j => if 32 - 0 ≤ j then f j else 0) = zY := arr_congr fun i hi => by rw [if_neg (by omega)]
theorem fillH_end (f : Nat → Int) : arr .u8 32 (fun j => if 32 - 32 ≤ j then f j else 0) = arr .u8 32 f := arr_congr fun i hi => by rw [if_pos (by omega)]
end Go.Proofs.Ytdpbjdecbilaeaa
/- What the function Add of the document's digits does: the digits of the sum, going round. -/
namespace Go.Proofs.Ytdpbjdecbilaeaa
open Go.RowKit SmWord
set_option maxRecDepth 100000
set_option maxHeartbeats 2000000 in
theorem add_ref (m n : Nat) (w : World) : Calls Try.prog 39 #[.agg (da m), .agg (da n)] w fun e w' => e = .returned (.agg (da (m + n))) ∧ Below w.heap.size w w' := by
  have hds : ∀ x, (da x).size = 32 := fun x => arr_size _ _ _
  go_enter Try.func39, Try.ntmps39
  go_wp2_with (first | (refine wpList_alloc_row rfl 40 rfl zD zD_run ?_) | (refine wpList_build_zero rfl 40 rfl Try.underlying40 Try.sizeOf3 zD zD_run ?_) | (refine wpList_store_row rfl 40 _ _ rfl _ zD zD rfl rfl (heap_alloc_new _ _) (infoArr _) rfl (arr_one _ _ _) ?_))
  clear hds
  have f0 : (((((w.alloc (.cells (da m) 40)).alloc (.cells (da n) 40)).alloc (.cells zD 40)).alloc (.cells zD 40)).setRow (w.heap.size + 1 + 1 + 1) zD).heap[w.heap.size]? = some (.cells (da m) 40) := blk_row_other (blk_alloc (blk_alloc (blk_alloc (by have := heap_alloc_new w (.cells (da m) 40); simpa using this)))) (by omega)
  have f1 : (((((w.alloc (.cells (da m) 40)).alloc (.cells (da n) 40)).alloc (.cells zD 40)).alloc (.cells zD 40)).setRow (w.heap.size + 1 + 1 + 1) zD).heap[w.heap.size + 1]? = some (.cells (da n) 40) := blk_row_other (blk_alloc (blk_alloc (by have := heap_alloc_new (w.alloc (.cells (da m) 40)) (.cells (da n) 40); simpa using this))) (by omega)
  have f2 : (((((w.alloc (.cells (da m) 40)).alloc (.cells (da n) 40)).alloc (.cells zD 40)).alloc (.cells zD 40)).setRow (w.heap.size + 1 + 1 + 1) zD).heap[w.heap.size + 1 + 1]? = some (.cells zD 40) := blk_row_other (blk_alloc (by have := heap_alloc_new ((w.alloc (.cells (da m) 40)).alloc (.cells (da n) 40)) (.cells zD 40); simpa using this)) (by omega)
  have f3 : (((((w.alloc (.cells (da m) 40)).alloc (.cells (da n) 40)).alloc (.cells zD 40)).alloc (.cells zD 40)).setRow (w.heap.size + 1 + 1 + 1) zD).heap[w.heap.size + 1 + 1 + 1]? = some (.cells zD 40) := blk_row (by have := heap_alloc_new (((w.alloc (.cells (da m) 40)).alloc (.cells (da n) 40)).alloc (.cells zD 40)) (.cells zD 40); simpa using this)
  have bW : Below w.heap.size w (((((w.alloc (.cells (da m) 40)).alloc (.cells (da n) 40)).alloc (.cells zD 40)).alloc (.cells zD 40)).setRow (w.heap.size + 1 + 1 + 1) zD) := below_setRow (((((Below.refl _ _).alloc (by simp; try omega) _).alloc (by simp; try omega) _).alloc (by simp; try omega) _).alloc (by simp; try omega) _) (by omega) _
  generalize (((((w.alloc (.cells (da m) 40)).alloc (.cells (da n) 40)).alloc (.cells zD 40)).alloc (.cells zD 40)).setRow (w.heap.size + 1 + 1 + 1) zD) = W at *
  go_loopw [6, 7] (fun c i wr => ∃ k : Nat, k ≤ 32 ∧ i = .int .i64 k ∧ c = .int .i64 ((carry m n k : Nat) : Int) ∧ Below w.heap.size w wr ∧ wr.heap[w.heap.size]? = some (.cells (da m) 40) ∧ wr.heap[w.heap.size + 1]? = some (.cells (da n) 40) ∧ wr.heap[w.heap.size + 1 + 1]? = some (.cells zD 40) ∧
      wr.heap[w.heap.size + 1 + 1 + 1]? = some (.cells (arr .i64 32 (fun j => if j < k then ((dig (m + n) j : Nat) : Int) else 0)) 40)) (fun _ i _ => 32 - (intOf i).toNat)
  case atStart => exact ⟨0, Nat.zero_le _, rfl, by rw [carry_zero]; rfl, bW, f0, f1, f2, by rw [fill_start]; exact f3⟩
  case round =>
    obtain ⟨k, hk, rfl, rfl, hb, ha, hn, hr, hd⟩ := hrel
    clear f0 f1 f2 f3 bW
    by_cases hlt : k < 32
    · have c1 := blk_cell ha (arr_get .i64 _ hlt)
      have c2 := blk_cell hn (arr_get .i64 _ hlt)
      have c3 := blk_cell hd (arr_get .i64 _ hlt)
      have c4 := blk_frozen (j := k) hd
      have d1 := dig_lt m k
      have d2 := dig_lt n k
      have d3 := (carry_eq m n k).2
      obtain ⟨s1, s2⟩ := carry_step m n k
      have S1 := Lib.hid s1
      have S2 := Lib.hid s2
      have HA := Lib.hid ha
      have HN := Lib.hid hn
      have HR := Lib.hid hr
      have HD := Lib.hid hd
      have HB := Lib.hid hb
      clear ha hn hr hd hb s1 s2
      go_wp2_with fail
      go_region
      go_wp2_with fail
      have v1 : (((dig m k : Nat) : Int) + ((dig n k : Nat) : Int) + ((carry m n k : Nat) : Int)) % 256 = ((dig (m + n) k : Nat) : Int) := by rw [← S1.out]; rfl
      have v2 : (((dig m k : Nat) : Int) + ((dig n k : Nat) : Int) + ((carry m n k : Nat) : Int)) / 256 = ((carry m n (k + 1) : Nat) : Int) := by rw [← S2.out]; rfl
      rw [v1, v2]
      refine ⟨⟨k + 1, by omega, by go_num, rfl, (HB.out.setCell (by simp; omega) _).drew, blk_other HA.out (by omega) _, blk_other HN.out (by omega) _, blk_other HR.out (by omega) _, ?_⟩, by simp [intOf]; omega⟩
      rw [← fill_step (fun j => ((dig (m + n) j : Nat) : Int)) k hlt _ rfl]
      exact blk_set HD.out _
    · obtain rfl : k = 32 := by omega
      rw [fill_end] at hd
      have HB := Lib.hid hb
      clear hb ha hn
      go_wp2_with (first | (refine wpList_load_row rfl 40 _ rfl _ rfl 40 (da (m + n)) (0, 0) _ hd Try.underlying40 rfl (infoArr _) ?_) | (refine wpList_store_row rfl 40 _ _ rfl _ zD (da (m + n)) rfl rfl hr (infoArr _) rfl (arr_one _ _ _) ?_))
      refine bodyPost_ret (v := .agg (da (m + n))) (results_cell_row rfl _ _ _ 40 (da (m + n)) (0, 0) _ rfl (blk_row hr) Try.underlying40 rfl (infoArr _)) rfl ⟨rfl, below_setRow HB.out (by omega) _⟩
end Go.Proofs.Ytdpbjdecbilaeaa
/- What the functions Neg and Sub of the document's digits do: the digits of what makes a number 0, and of a difference, going round. -/
namespace Go.Proofs.Ytdpbjdecbilaeaa
open Go.RowKit SmWord
set_option maxRecDepth 100000

theorem dig_not (n : Nat) {i : Nat} (hi : i < 32) : 255 - dig n i = dig (M - 1 - n % M) i := by
  rw [← dig_congr (Nat.mod_mod n M) hi]
  have hx : n % M < M := Nat.mod_lt _ (by decide)
  generalize n % M = x at *
  have hM : M = 256 ^ i * 256 * 256 ^ (31 - i) := by rw [← Nat.pow_succ, ← Nat.pow_add, M_256]; congr 1; omega
  unfold dig
  have hp : 0 < 256 ^ i := Nat.pow_pos (by decide)
  have h0 := Nat.mod_lt x hp
  have h1 : x % 256 ^ i + 256 ^ i * (x / 256 ^ i) = x := Nat.mod_add_div _ _
  have h2 : x / 256 ^ i % 256 + 256 * (x / 256 ^ i / 256) = x / 256 ^ i := Nat.mod_add_div _ _
  have h3 : x / 256 ^ i % 256 < 256 := Nat.mod_lt _ (by decide)
  have h4 : x / 256 ^ i / 256 < 256 ^ (31 - i) := by
    rw [Nat.div_div_eq_div_mul, Nat.div_lt_iff_lt_mul (Nat.mul_pos hp (by decide)), Nat.mul_comm, ← hM]; exact hx
  generalize x / 256 ^ i / 256 = y at *
  generalize x / 256 ^ i % 256 = d at *
  generalize x % 256 ^ i = x0 at *
  rw [← h2] at h1
  clear h2
  generalize 256 ^ (31 - i) = q at *
  generalize 256 ^ i = p at *
  obtain ⟨A, hA⟩ : ∃ A, p = x0 + A + 1 := ⟨p - x0 - 1, by omega⟩
  obtain ⟨C, hC⟩ : ∃ C, q = y + C + 1 := ⟨q - y - 1, by omega⟩
  obtain ⟨E, hE⟩ : ∃ E, 255 = d + E := ⟨255 - d, by omega⟩
  have key : M = x + (A + p * (E + 256 * C)) + 1 := by
    have h6 : (256 : Nat) = d + E + 1 := by omega
    rw [hM, ← h1, hC]
    have : p * 256 * (y + C + 1) = p * 256 * y + p * 256 * C + p * (d + E + 1) := by rw [← h6]; grind
    rw [this]
    grind
  have e : M - 1 - x = A + p * (E + 256 * C) := by omega
  rw [e, Nat.add_mul_div_left _ _ hp, Nat.div_eq_of_lt (by omega)]
  omega
theorem one_run (ρ : Operand → Value) (o : Oper) (ho : o.op = .build 40 #[(0, .const (.int .i64 1))]) (hρ : ρ (.const (.int .i64 1)) = .int .i64 1) (w : World) : (execOp ρ o).run Try.prog w = .ok (.value (.agg (da 1))) w := by
  obtain ⟨dst, op, type, pos, after, guard⟩ := o
  simp only at ho
  subst ho
  have h : ∀ w : World, (Instr.build 40 #[(0, .int .i64 1)]).run Try.prog w = .ok (.agg (da 1)) w := fun _ => by kernel_rfl
  simp [execOp, hρ, h]
theorem wpList_build_one {ops : Array Oper} {Q : Exit → Act → World → Prop} {a : Act} {w : World} {rest : List Oper} {o : Oper} (hg : o.guard = none) (ho : o.op = .build 40 #[(0, .const (.int .i64 1))])
    (h : wpList Try.prog ops Q rest (a.put o.dst (.agg (da 1))) w) : wpList Try.prog ops Q (o :: rest) a w :=
  wpList_plain hg fun _ hK => by
    unfold Oper.wp
    rw [one_run _ _ ho rfl]
    exact hK _ _ h
set_option maxHeartbeats 2000000 in
theorem neg_ref (n : Nat) (w : World) : Calls Try.prog 12 #[.agg (da n)] w fun e w' => e = .returned (.agg (da (M - 1 - n % M + 1))) ∧ Below w.heap.size w w' := by
  have hds : ∀ x, (da x).size = 32 := fun x => arr_size _ _ _
  go_enter Try.func12, Try.ntmps12
  go_wp2_with (first | (refine wpList_alloc_row rfl 40 rfl zD zD_run ?_) | (refine wpList_build_zero rfl 40 rfl Try.underlying40 Try.sizeOf3 zD zD_run ?_) | (refine wpList_store_row rfl 40 _ _ rfl _ zD zD rfl rfl (heap_alloc_new _ _) (infoArr _) rfl (arr_one _ _ _) ?_))
  clear hds
  have f0 : ((((w.alloc (.cells (da n) 40)).alloc (.cells zD 40)).alloc (.cells zD 40)).setRow (w.heap.size + 1 + 1) zD).heap[w.heap.size]? = some (.cells (da n) 40) := blk_row_other (blk_alloc (blk_alloc (by have := heap_alloc_new w (.cells (da n) 40); simpa using this))) (by omega)
  have f1 : ((((w.alloc (.cells (da n) 40)).alloc (.cells zD 40)).alloc (.cells zD 40)).setRow (w.heap.size + 1 + 1) zD).heap[w.heap.size + 1]? = some (.cells zD 40) := blk_row_other (blk_alloc (by have := heap_alloc_new (w.alloc (.cells (da n) 40)) (.cells zD 40); simpa using this)) (by omega)
  have f2 : ((((w.alloc (.cells (da n) 40)).alloc (.cells zD 40)).alloc (.cells zD 40)).setRow (w.heap.size + 1 + 1) zD).heap[w.heap.size + 1 + 1]? = some (.cells zD 40) := blk_row (by have := heap_alloc_new ((w.alloc (.cells (da n) 40)).alloc (.cells zD 40)) (.cells zD 40); simpa using this)
  have bW : Below w.heap.size w ((((w.alloc (.cells (da n) 40)).alloc (.cells zD 40)).alloc (.cells zD 40)).setRow (w.heap.size + 1 + 1) zD) := below_setRow ((((Below.refl _ _).alloc (by simp; try omega) _).alloc (by simp; try omega) _).alloc (by simp; try omega) _) (by omega) _
  generalize ((((w.alloc (.cells (da n) 40)).alloc (.cells zD 40)).alloc (.cells zD 40)).setRow (w.heap.size + 1 + 1) zD) = W at *
  go_loopw [4] (fun i wr => ∃ k : Nat, k ≤ 32 ∧ i = .int .i64 k ∧ Below w.heap.size w wr ∧ wr.heap[w.heap.size]? = some (.cells (da n) 40) ∧ wr.heap[w.heap.size + 1]? = some (.cells zD 40) ∧
      wr.heap[w.heap.size + 1 + 1]? = some (.cells (arr .i64 32 (fun j => if j < k then ((dig (M - 1 - n % M) j : Nat) : Int) else 0)) 40)) (fun i _ => 32 - (intOf i).toNat)
  case atStart => exact ⟨0, Nat.zero_le _, rfl, bW, f0, f1, by rw [fill_start]; exact f2⟩
  case round =>
    obtain ⟨k, hk, rfl, hb, ha, hr, hd⟩ := hrel
    clear f0 f1 f2 bW
    by_cases hlt : k < 32
    · have c1 := blk_cell ha (arr_get .i64 _ hlt)
      have c3 := blk_cell hd (arr_get .i64 _ hlt)
      have c4 := blk_frozen (j := k) hd
      have d1 := dig_lt n k
      have S1 := Lib.hid (dig_not n hlt)
      have HA := Lib.hid ha
      have HR := Lib.hid hr
      have HD := Lib.hid hd
      have HB := Lib.hid hb
      clear ha hr hd hb
      go_wp2_with fail
      have v1 : 255 - ((dig n k : Nat) : Int) = ((dig (M - 1 - n % M) k : Nat) : Int) := by rw [← S1.out]; omega
      rw [v1]
      refine ⟨⟨k + 1, by omega, by go_num, HB.out.setCell (by simp; omega) _, blk_other HA.out (by omega) _, blk_other HR.out (by omega) _, ?_⟩, by simp [intOf]; omega⟩
      rw [← fill_step (fun j => ((dig (M - 1 - n % M) j : Nat) : Int)) k hlt _ rfl]
      exact blk_set HD.out _
    · obtain rfl : k = 32 := by omega
      rw [fill_end] at hd
      have HB := Lib.hid hb
      clear hb ha
      generalize hx : M - 1 - n % M = x at *
      have HX := Lib.hid hx
      clear hx
      go_wp2_with (first | (refine wpList_load_row rfl 40 _ rfl _ rfl 40 (da x) (0, 0) _ hd Try.underlying40 rfl (infoArr _) ?_) | (refine wpList_build_one rfl rfl ?_))
      refine (add_ref x 1 _).mono ?_
      rintro e w1 ⟨rfl, b1⟩
      have hr1 := Ext.block ⟨w1, b1⟩ hr
      go_wp2_with (refine wpList_store_row rfl 40 _ _ rfl _ zD (da (x + 1)) rfl rfl hr1 (infoArr _) rfl (arr_one _ _ _) ?_)
      exact bodyPost_ret (v := .agg (da (x + 1))) (results_cell_row rfl _ _ _ 40 (da (x + 1)) (0, 0) _ rfl (blk_row hr1) Try.underlying40 rfl (infoArr _)) rfl ⟨by rw [HX.out], below_setRow (HB.out.trans (b1.mono HB.out.size)) (by omega) _⟩
end Go.Proofs.Ytdpbjdecbilaeaa
