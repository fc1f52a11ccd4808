/- What the functions Neg and Sub of the document's digits do: the digits of what makes a number 0, and of a difference, going round. -/
import Derived.Test.YtlobchkbkdjccaaRefB
namespace Go.Proofs.Ytlobchkbkdjccaa
open Go.RowKit SmWord
set_option maxRecDepth 100000

theorem dig_not (n : Nat) {i : Nat} (hi : i < 32) : 255 - dig n i = dig (M - 1 - n % M) i := by
  rw [← dig_congr (Nat.mod_mod n M) hi]
  have hx : n % M < M := Nat.mod_lt _ (by decide)
  generalize n % M = x at *
  have hM : M = 256 ^ i * 256 * 256 ^ (31 - i) := by rw [← Nat.pow_succ, ← Nat.pow_add, M_256]; congr 1; omega
  unfold dig
  have hp : 0 < 256 ^ i := Nat.pow_pos (by decide)
  have h0 := Nat.mod_lt x hp
  have h1 : x % 256 ^ i + 256 ^ i * (x / 256 ^ i) = x := Nat.mod_add_div _ _
  have h2 : x / 256 ^ i % 256 + 256 * (x / 256 ^ i / 256) = x / 256 ^ i := Nat.mod_add_div _ _
  have h3 : x / 256 ^ i % 256 < 256 := Nat.mod_lt _ (by decide)
  have h4 : x / 256 ^ i / 256 < 256 ^ (31 - i) := by
    rw [Nat.div_div_eq_div_mul, Nat.div_lt_iff_lt_mul (Nat.mul_pos hp (by decide)), Nat.mul_comm, ← hM]; exact hx
  generalize x / 256 ^ i / 256 = y at *
  generalize x / 256 ^ i % 256 = d at *
  generalize x % 256 ^ i = x0 at *
  rw [← h2] at h1
  clear h2
  generalize 256 ^ (31 - i) = q at *
  generalize 256 ^ i = p at *
  obtain ⟨A, hA⟩ : ∃ A, p = x0 + A + 1 := ⟨p - x0 - 1, by omega⟩
  obtain ⟨C, hC⟩ : ∃ C, q = y + C + 1 := ⟨q - y - 1, by omega⟩
  obtain ⟨E, hE⟩ : ∃ E, 255 = d + E := ⟨255 - d, by omega⟩
  have key : M = x + (A + p * (E + 256 * C)) + 1 := by
    have h6 : (256 : Nat) = d + E + 1 := by omega
    rw [hM, ← h1, hC]
    have : p * 256 * (y + C + 1) = p * 256 * y + p * 256 * C + p * (d + E + 1) := by rw [← h6]; grind
    rw [this]
    grind
  have e : M - 1 - x = A + p * (E + 256 * C) := by omega
  rw [e, Nat.add_mul_div_left _ _ hp, Nat.div_eq_of_lt (by omega)]
  omega
theorem one_run (ρ : Operand → Value) (o : Oper) (ho : o.op = .build 31 #[(0, .const (.int .i64 1))]) (hρ : ρ (.const (.int .i64 1)) = .int .i64 1) (w : World) : (execOp ρ o).run Try.prog w = .ok (.value (.agg (da 1))) w := by
  obtain ⟨dst, op, type, pos, after, guard⟩ := o
  simp only at ho
  subst ho
  have h : ∀ w : World, (Instr.build 31 #[(0, .int .i64 1)]).run Try.prog w = .ok (.agg (da 1)) w := fun _ => by kernel_rfl
  simp [execOp, hρ, h]
theorem wpList_build_one {ops : Array Oper} {Q : Exit → Act → World → Prop} {a : Act} {w : World} {rest : List Oper} {o : Oper} (hg : o.guard = none) (ho : o.op = .build 31 #[(0, .const (.int .i64 1))])
    (h : wpList Try.prog ops Q rest (a.put o.dst (.agg (da 1))) w) : wpList Try.prog ops Q (o :: rest) a w :=
  wpList_plain hg fun _ hK => by
    unfold Oper.wp
    rw [one_run _ _ ho rfl]
    exact hK _ _ h
set_option maxHeartbeats 2000000 in
theorem neg_ref (n : Nat) (w : World) : Calls Try.prog 14 #[.agg (da n)] w fun e w' => e = .returned (.agg (da (M - 1 - n % M + 1))) ∧ Below w.heap.size w w' := by
  have hds : ∀ x, (da x).size = 32 := fun x => arr_size _ _ _
  go_enter Try.func14, Try.ntmps14
  go_wp2_with (first | (refine wpList_alloc_row rfl 31 rfl zD zD_run ?_) | (refine wpList_build_zero rfl 31 rfl Try.underlying31 Try.sizeOf3 zD zD_run ?_) | (refine wpList_store_row rfl 31 _ _ rfl _ zD zD rfl rfl (heap_alloc_new _ _) (infoArr _) rfl (arr_one _ _ _) ?_))
  clear hds
  have f0 : ((((w.alloc (.cells (da n) 31)).alloc (.cells zD 31)).alloc (.cells zD 31)).setRow (w.heap.size + 1 + 1) zD).heap[w.heap.size]? = some (.cells (da n) 31) := blk_row_other (blk_alloc (blk_alloc (by have := heap_alloc_new w (.cells (da n) 31); simpa using this))) (by omega)
  have f1 : ((((w.alloc (.cells (da n) 31)).alloc (.cells zD 31)).alloc (.cells zD 31)).setRow (w.heap.size + 1 + 1) zD).heap[w.heap.size + 1]? = some (.cells zD 31) := blk_row_other (blk_alloc (by have := heap_alloc_new (w.alloc (.cells (da n) 31)) (.cells zD 31); simpa using this)) (by omega)
  have f2 : ((((w.alloc (.cells (da n) 31)).alloc (.cells zD 31)).alloc (.cells zD 31)).setRow (w.heap.size + 1 + 1) zD).heap[w.heap.size + 1 + 1]? = some (.cells zD 31) := blk_row (by have := heap_alloc_new ((w.alloc (.cells (da n) 31)).alloc (.cells zD 31)) (.cells zD 31); simpa using this)
  have bW : Below w.heap.size w ((((w.alloc (.cells (da n) 31)).alloc (.cells zD 31)).alloc (.cells zD 31)).setRow (w.heap.size + 1 + 1) zD) := below_setRow ((((Below.refl _ _).alloc (by simp; try omega) _).alloc (by simp; try omega) _).alloc (by simp; try omega) _) (by omega) _
  generalize ((((w.alloc (.cells (da n) 31)).alloc (.cells zD 31)).alloc (.cells zD 31)).setRow (w.heap.size + 1 + 1) zD) = W at *
  go_loopw [4] (fun i wr => ∃ k : Nat, k ≤ 32 ∧ i = .int .i64 k ∧ Below w.heap.size w wr ∧ wr.heap[w.heap.size]? = some (.cells (da n) 31) ∧ wr.heap[w.heap.size + 1]? = some (.cells zD 31) ∧
      wr.heap[w.heap.size + 1 + 1]? = some (.cells (arr .i64 32 (fun j => if j < k then ((dig (M - 1 - n % M) j : Nat) : Int) else 0)) 31)) (fun i _ => 32 - (intOf i).toNat)
  case atStart => exact ⟨0, Nat.zero_le _, rfl, bW, f0, f1, by rw [fill_start]; exact f2⟩
  case round =>
    obtain ⟨k, hk, rfl, hb, ha, hr, hd⟩ := hrel
    clear f0 f1 f2 bW
    by_cases hlt : k < 32
    · have c1 := blk_cell ha (arr_get .i64 _ hlt)
      have c3 := blk_cell hd (arr_get .i64 _ hlt)
      have c4 := blk_frozen (j := k) hd
      have d1 := dig_lt n k
      have S1 := Lib.hid (dig_not n hlt)
      have HA := Lib.hid ha
      have HR := Lib.hid hr
      have HD := Lib.hid hd
      have HB := Lib.hid hb
      clear ha hr hd hb
      go_wp2_with fail
      have v1 : 255 - ((dig n k : Nat) : Int) = ((dig (M - 1 - n % M) k : Nat) : Int) := by rw [← S1.out]; omega
      rw [v1]
      refine ⟨⟨k + 1, by omega, by go_num, HB.out.setCell (by simp; omega) _, blk_other HA.out (by omega) _, blk_other HR.out (by omega) _, ?_⟩, by simp [intOf]; omega⟩
      rw [← fill_step (fun j => ((dig (M - 1 - n % M) j : Nat) : Int)) k hlt _ rfl]
      exact blk_set HD.out _
    · obtain rfl : k = 32 := by omega
      rw [fill_end] at hd
      have HB := Lib.hid hb
      clear hb ha
      generalize hx : M - 1 - n % M = x at *
      have HX := Lib.hid hx
      clear hx
      go_wp2_with (first | (refine wpList_load_row rfl 31 _ rfl _ rfl 31 (da x) (0, 0) _ hd Try.underlying31 rfl (infoArr _) ?_) | (refine wpList_build_one rfl rfl ?_))
      refine (add_ref x 1 _).mono ?_
      rintro e w1 ⟨rfl, b1⟩
      have hr1 := Ext.block ⟨w1, b1⟩ hr
      go_wp2_with (refine wpList_store_row rfl 31 _ _ rfl _ zD (da (x + 1)) rfl rfl hr1 (infoArr _) rfl (arr_one _ _ _) ?_)
      exact bodyPost_ret (v := .agg (da (x + 1))) (results_cell_row rfl _ _ _ 31 (da (x + 1)) (0, 0) _ rfl (blk_row hr1) Try.underlying31 rfl (infoArr _)) rfl ⟨by rw [HX.out], below_setRow (HB.out.trans (b1.mono HB.out.size)) (by omega) _⟩
end Go.Proofs.Ytlobchkbkdjccaa
