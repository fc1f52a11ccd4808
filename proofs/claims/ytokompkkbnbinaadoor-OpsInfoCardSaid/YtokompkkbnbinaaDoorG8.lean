/- The code's table: its switches, each way one instruction. -/
import Derived.Test.YtokompkkbnbinaaDoorG6
import Derived.Test.YtokompkkbnbinaaDoorG7
namespace Go.Proofs.YtokompkkbnbinaaDoor
open Go.RowKit SmWord
set_option maxRecDepth 100000
theorem row_walk (s : ByteArray) (a b g : Int) (w : World) : Calls Tryd.prog 38 #[.string s, .int .i64 a, .int .i64 b, .int .u64 g] w fun e w' => e = .returned (.agg #[.string s, .int .i64 a, .int .i64 b, .int .u64 g, .int .i64 0]) ∧ Below w.heap.size w w' := by
  go_enter Tryd.func38, Tryd.ntmps38
  go_wp2_with (first | (refine wpList_store_row rfl 24 _ _ rfl _ zO _ rfl rfl (heap_alloc_new _ _) Tryd.infoOp rfl (op_one _ _ _ _ _) ?_))
  exact bodyPost_ret (results_cell_row rfl _ _ w.heap.size 24 (#[.string s, .int .i64 a, .int .i64 b, .int .u64 g, .int .i64 0]) (0, 0) _ rfl (blk_row (heap_alloc_new _ _)) Tryd.underlying24 rfl Tryd.infoOp) rfl ⟨rfl, below_setRow ((Below.refl _ _).alloc (Nat.le_refl _) _) (Nat.le_refl _) _⟩
/-- Whether a byte of the table is an instruction. -/
def isRow (x : Nat) : Bool := decide (x % 16 < (nmL (x / 16)).length) && !(((nmL (x / 16)).getD (x % 16) ⟨#[]⟩).data.toList == [45])
theorem told_else {x : Nat} (h1 : x < 96 ∨ 165 ≤ x) (h : isRow x = false) : told x = none0 := by
  rw [told_row h1, opRow, if_neg]
  rintro ⟨h2, h3⟩
  rw [isRow, h3, decide_eq_true h2] at h
  cases h
theorem told_0 : told 0 = ⟨⟨#[83, 84, 79, 80]⟩, 0, 0, 0, 0⟩ := rfl
theorem told_1 : told 1 = ⟨⟨#[65, 68, 68]⟩, 2, 1, 3, 0⟩ := rfl
theorem told_2 : told 2 = ⟨⟨#[77, 85, 76]⟩, 2, 1, 5, 0⟩ := rfl
theorem told_3 : told 3 = ⟨⟨#[83, 85, 66]⟩, 2, 1, 3, 0⟩ := rfl
theorem told_4 : told 4 = ⟨⟨#[68, 73, 86]⟩, 2, 1, 5, 0⟩ := rfl
theorem told_5 : told 5 = ⟨⟨#[83, 68, 73, 86]⟩, 2, 1, 5, 0⟩ := rfl
theorem told_6 : told 6 = ⟨⟨#[77, 79, 68]⟩, 2, 1, 5, 0⟩ := rfl
theorem told_7 : told 7 = ⟨⟨#[83, 77, 79, 68]⟩, 2, 1, 5, 0⟩ := rfl
theorem told_8 : told 8 = ⟨⟨#[65, 68, 68, 77, 79, 68]⟩, 3, 1, 8, 0⟩ := rfl
theorem told_9 : told 9 = ⟨⟨#[77, 85, 76, 77, 79, 68]⟩, 3, 1, 8, 0⟩ := rfl
theorem told_10 : told 10 = ⟨⟨#[69, 88, 80]⟩, 2, 1, 10, 0⟩ := rfl
theorem told_11 : told 11 = ⟨⟨#[83, 73, 71, 78, 69, 88, 84, 69, 78, 68]⟩, 2, 1, 5, 0⟩ := rfl
theorem told_16 : told 16 = ⟨⟨#[76, 84]⟩, 2, 1, 3, 0⟩ := rfl
theorem told_17 : told 17 = ⟨⟨#[71, 84]⟩, 2, 1, 3, 0⟩ := rfl
theorem told_18 : told 18 = ⟨⟨#[83, 76, 84]⟩, 2, 1, 3, 0⟩ := rfl
theorem told_19 : told 19 = ⟨⟨#[83, 71, 84]⟩, 2, 1, 3, 0⟩ := rfl
theorem told_20 : told 20 = ⟨⟨#[69, 81]⟩, 2, 1, 3, 0⟩ := rfl
theorem told_21 : told 21 = ⟨⟨#[73, 83, 90, 69, 82, 79]⟩, 1, 1, 3, 0⟩ := rfl
theorem told_22 : told 22 = ⟨⟨#[65, 78, 68]⟩, 2, 1, 3, 0⟩ := rfl
theorem told_23 : told 23 = ⟨⟨#[79, 82]⟩, 2, 1, 3, 0⟩ := rfl
theorem told_24 : told 24 = ⟨⟨#[88, 79, 82]⟩, 2, 1, 3, 0⟩ := rfl
theorem told_25 : told 25 = ⟨⟨#[78, 79, 84]⟩, 1, 1, 3, 0⟩ := rfl
theorem told_26 : told 26 = ⟨⟨#[66, 89, 84, 69]⟩, 2, 1, 3, 0⟩ := rfl
theorem told_27 : told 27 = ⟨⟨#[83, 72, 76]⟩, 2, 1, 3, 0⟩ := rfl
theorem told_28 : told 28 = ⟨⟨#[83, 72, 82]⟩, 2, 1, 3, 0⟩ := rfl
theorem told_29 : told 29 = ⟨⟨#[83, 65, 82]⟩, 2, 1, 3, 0⟩ := rfl
theorem told_32 : told 32 = ⟨⟨#[75, 69, 67, 67, 65, 75, 50, 53, 54]⟩, 2, 1, 30, 0⟩ := rfl
theorem told_48 : told 48 = ⟨⟨#[65, 68, 68, 82, 69, 83, 83]⟩, 0, 1, 2, 0⟩ := rfl
theorem told_49 : told 49 = ⟨⟨#[66, 65, 76, 65, 78, 67, 69]⟩, 1, 1, 100, 0⟩ := rfl
theorem told_50 : told 50 = ⟨⟨#[79, 82, 73, 71, 73, 78]⟩, 0, 1, 2, 0⟩ := rfl
theorem told_51 : told 51 = ⟨⟨#[67, 65, 76, 76, 69, 82]⟩, 0, 1, 2, 0⟩ := rfl
theorem told_52 : told 52 = ⟨⟨#[67, 65, 76, 76, 86, 65, 76, 85, 69]⟩, 0, 1, 2, 0⟩ := rfl
theorem told_53 : told 53 = ⟨⟨#[67, 65, 76, 76, 68, 65, 84, 65, 76, 79, 65, 68]⟩, 1, 1, 3, 0⟩ := rfl
theorem told_54 : told 54 = ⟨⟨#[67, 65, 76, 76, 68, 65, 84, 65, 83, 73, 90, 69]⟩, 0, 1, 2, 0⟩ := rfl
theorem told_55 : told 55 = ⟨⟨#[67, 65, 76, 76, 68, 65, 84, 65, 67, 79, 80, 89]⟩, 3, 0, 3, 0⟩ := rfl
theorem told_56 : told 56 = ⟨⟨#[67, 79, 68, 69, 83, 73, 90, 69]⟩, 0, 1, 2, 0⟩ := rfl
theorem told_57 : told 57 = ⟨⟨#[67, 79, 68, 69, 67, 79, 80, 89]⟩, 3, 0, 3, 0⟩ := rfl
theorem told_58 : told 58 = ⟨⟨#[71, 65, 83, 80, 82, 73, 67, 69]⟩, 0, 1, 2, 0⟩ := rfl
theorem told_59 : told 59 = ⟨⟨#[69, 88, 84, 67, 79, 68, 69, 83, 73, 90, 69]⟩, 1, 1, 100, 0⟩ := rfl
theorem told_60 : told 60 = ⟨⟨#[69, 88, 84, 67, 79, 68, 69, 67, 79, 80, 89]⟩, 4, 0, 100, 0⟩ := rfl
theorem told_61 : told 61 = ⟨⟨#[82, 69, 84, 85, 82, 78, 68, 65, 84, 65, 83, 73, 90, 69]⟩, 0, 1, 2, 0⟩ := rfl
theorem told_62 : told 62 = ⟨⟨#[82, 69, 84, 85, 82, 78, 68, 65, 84, 65, 67, 79, 80, 89]⟩, 3, 0, 3, 0⟩ := rfl
theorem told_63 : told 63 = ⟨⟨#[69, 88, 84, 67, 79, 68, 69, 72, 65, 83, 72]⟩, 1, 1, 100, 0⟩ := rfl
theorem told_64 : told 64 = ⟨⟨#[66, 76, 79, 67, 75, 72, 65, 83, 72]⟩, 1, 1, 20, 0⟩ := rfl
theorem told_65 : told 65 = ⟨⟨#[67, 79, 73, 78, 66, 65, 83, 69]⟩, 0, 1, 2, 0⟩ := rfl
theorem told_66 : told 66 = ⟨⟨#[84, 73, 77, 69, 83, 84, 65, 77, 80]⟩, 0, 1, 2, 0⟩ := rfl
theorem told_67 : told 67 = ⟨⟨#[78, 85, 77, 66, 69, 82]⟩, 0, 1, 2, 0⟩ := rfl
theorem told_68 : told 68 = ⟨⟨#[80, 82, 69, 86, 82, 65, 78, 68, 65, 79]⟩, 0, 1, 2, 0⟩ := rfl
theorem told_69 : told 69 = ⟨⟨#[71, 65, 83, 76, 73, 77, 73, 84]⟩, 0, 1, 2, 0⟩ := rfl
theorem told_70 : told 70 = ⟨⟨#[67, 72, 65, 73, 78, 73, 68]⟩, 0, 1, 2, 0⟩ := rfl
theorem told_71 : told 71 = ⟨⟨#[83, 69, 76, 70, 66, 65, 76, 65, 78, 67, 69]⟩, 0, 1, 5, 0⟩ := rfl
theorem told_72 : told 72 = ⟨⟨#[66, 65, 83, 69, 70, 69, 69]⟩, 0, 1, 2, 0⟩ := rfl
theorem told_80 : told 80 = ⟨⟨#[80, 79, 80]⟩, 1, 0, 2, 0⟩ := rfl
theorem told_81 : told 81 = ⟨⟨#[77, 76, 79, 65, 68]⟩, 1, 1, 3, 0⟩ := rfl
theorem told_82 : told 82 = ⟨⟨#[77, 83, 84, 79, 82, 69]⟩, 2, 0, 3, 0⟩ := rfl
theorem told_83 : told 83 = ⟨⟨#[77, 83, 84, 79, 82, 69, 56]⟩, 2, 0, 3, 0⟩ := rfl
theorem told_84 : told 84 = ⟨⟨#[83, 76, 79, 65, 68]⟩, 1, 1, 100, 0⟩ := rfl
theorem told_85 : told 85 = ⟨⟨#[83, 83, 84, 79, 82, 69]⟩, 2, 0, 100, 0⟩ := rfl
theorem told_86 : told 86 = ⟨⟨#[74, 85, 77, 80]⟩, 1, 0, 8, 0⟩ := rfl
theorem told_87 : told 87 = ⟨⟨#[74, 85, 77, 80, 73]⟩, 2, 0, 10, 0⟩ := rfl
theorem told_88 : told 88 = ⟨⟨#[80, 67]⟩, 0, 1, 2, 0⟩ := rfl
theorem told_89 : told 89 = ⟨⟨#[77, 83, 73, 90, 69]⟩, 0, 1, 2, 0⟩ := rfl
theorem told_90 : told 90 = ⟨⟨#[71, 65, 83]⟩, 0, 1, 2, 0⟩ := rfl
theorem told_91 : told 91 = ⟨⟨#[74, 85, 77, 80, 68, 69, 83, 84]⟩, 0, 0, 1, 0⟩ := rfl
theorem told_95 : told 95 = ⟨⟨#[80, 85, 83, 72, 48]⟩, 0, 1, 2, 0⟩ := rfl
theorem told_240 : told 240 = ⟨⟨#[67, 82, 69, 65, 84, 69]⟩, 3, 1, 32000, 0⟩ := rfl
theorem told_241 : told 241 = ⟨⟨#[67, 65, 76, 76]⟩, 7, 1, 100, 0⟩ := rfl
theorem told_242 : told 242 = ⟨⟨#[67, 65, 76, 76, 67, 79, 68, 69]⟩, 7, 1, 100, 0⟩ := rfl
theorem told_243 : told 243 = ⟨⟨#[82, 69, 84, 85, 82, 78]⟩, 2, 0, 0, 0⟩ := rfl
theorem told_244 : told 244 = ⟨⟨#[68, 69, 76, 69, 71, 65, 84, 69, 67, 65, 76, 76]⟩, 6, 1, 100, 0⟩ := rfl
theorem told_245 : told 245 = ⟨⟨#[67, 82, 69, 65, 84, 69, 50]⟩, 4, 1, 32000, 0⟩ := rfl
theorem told_250 : told 250 = ⟨⟨#[83, 84, 65, 84, 73, 67, 67, 65, 76, 76]⟩, 6, 1, 100, 0⟩ := rfl
theorem told_253 : told 253 = ⟨⟨#[82, 69, 86, 69, 82, 84]⟩, 2, 0, 0, 0⟩ := rfl
theorem told_254 : told 254 = ⟨⟨#[73, 78, 86, 65, 76, 73, 68]⟩, 0, 0, 0, 0⟩ := rfl
theorem told_255 : told 255 = ⟨⟨#[83, 69, 76, 70, 68, 69, 83, 84, 82, 85, 67, 84]⟩, 1, 0, 5000, 0⟩ := rfl
theorem arithmetic_some : ∀ x, x < 16 → 0 ≤ x → isRow x = true → x ∈ [0, 1, 2, 3, 4, 5, 6, 7, 8, 9, 10, 11] := by decide +kernel
set_option maxHeartbeats 4000000 in
theorem arithmetic_walk (x : Nat) (w : World) (h1 : x < 16) (h0 : 0 ≤ x) : Calls Tryd.prog 20 #[.int .u8 (x : Int)] w fun e w' => e = .returned (tv (told x)) ∧ Below w.heap.size w w' := by
  go_enter Tryd.func20, Tryd.ntmps20
  go_wp2_with (first | (go_at_call 38; refine (row_walk _ _ _ _ _).mono ?_; rintro e w1 ⟨rfl, hb⟩; have r1 : w1.heap[w.heap.size]? = some (.cells zO 24) := stay hb (heap_alloc_new w _)) | (refine wpList_store_row rfl 24 _ _ rfl _ zO _ rfl rfl r1 Tryd.infoOp rfl (op_one _ _ _ _ _) ?_) | (refine wpList_store_row rfl 24 _ _ rfl _ zO _ rfl rfl (heap_alloc_new _ _) Tryd.infoOp rfl (op_one _ _ _ _ _) ?_))
  · rename_i h
    obtain rfl := int_eq (k := 0) h
    rw [told_0]
    exact bodyPost_ret (results_cell_row rfl _ _ w.heap.size 24 (tC _) (0, 0) _ rfl (blk_row r1) Tryd.underlying24 rfl Tryd.infoOp) rfl ⟨rfl, below_setRow (((Below.refl _ _).alloc (Nat.le_refl _) _).trans (hb.mono (by simp))) (Nat.le_refl _) _⟩
  · rename_i h
    obtain rfl := int_eq (k := 1) h
    rw [told_1]
    exact bodyPost_ret (results_cell_row rfl _ _ w.heap.size 24 (tC _) (0, 0) _ rfl (blk_row r1) Tryd.underlying24 rfl Tryd.infoOp) rfl ⟨rfl, below_setRow (((Below.refl _ _).alloc (Nat.le_refl _) _).trans (hb.mono (by simp))) (Nat.le_refl _) _⟩
  · rename_i h
    obtain rfl := int_eq (k := 2) h
    rw [told_2]
    exact bodyPost_ret (results_cell_row rfl _ _ w.heap.size 24 (tC _) (0, 0) _ rfl (blk_row r1) Tryd.underlying24 rfl Tryd.infoOp) rfl ⟨rfl, below_setRow (((Below.refl _ _).alloc (Nat.le_refl _) _).trans (hb.mono (by simp))) (Nat.le_refl _) _⟩
  · rename_i h
    obtain rfl := int_eq (k := 3) h
    rw [told_3]
    exact bodyPost_ret (results_cell_row rfl _ _ w.heap.size 24 (tC _) (0, 0) _ rfl (blk_row r1) Tryd.underlying24 rfl Tryd.infoOp) rfl ⟨rfl, below_setRow (((Below.refl _ _).alloc (Nat.le_refl _) _).trans (hb.mono (by simp))) (Nat.le_refl _) _⟩
  · rename_i h
    obtain rfl := int_eq (k := 4) h
    rw [told_4]
    exact bodyPost_ret (results_cell_row rfl _ _ w.heap.size 24 (tC _) (0, 0) _ rfl (blk_row r1) Tryd.underlying24 rfl Tryd.infoOp) rfl ⟨rfl, below_setRow (((Below.refl _ _).alloc (Nat.le_refl _) _).trans (hb.mono (by simp))) (Nat.le_refl _) _⟩
  · rename_i h
    obtain rfl := int_eq (k := 5) h
    rw [told_5]
    exact bodyPost_ret (results_cell_row rfl _ _ w.heap.size 24 (tC _) (0, 0) _ rfl (blk_row r1) Tryd.underlying24 rfl Tryd.infoOp) rfl ⟨rfl, below_setRow (((Below.refl _ _).alloc (Nat.le_refl _) _).trans (hb.mono (by simp))) (Nat.le_refl _) _⟩
  · rename_i h
    obtain rfl := int_eq (k := 6) h
    rw [told_6]
    exact bodyPost_ret (results_cell_row rfl _ _ w.heap.size 24 (tC _) (0, 0) _ rfl (blk_row r1) Tryd.underlying24 rfl Tryd.infoOp) rfl ⟨rfl, below_setRow (((Below.refl _ _).alloc (Nat.le_refl _) _).trans (hb.mono (by simp))) (Nat.le_refl _) _⟩
  · rename_i h
    obtain rfl := int_eq (k := 7) h
    rw [told_7]
    exact bodyPost_ret (results_cell_row rfl _ _ w.heap.size 24 (tC _) (0, 0) _ rfl (blk_row r1) Tryd.underlying24 rfl Tryd.infoOp) rfl ⟨rfl, below_setRow (((Below.refl _ _).alloc (Nat.le_refl _) _).trans (hb.mono (by simp))) (Nat.le_refl _) _⟩
  · rename_i h
    obtain rfl := int_eq (k := 8) h
    rw [told_8]
    exact bodyPost_ret (results_cell_row rfl _ _ w.heap.size 24 (tC _) (0, 0) _ rfl (blk_row r1) Tryd.underlying24 rfl Tryd.infoOp) rfl ⟨rfl, below_setRow (((Below.refl _ _).alloc (Nat.le_refl _) _).trans (hb.mono (by simp))) (Nat.le_refl _) _⟩
  · rename_i h
    obtain rfl := int_eq (k := 9) h
    rw [told_9]
    exact bodyPost_ret (results_cell_row rfl _ _ w.heap.size 24 (tC _) (0, 0) _ rfl (blk_row r1) Tryd.underlying24 rfl Tryd.infoOp) rfl ⟨rfl, below_setRow (((Below.refl _ _).alloc (Nat.le_refl _) _).trans (hb.mono (by simp))) (Nat.le_refl _) _⟩
  · rename_i h
    obtain rfl := int_eq (k := 10) h
    rw [told_10]
    exact bodyPost_ret (results_cell_row rfl _ _ w.heap.size 24 (tC _) (0, 0) _ rfl (blk_row r1) Tryd.underlying24 rfl Tryd.infoOp) rfl ⟨rfl, below_setRow (((Below.refl _ _).alloc (Nat.le_refl _) _).trans (hb.mono (by simp))) (Nat.le_refl _) _⟩
  · rename_i h
    obtain rfl := int_eq (k := 11) h
    rw [told_11]
    exact bodyPost_ret (results_cell_row rfl _ _ w.heap.size 24 (tC _) (0, 0) _ rfl (blk_row r1) Tryd.underlying24 rfl Tryd.infoOp) rfl ⟨rfl, below_setRow (((Below.refl _ _).alloc (Nat.le_refl _) _).trans (hb.mono (by simp))) (Nat.le_refl _) _⟩
  · rename_i n0 n1 n2 n3 n4 n5 n6 n7 n8 n9 n10 n11
    replace n0 := int_ne (k := 0) n0
    replace n1 := int_ne (k := 1) n1
    replace n2 := int_ne (k := 2) n2
    replace n3 := int_ne (k := 3) n3
    replace n4 := int_ne (k := 4) n4
    replace n5 := int_ne (k := 5) n5
    replace n6 := int_ne (k := 6) n6
    replace n7 := int_ne (k := 7) n7
    replace n8 := int_ne (k := 8) n8
    replace n9 := int_ne (k := 9) n9
    replace n10 := int_ne (k := 10) n10
    replace n11 := int_ne (k := 11) n11
    have hno : isRow x = false := by
      cases hR : isRow x with
      | false => rfl
      | true =>
        have := arithmetic_some x h1 h0 hR
        simp only [List.mem_cons, List.not_mem_nil, or_false] at this
        omega
    rw [told_else (by omega) hno]
    exact bodyPost_ret (results_cell_row rfl _ _ w.heap.size 24 (tC _) (0, 0) _ rfl (blk_row (heap_alloc_new _ _)) Tryd.underlying24 rfl Tryd.infoOp) rfl ⟨rfl, below_setRow ((Below.refl _ _).alloc (Nat.le_refl _) _) (Nat.le_refl _) _⟩
theorem comparison_some : ∀ x, x < 48 → 16 ≤ x → isRow x = true → x ∈ [16, 17, 18, 19, 20, 21, 22, 23, 24, 25, 26, 27, 28, 29, 32] := by decide +kernel
set_option maxHeartbeats 4000000 in
theorem comparison_walk (x : Nat) (w : World) (h1 : x < 48) (h0 : 16 ≤ x) : Calls Tryd.prog 21 #[.int .u8 (x : Int)] w fun e w' => e = .returned (tv (told x)) ∧ Below w.heap.size w w' := by
  go_enter Tryd.func21, Tryd.ntmps21
  go_wp2_with (first | (go_at_call 38; refine (row_walk _ _ _ _ _).mono ?_; rintro e w1 ⟨rfl, hb⟩; have r1 : w1.heap[w.heap.size]? = some (.cells zO 24) := stay hb (heap_alloc_new w _)) | (refine wpList_store_row rfl 24 _ _ rfl _ zO _ rfl rfl r1 Tryd.infoOp rfl (op_one _ _ _ _ _) ?_) | (refine wpList_store_row rfl 24 _ _ rfl _ zO _ rfl rfl (heap_alloc_new _ _) Tryd.infoOp rfl (op_one _ _ _ _ _) ?_))
  · rename_i h
    obtain rfl := int_eq (k := 16) h
    rw [told_16]
    exact bodyPost_ret (results_cell_row rfl _ _ w.heap.size 24 (tC _) (0, 0) _ rfl (blk_row r1) Tryd.underlying24 rfl Tryd.infoOp) rfl ⟨rfl, below_setRow (((Below.refl _ _).alloc (Nat.le_refl _) _).trans (hb.mono (by simp))) (Nat.le_refl _) _⟩
  · rename_i h
    obtain rfl := int_eq (k := 17) h
    rw [told_17]
    exact bodyPost_ret (results_cell_row rfl _ _ w.heap.size 24 (tC _) (0, 0) _ rfl (blk_row r1) Tryd.underlying24 rfl Tryd.infoOp) rfl ⟨rfl, below_setRow (((Below.refl _ _).alloc (Nat.le_refl _) _).trans (hb.mono (by simp))) (Nat.le_refl _) _⟩
  · rename_i h
    obtain rfl := int_eq (k := 18) h
    rw [told_18]
    exact bodyPost_ret (results_cell_row rfl _ _ w.heap.size 24 (tC _) (0, 0) _ rfl (blk_row r1) Tryd.underlying24 rfl Tryd.infoOp) rfl ⟨rfl, below_setRow (((Below.refl _ _).alloc (Nat.le_refl _) _).trans (hb.mono (by simp))) (Nat.le_refl _) _⟩
  · rename_i h
    obtain rfl := int_eq (k := 19) h
    rw [told_19]
    exact bodyPost_ret (results_cell_row rfl _ _ w.heap.size 24 (tC _) (0, 0) _ rfl (blk_row r1) Tryd.underlying24 rfl Tryd.infoOp) rfl ⟨rfl, below_setRow (((Below.refl _ _).alloc (Nat.le_refl _) _).trans (hb.mono (by simp))) (Nat.le_refl _) _⟩
  · rename_i h
    obtain rfl := int_eq (k := 20) h
    rw [told_20]
    exact bodyPost_ret (results_cell_row rfl _ _ w.heap.size 24 (tC _) (0, 0) _ rfl (blk_row r1) Tryd.underlying24 rfl Tryd.infoOp) rfl ⟨rfl, below_setRow (((Below.refl _ _).alloc (Nat.le_refl _) _).trans (hb.mono (by simp))) (Nat.le_refl _) _⟩
  · rename_i h
    obtain rfl := int_eq (k := 21) h
    rw [told_21]
    exact bodyPost_ret (results_cell_row rfl _ _ w.heap.size 24 (tC _) (0, 0) _ rfl (blk_row r1) Tryd.underlying24 rfl Tryd.infoOp) rfl ⟨rfl, below_setRow (((Below.refl _ _).alloc (Nat.le_refl _) _).trans (hb.mono (by simp))) (Nat.le_refl _) _⟩
  · rename_i h
    obtain rfl := int_eq (k := 22) h
    rw [told_22]
    exact bodyPost_ret (results_cell_row rfl _ _ w.heap.size 24 (tC _) (0, 0) _ rfl (blk_row r1) Tryd.underlying24 rfl Tryd.infoOp) rfl ⟨rfl, below_setRow (((Below.refl _ _).alloc (Nat.le_refl _) _).trans (hb.mono (by simp))) (Nat.le_refl _) _⟩
  · rename_i h
    obtain rfl := int_eq (k := 23) h
    rw [told_23]
    exact bodyPost_ret (results_cell_row rfl _ _ w.heap.size 24 (tC _) (0, 0) _ rfl (blk_row r1) Tryd.underlying24 rfl Tryd.infoOp) rfl ⟨rfl, below_setRow (((Below.refl _ _).alloc (Nat.le_refl _) _).trans (hb.mono (by simp))) (Nat.le_refl _) _⟩
  · rename_i h
    obtain rfl := int_eq (k := 24) h
    rw [told_24]
    exact bodyPost_ret (results_cell_row rfl _ _ w.heap.size 24 (tC _) (0, 0) _ rfl (blk_row r1) Tryd.underlying24 rfl Tryd.infoOp) rfl ⟨rfl, below_setRow (((Below.refl _ _).alloc (Nat.le_refl _) _).trans (hb.mono (by simp))) (Nat.le_refl _) _⟩
  · rename_i h
    obtain rfl := int_eq (k := 25) h
    rw [told_25]
    exact bodyPost_ret (results_cell_row rfl _ _ w.heap.size 24 (tC _) (0, 0) _ rfl (blk_row r1) Tryd.underlying24 rfl Tryd.infoOp) rfl ⟨rfl, below_setRow (((Below.refl _ _).alloc (Nat.le_refl _) _).trans (hb.mono (by simp))) (Nat.le_refl _) _⟩
  · rename_i h
    obtain rfl := int_eq (k := 26) h
    rw [told_26]
    exact bodyPost_ret (results_cell_row rfl _ _ w.heap.size 24 (tC _) (0, 0) _ rfl (blk_row r1) Tryd.underlying24 rfl Tryd.infoOp) rfl ⟨rfl, below_setRow (((Below.refl _ _).alloc (Nat.le_refl _) _).trans (hb.mono (by simp))) (Nat.le_refl _) _⟩
  · rename_i h
    obtain rfl := int_eq (k := 27) h
    rw [told_27]
    exact bodyPost_ret (results_cell_row rfl _ _ w.heap.size 24 (tC _) (0, 0) _ rfl (blk_row r1) Tryd.underlying24 rfl Tryd.infoOp) rfl ⟨rfl, below_setRow (((Below.refl _ _).alloc (Nat.le_refl _) _).trans (hb.mono (by simp))) (Nat.le_refl _) _⟩
  · rename_i h
    obtain rfl := int_eq (k := 28) h
    rw [told_28]
    exact bodyPost_ret (results_cell_row rfl _ _ w.heap.size 24 (tC _) (0, 0) _ rfl (blk_row r1) Tryd.underlying24 rfl Tryd.infoOp) rfl ⟨rfl, below_setRow (((Below.refl _ _).alloc (Nat.le_refl _) _).trans (hb.mono (by simp))) (Nat.le_refl _) _⟩
  · rename_i h
    obtain rfl := int_eq (k := 29) h
    rw [told_29]
    exact bodyPost_ret (results_cell_row rfl _ _ w.heap.size 24 (tC _) (0, 0) _ rfl (blk_row r1) Tryd.underlying24 rfl Tryd.infoOp) rfl ⟨rfl, below_setRow (((Below.refl _ _).alloc (Nat.le_refl _) _).trans (hb.mono (by simp))) (Nat.le_refl _) _⟩
  · rename_i h
    obtain rfl := int_eq (k := 32) h
    rw [told_32]
    exact bodyPost_ret (results_cell_row rfl _ _ w.heap.size 24 (tC _) (0, 0) _ rfl (blk_row r1) Tryd.underlying24 rfl Tryd.infoOp) rfl ⟨rfl, below_setRow (((Below.refl _ _).alloc (Nat.le_refl _) _).trans (hb.mono (by simp))) (Nat.le_refl _) _⟩
  · rename_i n16 n17 n18 n19 n20 n21 n22 n23 n24 n25 n26 n27 n28 n29 n32
    replace n16 := int_ne (k := 16) n16
    replace n17 := int_ne (k := 17) n17
    replace n18 := int_ne (k := 18) n18
    replace n19 := int_ne (k := 19) n19
    replace n20 := int_ne (k := 20) n20
    replace n21 := int_ne (k := 21) n21
    replace n22 := int_ne (k := 22) n22
    replace n23 := int_ne (k := 23) n23
    replace n24 := int_ne (k := 24) n24
    replace n25 := int_ne (k := 25) n25
    replace n26 := int_ne (k := 26) n26
    replace n27 := int_ne (k := 27) n27
    replace n28 := int_ne (k := 28) n28
    replace n29 := int_ne (k := 29) n29
    replace n32 := int_ne (k := 32) n32
    have hno : isRow x = false := by
      cases hR : isRow x with
      | false => rfl
      | true =>
        have := comparison_some x h1 h0 hR
        simp only [List.mem_cons, List.not_mem_nil, or_false] at this
        omega
    rw [told_else (by omega) hno]
    exact bodyPost_ret (results_cell_row rfl _ _ w.heap.size 24 (tC _) (0, 0) _ rfl (blk_row (heap_alloc_new _ _)) Tryd.underlying24 rfl Tryd.infoOp) rfl ⟨rfl, below_setRow ((Below.refl _ _).alloc (Nat.le_refl _) _) (Nat.le_refl _) _⟩
theorem environment_some : ∀ x, x < 64 → 48 ≤ x → isRow x = true → x ∈ [48, 49, 50, 51, 52, 53, 54, 55, 56, 57, 58, 59, 60, 61, 62, 63] := by decide +kernel
set_option maxHeartbeats 4000000 in
theorem environment_walk (x : Nat) (w : World) (h1 : x < 64) (h0 : 48 ≤ x) : Calls Tryd.prog 22 #[.int .u8 (x : Int)] w fun e w' => e = .returned (tv (told x)) ∧ Below w.heap.size w w' := by
  go_enter Tryd.func22, Tryd.ntmps22
  go_wp2_with (first | (go_at_call 38; refine (row_walk _ _ _ _ _).mono ?_; rintro e w1 ⟨rfl, hb⟩; have r1 : w1.heap[w.heap.size]? = some (.cells zO 24) := stay hb (heap_alloc_new w _)) | (refine wpList_store_row rfl 24 _ _ rfl _ zO _ rfl rfl r1 Tryd.infoOp rfl (op_one _ _ _ _ _) ?_) | (refine wpList_store_row rfl 24 _ _ rfl _ zO _ rfl rfl (heap_alloc_new _ _) Tryd.infoOp rfl (op_one _ _ _ _ _) ?_))
  · rename_i h
    obtain rfl := int_eq (k := 48) h
    rw [told_48]
    exact bodyPost_ret (results_cell_row rfl _ _ w.heap.size 24 (tC _) (0, 0) _ rfl (blk_row r1) Tryd.underlying24 rfl Tryd.infoOp) rfl ⟨rfl, below_setRow (((Below.refl _ _).alloc (Nat.le_refl _) _).trans (hb.mono (by simp))) (Nat.le_refl _) _⟩
  · rename_i h
    obtain rfl := int_eq (k := 49) h
    rw [told_49]
    exact bodyPost_ret (results_cell_row rfl _ _ w.heap.size 24 (tC _) (0, 0) _ rfl (blk_row r1) Tryd.underlying24 rfl Tryd.infoOp) rfl ⟨rfl, below_setRow (((Below.refl _ _).alloc (Nat.le_refl _) _).trans (hb.mono (by simp))) (Nat.le_refl _) _⟩
  · rename_i h
    obtain rfl := int_eq (k := 50) h
    rw [told_50]
    exact bodyPost_ret (results_cell_row rfl _ _ w.heap.size 24 (tC _) (0, 0) _ rfl (blk_row r1) Tryd.underlying24 rfl Tryd.infoOp) rfl ⟨rfl, below_setRow (((Below.refl _ _).alloc (Nat.le_refl _) _).trans (hb.mono (by simp))) (Nat.le_refl _) _⟩
  · rename_i h
    obtain rfl := int_eq (k := 51) h
    rw [told_51]
    exact bodyPost_ret (results_cell_row rfl _ _ w.heap.size 24 (tC _) (0, 0) _ rfl (blk_row r1) Tryd.underlying24 rfl Tryd.infoOp) rfl ⟨rfl, below_setRow (((Below.refl _ _).alloc (Nat.le_refl _) _).trans (hb.mono (by simp))) (Nat.le_refl _) _⟩
  · rename_i h
    obtain rfl := int_eq (k := 52) h
    rw [told_52]
    exact bodyPost_ret (results_cell_row rfl _ _ w.heap.size 24 (tC _) (0, 0) _ rfl (blk_row r1) Tryd.underlying24 rfl Tryd.infoOp) rfl ⟨rfl, below_setRow (((Below.refl _ _).alloc (Nat.le_refl _) _).trans (hb.mono (by simp))) (Nat.le_refl _) _⟩
  · rename_i h
    obtain rfl := int_eq (k := 53) h
    rw [told_53]
    exact bodyPost_ret (results_cell_row rfl _ _ w.heap.size 24 (tC _) (0, 0) _ rfl (blk_row r1) Tryd.underlying24 rfl Tryd.infoOp) rfl ⟨rfl, below_setRow (((Below.refl _ _).alloc (Nat.le_refl _) _).trans (hb.mono (by simp))) (Nat.le_refl _) _⟩
  · rename_i h
    obtain rfl := int_eq (k := 54) h
    rw [told_54]
    exact bodyPost_ret (results_cell_row rfl _ _ w.heap.size 24 (tC _) (0, 0) _ rfl (blk_row r1) Tryd.underlying24 rfl Tryd.infoOp) rfl ⟨rfl, below_setRow (((Below.refl _ _).alloc (Nat.le_refl _) _).trans (hb.mono (by simp))) (Nat.le_refl _) _⟩
  · rename_i h
    obtain rfl := int_eq (k := 55) h
    rw [told_55]
    exact bodyPost_ret (results_cell_row rfl _ _ w.heap.size 24 (tC _) (0, 0) _ rfl (blk_row r1) Tryd.underlying24 rfl Tryd.infoOp) rfl ⟨rfl, below_setRow (((Below.refl _ _).alloc (Nat.le_refl _) _).trans (hb.mono (by simp))) (Nat.le_refl _) _⟩
  · rename_i h
    obtain rfl := int_eq (k := 56) h
    rw [told_56]
    exact bodyPost_ret (results_cell_row rfl _ _ w.heap.size 24 (tC _) (0, 0) _ rfl (blk_row r1) Tryd.underlying24 rfl Tryd.infoOp) rfl ⟨rfl, below_setRow (((Below.refl _ _).alloc (Nat.le_refl _) _).trans (hb.mono (by simp))) (Nat.le_refl _) _⟩
  · rename_i h
    obtain rfl := int_eq (k := 57) h
    rw [told_57]
    exact bodyPost_ret (results_cell_row rfl _ _ w.heap.size 24 (tC _) (0, 0) _ rfl (blk_row r1) Tryd.underlying24 rfl Tryd.infoOp) rfl ⟨rfl, below_setRow (((Below.refl _ _).alloc (Nat.le_refl _) _).trans (hb.mono (by simp))) (Nat.le_refl _) _⟩
  · rename_i h
    obtain rfl := int_eq (k := 58) h
    rw [told_58]
    exact bodyPost_ret (results_cell_row rfl _ _ w.heap.size 24 (tC _) (0, 0) _ rfl (blk_row r1) Tryd.underlying24 rfl Tryd.infoOp) rfl ⟨rfl, below_setRow (((Below.refl _ _).alloc (Nat.le_refl _) _).trans (hb.mono (by simp))) (Nat.le_refl _) _⟩
  · rename_i h
    obtain rfl := int_eq (k := 59) h
    rw [told_59]
    exact bodyPost_ret (results_cell_row rfl _ _ w.heap.size 24 (tC _) (0, 0) _ rfl (blk_row r1) Tryd.underlying24 rfl Tryd.infoOp) rfl ⟨rfl, below_setRow (((Below.refl _ _).alloc (Nat.le_refl _) _).trans (hb.mono (by simp))) (Nat.le_refl _) _⟩
  · rename_i h
    obtain rfl := int_eq (k := 60) h
    rw [told_60]
    exact bodyPost_ret (results_cell_row rfl _ _ w.heap.size 24 (tC _) (0, 0) _ rfl (blk_row r1) Tryd.underlying24 rfl Tryd.infoOp) rfl ⟨rfl, below_setRow (((Below.refl _ _).alloc (Nat.le_refl _) _).trans (hb.mono (by simp))) (Nat.le_refl _) _⟩
  · rename_i h
    obtain rfl := int_eq (k := 61) h
    rw [told_61]
    exact bodyPost_ret (results_cell_row rfl _ _ w.heap.size 24 (tC _) (0, 0) _ rfl (blk_row r1) Tryd.underlying24 rfl Tryd.infoOp) rfl ⟨rfl, below_setRow (((Below.refl _ _).alloc (Nat.le_refl _) _).trans (hb.mono (by simp))) (Nat.le_refl _) _⟩
  · rename_i h
    obtain rfl := int_eq (k := 62) h
    rw [told_62]
    exact bodyPost_ret (results_cell_row rfl _ _ w.heap.size 24 (tC _) (0, 0) _ rfl (blk_row r1) Tryd.underlying24 rfl Tryd.infoOp) rfl ⟨rfl, below_setRow (((Below.refl _ _).alloc (Nat.le_refl _) _).trans (hb.mono (by simp))) (Nat.le_refl _) _⟩
  · rename_i h
    obtain rfl := int_eq (k := 63) h
    rw [told_63]
    exact bodyPost_ret (results_cell_row rfl _ _ w.heap.size 24 (tC _) (0, 0) _ rfl (blk_row r1) Tryd.underlying24 rfl Tryd.infoOp) rfl ⟨rfl, below_setRow (((Below.refl _ _).alloc (Nat.le_refl _) _).trans (hb.mono (by simp))) (Nat.le_refl _) _⟩
theorem ofBlock_some : ∀ x, x < 80 → 64 ≤ x → isRow x = true → x ∈ [64, 65, 66, 67, 68, 69, 70, 71, 72] := by decide +kernel
set_option maxHeartbeats 4000000 in
theorem ofBlock_walk (x : Nat) (w : World) (h1 : x < 80) (h0 : 64 ≤ x) : Calls Tryd.prog 23 #[.int .u8 (x : Int)] w fun e w' => e = .returned (tv (told x)) ∧ Below w.heap.size w w' := by
  go_enter Tryd.func23, Tryd.ntmps23
  go_wp2_with (first | (go_at_call 38; refine (row_walk _ _ _ _ _).mono ?_; rintro e w1 ⟨rfl, hb⟩; have r1 : w1.heap[w.heap.size]? = some (.cells zO 24) := stay hb (heap_alloc_new w _)) | (refine wpList_store_row rfl 24 _ _ rfl _ zO _ rfl rfl r1 Tryd.infoOp rfl (op_one _ _ _ _ _) ?_) | (refine wpList_store_row rfl 24 _ _ rfl _ zO _ rfl rfl (heap_alloc_new _ _) Tryd.infoOp rfl (op_one _ _ _ _ _) ?_))
  · rename_i h
    obtain rfl := int_eq (k := 64) h
    rw [told_64]
    exact bodyPost_ret (results_cell_row rfl _ _ w.heap.size 24 (tC _) (0, 0) _ rfl (blk_row r1) Tryd.underlying24 rfl Tryd.infoOp) rfl ⟨rfl, below_setRow (((Below.refl _ _).alloc (Nat.le_refl _) _).trans (hb.mono (by simp))) (Nat.le_refl _) _⟩
  · rename_i h
    obtain rfl := int_eq (k := 65) h
    rw [told_65]
    exact bodyPost_ret (results_cell_row rfl _ _ w.heap.size 24 (tC _) (0, 0) _ rfl (blk_row r1) Tryd.underlying24 rfl Tryd.infoOp) rfl ⟨rfl, below_setRow (((Below.refl _ _).alloc (Nat.le_refl _) _).trans (hb.mono (by simp))) (Nat.le_refl _) _⟩
  · rename_i h
    obtain rfl := int_eq (k := 66) h
    rw [told_66]
    exact bodyPost_ret (results_cell_row rfl _ _ w.heap.size 24 (tC _) (0, 0) _ rfl (blk_row r1) Tryd.underlying24 rfl Tryd.infoOp) rfl ⟨rfl, below_setRow (((Below.refl _ _).alloc (Nat.le_refl _) _).trans (hb.mono (by simp))) (Nat.le_refl _) _⟩
  · rename_i h
    obtain rfl := int_eq (k := 67) h
    rw [told_67]
    exact bodyPost_ret (results_cell_row rfl _ _ w.heap.size 24 (tC _) (0, 0) _ rfl (blk_row r1) Tryd.underlying24 rfl Tryd.infoOp) rfl ⟨rfl, below_setRow (((Below.refl _ _).alloc (Nat.le_refl _) _).trans (hb.mono (by simp))) (Nat.le_refl _) _⟩
  · rename_i h
    obtain rfl := int_eq (k := 68) h
    rw [told_68]
    exact bodyPost_ret (results_cell_row rfl _ _ w.heap.size 24 (tC _) (0, 0) _ rfl (blk_row r1) Tryd.underlying24 rfl Tryd.infoOp) rfl ⟨rfl, below_setRow (((Below.refl _ _).alloc (Nat.le_refl _) _).trans (hb.mono (by simp))) (Nat.le_refl _) _⟩
  · rename_i h
    obtain rfl := int_eq (k := 69) h
    rw [told_69]
    exact bodyPost_ret (results_cell_row rfl _ _ w.heap.size 24 (tC _) (0, 0) _ rfl (blk_row r1) Tryd.underlying24 rfl Tryd.infoOp) rfl ⟨rfl, below_setRow (((Below.refl _ _).alloc (Nat.le_refl _) _).trans (hb.mono (by simp))) (Nat.le_refl _) _⟩
  · rename_i h
    obtain rfl := int_eq (k := 70) h
    rw [told_70]
    exact bodyPost_ret (results_cell_row rfl _ _ w.heap.size 24 (tC _) (0, 0) _ rfl (blk_row r1) Tryd.underlying24 rfl Tryd.infoOp) rfl ⟨rfl, below_setRow (((Below.refl _ _).alloc (Nat.le_refl _) _).trans (hb.mono (by simp))) (Nat.le_refl _) _⟩
  · rename_i h
    obtain rfl := int_eq (k := 71) h
    rw [told_71]
    exact bodyPost_ret (results_cell_row rfl _ _ w.heap.size 24 (tC _) (0, 0) _ rfl (blk_row r1) Tryd.underlying24 rfl Tryd.infoOp) rfl ⟨rfl, below_setRow (((Below.refl _ _).alloc (Nat.le_refl _) _).trans (hb.mono (by simp))) (Nat.le_refl _) _⟩
  · rename_i h
    obtain rfl := int_eq (k := 72) h
    rw [told_72]
    exact bodyPost_ret (results_cell_row rfl _ _ w.heap.size 24 (tC _) (0, 0) _ rfl (blk_row r1) Tryd.underlying24 rfl Tryd.infoOp) rfl ⟨rfl, below_setRow (((Below.refl _ _).alloc (Nat.le_refl _) _).trans (hb.mono (by simp))) (Nat.le_refl _) _⟩
  · rename_i n64 n65 n66 n67 n68 n69 n70 n71 n72
    replace n64 := int_ne (k := 64) n64
    replace n65 := int_ne (k := 65) n65
    replace n66 := int_ne (k := 66) n66
    replace n67 := int_ne (k := 67) n67
    replace n68 := int_ne (k := 68) n68
    replace n69 := int_ne (k := 69) n69
    replace n70 := int_ne (k := 70) n70
    replace n71 := int_ne (k := 71) n71
    replace n72 := int_ne (k := 72) n72
    have hno : isRow x = false := by
      cases hR : isRow x with
      | false => rfl
      | true =>
        have := ofBlock_some x h1 h0 hR
        simp only [List.mem_cons, List.not_mem_nil, or_false] at this
        omega
    rw [told_else (by omega) hno]
    exact bodyPost_ret (results_cell_row rfl _ _ w.heap.size 24 (tC _) (0, 0) _ rfl (blk_row (heap_alloc_new _ _)) Tryd.underlying24 rfl Tryd.infoOp) rfl ⟨rfl, below_setRow ((Below.refl _ _).alloc (Nat.le_refl _) _) (Nat.le_refl _) _⟩
theorem flow_some : ∀ x, x < 96 → 80 ≤ x → isRow x = true → x ∈ [80, 81, 82, 83, 84, 85, 86, 87, 88, 89, 90, 91, 95] := by decide +kernel
set_option maxHeartbeats 4000000 in
theorem flow_walk (x : Nat) (w : World) (h1 : x < 96) (h0 : 80 ≤ x) : Calls Tryd.prog 24 #[.int .u8 (x : Int)] w fun e w' => e = .returned (tv (told x)) ∧ Below w.heap.size w w' := by
  go_enter Tryd.func24, Tryd.ntmps24
  go_wp2_with (first | (go_at_call 38; refine (row_walk _ _ _ _ _).mono ?_; rintro e w1 ⟨rfl, hb⟩; have r1 : w1.heap[w.heap.size]? = some (.cells zO 24) := stay hb (heap_alloc_new w _)) | (refine wpList_store_row rfl 24 _ _ rfl _ zO _ rfl rfl r1 Tryd.infoOp rfl (op_one _ _ _ _ _) ?_) | (refine wpList_store_row rfl 24 _ _ rfl _ zO _ rfl rfl (heap_alloc_new _ _) Tryd.infoOp rfl (op_one _ _ _ _ _) ?_))
  · rename_i h
    obtain rfl := int_eq (k := 80) h
    rw [told_80]
    exact bodyPost_ret (results_cell_row rfl _ _ w.heap.size 24 (tC _) (0, 0) _ rfl (blk_row r1) Tryd.underlying24 rfl Tryd.infoOp) rfl ⟨rfl, below_setRow (((Below.refl _ _).alloc (Nat.le_refl _) _).trans (hb.mono (by simp))) (Nat.le_refl _) _⟩
  · rename_i h
    obtain rfl := int_eq (k := 81) h
    rw [told_81]
    exact bodyPost_ret (results_cell_row rfl _ _ w.heap.size 24 (tC _) (0, 0) _ rfl (blk_row r1) Tryd.underlying24 rfl Tryd.infoOp) rfl ⟨rfl, below_setRow (((Below.refl _ _).alloc (Nat.le_refl _) _).trans (hb.mono (by simp))) (Nat.le_refl _) _⟩
  · rename_i h
    obtain rfl := int_eq (k := 82) h
    rw [told_82]
    exact bodyPost_ret (results_cell_row rfl _ _ w.heap.size 24 (tC _) (0, 0) _ rfl (blk_row r1) Tryd.underlying24 rfl Tryd.infoOp) rfl ⟨rfl, below_setRow (((Below.refl _ _).alloc (Nat.le_refl _) _).trans (hb.mono (by simp))) (Nat.le_refl _) _⟩
  · rename_i h
    obtain rfl := int_eq (k := 83) h
    rw [told_83]
    exact bodyPost_ret (results_cell_row rfl _ _ w.heap.size 24 (tC _) (0, 0) _ rfl (blk_row r1) Tryd.underlying24 rfl Tryd.infoOp) rfl ⟨rfl, below_setRow (((Below.refl _ _).alloc (Nat.le_refl _) _).trans (hb.mono (by simp))) (Nat.le_refl _) _⟩
  · rename_i h
    obtain rfl := int_eq (k := 84) h
    rw [told_84]
    exact bodyPost_ret (results_cell_row rfl _ _ w.heap.size 24 (tC _) (0, 0) _ rfl (blk_row r1) Tryd.underlying24 rfl Tryd.infoOp) rfl ⟨rfl, below_setRow (((Below.refl _ _).alloc (Nat.le_refl _) _).trans (hb.mono (by simp))) (Nat.le_refl _) _⟩
  · rename_i h
    obtain rfl := int_eq (k := 85) h
    rw [told_85]
    exact bodyPost_ret (results_cell_row rfl _ _ w.heap.size 24 (tC _) (0, 0) _ rfl (blk_row r1) Tryd.underlying24 rfl Tryd.infoOp) rfl ⟨rfl, below_setRow (((Below.refl _ _).alloc (Nat.le_refl _) _).trans (hb.mono (by simp))) (Nat.le_refl _) _⟩
  · rename_i h
    obtain rfl := int_eq (k := 86) h
    rw [told_86]
    exact bodyPost_ret (results_cell_row rfl _ _ w.heap.size 24 (tC _) (0, 0) _ rfl (blk_row r1) Tryd.underlying24 rfl Tryd.infoOp) rfl ⟨rfl, below_setRow (((Below.refl _ _).alloc (Nat.le_refl _) _).trans (hb.mono (by simp))) (Nat.le_refl _) _⟩
  · rename_i h
    obtain rfl := int_eq (k := 87) h
    rw [told_87]
    exact bodyPost_ret (results_cell_row rfl _ _ w.heap.size 24 (tC _) (0, 0) _ rfl (blk_row r1) Tryd.underlying24 rfl Tryd.infoOp) rfl ⟨rfl, below_setRow (((Below.refl _ _).alloc (Nat.le_refl _) _).trans (hb.mono (by simp))) (Nat.le_refl _) _⟩
  · rename_i h
    obtain rfl := int_eq (k := 88) h
    rw [told_88]
    exact bodyPost_ret (results_cell_row rfl _ _ w.heap.size 24 (tC _) (0, 0) _ rfl (blk_row r1) Tryd.underlying24 rfl Tryd.infoOp) rfl ⟨rfl, below_setRow (((Below.refl _ _).alloc (Nat.le_refl _) _).trans (hb.mono (by simp))) (Nat.le_refl _) _⟩
  · rename_i h
    obtain rfl := int_eq (k := 89) h
    rw [told_89]
    exact bodyPost_ret (results_cell_row rfl _ _ w.heap.size 24 (tC _) (0, 0) _ rfl (blk_row r1) Tryd.underlying24 rfl Tryd.infoOp) rfl ⟨rfl, below_setRow (((Below.refl _ _).alloc (Nat.le_refl _) _).trans (hb.mono (by simp))) (Nat.le_refl _) _⟩
  · rename_i h
    obtain rfl := int_eq (k := 90) h
    rw [told_90]
    exact bodyPost_ret (results_cell_row rfl _ _ w.heap.size 24 (tC _) (0, 0) _ rfl (blk_row r1) Tryd.underlying24 rfl Tryd.infoOp) rfl ⟨rfl, below_setRow (((Below.refl _ _).alloc (Nat.le_refl _) _).trans (hb.mono (by simp))) (Nat.le_refl _) _⟩
  · rename_i h
    obtain rfl := int_eq (k := 91) h
    rw [told_91]
    exact bodyPost_ret (results_cell_row rfl _ _ w.heap.size 24 (tC _) (0, 0) _ rfl (blk_row r1) Tryd.underlying24 rfl Tryd.infoOp) rfl ⟨rfl, below_setRow (((Below.refl _ _).alloc (Nat.le_refl _) _).trans (hb.mono (by simp))) (Nat.le_refl _) _⟩
  · rename_i h
    obtain rfl := int_eq (k := 95) h
    rw [told_95]
    exact bodyPost_ret (results_cell_row rfl _ _ w.heap.size 24 (tC _) (0, 0) _ rfl (blk_row r1) Tryd.underlying24 rfl Tryd.infoOp) rfl ⟨rfl, below_setRow (((Below.refl _ _).alloc (Nat.le_refl _) _).trans (hb.mono (by simp))) (Nat.le_refl _) _⟩
  · rename_i n80 n81 n82 n83 n84 n85 n86 n87 n88 n89 n90 n91 n95
    replace n80 := int_ne (k := 80) n80
    replace n81 := int_ne (k := 81) n81
    replace n82 := int_ne (k := 82) n82
    replace n83 := int_ne (k := 83) n83
    replace n84 := int_ne (k := 84) n84
    replace n85 := int_ne (k := 85) n85
    replace n86 := int_ne (k := 86) n86
    replace n87 := int_ne (k := 87) n87
    replace n88 := int_ne (k := 88) n88
    replace n89 := int_ne (k := 89) n89
    replace n90 := int_ne (k := 90) n90
    replace n91 := int_ne (k := 91) n91
    replace n95 := int_ne (k := 95) n95
    have hno : isRow x = false := by
      cases hR : isRow x with
      | false => rfl
      | true =>
        have := flow_some x h1 h0 hR
        simp only [List.mem_cons, List.not_mem_nil, or_false] at this
        omega
    rw [told_else (by omega) hno]
    exact bodyPost_ret (results_cell_row rfl _ _ w.heap.size 24 (tC _) (0, 0) _ rfl (blk_row (heap_alloc_new _ _)) Tryd.underlying24 rfl Tryd.infoOp) rfl ⟨rfl, below_setRow ((Below.refl _ _).alloc (Nat.le_refl _) _) (Nat.le_refl _) _⟩
theorem system_some : ∀ x, x < 256 → 165 ≤ x → isRow x = true → x ∈ [240, 241, 242, 243, 244, 245, 250, 253, 254, 255] := by decide +kernel
set_option maxHeartbeats 4000000 in
theorem system_walk (x : Nat) (w : World) (h1 : x < 256) (h0 : 165 ≤ x) : Calls Tryd.prog 30 #[.int .u8 (x : Int)] w fun e w' => e = .returned (tv (told x)) ∧ Below w.heap.size w w' := by
  go_enter Tryd.func30, Tryd.ntmps30
  go_wp2_with (first | (go_at_call 38; refine (row_walk _ _ _ _ _).mono ?_; rintro e w1 ⟨rfl, hb⟩; have r1 : w1.heap[w.heap.size]? = some (.cells zO 24) := stay hb (heap_alloc_new w _)) | (refine wpList_store_row rfl 24 _ _ rfl _ zO _ rfl rfl r1 Tryd.infoOp rfl (op_one _ _ _ _ _) ?_) | (refine wpList_store_row rfl 24 _ _ rfl _ zO _ rfl rfl (heap_alloc_new _ _) Tryd.infoOp rfl (op_one _ _ _ _ _) ?_))
  · rename_i h
    obtain rfl := int_eq (k := 240) h
    rw [told_240]
    exact bodyPost_ret (results_cell_row rfl _ _ w.heap.size 24 (tC _) (0, 0) _ rfl (blk_row r1) Tryd.underlying24 rfl Tryd.infoOp) rfl ⟨rfl, below_setRow (((Below.refl _ _).alloc (Nat.le_refl _) _).trans (hb.mono (by simp))) (Nat.le_refl _) _⟩
  · rename_i h
    obtain rfl := int_eq (k := 241) h
    rw [told_241]
    exact bodyPost_ret (results_cell_row rfl _ _ w.heap.size 24 (tC _) (0, 0) _ rfl (blk_row r1) Tryd.underlying24 rfl Tryd.infoOp) rfl ⟨rfl, below_setRow (((Below.refl _ _).alloc (Nat.le_refl _) _).trans (hb.mono (by simp))) (Nat.le_refl _) _⟩
  · rename_i h
    obtain rfl := int_eq (k := 242) h
    rw [told_242]
    exact bodyPost_ret (results_cell_row rfl _ _ w.heap.size 24 (tC _) (0, 0) _ rfl (blk_row r1) Tryd.underlying24 rfl Tryd.infoOp) rfl ⟨rfl, below_setRow (((Below.refl _ _).alloc (Nat.le_refl _) _).trans (hb.mono (by simp))) (Nat.le_refl _) _⟩
  · rename_i h
    obtain rfl := int_eq (k := 243) h
    rw [told_243]
    exact bodyPost_ret (results_cell_row rfl _ _ w.heap.size 24 (tC _) (0, 0) _ rfl (blk_row r1) Tryd.underlying24 rfl Tryd.infoOp) rfl ⟨rfl, below_setRow (((Below.refl _ _).alloc (Nat.le_refl _) _).trans (hb.mono (by simp))) (Nat.le_refl _) _⟩
  · rename_i h
    obtain rfl := int_eq (k := 244) h
    rw [told_244]
    exact bodyPost_ret (results_cell_row rfl _ _ w.heap.size 24 (tC _) (0, 0) _ rfl (blk_row r1) Tryd.underlying24 rfl Tryd.infoOp) rfl ⟨rfl, below_setRow (((Below.refl _ _).alloc (Nat.le_refl _) _).trans (hb.mono (by simp))) (Nat.le_refl _) _⟩
  · rename_i h
    obtain rfl := int_eq (k := 245) h
    rw [told_245]
    exact bodyPost_ret (results_cell_row rfl _ _ w.heap.size 24 (tC _) (0, 0) _ rfl (blk_row r1) Tryd.underlying24 rfl Tryd.infoOp) rfl ⟨rfl, below_setRow (((Below.refl _ _).alloc (Nat.le_refl _) _).trans (hb.mono (by simp))) (Nat.le_refl _) _⟩
  · rename_i h
    obtain rfl := int_eq (k := 250) h
    rw [told_250]
    exact bodyPost_ret (results_cell_row rfl _ _ w.heap.size 24 (tC _) (0, 0) _ rfl (blk_row r1) Tryd.underlying24 rfl Tryd.infoOp) rfl ⟨rfl, below_setRow (((Below.refl _ _).alloc (Nat.le_refl _) _).trans (hb.mono (by simp))) (Nat.le_refl _) _⟩
  · rename_i h
    obtain rfl := int_eq (k := 253) h
    rw [told_253]
    exact bodyPost_ret (results_cell_row rfl _ _ w.heap.size 24 (tC _) (0, 0) _ rfl (blk_row r1) Tryd.underlying24 rfl Tryd.infoOp) rfl ⟨rfl, below_setRow (((Below.refl _ _).alloc (Nat.le_refl _) _).trans (hb.mono (by simp))) (Nat.le_refl _) _⟩
  · rename_i h
    obtain rfl := int_eq (k := 254) h
    rw [told_254]
    exact bodyPost_ret (results_cell_row rfl _ _ w.heap.size 24 (tC _) (0, 0) _ rfl (blk_row r1) Tryd.underlying24 rfl Tryd.infoOp) rfl ⟨rfl, below_setRow (((Below.refl _ _).alloc (Nat.le_refl _) _).trans (hb.mono (by simp))) (Nat.le_refl _) _⟩
  · rename_i h
    obtain rfl := int_eq (k := 255) h
    rw [told_255]
    exact bodyPost_ret (results_cell_row rfl _ _ w.heap.size 24 (tC _) (0, 0) _ rfl (blk_row r1) Tryd.underlying24 rfl Tryd.infoOp) rfl ⟨rfl, below_setRow (((Below.refl _ _).alloc (Nat.le_refl _) _).trans (hb.mono (by simp))) (Nat.le_refl _) _⟩
  · rename_i n240 n241 n242 n243 n244 n245 n250 n253 n254 n255
    replace n240 := int_ne (k := 240) n240
    replace n241 := int_ne (k := 241) n241
    replace n242 := int_ne (k := 242) n242
    replace n243 := int_ne (k := 243) n243
    replace n244 := int_ne (k := 244) n244
    replace n245 := int_ne (k := 245) n245
    replace n250 := int_ne (k := 250) n250
    replace n253 := int_ne (k := 253) n253
    replace n254 := int_ne (k := 254) n254
    replace n255 := int_ne (k := 255) n255
    have hno : isRow x = false := by
      cases hR : isRow x with
      | false => rfl
      | true =>
        have := system_some x h1 h0 hR
        simp only [List.mem_cons, List.not_mem_nil, or_false] at this
        omega
    rw [told_else (by omega) hno]
    exact bodyPost_ret (results_cell_row rfl _ _ w.heap.size 24 (tC _) (0, 0) _ rfl (blk_row (heap_alloc_new _ _)) Tryd.underlying24 rfl Tryd.infoOp) rfl ⟨rfl, below_setRow ((Below.refl _ _).alloc (Nat.le_refl _) _) (Nat.le_refl _) _⟩
end Go.Proofs.YtokompkkbnbinaaDoor
/- The code's Info, of every byte. -/
namespace Go.Proofs.YtokompkkbnbinaaDoor
open Go.RowKit SmWord
set_option maxRecDepth 100000
theorem itoa_walk (n : Nat) (w : World) (h : n < 100) : Calls Tryd.prog 32 #[.int .i64 (n : Int)] w fun e w' => e = .returned (.string ⟨(Lib.decDigits n).toArray⟩) ∧ w' = w := Tryd.strconv_Itoa_small n h w
theorem numbered_walk (s D : ByteArray) (n : Nat) (w : World) (hD : D.size < 1000) (hs : s.size < 1000) (KI : Hid (∀ w, Calls Tryd.prog 32 #[.int .i64 (n : Int)] w fun e w' => e = .returned (.string D) ∧ w' = w)) :
    Calls Tryd.prog 39 #[.string s, .int .i64 (n : Int)] w fun e w' => e = .returned (.string (s ++ D)) ∧ w' = w := by
  go_enter Tryd.func39, Tryd.ntmps39
  go_wp2_with (go_at_call 32; refine (KI.out _).mono ?_; rintro e w1 ⟨rfl, rfl⟩)
  go_ret
  exact ⟨rfl, rfl⟩
theorem push_walk (n : Nat) (N : ByteArray) (w : World)  (KN : Hid (∀ w, Calls Tryd.prog 39 #[.string ⟨#[80, 85, 83, 72]⟩, .int .i64 (n : Int)] w fun e w' => e = .returned (.string N) ∧ w' = w)) :
    Calls Tryd.prog 25 #[.int .i64 (n : Int)] w fun e w' => e = .returned (tv ⟨N, 0, 1, 3, n⟩) ∧ Below w.heap.size w w' := by
  go_enter Tryd.func25, Tryd.ntmps25
  go_wp2_with (first | (go_at_call 39; refine (KN.out _).mono ?_; rintro e w1 ⟨rfl, rfl⟩) | (go_at_call 38; refine (row_walk _ _ _ _ _).mono ?_; rintro e w1 ⟨rfl, hb⟩; have r1 : w1.heap[w.heap.size]? = some (.cells zO 24) := stay hb (heap_alloc_new w _)) | (refine wpList_store_row rfl 24 _ _ rfl _ zO _ rfl rfl r1 Tryd.infoOp rfl (op_one _ _ _ _ _) ?_) | (refine wpList_store_row rfl 24 _ _ rfl _ zO _ rfl rfl (blk_alloc r1) Tryd.infoOp rfl (op_one _ _ _ _ _) ?_))
  have bW := ((Below.refl w.heap.size w).alloc (Nat.le_refl _) (.cells zO 24)).trans (hb.mono (by simp))
  exact bodyPost_ret (results_cell_row rfl _ _ w.heap.size 24 (tC _) (0, 0) _ rfl (blk_row (blk_alloc r1)) Tryd.underlying24 rfl Tryd.infoOp) rfl ⟨rfl, below_setRow (bW.alloc bW.size _) (Nat.le_refl _) _⟩
theorem dup_walk (n m : Nat) (N : ByteArray) (w : World) (hn : n ≤ 1000) (hm : (n : Int) + 1 = (m : Int)) (KN : Hid (∀ w, Calls Tryd.prog 39 #[.string ⟨#[68, 85, 80]⟩, .int .i64 (n : Int)] w fun e w' => e = .returned (.string N) ∧ w' = w)) :
    Calls Tryd.prog 27 #[.int .i64 (n : Int)] w fun e w' => e = .returned (tv ⟨N, n, m, 3, 0⟩) ∧ Below w.heap.size w w' := by
  go_enter Tryd.func27, Tryd.ntmps27
  go_wp2_with (first | (go_at_call 39; refine (KN.out _).mono ?_; rintro e w1 ⟨rfl, rfl⟩) | (go_at_call 38; refine (row_walk _ _ _ _ _).mono ?_; rintro e w1 ⟨rfl, hb⟩; have r1 : w1.heap[w.heap.size]? = some (.cells zO 24) := stay hb (heap_alloc_new w _)) | (refine wpList_store_row rfl 24 _ _ rfl _ zO _ rfl rfl r1 Tryd.infoOp rfl (op_one _ _ _ _ _) ?_) | (refine wpList_store_row rfl 24 _ _ rfl _ zO _ rfl rfl (blk_alloc r1) Tryd.infoOp rfl (op_one _ _ _ _ _) ?_))
  have bW := ((Below.refl w.heap.size w).alloc (Nat.le_refl _) (.cells zO 24)).trans (hb.mono (by simp))
  exact bodyPost_ret (results_cell_row rfl _ _ w.heap.size 24 (tC _) (0, 0) _ rfl (blk_row r1) Tryd.underlying24 rfl Tryd.infoOp) rfl ⟨rfl, below_setRow bW (Nat.le_refl _) _⟩
theorem swap_walk (n m : Nat) (N : ByteArray) (w : World) (hn : n ≤ 1000) (hm : (n : Int) + 1 = (m : Int)) (KN : Hid (∀ w, Calls Tryd.prog 39 #[.string ⟨#[83, 87, 65, 80]⟩, .int .i64 (n : Int)] w fun e w' => e = .returned (.string N) ∧ w' = w)) :
    Calls Tryd.prog 28 #[.int .i64 (n : Int)] w fun e w' => e = .returned (tv ⟨N, m, m, 3, 0⟩) ∧ Below w.heap.size w w' := by
  go_enter Tryd.func28, Tryd.ntmps28
  go_wp2_with (first | (go_at_call 39; refine (KN.out _).mono ?_; rintro e w1 ⟨rfl, rfl⟩) | (go_at_call 38; refine (row_walk _ _ _ _ _).mono ?_; rintro e w1 ⟨rfl, hb⟩; have r1 : w1.heap[w.heap.size]? = some (.cells zO 24) := stay hb (heap_alloc_new w _)) | (refine wpList_store_row rfl 24 _ _ rfl _ zO _ rfl rfl r1 Tryd.infoOp rfl (op_one _ _ _ _ _) ?_) | (refine wpList_store_row rfl 24 _ _ rfl _ zO _ rfl rfl (blk_alloc r1) Tryd.infoOp rfl (op_one _ _ _ _ _) ?_))
  have bW := ((Below.refl w.heap.size w).alloc (Nat.le_refl _) (.cells zO 24)).trans (hb.mono (by simp))
  exact bodyPost_ret (results_cell_row rfl _ _ w.heap.size 24 (tC _) (0, 0) _ rfl (blk_row r1) Tryd.underlying24 rfl Tryd.infoOp) rfl ⟨rfl, below_setRow bW (Nat.le_refl _) _⟩
theorem log_walk (n m g : Nat) (N : ByteArray) (w : World) (hn : n ≤ 1000) (hm : (n : Int) + 2 = (m : Int)) (hg : 375 + 375 * (n : Int) = (g : Int)) (KN : Hid (∀ w, Calls Tryd.prog 39 #[.string ⟨#[76, 79, 71]⟩, .int .i64 (n : Int)] w fun e w' => e = .returned (.string N) ∧ w' = w)) :
    Calls Tryd.prog 29 #[.int .i64 (n : Int)] w fun e w' => e = .returned (tv ⟨N, m, 0, g, 0⟩) ∧ Below w.heap.size w w' := by
  go_enter Tryd.func29, Tryd.ntmps29
  go_wp2_with (first | (go_at_call 39; refine (KN.out _).mono ?_; rintro e w1 ⟨rfl, rfl⟩) | (go_at_call 38; refine (row_walk _ _ _ _ _).mono ?_; rintro e w1 ⟨rfl, hb⟩; have r1 : w1.heap[w.heap.size]? = some (.cells zO 24) := stay hb (heap_alloc_new w _)) | (refine wpList_store_row rfl 24 _ _ rfl _ zO _ rfl rfl r1 Tryd.infoOp rfl (op_one _ _ _ _ _) ?_) | (refine wpList_store_row rfl 24 _ _ rfl _ zO _ rfl rfl (blk_alloc r1) Tryd.infoOp rfl (op_one _ _ _ _ _) ?_))
  have bW := ((Below.refl w.heap.size w).alloc (Nat.le_refl _) (.cells zO 24)).trans (hb.mono (by simp))
  exact bodyPost_ret (results_cell_row rfl _ _ w.heap.size 24 (tC _) (0, 0) _ rfl (blk_row r1) Tryd.underlying24 rfl Tryd.infoOp) rfl ⟨rfl, below_setRow bW (Nat.le_refl _) _⟩
end Go.Proofs.YtokompkkbnbinaaDoor
/- The code's Info, of every byte: its switch of switches. -/
namespace Go.Proofs.YtokompkkbnbinaaDoor
open Go.RowKit SmWord
set_option maxRecDepth 100000
set_option maxHeartbeats 1000000 in
theorem told_ari (x : Nat) (T : OpT) (w : World) (h1 : x < 16) (K : Hid (∀ w, Calls Tryd.prog 20 #[.int .u8 (x : Int)] w fun e w' => e = .returned (tv T) ∧ Below w.heap.size w w')) :
    Calls Tryd.prog 12 #[.int .u8 (x : Int)] w fun e w' => e = .returned (tv T) ∧ Below w.heap.size w w' := by
  go_enter Tryd.func12, Tryd.ntmps12
  go_wp2_with (first | (go_at_call 20; refine (K.out _).mono ?_; rintro e w1 ⟨rfl, hb⟩; have r1 : w1.heap[w.heap.size]? = some (.cells zO 24) := stay hb (heap_alloc_new w _)) | (refine wpList_store_row rfl 24 _ _ rfl _ zO (tC T) rfl rfl r1 Tryd.infoOp rfl (tC_one T) ?_))
  have r0 := stay hb (heap_alloc_new w (.cells zO 24))
  have bW := ((Below.refl w.heap.size w).alloc (Nat.le_refl _) (.cells zO 24)).trans (hb.mono (by simp))
  exact bodyPost_ret (results_cell_row rfl _ _ w.heap.size 24 (tC T) (0, 0) _ rfl (blk_row r0) Tryd.underlying24 rfl Tryd.infoOp) rfl ⟨rfl, below_setRow bW (Nat.le_refl _) _⟩
set_option maxHeartbeats 1000000 in
theorem told_com (x : Nat) (T : OpT) (w : World) (h0 : 16 ≤ x) (h1 : x < 48) (K : Hid (∀ w, Calls Tryd.prog 21 #[.int .u8 (x : Int)] w fun e w' => e = .returned (tv T) ∧ Below w.heap.size w w')) :
    Calls Tryd.prog 12 #[.int .u8 (x : Int)] w fun e w' => e = .returned (tv T) ∧ Below w.heap.size w w' := by
  go_enter Tryd.func12, Tryd.ntmps12
  go_wp2_with (first | (go_at_call 21; refine (K.out _).mono ?_; rintro e w1 ⟨rfl, hb⟩; have r1 : w1.heap[w.heap.size]? = some (.cells zO 24) := stay hb (heap_alloc_new w _)) | (refine wpList_store_row rfl 24 _ _ rfl _ zO (tC T) rfl rfl r1 Tryd.infoOp rfl (tC_one T) ?_))
  have r0 := stay hb (heap_alloc_new w (.cells zO 24))
  have bW := ((Below.refl w.heap.size w).alloc (Nat.le_refl _) (.cells zO 24)).trans (hb.mono (by simp))
  exact bodyPost_ret (results_cell_row rfl _ _ w.heap.size 24 (tC T) (0, 0) _ rfl (blk_row r0) Tryd.underlying24 rfl Tryd.infoOp) rfl ⟨rfl, below_setRow bW (Nat.le_refl _) _⟩
set_option maxHeartbeats 1000000 in
theorem told_env (x : Nat) (T : OpT) (w : World) (h0 : 48 ≤ x) (h1 : x < 64) (K : Hid (∀ w, Calls Tryd.prog 22 #[.int .u8 (x : Int)] w fun e w' => e = .returned (tv T) ∧ Below w.heap.size w w')) :
    Calls Tryd.prog 12 #[.int .u8 (x : Int)] w fun e w' => e = .returned (tv T) ∧ Below w.heap.size w w' := by
  go_enter Tryd.func12, Tryd.ntmps12
  go_wp2_with (first | (go_at_call 22; refine (K.out _).mono ?_; rintro e w1 ⟨rfl, hb⟩; have r1 : w1.heap[w.heap.size]? = some (.cells zO 24) := stay hb (heap_alloc_new w _)) | (refine wpList_store_row rfl 24 _ _ rfl _ zO (tC T) rfl rfl r1 Tryd.infoOp rfl (tC_one T) ?_))
  have r0 := stay hb (heap_alloc_new w (.cells zO 24))
  have bW := ((Below.refl w.heap.size w).alloc (Nat.le_refl _) (.cells zO 24)).trans (hb.mono (by simp))
  exact bodyPost_ret (results_cell_row rfl _ _ w.heap.size 24 (tC T) (0, 0) _ rfl (blk_row r0) Tryd.underlying24 rfl Tryd.infoOp) rfl ⟨rfl, below_setRow bW (Nat.le_refl _) _⟩
set_option maxHeartbeats 1000000 in
theorem told_ofB (x : Nat) (T : OpT) (w : World) (h0 : 64 ≤ x) (h1 : x < 80) (K : Hid (∀ w, Calls Tryd.prog 23 #[.int .u8 (x : Int)] w fun e w' => e = .returned (tv T) ∧ Below w.heap.size w w')) :
    Calls Tryd.prog 12 #[.int .u8 (x : Int)] w fun e w' => e = .returned (tv T) ∧ Below w.heap.size w w' := by
  go_enter Tryd.func12, Tryd.ntmps12
  go_wp2_with (first | (go_at_call 23; refine (K.out _).mono ?_; rintro e w1 ⟨rfl, hb⟩; have r1 : w1.heap[w.heap.size]? = some (.cells zO 24) := stay hb (heap_alloc_new w _)) | (refine wpList_store_row rfl 24 _ _ rfl _ zO (tC T) rfl rfl r1 Tryd.infoOp rfl (tC_one T) ?_))
  have r0 := stay hb (heap_alloc_new w (.cells zO 24))
  have bW := ((Below.refl w.heap.size w).alloc (Nat.le_refl _) (.cells zO 24)).trans (hb.mono (by simp))
  exact bodyPost_ret (results_cell_row rfl _ _ w.heap.size 24 (tC T) (0, 0) _ rfl (blk_row r0) Tryd.underlying24 rfl Tryd.infoOp) rfl ⟨rfl, below_setRow bW (Nat.le_refl _) _⟩
set_option maxHeartbeats 1000000 in
theorem told_flo (x : Nat) (T : OpT) (w : World) (h0 : 80 ≤ x) (h1 : x < 96) (K : Hid (∀ w, Calls Tryd.prog 24 #[.int .u8 (x : Int)] w fun e w' => e = .returned (tv T) ∧ Below w.heap.size w w')) :
    Calls Tryd.prog 12 #[.int .u8 (x : Int)] w fun e w' => e = .returned (tv T) ∧ Below w.heap.size w w' := by
  go_enter Tryd.func12, Tryd.ntmps12
  go_wp2_with (first | (go_at_call 24; refine (K.out _).mono ?_; rintro e w1 ⟨rfl, hb⟩; have r1 : w1.heap[w.heap.size]? = some (.cells zO 24) := stay hb (heap_alloc_new w _)) | (refine wpList_store_row rfl 24 _ _ rfl _ zO (tC T) rfl rfl r1 Tryd.infoOp rfl (tC_one T) ?_))
  have r0 := stay hb (heap_alloc_new w (.cells zO 24))
  have bW := ((Below.refl w.heap.size w).alloc (Nat.le_refl _) (.cells zO 24)).trans (hb.mono (by simp))
  exact bodyPost_ret (results_cell_row rfl _ _ w.heap.size 24 (tC T) (0, 0) _ rfl (blk_row r0) Tryd.underlying24 rfl Tryd.infoOp) rfl ⟨rfl, below_setRow bW (Nat.le_refl _) _⟩
set_option maxHeartbeats 1000000 in
theorem told_psh (x n : Nat) (T : OpT) (w : World) (h0 : 96 ≤ x) (h1 : x < 128) (KB : Hid (∀ w, Calls Tryd.prog 26 #[.int .u8 (x : Int)] w fun e w' => e = .returned (.int .i64 (n : Int)) ∧ w' = w)) (K : Hid (∀ w, Calls Tryd.prog 25 #[.int .i64 (n : Int)] w fun e w' => e = .returned (tv T) ∧ Below w.heap.size w w')) :
    Calls Tryd.prog 12 #[.int .u8 (x : Int)] w fun e w' => e = .returned (tv T) ∧ Below w.heap.size w w' := by
  go_enter Tryd.func12, Tryd.ntmps12
  go_wp2_with (first | (go_at_call 26; refine (KB.out _).mono ?_; rintro e w1 ⟨rfl, rfl⟩) | (go_at_call 25; refine (K.out _).mono ?_; rintro e w1 ⟨rfl, hb⟩; have r1 : w1.heap[w.heap.size]? = some (.cells zO 24) := stay hb (heap_alloc_new w _)) | (refine wpList_store_row rfl 24 _ _ rfl _ zO (tC T) rfl rfl r1 Tryd.infoOp rfl (tC_one T) ?_))
  have r0 := stay hb (heap_alloc_new w (.cells zO 24))
  have bW := ((Below.refl w.heap.size w).alloc (Nat.le_refl _) (.cells zO 24)).trans (hb.mono (by simp))
  exact bodyPost_ret (results_cell_row rfl _ _ w.heap.size 24 (tC T) (0, 0) _ rfl (blk_row r0) Tryd.underlying24 rfl Tryd.infoOp) rfl ⟨rfl, below_setRow bW (Nat.le_refl _) _⟩
set_option maxHeartbeats 1000000 in
theorem told_dpp (x n : Nat) (T : OpT) (w : World) (h0 : 128 ≤ x) (h1 : x < 144) (hn : (x : Int) - 128 + 1 = (n : Int)) (K : Hid (∀ w, Calls Tryd.prog 27 #[.int .i64 (n : Int)] w fun e w' => e = .returned (tv T) ∧ Below w.heap.size w w')) :
    Calls Tryd.prog 12 #[.int .u8 (x : Int)] w fun e w' => e = .returned (tv T) ∧ Below w.heap.size w w' := by
  go_enter Tryd.func12, Tryd.ntmps12
  go_wp2_with (first | (go_at_call 27; refine (K.out _).mono ?_; rintro e w1 ⟨rfl, hb⟩; have r1 : w1.heap[w.heap.size]? = some (.cells zO 24) := stay hb (heap_alloc_new w _)) | (refine wpList_store_row rfl 24 _ _ rfl _ zO (tC T) rfl rfl r1 Tryd.infoOp rfl (tC_one T) ?_))
  have r0 := stay hb (heap_alloc_new w (.cells zO 24))
  have bW := ((Below.refl w.heap.size w).alloc (Nat.le_refl _) (.cells zO 24)).trans (hb.mono (by simp))
  exact bodyPost_ret (results_cell_row rfl _ _ w.heap.size 24 (tC T) (0, 0) _ rfl (blk_row r0) Tryd.underlying24 rfl Tryd.infoOp) rfl ⟨rfl, below_setRow bW (Nat.le_refl _) _⟩
set_option maxHeartbeats 1000000 in
theorem told_swp (x n : Nat) (T : OpT) (w : World) (h0 : 144 ≤ x) (h1 : x < 160) (hn : (x : Int) - 144 + 1 = (n : Int)) (K : Hid (∀ w, Calls Tryd.prog 28 #[.int .i64 (n : Int)] w fun e w' => e = .returned (tv T) ∧ Below w.heap.size w w')) :
    Calls Tryd.prog 12 #[.int .u8 (x : Int)] w fun e w' => e = .returned (tv T) ∧ Below w.heap.size w w' := by
  go_enter Tryd.func12, Tryd.ntmps12
  go_wp2_with (first | (go_at_call 28; refine (K.out _).mono ?_; rintro e w1 ⟨rfl, hb⟩; have r1 : w1.heap[w.heap.size]? = some (.cells zO 24) := stay hb (heap_alloc_new w _)) | (refine wpList_store_row rfl 24 _ _ rfl _ zO (tC T) rfl rfl r1 Tryd.infoOp rfl (tC_one T) ?_))
  have r0 := stay hb (heap_alloc_new w (.cells zO 24))
  have bW := ((Below.refl w.heap.size w).alloc (Nat.le_refl _) (.cells zO 24)).trans (hb.mono (by simp))
  exact bodyPost_ret (results_cell_row rfl _ _ w.heap.size 24 (tC T) (0, 0) _ rfl (blk_row r0) Tryd.underlying24 rfl Tryd.infoOp) rfl ⟨rfl, below_setRow bW (Nat.le_refl _) _⟩
set_option maxHeartbeats 1000000 in
theorem told_lgg (x n : Nat) (T : OpT) (w : World) (h0 : 160 ≤ x) (h1 : x < 165) (hn : (x : Int) - 160 = (n : Int)) (K : Hid (∀ w, Calls Tryd.prog 29 #[.int .i64 (n : Int)] w fun e w' => e = .returned (tv T) ∧ Below w.heap.size w w')) :
    Calls Tryd.prog 12 #[.int .u8 (x : Int)] w fun e w' => e = .returned (tv T) ∧ Below w.heap.size w w' := by
  go_enter Tryd.func12, Tryd.ntmps12
  go_wp2_with (first | (go_at_call 29; refine (K.out _).mono ?_; rintro e w1 ⟨rfl, hb⟩; have r1 : w1.heap[w.heap.size]? = some (.cells zO 24) := stay hb (heap_alloc_new w _)) | (refine wpList_store_row rfl 24 _ _ rfl _ zO (tC T) rfl rfl r1 Tryd.infoOp rfl (tC_one T) ?_))
  have r0 := stay hb (heap_alloc_new w (.cells zO 24))
  have bW := ((Below.refl w.heap.size w).alloc (Nat.le_refl _) (.cells zO 24)).trans (hb.mono (by simp))
  exact bodyPost_ret (results_cell_row rfl _ _ w.heap.size 24 (tC T) (0, 0) _ rfl (blk_row r0) Tryd.underlying24 rfl Tryd.infoOp) rfl ⟨rfl, below_setRow bW (Nat.le_refl _) _⟩
set_option maxHeartbeats 1000000 in
theorem told_sys (x : Nat) (T : OpT) (w : World) (h0 : 165 ≤ x) (h1 : x < 256) (K : Hid (∀ w, Calls Tryd.prog 30 #[.int .u8 (x : Int)] w fun e w' => e = .returned (tv T) ∧ Below w.heap.size w w')) :
    Calls Tryd.prog 12 #[.int .u8 (x : Int)] w fun e w' => e = .returned (tv T) ∧ Below w.heap.size w w' := by
  go_enter Tryd.func12, Tryd.ntmps12
  go_wp2_with (first | (go_at_call 30; refine (K.out _).mono ?_; rintro e w1 ⟨rfl, hb⟩; have r1 : w1.heap[w.heap.size]? = some (.cells zO 24) := stay hb (heap_alloc_new w _)) | (refine wpList_store_row rfl 24 _ _ rfl _ zO (tC T) rfl rfl r1 Tryd.infoOp rfl (tC_one T) ?_))
  have r0 := stay hb (heap_alloc_new w (.cells zO 24))
  have bW := ((Below.refl w.heap.size w).alloc (Nat.le_refl _) (.cells zO 24)).trans (hb.mono (by simp))
  exact bodyPost_ret (results_cell_row rfl _ _ w.heap.size 24 (tC T) (0, 0) _ rfl (blk_row r0) Tryd.underlying24 rfl Tryd.infoOp) rfl ⟨rfl, below_setRow bW (Nat.le_refl _) _⟩
end Go.Proofs.YtokompkkbnbinaaDoor
/- The code's Info, of every byte. -/
namespace Go.Proofs.YtokompkkbnbinaaDoor
open Go.RowKit SmWord
set_option maxRecDepth 100000
theorem nb_push {x : Nat} (h1 : 96 ≤ x) (h2 : x < 128) : nb x = x - 95 := by rw [nb, if_pos ⟨h1, by omega⟩]
theorem dec_num (s : ByteArray) (n : Nat) (hn : n < 100) (hs : s.size < 1000) (w : World) : Calls Tryd.prog 39 #[.string s, .int .i64 (n : Int)] w fun e w' => e = .returned (.string (nmd s n)) ∧ w' = w :=
  numbered_walk s _ n w (dec_size (by omega)) hs (Lib.hid fun w => itoa_walk n w hn)
theorem toldOf_walk (x : Nat) (w : World) (hx : x < 256) : Calls Tryd.prog 12 #[.int .u8 (x : Int)] w fun e w' => e = .returned (tv (told x)) ∧ Below w.heap.size w w' := by
  by_cases a0 : x < 16
  · exact told_ari x _ w a0 (Lib.hid fun w => arithmetic_walk x w a0 (Nat.zero_le _))
  by_cases a1 : x < 48
  · exact told_com x _ w (by omega) a1 (Lib.hid fun w => comparison_walk x w a1 (by omega))
  by_cases a2 : x < 64
  · exact told_env x _ w (by omega) a2 (Lib.hid fun w => environment_walk x w a2 (by omega))
  by_cases a3 : x < 80
  · exact told_ofB x _ w (by omega) a3 (Lib.hid fun w => ofBlock_walk x w a3 (by omega))
  by_cases a4 : x < 96
  · exact told_flo x _ w (by omega) a4 (Lib.hid fun w => flow_walk x w a4 (by omega))
  by_cases a5 : x < 128
  · have h96 : 96 ≤ x := by omega
    rw [told_push h96 a5]
    refine told_psh x (x - 95) _ w h96 a5 (Lib.hid fun w => ?_) (Lib.hid fun w => push_walk (x - 95) _ w (Lib.hid fun w => dec_num sPUSH (x - 95) (by omega) (by decide) w))
    rw [← nb_push h96 a5]
    exact belonging_walk x w hx
  by_cases a6 : x < 144
  · rw [told_dup (by omega) a6]
    exact told_dpp x (x - 127) _ w (by omega) a6 (by omega) (Lib.hid fun w => dup_walk (x - 127) (x - 126) _ w (by omega) (by omega) (Lib.hid fun w => dec_num sDUP (x - 127) (by omega) (by decide) w))
  by_cases a7 : x < 160
  · rw [told_swap (by omega) a7]
    exact told_swp x (x - 143) _ w (by omega) a7 (by omega) (Lib.hid fun w => swap_walk (x - 143) (x - 142) _ w (by omega) (by omega) (Lib.hid fun w => dec_num sSWAP (x - 143) (by omega) (by decide) w))
  by_cases a8 : x < 165
  · rw [told_log (by omega) a8]
    exact told_lgg x (x - 160) _ w (by omega) a8 (by omega) (Lib.hid fun w => log_walk (x - 160) (x - 158) (375 * (x - 159)) _ w (by omega) (by omega) (by omega) (Lib.hid fun w => dec_num sLOG (x - 160) (by omega) (by decide) w))
  · exact told_sys x _ w (by omega) hx (Lib.hid fun w => system_walk x w hx (by omega))
theorem store_opT {w : World} {b : Nat} {z : Array Value} (T : OpT) (hz : z.size = 5) (hb : w.heap[b]? = some (.cells z 24)) : (storeCells ⟨b, 0, none⟩ (tC T).toList 0).run Tryd.prog w = .ok () (w.setRow b (tC T)) := by
  have := run_storeCells_from (P := Tryd.prog) b _ (tC T).toList 0 z w hb (by simp [hz, tC]) (fun v hv => (Array.all_eq_true_iff_forall_mem.1 (tC_one T)) v (by simpa using hv))
  simpa using this
theorem op_cells5 {w : World} {b : Nat} {T : OpT} (h : w.heap[b]? = some (.cells (tC T) 24)) :
    w.cell? ⟨b, 0, none⟩ = some (.string T.nm) ∧ w.cell? ⟨b, 1, none⟩ = some (.int .i64 ((T.po : Nat) : Int)) ∧ w.cell? ⟨b, 2, none⟩ = some (.int .i64 ((T.pu : Nat) : Int)) ∧ w.cell? ⟨b, 3, none⟩ = some (.int .u64 ((T.ga : Nat) : Int)) ∧ w.cell? ⟨b, 4, none⟩ = some (.int .i64 ((T.da : Nat) : Int)) :=
  ⟨blk_cell h rfl, blk_cell h rfl, blk_cell h rfl, blk_cell h rfl, blk_cell h rfl⟩
set_option maxHeartbeats 1000000 in
theorem info_core (x : Nat) (T : OpT) (b : Bool) (w : World) (hb : (!T.nm.toList.isEmpty) = b) (K : Hid (∀ w, Calls Tryd.prog 12 #[.int .u8 (x : Int)] w fun e w' => e = .returned (tv T) ∧ Below w.heap.size w w')) :
    Calls Tryd.prog 6 #[.int .u8 (x : Int)] w fun e w' => e = .returned (.tuple #[tv T, .bool b]) ∧ Below w.heap.size w w' := by
  go_enter Tryd.func6, Tryd.ntmps6
  go_wp2_with (first | (go_at_call 12; refine (K.out _).mono ?_; rintro e w1 ⟨rfl, hb1⟩) | (refine wpList_store_row rfl 24 _ _ rfl _ zO (tC T) rfl rfl (heap_alloc_new _ _) Tryd.infoOp rfl (tC_one T) ?_))
  have q1 : ((w1.alloc (.cells zO 24)).setRow w1.heap.size (tC T)).heap[w1.heap.size]? = some (.cells (tC T) 24) := blk_row (heap_alloc_new _ _)
  have hlt : w.heap.size < w1.heap.size := by have := hb1.size; simp at this; omega
  have q0 : ((w1.alloc (.cells zO 24)).setRow w1.heap.size (tC T)).heap[w.heap.size]? = some (.cells zO 24) := blk_row_other (blk_alloc (stay hb1 (heap_alloc_new w _))) (by omega)
  have bW : Below w.heap.size w ((w1.alloc (.cells zO 24)).setRow w1.heap.size (tC T)) := below_setRow ((((Below.refl w.heap.size w).alloc (Nat.le_refl _) (.cells zO 24)).trans (hb1.mono (by simp))).alloc (by omega) _) (by omega) _
  clear hb1
  simp only [show ((w1.alloc (.cells #[.string ⟨#[]⟩, .int .i64 0, .int .i64 0, .int .u64 0, .int .i64 0] 24)).setRow w1.heap.size (tC T)) = (w1.alloc (.cells zO 24)).setRow w1.heap.size (tC T) from rfl]
  generalize (w1.alloc (.cells zO 24)).setRow w1.heap.size (tC T) = W at *
  obtain ⟨g, hg⟩ : ∃ g, w1.heap.size = g := ⟨_, rfl⟩
  rw [hg] at q1 hlt ⊢
  clear hg
  have q1d : W.drew.heap[g]? = some (.cells (tC T) 24) := q1
  have q0d : W.drew.heap[w.heap.size]? = some (.cells zO 24) := q0
  have k1 := store_opT T rfl q0d
  have q2 : (W.drew.setRow w.heap.size (tC T)).heap[g]? = some (.cells (tC T) 24) := blk_row_other q1d (by omega)
  have q3 : (W.drew.setRow w.heap.size (tC T)).heap[w.heap.size]? = some (.cells (tC T) 24) := blk_row q0d
  obtain ⟨c0, c1, c2, c3, c4⟩ := op_cells5 q1d
  obtain ⟨d0, d1, d2, d3, d4⟩ := op_cells5 q2
  have ft : #[Value.string T.nm, .int .i64 ((T.po : Nat) : Int), .int .i64 ((T.pu : Nat) : Int), .int .u64 ((T.ga : Nat) : Int), .int .i64 ((T.da : Nat) : Int)] = tC T := rfl
  have fl : [Value.string T.nm, .int .i64 ((T.po : Nat) : Int), .int .i64 ((T.pu : Nat) : Int), .int .u64 ((T.ga : Nat) : Int), .int .i64 ((T.da : Nat) : Int)] = (tC T).toList := rfl
  have bD : Below w.heap.size w (W.drew.setRow w.heap.size (tC T)) := below_setRow bW.drew (Nat.le_refl _) _
  have Q3 := Lib.hid q3
  have BD := Lib.hid bD
  clear q1d q0d q2 q3 bD q0 q1 bW
  have hsz := tC_size T
  simp only [Act.put]
  go_region
  go_wp2_with fail
  exact bodyPost_ret (results_pair rfl _ _ w.heap.size 24 (tC T) (0, 0) _ _ rfl Q3.out Tryd.underlying24 rfl Tryd.infoOp rfl) rfl ⟨rfl, BD.out⟩
theorem info_walk (x : Nat) (w : World) (hx : x < 256) : Calls Tryd.prog 6 #[.int .u8 (x : Int)] w fun e w' => e = .returned (.tuple #[tv (told x), .bool (isI x)]) ∧ Below w.heap.size w w' :=
  info_core x (told x) (isI x) w (by rw [bytes_list]; rfl) (Lib.hid fun w => toldOf_walk x w hx)
end Go.Proofs.YtokompkkbnbinaaDoor
