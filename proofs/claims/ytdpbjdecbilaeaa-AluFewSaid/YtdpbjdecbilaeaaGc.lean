/- Stage 17: the statement AluFew, walked. -/
import Derived.Test.YtdpbjdecbilaeaaGb
namespace Go.Proofs.Ytdpbjdecbilaeaa
open Go.RowKit SmWord
set_option maxRecDepth 100000

theorem wpList_load_row_if {P : Program} {ops : Array Oper} {rest : List Oper} {o : Oper} {a : Act} {w : World} {Q : Exit → Act → World → Prop} (hw : Region.wanted o (yielded ops a.tmps) = true) (ty : TypeId) (x : Operand) (ho : o.op = .load ty x)
    (g : Nat) (hx : a.eval x = .pointer (some ⟨g, 0, none⟩)) (t : TypeId) (cs : Array Value) (fr : Nat × Nat) (d : TypeDesc) (hg : w.heap[g]? = some (.cells cs t fr))
    (hu : P.underlying ty = some d) (hd : (match d with | .struct _ | .array _ _ => true | _ => false) = true) (hi : (P.info? ty).map (·.size) = some cs.size)
    (h : wpList P ops Q rest (a.put o.dst (.agg cs)) w) : wpList P ops Q (o :: rest) a w := by
  unfold wpList
  rw [if_pos hw]
  exact .inl (wp_load_row ty x ho g hx t cs fr d hg hu hd hi h)
theorem lboxes4 (w : World) (a b c d : Nat) : ∃ W, (((w.alloc (.cells (wa a) 24)).alloc (.cells (wa b) 24)).alloc (.cells (wa c) 24)).alloc (.cells (wa d) 24) = W ∧ W.heap[w.heap.size]? = some (.cells (wa a) 24) ∧ W.heap[w.heap.size + 1]? = some (.cells (wa b) 24) ∧ W.heap[w.heap.size + 2]? = some (.cells (wa c) 24) ∧ W.heap[w.heap.size + 3]? = some (.cells (wa d) 24) ∧ Below w.heap.size w W :=
  ⟨_, rfl, blk_alloc (blk_alloc (blk_alloc (blk_new _ rfl))), blk_alloc (blk_alloc (blk_new _ (by simp))), blk_alloc (blk_new _ (by simp)), blk_new _ (by simp), ((((Below.refl _ _).alloc (Nat.le_refl _) _).alloc (by simp) _).alloc (by simp; omega) _).alloc (by simp; omega) _⟩
set_option maxHeartbeats 4000000 in
theorem few_0 (op : Int) (a b c d x y z : Nat) (k1 k2 k3 : Bool) (w : World)
    (H1 : Hid (∀ w : World, Calls Try.prog 5 #[.int .u8 op, wd a, wd b, wd c] w fun e w' => e = .returned (.tuple #[wd x, .bool k1]) ∧ Below w.heap.size w w')) (H2 : Hid (∀ w : World, Calls Try.prog 5 #[.int .u8 op, wd a, wd b, wd d] w fun e w' => e = .returned (.tuple #[wd y, .bool k2]) ∧ Below w.heap.size w w')) (H3 : Hid (∀ w : World, Calls Try.prog 5 #[.int .u8 op, wd a, wd d, wd c] w fun e w' => e = .returned (.tuple #[wd z, .bool k3]) ∧ Below w.heap.size w w'))
    (HT : Hid (∀ w : World, Calls Try.prog 6 #[.int .u8 op] w fun e w' => e = .returned (.int .i64 0) ∧ Below w.heap.size w w')) (E1 : ∀ w : World, (Op.equalIn 10000 24 (.agg (wa x)) (.agg (wa y))).run Try.prog w = .ok true w) (E2 : ∀ w : World, (Op.equalIn 10000 24 (.agg (wa x)) (.agg (wa z))).run Try.prog w = .ok true w) :
    Calls Try.prog 3 #[.int .u8 op, wd a, wd b, wd c, wd d] w fun e w' => e = .returned (.bool true) ∧ Below w.heap.size w w' := by
  obtain ⟨W, hW, f0, f1, f2, f3, bW⟩ := lboxes4 w a b c d
  have hz := z4_wa
  have hsz := wa_size
  have eg := Try.guardW
  go_enter Try.func3, Try.ntmps3
  go_upto_region 1 with fail
  try rw [hW]
  clear hW
  go_upto_region 2 with (first | (refine wpList_load_row rfl 24 _ rfl _ rfl 24 _ (0, 0) _ (by assumption) Try.underlying24 rfl Try.infoWa ?_) | (go_at_call 5; refine (H1.out _).mono ?_; rintro e w1 ⟨rfl, b1⟩; replace f0 := Below.stays b1 f0; replace f1 := Below.stays b1 f1; replace f2 := Below.stays b1 f2; replace f3 := Below.stays b1 f3; replace bW := bW.trans (b1.mono bW.size); clear b1) | (refine wpList_store_row rfl 24 (.tmp 11) _ rfl _ _ (wa x) rfl rfl (heap_alloc_new _ _) Try.infoWa rfl wa_one ?_))
  try simp only [Act.put]
  rw [World.setRow_alloc_new]
  replace f0 := blk_alloc (o' := .cells (wa x) 24) f0
  replace f1 := blk_alloc (o' := .cells (wa x) 24) f1
  replace f2 := blk_alloc (o' := .cells (wa x) 24) f2
  replace f3 := blk_alloc (o' := .cells (wa x) 24) f3
  have f11 : (w1.alloc (.cells (wa x) 24)).heap[w1.heap.size]? = some (.cells (wa x) 24) := heap_alloc_new _ _
  replace bW : Below w.heap.size w (w1.alloc (.cells (wa x) 24)) := bW.alloc bW.size _
  generalize (w1.alloc (.cells (wa x) 24)) = w2 at *
  generalize w1.heap.size = p11 at *
  go_upto_region 3 with (first | (refine wpList_load_row rfl 24 _ rfl _ rfl 24 _ (0, 0) _ (by assumption) Try.underlying24 rfl Try.infoWa ?_) | (go_at_call 5; refine (H2.out _).mono ?_; rintro e w3 ⟨rfl, b1⟩; replace f0 := Below.stays b1 f0; replace f1 := Below.stays b1 f1; replace f2 := Below.stays b1 f2; replace f3 := Below.stays b1 f3; replace f11 := Below.stays b1 f11; replace bW := bW.trans (b1.mono bW.size); clear b1) | (refine wpList_store_row rfl 24 (.tmp 13) _ rfl _ _ (wa y) rfl rfl (heap_alloc_new _ _) Try.infoWa rfl wa_one ?_))
  try simp only [Act.put]
  rw [World.setRow_alloc_new]
  replace f0 := blk_alloc (o' := .cells (wa y) 24) f0
  replace f1 := blk_alloc (o' := .cells (wa y) 24) f1
  replace f2 := blk_alloc (o' := .cells (wa y) 24) f2
  replace f3 := blk_alloc (o' := .cells (wa y) 24) f3
  replace f11 := blk_alloc (o' := .cells (wa y) 24) f11
  have f13 : (w3.alloc (.cells (wa y) 24)).heap[w3.heap.size]? = some (.cells (wa y) 24) := heap_alloc_new _ _
  replace bW : Below w.heap.size w (w3.alloc (.cells (wa y) 24)) := bW.alloc bW.size _
  generalize (w3.alloc (.cells (wa y) 24)) = w4 at *
  generalize w3.heap.size = p13 at *
  go_upto_region 4 with (first | (refine wpList_load_row rfl 24 _ rfl _ rfl 24 _ (0, 0) _ (by assumption) Try.underlying24 rfl Try.infoWa ?_) | (go_at_call 5; refine (H3.out _).mono ?_; rintro e w5 ⟨rfl, b1⟩; replace f0 := Below.stays b1 f0; replace f1 := Below.stays b1 f1; replace f2 := Below.stays b1 f2; replace f3 := Below.stays b1 f3; replace f11 := Below.stays b1 f11; replace f13 := Below.stays b1 f13; replace bW := bW.trans (b1.mono bW.size); clear b1) | (refine wpList_store_row rfl 24 (.tmp 15) _ rfl _ _ (wa z) rfl rfl (heap_alloc_new _ _) Try.infoWa rfl wa_one ?_))
  try simp only [Act.put]
  rw [World.setRow_alloc_new]
  replace f0 := blk_alloc (o' := .cells (wa z) 24) f0
  replace f1 := blk_alloc (o' := .cells (wa z) 24) f1
  replace f2 := blk_alloc (o' := .cells (wa z) 24) f2
  replace f3 := blk_alloc (o' := .cells (wa z) 24) f3
  replace f11 := blk_alloc (o' := .cells (wa z) 24) f11
  replace f13 := blk_alloc (o' := .cells (wa z) 24) f13
  have f15 : (w5.alloc (.cells (wa z) 24)).heap[w5.heap.size]? = some (.cells (wa z) 24) := heap_alloc_new _ _
  replace bW : Below w.heap.size w (w5.alloc (.cells (wa z) 24)) := bW.alloc bW.size _
  generalize (w5.alloc (.cells (wa z) 24)) = w6 at *
  generalize w5.heap.size = p15 at *
  go_upto_region 5 with (go_at_call 6; refine (HT.out _).mono ?_; rintro e w7 ⟨rfl, b1⟩; replace f11 := Below.stays b1 f11; replace f13 := Below.stays b1 f13; replace f15 := Below.stays b1 f15; replace bW := bW.trans (b1.mono bW.size); clear b1)
  clear f0 f1 f2 f3
  go_wp2_with (first | (refine wpList_load_row_if rfl 24 _ rfl _ rfl 24 (wa x) (0, 0) _ f11 Try.underlying24 rfl Try.infoWa ?_) | (refine wpList_load_row_if rfl 24 _ rfl _ rfl 24 (wa y) (0, 0) _ f13 Try.underlying24 rfl Try.infoWa ?_) | (refine wpList_load_row_if rfl 24 _ rfl _ rfl 24 (wa z) (0, 0) _ f15 Try.underlying24 rfl Try.infoWa ?_) | (go_at_call 7; refine (fixed17_walk _).mono ?_; rintro e w8 ⟨rfl, b1⟩; replace f11 := Below.stays b1 f11; replace f13 := Below.stays b1 f13; replace f15 := Below.stays b1 f15; replace bW := bW.trans (b1.mono bW.size); clear b1))
  go_ret
  exact ⟨rfl, bW⟩
set_option maxHeartbeats 4000000 in
theorem few_1 (op : Int) (a b c d x y z : Nat) (k1 k2 k3 : Bool) (w : World)
    (H1 : Hid (∀ w : World, Calls Try.prog 5 #[.int .u8 op, wd a, wd b, wd c] w fun e w' => e = .returned (.tuple #[wd x, .bool k1]) ∧ Below w.heap.size w w')) (H2 : Hid (∀ w : World, Calls Try.prog 5 #[.int .u8 op, wd a, wd b, wd d] w fun e w' => e = .returned (.tuple #[wd y, .bool k2]) ∧ Below w.heap.size w w')) (H3 : Hid (∀ w : World, Calls Try.prog 5 #[.int .u8 op, wd a, wd d, wd c] w fun e w' => e = .returned (.tuple #[wd z, .bool k3]) ∧ Below w.heap.size w w'))
    (HT : Hid (∀ w : World, Calls Try.prog 6 #[.int .u8 op] w fun e w' => e = .returned (.int .i64 1) ∧ Below w.heap.size w w')) (E1 : ∀ w : World, (Op.equalIn 10000 24 (.agg (wa x)) (.agg (wa y))).run Try.prog w = .ok true w) (E2 : ∀ w : World, (Op.equalIn 10000 24 (.agg (wa x)) (.agg (wa z))).run Try.prog w = .ok true w) :
    Calls Try.prog 3 #[.int .u8 op, wd a, wd b, wd c, wd d] w fun e w' => e = .returned (.bool true) ∧ Below w.heap.size w w' := by
  obtain ⟨W, hW, f0, f1, f2, f3, bW⟩ := lboxes4 w a b c d
  have hz := z4_wa
  have hsz := wa_size
  have eg := Try.guardW
  go_enter Try.func3, Try.ntmps3
  go_upto_region 1 with fail
  try rw [hW]
  clear hW
  go_upto_region 2 with (first | (refine wpList_load_row rfl 24 _ rfl _ rfl 24 _ (0, 0) _ (by assumption) Try.underlying24 rfl Try.infoWa ?_) | (go_at_call 5; refine (H1.out _).mono ?_; rintro e w1 ⟨rfl, b1⟩; replace f0 := Below.stays b1 f0; replace f1 := Below.stays b1 f1; replace f2 := Below.stays b1 f2; replace f3 := Below.stays b1 f3; replace bW := bW.trans (b1.mono bW.size); clear b1) | (refine wpList_store_row rfl 24 (.tmp 11) _ rfl _ _ (wa x) rfl rfl (heap_alloc_new _ _) Try.infoWa rfl wa_one ?_))
  try simp only [Act.put]
  rw [World.setRow_alloc_new]
  replace f0 := blk_alloc (o' := .cells (wa x) 24) f0
  replace f1 := blk_alloc (o' := .cells (wa x) 24) f1
  replace f2 := blk_alloc (o' := .cells (wa x) 24) f2
  replace f3 := blk_alloc (o' := .cells (wa x) 24) f3
  have f11 : (w1.alloc (.cells (wa x) 24)).heap[w1.heap.size]? = some (.cells (wa x) 24) := heap_alloc_new _ _
  replace bW : Below w.heap.size w (w1.alloc (.cells (wa x) 24)) := bW.alloc bW.size _
  generalize (w1.alloc (.cells (wa x) 24)) = w2 at *
  generalize w1.heap.size = p11 at *
  go_upto_region 3 with (first | (refine wpList_load_row rfl 24 _ rfl _ rfl 24 _ (0, 0) _ (by assumption) Try.underlying24 rfl Try.infoWa ?_) | (go_at_call 5; refine (H2.out _).mono ?_; rintro e w3 ⟨rfl, b1⟩; replace f0 := Below.stays b1 f0; replace f1 := Below.stays b1 f1; replace f2 := Below.stays b1 f2; replace f3 := Below.stays b1 f3; replace f11 := Below.stays b1 f11; replace bW := bW.trans (b1.mono bW.size); clear b1) | (refine wpList_store_row rfl 24 (.tmp 13) _ rfl _ _ (wa y) rfl rfl (heap_alloc_new _ _) Try.infoWa rfl wa_one ?_))
  try simp only [Act.put]
  rw [World.setRow_alloc_new]
  replace f0 := blk_alloc (o' := .cells (wa y) 24) f0
  replace f1 := blk_alloc (o' := .cells (wa y) 24) f1
  replace f2 := blk_alloc (o' := .cells (wa y) 24) f2
  replace f3 := blk_alloc (o' := .cells (wa y) 24) f3
  replace f11 := blk_alloc (o' := .cells (wa y) 24) f11
  have f13 : (w3.alloc (.cells (wa y) 24)).heap[w3.heap.size]? = some (.cells (wa y) 24) := heap_alloc_new _ _
  replace bW : Below w.heap.size w (w3.alloc (.cells (wa y) 24)) := bW.alloc bW.size _
  generalize (w3.alloc (.cells (wa y) 24)) = w4 at *
  generalize w3.heap.size = p13 at *
  go_upto_region 4 with (first | (refine wpList_load_row rfl 24 _ rfl _ rfl 24 _ (0, 0) _ (by assumption) Try.underlying24 rfl Try.infoWa ?_) | (go_at_call 5; refine (H3.out _).mono ?_; rintro e w5 ⟨rfl, b1⟩; replace f0 := Below.stays b1 f0; replace f1 := Below.stays b1 f1; replace f2 := Below.stays b1 f2; replace f3 := Below.stays b1 f3; replace f11 := Below.stays b1 f11; replace f13 := Below.stays b1 f13; replace bW := bW.trans (b1.mono bW.size); clear b1) | (refine wpList_store_row rfl 24 (.tmp 15) _ rfl _ _ (wa z) rfl rfl (heap_alloc_new _ _) Try.infoWa rfl wa_one ?_))
  try simp only [Act.put]
  rw [World.setRow_alloc_new]
  replace f0 := blk_alloc (o' := .cells (wa z) 24) f0
  replace f1 := blk_alloc (o' := .cells (wa z) 24) f1
  replace f2 := blk_alloc (o' := .cells (wa z) 24) f2
  replace f3 := blk_alloc (o' := .cells (wa z) 24) f3
  replace f11 := blk_alloc (o' := .cells (wa z) 24) f11
  replace f13 := blk_alloc (o' := .cells (wa z) 24) f13
  have f15 : (w5.alloc (.cells (wa z) 24)).heap[w5.heap.size]? = some (.cells (wa z) 24) := heap_alloc_new _ _
  replace bW : Below w.heap.size w (w5.alloc (.cells (wa z) 24)) := bW.alloc bW.size _
  generalize (w5.alloc (.cells (wa z) 24)) = w6 at *
  generalize w5.heap.size = p15 at *
  go_upto_region 5 with (go_at_call 6; refine (HT.out _).mono ?_; rintro e w7 ⟨rfl, b1⟩; replace f11 := Below.stays b1 f11; replace f13 := Below.stays b1 f13; replace f15 := Below.stays b1 f15; replace bW := bW.trans (b1.mono bW.size); clear b1)
  clear f0 f1 f2 f3
  go_wp2_with (first | (refine wpList_load_row_if rfl 24 _ rfl _ rfl 24 (wa x) (0, 0) _ f11 Try.underlying24 rfl Try.infoWa ?_) | (refine wpList_load_row_if rfl 24 _ rfl _ rfl 24 (wa y) (0, 0) _ f13 Try.underlying24 rfl Try.infoWa ?_) | (refine wpList_load_row_if rfl 24 _ rfl _ rfl 24 (wa z) (0, 0) _ f15 Try.underlying24 rfl Try.infoWa ?_) | (go_at_call 7; refine (fixed17_walk _).mono ?_; rintro e w8 ⟨rfl, b1⟩; replace f11 := Below.stays b1 f11; replace f13 := Below.stays b1 f13; replace f15 := Below.stays b1 f15; replace bW := bW.trans (b1.mono bW.size); clear b1))
  go_ret
  exact ⟨rfl, bW⟩
set_option maxHeartbeats 4000000 in
theorem few_2 (op : Int) (a b c d x y z : Nat) (k1 k2 k3 : Bool) (w : World)
    (H1 : Hid (∀ w : World, Calls Try.prog 5 #[.int .u8 op, wd a, wd b, wd c] w fun e w' => e = .returned (.tuple #[wd x, .bool k1]) ∧ Below w.heap.size w w')) (H2 : Hid (∀ w : World, Calls Try.prog 5 #[.int .u8 op, wd a, wd b, wd d] w fun e w' => e = .returned (.tuple #[wd y, .bool k2]) ∧ Below w.heap.size w w')) (H3 : Hid (∀ w : World, Calls Try.prog 5 #[.int .u8 op, wd a, wd d, wd c] w fun e w' => e = .returned (.tuple #[wd z, .bool k3]) ∧ Below w.heap.size w w'))
    (HT : Hid (∀ w : World, Calls Try.prog 6 #[.int .u8 op] w fun e w' => e = .returned (.int .i64 2) ∧ Below w.heap.size w w')) (E1 : ∀ w : World, (Op.equalIn 10000 24 (.agg (wa x)) (.agg (wa y))).run Try.prog w = .ok true w) :
    Calls Try.prog 3 #[.int .u8 op, wd a, wd b, wd c, wd d] w fun e w' => e = .returned (.bool true) ∧ Below w.heap.size w w' := by
  obtain ⟨W, hW, f0, f1, f2, f3, bW⟩ := lboxes4 w a b c d
  have hz := z4_wa
  have hsz := wa_size
  have eg := Try.guardW
  go_enter Try.func3, Try.ntmps3
  go_upto_region 1 with fail
  try rw [hW]
  clear hW
  go_upto_region 2 with (first | (refine wpList_load_row rfl 24 _ rfl _ rfl 24 _ (0, 0) _ (by assumption) Try.underlying24 rfl Try.infoWa ?_) | (go_at_call 5; refine (H1.out _).mono ?_; rintro e w1 ⟨rfl, b1⟩; replace f0 := Below.stays b1 f0; replace f1 := Below.stays b1 f1; replace f2 := Below.stays b1 f2; replace f3 := Below.stays b1 f3; replace bW := bW.trans (b1.mono bW.size); clear b1) | (refine wpList_store_row rfl 24 (.tmp 11) _ rfl _ _ (wa x) rfl rfl (heap_alloc_new _ _) Try.infoWa rfl wa_one ?_))
  try simp only [Act.put]
  rw [World.setRow_alloc_new]
  replace f0 := blk_alloc (o' := .cells (wa x) 24) f0
  replace f1 := blk_alloc (o' := .cells (wa x) 24) f1
  replace f2 := blk_alloc (o' := .cells (wa x) 24) f2
  replace f3 := blk_alloc (o' := .cells (wa x) 24) f3
  have f11 : (w1.alloc (.cells (wa x) 24)).heap[w1.heap.size]? = some (.cells (wa x) 24) := heap_alloc_new _ _
  replace bW : Below w.heap.size w (w1.alloc (.cells (wa x) 24)) := bW.alloc bW.size _
  generalize (w1.alloc (.cells (wa x) 24)) = w2 at *
  generalize w1.heap.size = p11 at *
  go_upto_region 3 with (first | (refine wpList_load_row rfl 24 _ rfl _ rfl 24 _ (0, 0) _ (by assumption) Try.underlying24 rfl Try.infoWa ?_) | (go_at_call 5; refine (H2.out _).mono ?_; rintro e w3 ⟨rfl, b1⟩; replace f0 := Below.stays b1 f0; replace f1 := Below.stays b1 f1; replace f2 := Below.stays b1 f2; replace f3 := Below.stays b1 f3; replace f11 := Below.stays b1 f11; replace bW := bW.trans (b1.mono bW.size); clear b1) | (refine wpList_store_row rfl 24 (.tmp 13) _ rfl _ _ (wa y) rfl rfl (heap_alloc_new _ _) Try.infoWa rfl wa_one ?_))
  try simp only [Act.put]
  rw [World.setRow_alloc_new]
  replace f0 := blk_alloc (o' := .cells (wa y) 24) f0
  replace f1 := blk_alloc (o' := .cells (wa y) 24) f1
  replace f2 := blk_alloc (o' := .cells (wa y) 24) f2
  replace f3 := blk_alloc (o' := .cells (wa y) 24) f3
  replace f11 := blk_alloc (o' := .cells (wa y) 24) f11
  have f13 : (w3.alloc (.cells (wa y) 24)).heap[w3.heap.size]? = some (.cells (wa y) 24) := heap_alloc_new _ _
  replace bW : Below w.heap.size w (w3.alloc (.cells (wa y) 24)) := bW.alloc bW.size _
  generalize (w3.alloc (.cells (wa y) 24)) = w4 at *
  generalize w3.heap.size = p13 at *
  go_upto_region 4 with (first | (refine wpList_load_row rfl 24 _ rfl _ rfl 24 _ (0, 0) _ (by assumption) Try.underlying24 rfl Try.infoWa ?_) | (go_at_call 5; refine (H3.out _).mono ?_; rintro e w5 ⟨rfl, b1⟩; replace f0 := Below.stays b1 f0; replace f1 := Below.stays b1 f1; replace f2 := Below.stays b1 f2; replace f3 := Below.stays b1 f3; replace f11 := Below.stays b1 f11; replace f13 := Below.stays b1 f13; replace bW := bW.trans (b1.mono bW.size); clear b1) | (refine wpList_store_row rfl 24 (.tmp 15) _ rfl _ _ (wa z) rfl rfl (heap_alloc_new _ _) Try.infoWa rfl wa_one ?_))
  try simp only [Act.put]
  rw [World.setRow_alloc_new]
  replace f0 := blk_alloc (o' := .cells (wa z) 24) f0
  replace f1 := blk_alloc (o' := .cells (wa z) 24) f1
  replace f2 := blk_alloc (o' := .cells (wa z) 24) f2
  replace f3 := blk_alloc (o' := .cells (wa z) 24) f3
  replace f11 := blk_alloc (o' := .cells (wa z) 24) f11
  replace f13 := blk_alloc (o' := .cells (wa z) 24) f13
  have f15 : (w5.alloc (.cells (wa z) 24)).heap[w5.heap.size]? = some (.cells (wa z) 24) := heap_alloc_new _ _
  replace bW : Below w.heap.size w (w5.alloc (.cells (wa z) 24)) := bW.alloc bW.size _
  generalize (w5.alloc (.cells (wa z) 24)) = w6 at *
  generalize w5.heap.size = p15 at *
  go_upto_region 5 with (go_at_call 6; refine (HT.out _).mono ?_; rintro e w7 ⟨rfl, b1⟩; replace f11 := Below.stays b1 f11; replace f13 := Below.stays b1 f13; replace f15 := Below.stays b1 f15; replace bW := bW.trans (b1.mono bW.size); clear b1)
  clear f0 f1 f2 f3
  go_wp2_with (first | (refine wpList_load_row_if rfl 24 _ rfl _ rfl 24 (wa x) (0, 0) _ f11 Try.underlying24 rfl Try.infoWa ?_) | (refine wpList_load_row_if rfl 24 _ rfl _ rfl 24 (wa y) (0, 0) _ f13 Try.underlying24 rfl Try.infoWa ?_) | (go_at_call 7; refine (fixed17_walk _).mono ?_; rintro e w8 ⟨rfl, b1⟩; replace f11 := Below.stays b1 f11; replace f13 := Below.stays b1 f13; replace f15 := Below.stays b1 f15; replace bW := bW.trans (b1.mono bW.size); clear b1))
  go_ret
  exact ⟨rfl, bW⟩
set_option maxHeartbeats 4000000 in
theorem few_3 (op : Int) (a b c d x y z : Nat) (k1 k2 k3 : Bool) (w : World)
    (H1 : Hid (∀ w : World, Calls Try.prog 5 #[.int .u8 op, wd a, wd b, wd c] w fun e w' => e = .returned (.tuple #[wd x, .bool k1]) ∧ Below w.heap.size w w')) (H2 : Hid (∀ w : World, Calls Try.prog 5 #[.int .u8 op, wd a, wd b, wd d] w fun e w' => e = .returned (.tuple #[wd y, .bool k2]) ∧ Below w.heap.size w w')) (H3 : Hid (∀ w : World, Calls Try.prog 5 #[.int .u8 op, wd a, wd d, wd c] w fun e w' => e = .returned (.tuple #[wd z, .bool k3]) ∧ Below w.heap.size w w'))
    (HT : Hid (∀ w : World, Calls Try.prog 6 #[.int .u8 op] w fun e w' => e = .returned (.int .i64 3) ∧ Below w.heap.size w w')) :
    Calls Try.prog 3 #[.int .u8 op, wd a, wd b, wd c, wd d] w fun e w' => e = .returned (.bool true) ∧ Below w.heap.size w w' := by
  obtain ⟨W, hW, f0, f1, f2, f3, bW⟩ := lboxes4 w a b c d
  have hz := z4_wa
  have hsz := wa_size
  have eg := Try.guardW
  go_enter Try.func3, Try.ntmps3
  go_upto_region 1 with fail
  try rw [hW]
  clear hW
  go_upto_region 2 with (first | (refine wpList_load_row rfl 24 _ rfl _ rfl 24 _ (0, 0) _ (by assumption) Try.underlying24 rfl Try.infoWa ?_) | (go_at_call 5; refine (H1.out _).mono ?_; rintro e w1 ⟨rfl, b1⟩; replace f0 := Below.stays b1 f0; replace f1 := Below.stays b1 f1; replace f2 := Below.stays b1 f2; replace f3 := Below.stays b1 f3; replace bW := bW.trans (b1.mono bW.size); clear b1) | (refine wpList_store_row rfl 24 (.tmp 11) _ rfl _ _ (wa x) rfl rfl (heap_alloc_new _ _) Try.infoWa rfl wa_one ?_))
  try simp only [Act.put]
  rw [World.setRow_alloc_new]
  replace f0 := blk_alloc (o' := .cells (wa x) 24) f0
  replace f1 := blk_alloc (o' := .cells (wa x) 24) f1
  replace f2 := blk_alloc (o' := .cells (wa x) 24) f2
  replace f3 := blk_alloc (o' := .cells (wa x) 24) f3
  have f11 : (w1.alloc (.cells (wa x) 24)).heap[w1.heap.size]? = some (.cells (wa x) 24) := heap_alloc_new _ _
  replace bW : Below w.heap.size w (w1.alloc (.cells (wa x) 24)) := bW.alloc bW.size _
  generalize (w1.alloc (.cells (wa x) 24)) = w2 at *
  generalize w1.heap.size = p11 at *
  go_upto_region 3 with (first | (refine wpList_load_row rfl 24 _ rfl _ rfl 24 _ (0, 0) _ (by assumption) Try.underlying24 rfl Try.infoWa ?_) | (go_at_call 5; refine (H2.out _).mono ?_; rintro e w3 ⟨rfl, b1⟩; replace f0 := Below.stays b1 f0; replace f1 := Below.stays b1 f1; replace f2 := Below.stays b1 f2; replace f3 := Below.stays b1 f3; replace f11 := Below.stays b1 f11; replace bW := bW.trans (b1.mono bW.size); clear b1) | (refine wpList_store_row rfl 24 (.tmp 13) _ rfl _ _ (wa y) rfl rfl (heap_alloc_new _ _) Try.infoWa rfl wa_one ?_))
  try simp only [Act.put]
  rw [World.setRow_alloc_new]
  replace f0 := blk_alloc (o' := .cells (wa y) 24) f0
  replace f1 := blk_alloc (o' := .cells (wa y) 24) f1
  replace f2 := blk_alloc (o' := .cells (wa y) 24) f2
  replace f3 := blk_alloc (o' := .cells (wa y) 24) f3
  replace f11 := blk_alloc (o' := .cells (wa y) 24) f11
  have f13 : (w3.alloc (.cells (wa y) 24)).heap[w3.heap.size]? = some (.cells (wa y) 24) := heap_alloc_new _ _
  replace bW : Below w.heap.size w (w3.alloc (.cells (wa y) 24)) := bW.alloc bW.size _
  generalize (w3.alloc (.cells (wa y) 24)) = w4 at *
  generalize w3.heap.size = p13 at *
  go_upto_region 4 with (first | (refine wpList_load_row rfl 24 _ rfl _ rfl 24 _ (0, 0) _ (by assumption) Try.underlying24 rfl Try.infoWa ?_) | (go_at_call 5; refine (H3.out _).mono ?_; rintro e w5 ⟨rfl, b1⟩; replace f0 := Below.stays b1 f0; replace f1 := Below.stays b1 f1; replace f2 := Below.stays b1 f2; replace f3 := Below.stays b1 f3; replace f11 := Below.stays b1 f11; replace f13 := Below.stays b1 f13; replace bW := bW.trans (b1.mono bW.size); clear b1) | (refine wpList_store_row rfl 24 (.tmp 15) _ rfl _ _ (wa z) rfl rfl (heap_alloc_new _ _) Try.infoWa rfl wa_one ?_))
  try simp only [Act.put]
  rw [World.setRow_alloc_new]
  replace f0 := blk_alloc (o' := .cells (wa z) 24) f0
  replace f1 := blk_alloc (o' := .cells (wa z) 24) f1
  replace f2 := blk_alloc (o' := .cells (wa z) 24) f2
  replace f3 := blk_alloc (o' := .cells (wa z) 24) f3
  replace f11 := blk_alloc (o' := .cells (wa z) 24) f11
  replace f13 := blk_alloc (o' := .cells (wa z) 24) f13
  have f15 : (w5.alloc (.cells (wa z) 24)).heap[w5.heap.size]? = some (.cells (wa z) 24) := heap_alloc_new _ _
  replace bW : Below w.heap.size w (w5.alloc (.cells (wa z) 24)) := bW.alloc bW.size _
  generalize (w5.alloc (.cells (wa z) 24)) = w6 at *
  generalize w5.heap.size = p15 at *
  go_upto_region 5 with (go_at_call 6; refine (HT.out _).mono ?_; rintro e w7 ⟨rfl, b1⟩; replace f11 := Below.stays b1 f11; replace f13 := Below.stays b1 f13; replace f15 := Below.stays b1 f15; replace bW := bW.trans (b1.mono bW.size); clear b1)
  clear f0 f1 f2 f3
  go_wp2_with (first | (go_at_call 7; refine (fixed17_walk _).mono ?_; rintro e w8 ⟨rfl, b1⟩; replace f11 := Below.stays b1 f11; replace f13 := Below.stays b1 f13; replace f15 := Below.stays b1 f15; replace bW := bW.trans (b1.mono bW.size); clear b1))
  go_ret
  exact ⟨rfl, bW⟩
theorem few_c {op : Nat} (a b c d : Nat) (h : takesN op ≤ 2) : aluV op a b c = aluV op a b d := by
  have e : ∀ a b c, three op a b c = none := fun a b c => by
    by_cases h8 : op = 8
    · subst h8
      exact absurd h (by decide)
    · by_cases h9 : op = 9
      · subst h9
        exact absurd h (by decide)
      · unfold three
        rw [if_neg h8, if_neg h9]
  rw [aluV, aluV, aluN, aluN, e, e]
theorem few_b {op : Nat} (a b c d : Nat) (h : takesN op ≤ 1) : aluV op a b c = aluV op a d c := by
  have e : ∀ a b c, three op a b c = none := fun a b c => by
    by_cases h8 : op = 8
    · subst h8
      exact absurd h (by decide)
    · by_cases h9 : op = 9
      · subst h9
        exact absurd h (by decide)
      · unfold three
        rw [if_neg h8, if_neg h9]
  have key : ∀ k ∈ [1, 2, 3, 4, 5, 6, 7, 10, 11, 16, 17, 18, 19, 20, 22, 23, 24, 26, 27, 28, 29], takesN k = 2 := by decide +kernel
  have e2 : ∀ b, two op a b = none := fun b => by
    by_cases hm : op ∈ [1, 2, 3, 4, 5, 6, 7, 10, 11, 16, 17, 18, 19, 20, 22, 23, 24, 26, 27, 28, 29]
    · have := key op hm
      omega
    · simp only [List.mem_cons, not_or, List.not_mem_nil, not_false_eq_true, and_true] at hm
      obtain ⟨n1, n2, n3, n4, n5, n6, n7, n10, n11, n16, n17, n18, n19, n20, n22, n23, n24, n26, n27, n28, n29⟩ := hm
      unfold two
      rw [if_neg n1, if_neg n2, if_neg n3, if_neg n4, if_neg n5, if_neg n6, if_neg n7, if_neg n10, if_neg n11, if_neg n16, if_neg n17, if_neg n18, if_neg n19, if_neg n20, if_neg n22, if_neg n23, if_neg n24, if_neg n26, if_neg n27, if_neg n28, if_neg n29]
  rw [aluV, aluV, aluN, aluN, e, e, e2, e2]
theorem eq_self (x : Nat) (w : World) : (Op.equalIn 10000 24 (.agg (wa x)) (.agg (wa x))).run Try.prog w = .ok true w := by
  rw [equal_wa]
  simp
theorem takes_le (op : Nat) : takesN op ≤ 3 := by
  unfold takesN
  (repeat' split) <;> omega
theorem few_law (op a b c d : Nat) (w : World) : Calls Try.prog 3 #[.int .u8 (op : Int), wd a, wd b, wd c, wd d] w fun e w' => e = .returned (.bool true) ∧ Below w.heap.size w w' := by
  have hT := fun w => takes_walk op w
  have hle := takes_le op
  have h1 := Lib.hid fun w => do_walk op a b c w
  have h2 := Lib.hid fun w => do_walk op a b d w
  have h3 := Lib.hid fun w => do_walk op a d c w
  by_cases t3 : takesN op = 3
  · rw [t3] at hT
    exact few_3 op a b c d _ _ _ _ _ _ w h1 h2 h3 (Lib.hid hT)
  · have e1 := few_c a b c d (show takesN op ≤ 2 by omega)
    by_cases t2 : takesN op = 2
    · rw [t2] at hT
      exact few_2 op a b c d _ _ _ _ _ _ w h1 h2 h3 (Lib.hid hT) (by rw [e1]; exact eq_self _)
    · have e2 := few_b a b c d (show takesN op ≤ 1 by omega)
      by_cases t1 : takesN op = 1
      · rw [t1] at hT
        exact few_1 op a b c d _ _ _ _ _ _ w h1 h2 h3 (Lib.hid hT) (by rw [e1]; exact eq_self _) (by rw [e2]; exact eq_self _)
      · rw [show takesN op = 0 by omega] at hT
        exact few_0 op a b c d _ _ _ _ _ _ w h1 h2 h3 (Lib.hid hT) (by rw [e1]; exact eq_self _) (by rw [e2]; exact eq_self _)
end Go.Proofs.Ytdpbjdecbilaeaa
