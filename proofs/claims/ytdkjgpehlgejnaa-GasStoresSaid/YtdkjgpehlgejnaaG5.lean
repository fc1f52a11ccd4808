/- What writing a slot costs, and refunds: the document's function. -/
import Derived.Test.YtdkjgpehlgejnaaG4
namespace Go.Proofs.Ytdkjgpehlgejnaa
open Go.RowKit SmWord
set_option maxRecDepth 100000

theorem store_new0 (w : World) : (storeCells ⟨w.heap.size, 0, none⟩ (wa 0).toList).run Try.prog (w.alloc (.cells (wa 0) 24)) = .ok () (w.alloc (.cells (wa 0) 24)) := store_new w 0
/-- What the document refunds. -/
def rB (q1 q2 q3 q4 q5 q6 : Bool) : Int := if q1 then 0 else if q2 then (if !q3 && q4 then 4800 else 0) else (if q3 then 0 else (if q5 then -4800 else 0) + (if q4 then 4800 else 0)) + (if q6 then if q3 then 19900 else 2800 else 0)
set_option maxHeartbeats 1000000 in
theorem rst1f (f n x : Nat) (q2 q3 q4 q5 q6 : Bool) (w : World) (E1 : Hid (∀ w : World, (Op.equalIn 10000 24 (.agg (wa n)) (.agg (wa x))).run Try.prog w = .ok true w)) (E2 : Hid (∀ w : World, (Op.equalIn 10000 24 (.agg (wa f)) (.agg (wa n))).run Try.prog w = .ok q2 w)) (E3 : Hid (∀ w : World, (Op.equalIn 10000 24 (.agg (wa f)) (.agg (wa 0))).run Try.prog w = .ok q3 w)) (E4 : Hid (∀ w : World, (Op.equalIn 10000 24 (.agg (wa x)) (.agg (wa 0))).run Try.prog w = .ok q4 w)) (E5 : Hid (∀ w : World, (Op.equalIn 10000 24 (.agg (wa n)) (.agg (wa 0))).run Try.prog w = .ok q5 w)) (E6 : Hid (∀ w : World, (Op.equalIn 10000 24 (.agg (wa f)) (.agg (wa x))).run Try.prog w = .ok q6 w)) :
    Calls Try.prog 23 #[wd f, wd n, wd x, .bool false] w fun e w' => e = .returned (.tuple #[.int .u64 ((if false then 2100 else 0) + if true || !q2 then 100 else if q3 then 20000 else 2900), .int .i64 (rB true q2 q3 q4 q5 q6)]) ∧ Below w.heap.size w w' := by
  have hs := wa_size
  obtain ⟨f0, f1, f2, bW⟩ := boxes3 w f n x
  have fo := fold_wa
  have hz := z4_wa
  have eg := Try.guardW
  obtain ⟨W, hW⟩ : ∃ W, bx3 w f n x = W := ⟨_, rfl⟩
  rw [hW] at f0 f1 f2 bW
  have f3 : (W.alloc (.cells (wa 0) 24)).heap[W.heap.size]? = some (.cells (wa 0) 24) := heap_alloc_new _ _
  have HB := Lib.hid (bW.alloc bW.size (.cells (wa 0) 24))
  replace f0 := blk_alloc (o' := .cells (wa 0) 24) f0
  replace f1 := blk_alloc (o' := .cells (wa 0) 24) f1
  replace f2 := blk_alloc (o' := .cells (wa 0) 24) f2
  have hn := store_new0
  clear bW
  unfold bx3 at hW
  have e1 := E1.out
  have e2 := E2.out
  have e3 := E3.out
  have e4 := E4.out
  have e5 := E5.out
  have e6 := E6.out
  clear E1 E2 E3 E4 E5 E6
  go_enter Try.func23, Try.ntmps23
  go_upto_region 1 with fail
  clear hW
  go_upto_region 2 with fail
  clear hn
  generalize (W.alloc (.cells (wa 0) 24)) = V at *
  generalize W.heap.size = z at *
  obtain ⟨p0, p1, p2, p3⟩ := wcells f0
  obtain ⟨r0, r1, r2, r3⟩ := wcells f1
  obtain ⟨s0, s1, s2, s3⟩ := wcells f2
  obtain ⟨t0, t1, t2, t3⟩ := wcells f3
  go_wp2_with fail
  go_ret2
  exact ⟨rfl, HB.out⟩
set_option maxHeartbeats 1000000 in
theorem rst2f (f n x : Nat) (q3 q4 q5 q6 : Bool) (w : World) (E1 : Hid (∀ w : World, (Op.equalIn 10000 24 (.agg (wa n)) (.agg (wa x))).run Try.prog w = .ok false w)) (E2 : Hid (∀ w : World, (Op.equalIn 10000 24 (.agg (wa f)) (.agg (wa n))).run Try.prog w = .ok true w)) (E3 : Hid (∀ w : World, (Op.equalIn 10000 24 (.agg (wa f)) (.agg (wa 0))).run Try.prog w = .ok q3 w)) (E4 : Hid (∀ w : World, (Op.equalIn 10000 24 (.agg (wa x)) (.agg (wa 0))).run Try.prog w = .ok q4 w)) (E5 : Hid (∀ w : World, (Op.equalIn 10000 24 (.agg (wa n)) (.agg (wa 0))).run Try.prog w = .ok q5 w)) (E6 : Hid (∀ w : World, (Op.equalIn 10000 24 (.agg (wa f)) (.agg (wa x))).run Try.prog w = .ok q6 w)) :
    Calls Try.prog 23 #[wd f, wd n, wd x, .bool false] w fun e w' => e = .returned (.tuple #[.int .u64 ((if false then 2100 else 0) + if false || !true then 100 else if q3 then 20000 else 2900), .int .i64 (rB false true q3 q4 q5 q6)]) ∧ Below w.heap.size w w' := by
  have hs := wa_size
  obtain ⟨f0, f1, f2, bW⟩ := boxes3 w f n x
  have fo := fold_wa
  have hz := z4_wa
  have eg := Try.guardW
  obtain ⟨W, hW⟩ : ∃ W, bx3 w f n x = W := ⟨_, rfl⟩
  rw [hW] at f0 f1 f2 bW
  have f3 : (W.alloc (.cells (wa 0) 24)).heap[W.heap.size]? = some (.cells (wa 0) 24) := heap_alloc_new _ _
  have HB := Lib.hid (bW.alloc bW.size (.cells (wa 0) 24))
  replace f0 := blk_alloc (o' := .cells (wa 0) 24) f0
  replace f1 := blk_alloc (o' := .cells (wa 0) 24) f1
  replace f2 := blk_alloc (o' := .cells (wa 0) 24) f2
  have hn := store_new0
  clear bW
  unfold bx3 at hW
  have e1 := E1.out
  have e2 := E2.out
  have e3 := E3.out
  have e4 := E4.out
  have e5 := E5.out
  have e6 := E6.out
  clear E1 E2 E3 E4 E5 E6
  go_enter Try.func23, Try.ntmps23
  go_upto_region 1 with fail
  clear hW
  go_upto_region 2 with fail
  clear hn
  generalize (W.alloc (.cells (wa 0) 24)) = V at *
  generalize W.heap.size = z at *
  obtain ⟨p0, p1, p2, p3⟩ := wcells f0
  obtain ⟨r0, r1, r2, r3⟩ := wcells f1
  obtain ⟨s0, s1, s2, s3⟩ := wcells f2
  obtain ⟨t0, t1, t2, t3⟩ := wcells f3
  cases q3 <;> cases q4 <;>
  · go_wp2_with fail
    go_ret2
    exact ⟨by simp [rB], HB.out⟩
set_option maxHeartbeats 1000000 in
theorem rst3f (f n x : Nat) (q4 q5 q6 : Bool) (w : World) (E1 : Hid (∀ w : World, (Op.equalIn 10000 24 (.agg (wa n)) (.agg (wa x))).run Try.prog w = .ok false w)) (E2 : Hid (∀ w : World, (Op.equalIn 10000 24 (.agg (wa f)) (.agg (wa n))).run Try.prog w = .ok false w)) (E3 : Hid (∀ w : World, (Op.equalIn 10000 24 (.agg (wa f)) (.agg (wa 0))).run Try.prog w = .ok true w)) (E4 : Hid (∀ w : World, (Op.equalIn 10000 24 (.agg (wa x)) (.agg (wa 0))).run Try.prog w = .ok q4 w)) (E5 : Hid (∀ w : World, (Op.equalIn 10000 24 (.agg (wa n)) (.agg (wa 0))).run Try.prog w = .ok q5 w)) (E6 : Hid (∀ w : World, (Op.equalIn 10000 24 (.agg (wa f)) (.agg (wa x))).run Try.prog w = .ok q6 w)) :
    Calls Try.prog 23 #[wd f, wd n, wd x, .bool false] w fun e w' => e = .returned (.tuple #[.int .u64 ((if false then 2100 else 0) + if false || !false then 100 else if true then 20000 else 2900), .int .i64 (rB false false true q4 q5 q6)]) ∧ Below w.heap.size w w' := by
  have hs := wa_size
  obtain ⟨f0, f1, f2, bW⟩ := boxes3 w f n x
  have fo := fold_wa
  have hz := z4_wa
  have eg := Try.guardW
  obtain ⟨W, hW⟩ : ∃ W, bx3 w f n x = W := ⟨_, rfl⟩
  rw [hW] at f0 f1 f2 bW
  have f3 : (W.alloc (.cells (wa 0) 24)).heap[W.heap.size]? = some (.cells (wa 0) 24) := heap_alloc_new _ _
  have HB := Lib.hid (bW.alloc bW.size (.cells (wa 0) 24))
  replace f0 := blk_alloc (o' := .cells (wa 0) 24) f0
  replace f1 := blk_alloc (o' := .cells (wa 0) 24) f1
  replace f2 := blk_alloc (o' := .cells (wa 0) 24) f2
  have hn := store_new0
  clear bW
  unfold bx3 at hW
  have e1 := E1.out
  have e2 := E2.out
  have e3 := E3.out
  have e4 := E4.out
  have e5 := E5.out
  have e6 := E6.out
  clear E1 E2 E3 E4 E5 E6
  go_enter Try.func23, Try.ntmps23
  go_upto_region 1 with fail
  clear hW
  go_upto_region 2 with fail
  clear hn
  generalize (W.alloc (.cells (wa 0) 24)) = V at *
  generalize W.heap.size = z at *
  obtain ⟨p0, p1, p2, p3⟩ := wcells f0
  obtain ⟨r0, r1, r2, r3⟩ := wcells f1
  obtain ⟨s0, s1, s2, s3⟩ := wcells f2
  obtain ⟨t0, t1, t2, t3⟩ := wcells f3
  cases q6 <;>
  · go_wp2_with fail
    go_ret2
    exact ⟨by simp [rB], HB.out⟩
set_option maxHeartbeats 1000000 in
theorem rst4f (f n x : Nat) (q4 q5 q6 : Bool) (w : World) (E1 : Hid (∀ w : World, (Op.equalIn 10000 24 (.agg (wa n)) (.agg (wa x))).run Try.prog w = .ok false w)) (E2 : Hid (∀ w : World, (Op.equalIn 10000 24 (.agg (wa f)) (.agg (wa n))).run Try.prog w = .ok false w)) (E3 : Hid (∀ w : World, (Op.equalIn 10000 24 (.agg (wa f)) (.agg (wa 0))).run Try.prog w = .ok false w)) (E4 : Hid (∀ w : World, (Op.equalIn 10000 24 (.agg (wa x)) (.agg (wa 0))).run Try.prog w = .ok q4 w)) (E5 : Hid (∀ w : World, (Op.equalIn 10000 24 (.agg (wa n)) (.agg (wa 0))).run Try.prog w = .ok q5 w)) (E6 : Hid (∀ w : World, (Op.equalIn 10000 24 (.agg (wa f)) (.agg (wa x))).run Try.prog w = .ok q6 w)) :
    Calls Try.prog 23 #[wd f, wd n, wd x, .bool false] w fun e w' => e = .returned (.tuple #[.int .u64 ((if false then 2100 else 0) + if false || !false then 100 else if false then 20000 else 2900), .int .i64 (rB false false false q4 q5 q6)]) ∧ Below w.heap.size w w' := by
  have hs := wa_size
  obtain ⟨f0, f1, f2, bW⟩ := boxes3 w f n x
  have fo := fold_wa
  have hz := z4_wa
  have eg := Try.guardW
  obtain ⟨W, hW⟩ : ∃ W, bx3 w f n x = W := ⟨_, rfl⟩
  rw [hW] at f0 f1 f2 bW
  have f3 : (W.alloc (.cells (wa 0) 24)).heap[W.heap.size]? = some (.cells (wa 0) 24) := heap_alloc_new _ _
  have HB := Lib.hid (bW.alloc bW.size (.cells (wa 0) 24))
  replace f0 := blk_alloc (o' := .cells (wa 0) 24) f0
  replace f1 := blk_alloc (o' := .cells (wa 0) 24) f1
  replace f2 := blk_alloc (o' := .cells (wa 0) 24) f2
  have hn := store_new0
  clear bW
  unfold bx3 at hW
  have e1 := E1.out
  have e2 := E2.out
  have e3 := E3.out
  have e4 := E4.out
  have e5 := E5.out
  have e6 := E6.out
  clear E1 E2 E3 E4 E5 E6
  go_enter Try.func23, Try.ntmps23
  go_upto_region 1 with fail
  clear hW
  go_upto_region 2 with fail
  clear hn
  generalize (W.alloc (.cells (wa 0) 24)) = V at *
  generalize W.heap.size = z at *
  obtain ⟨p0, p1, p2, p3⟩ := wcells f0
  obtain ⟨r0, r1, r2, r3⟩ := wcells f1
  obtain ⟨s0, s1, s2, s3⟩ := wcells f2
  obtain ⟨t0, t1, t2, t3⟩ := wcells f3
  cases q4 <;> cases q5 <;> cases q6 <;>
  · go_wp2_with fail
    go_ret2
    exact ⟨by simp [rB], HB.out⟩
set_option maxHeartbeats 1000000 in
theorem rst1t (f n x : Nat) (q2 q3 q4 q5 q6 : Bool) (w : World) (E1 : Hid (∀ w : World, (Op.equalIn 10000 24 (.agg (wa n)) (.agg (wa x))).run Try.prog w = .ok true w)) (E2 : Hid (∀ w : World, (Op.equalIn 10000 24 (.agg (wa f)) (.agg (wa n))).run Try.prog w = .ok q2 w)) (E3 : Hid (∀ w : World, (Op.equalIn 10000 24 (.agg (wa f)) (.agg (wa 0))).run Try.prog w = .ok q3 w)) (E4 : Hid (∀ w : World, (Op.equalIn 10000 24 (.agg (wa x)) (.agg (wa 0))).run Try.prog w = .ok q4 w)) (E5 : Hid (∀ w : World, (Op.equalIn 10000 24 (.agg (wa n)) (.agg (wa 0))).run Try.prog w = .ok q5 w)) (E6 : Hid (∀ w : World, (Op.equalIn 10000 24 (.agg (wa f)) (.agg (wa x))).run Try.prog w = .ok q6 w)) :
    Calls Try.prog 23 #[wd f, wd n, wd x, .bool true] w fun e w' => e = .returned (.tuple #[.int .u64 ((if true then 2100 else 0) + if true || !q2 then 100 else if q3 then 20000 else 2900), .int .i64 (rB true q2 q3 q4 q5 q6)]) ∧ Below w.heap.size w w' := by
  have hs := wa_size
  obtain ⟨f0, f1, f2, bW⟩ := boxes3 w f n x
  have fo := fold_wa
  have hz := z4_wa
  have eg := Try.guardW
  obtain ⟨W, hW⟩ : ∃ W, bx3 w f n x = W := ⟨_, rfl⟩
  rw [hW] at f0 f1 f2 bW
  have f3 : (W.alloc (.cells (wa 0) 24)).heap[W.heap.size]? = some (.cells (wa 0) 24) := heap_alloc_new _ _
  have HB := Lib.hid (bW.alloc bW.size (.cells (wa 0) 24))
  replace f0 := blk_alloc (o' := .cells (wa 0) 24) f0
  replace f1 := blk_alloc (o' := .cells (wa 0) 24) f1
  replace f2 := blk_alloc (o' := .cells (wa 0) 24) f2
  have hn := store_new0
  clear bW
  unfold bx3 at hW
  have e1 := E1.out
  have e2 := E2.out
  have e3 := E3.out
  have e4 := E4.out
  have e5 := E5.out
  have e6 := E6.out
  clear E1 E2 E3 E4 E5 E6
  go_enter Try.func23, Try.ntmps23
  go_upto_region 1 with fail
  clear hW
  go_upto_region 2 with fail
  clear hn
  generalize (W.alloc (.cells (wa 0) 24)) = V at *
  generalize W.heap.size = z at *
  obtain ⟨p0, p1, p2, p3⟩ := wcells f0
  obtain ⟨r0, r1, r2, r3⟩ := wcells f1
  obtain ⟨s0, s1, s2, s3⟩ := wcells f2
  obtain ⟨t0, t1, t2, t3⟩ := wcells f3
  go_wp2_with fail
  go_ret2
  exact ⟨rfl, HB.out⟩
set_option maxHeartbeats 1000000 in
theorem rst2t (f n x : Nat) (q3 q4 q5 q6 : Bool) (w : World) (E1 : Hid (∀ w : World, (Op.equalIn 10000 24 (.agg (wa n)) (.agg (wa x))).run Try.prog w = .ok false w)) (E2 : Hid (∀ w : World, (Op.equalIn 10000 24 (.agg (wa f)) (.agg (wa n))).run Try.prog w = .ok true w)) (E3 : Hid (∀ w : World, (Op.equalIn 10000 24 (.agg (wa f)) (.agg (wa 0))).run Try.prog w = .ok q3 w)) (E4 : Hid (∀ w : World, (Op.equalIn 10000 24 (.agg (wa x)) (.agg (wa 0))).run Try.prog w = .ok q4 w)) (E5 : Hid (∀ w : World, (Op.equalIn 10000 24 (.agg (wa n)) (.agg (wa 0))).run Try.prog w = .ok q5 w)) (E6 : Hid (∀ w : World, (Op.equalIn 10000 24 (.agg (wa f)) (.agg (wa x))).run Try.prog w = .ok q6 w)) :
    Calls Try.prog 23 #[wd f, wd n, wd x, .bool true] w fun e w' => e = .returned (.tuple #[.int .u64 ((if true then 2100 else 0) + if false || !true then 100 else if q3 then 20000 else 2900), .int .i64 (rB false true q3 q4 q5 q6)]) ∧ Below w.heap.size w w' := by
  have hs := wa_size
  obtain ⟨f0, f1, f2, bW⟩ := boxes3 w f n x
  have fo := fold_wa
  have hz := z4_wa
  have eg := Try.guardW
  obtain ⟨W, hW⟩ : ∃ W, bx3 w f n x = W := ⟨_, rfl⟩
  rw [hW] at f0 f1 f2 bW
  have f3 : (W.alloc (.cells (wa 0) 24)).heap[W.heap.size]? = some (.cells (wa 0) 24) := heap_alloc_new _ _
  have HB := Lib.hid (bW.alloc bW.size (.cells (wa 0) 24))
  replace f0 := blk_alloc (o' := .cells (wa 0) 24) f0
  replace f1 := blk_alloc (o' := .cells (wa 0) 24) f1
  replace f2 := blk_alloc (o' := .cells (wa 0) 24) f2
  have hn := store_new0
  clear bW
  unfold bx3 at hW
  have e1 := E1.out
  have e2 := E2.out
  have e3 := E3.out
  have e4 := E4.out
  have e5 := E5.out
  have e6 := E6.out
  clear E1 E2 E3 E4 E5 E6
  go_enter Try.func23, Try.ntmps23
  go_upto_region 1 with fail
  clear hW
  go_upto_region 2 with fail
  clear hn
  generalize (W.alloc (.cells (wa 0) 24)) = V at *
  generalize W.heap.size = z at *
  obtain ⟨p0, p1, p2, p3⟩ := wcells f0
  obtain ⟨r0, r1, r2, r3⟩ := wcells f1
  obtain ⟨s0, s1, s2, s3⟩ := wcells f2
  obtain ⟨t0, t1, t2, t3⟩ := wcells f3
  cases q3 <;> cases q4 <;>
  · go_wp2_with fail
    go_ret2
    exact ⟨by simp [rB], HB.out⟩
set_option maxHeartbeats 1000000 in
theorem rst3t (f n x : Nat) (q4 q5 q6 : Bool) (w : World) (E1 : Hid (∀ w : World, (Op.equalIn 10000 24 (.agg (wa n)) (.agg (wa x))).run Try.prog w = .ok false w)) (E2 : Hid (∀ w : World, (Op.equalIn 10000 24 (.agg (wa f)) (.agg (wa n))).run Try.prog w = .ok false w)) (E3 : Hid (∀ w : World, (Op.equalIn 10000 24 (.agg (wa f)) (.agg (wa 0))).run Try.prog w = .ok true w)) (E4 : Hid (∀ w : World, (Op.equalIn 10000 24 (.agg (wa x)) (.agg (wa 0))).run Try.prog w = .ok q4 w)) (E5 : Hid (∀ w : World, (Op.equalIn 10000 24 (.agg (wa n)) (.agg (wa 0))).run Try.prog w = .ok q5 w)) (E6 : Hid (∀ w : World, (Op.equalIn 10000 24 (.agg (wa f)) (.agg (wa x))).run Try.prog w = .ok q6 w)) :
    Calls Try.prog 23 #[wd f, wd n, wd x, .bool true] w fun e w' => e = .returned (.tuple #[.int .u64 ((if true then 2100 else 0) + if false || !false then 100 else if true then 20000 else 2900), .int .i64 (rB false false true q4 q5 q6)]) ∧ Below w.heap.size w w' := by
  have hs := wa_size
  obtain ⟨f0, f1, f2, bW⟩ := boxes3 w f n x
  have fo := fold_wa
  have hz := z4_wa
  have eg := Try.guardW
  obtain ⟨W, hW⟩ : ∃ W, bx3 w f n x = W := ⟨_, rfl⟩
  rw [hW] at f0 f1 f2 bW
  have f3 : (W.alloc (.cells (wa 0) 24)).heap[W.heap.size]? = some (.cells (wa 0) 24) := heap_alloc_new _ _
  have HB := Lib.hid (bW.alloc bW.size (.cells (wa 0) 24))
  replace f0 := blk_alloc (o' := .cells (wa 0) 24) f0
  replace f1 := blk_alloc (o' := .cells (wa 0) 24) f1
  replace f2 := blk_alloc (o' := .cells (wa 0) 24) f2
  have hn := store_new0
  clear bW
  unfold bx3 at hW
  have e1 := E1.out
  have e2 := E2.out
  have e3 := E3.out
  have e4 := E4.out
  have e5 := E5.out
  have e6 := E6.out
  clear E1 E2 E3 E4 E5 E6
  go_enter Try.func23, Try.ntmps23
  go_upto_region 1 with fail
  clear hW
  go_upto_region 2 with fail
  clear hn
  generalize (W.alloc (.cells (wa 0) 24)) = V at *
  generalize W.heap.size = z at *
  obtain ⟨p0, p1, p2, p3⟩ := wcells f0
  obtain ⟨r0, r1, r2, r3⟩ := wcells f1
  obtain ⟨s0, s1, s2, s3⟩ := wcells f2
  obtain ⟨t0, t1, t2, t3⟩ := wcells f3
  cases q6 <;>
  · go_wp2_with fail
    go_ret2
    exact ⟨by simp [rB], HB.out⟩
set_option maxHeartbeats 1000000 in
theorem rst4t (f n x : Nat) (q4 q5 q6 : Bool) (w : World) (E1 : Hid (∀ w : World, (Op.equalIn 10000 24 (.agg (wa n)) (.agg (wa x))).run Try.prog w = .ok false w)) (E2 : Hid (∀ w : World, (Op.equalIn 10000 24 (.agg (wa f)) (.agg (wa n))).run Try.prog w = .ok false w)) (E3 : Hid (∀ w : World, (Op.equalIn 10000 24 (.agg (wa f)) (.agg (wa 0))).run Try.prog w = .ok false w)) (E4 : Hid (∀ w : World, (Op.equalIn 10000 24 (.agg (wa x)) (.agg (wa 0))).run Try.prog w = .ok q4 w)) (E5 : Hid (∀ w : World, (Op.equalIn 10000 24 (.agg (wa n)) (.agg (wa 0))).run Try.prog w = .ok q5 w)) (E6 : Hid (∀ w : World, (Op.equalIn 10000 24 (.agg (wa f)) (.agg (wa x))).run Try.prog w = .ok q6 w)) :
    Calls Try.prog 23 #[wd f, wd n, wd x, .bool true] w fun e w' => e = .returned (.tuple #[.int .u64 ((if true then 2100 else 0) + if false || !false then 100 else if false then 20000 else 2900), .int .i64 (rB false false false q4 q5 q6)]) ∧ Below w.heap.size w w' := by
  have hs := wa_size
  obtain ⟨f0, f1, f2, bW⟩ := boxes3 w f n x
  have fo := fold_wa
  have hz := z4_wa
  have eg := Try.guardW
  obtain ⟨W, hW⟩ : ∃ W, bx3 w f n x = W := ⟨_, rfl⟩
  rw [hW] at f0 f1 f2 bW
  have f3 : (W.alloc (.cells (wa 0) 24)).heap[W.heap.size]? = some (.cells (wa 0) 24) := heap_alloc_new _ _
  have HB := Lib.hid (bW.alloc bW.size (.cells (wa 0) 24))
  replace f0 := blk_alloc (o' := .cells (wa 0) 24) f0
  replace f1 := blk_alloc (o' := .cells (wa 0) 24) f1
  replace f2 := blk_alloc (o' := .cells (wa 0) 24) f2
  have hn := store_new0
  clear bW
  unfold bx3 at hW
  have e1 := E1.out
  have e2 := E2.out
  have e3 := E3.out
  have e4 := E4.out
  have e5 := E5.out
  have e6 := E6.out
  clear E1 E2 E3 E4 E5 E6
  go_enter Try.func23, Try.ntmps23
  go_upto_region 1 with fail
  clear hW
  go_upto_region 2 with fail
  clear hn
  generalize (W.alloc (.cells (wa 0) 24)) = V at *
  generalize W.heap.size = z at *
  obtain ⟨p0, p1, p2, p3⟩ := wcells f0
  obtain ⟨r0, r1, r2, r3⟩ := wcells f1
  obtain ⟨s0, s1, s2, s3⟩ := wcells f2
  obtain ⟨t0, t1, t2, t3⟩ := wcells f3
  cases q4 <;> cases q5 <;> cases q6 <;>
  · go_wp2_with fail
    go_ret2
    exact ⟨by simp [rB], HB.out⟩
end Go.Proofs.Ytdkjgpehlgejnaa
/- What writing a slot costs, and refunds: the document's function, at all words. -/
namespace Go.Proofs.Ytdkjgpehlgejnaa
open Go.RowKit SmWord
set_option maxRecDepth 100000

/-- What the document says a store costs, and refunds. -/
theorem rsstore_wd (f n x : Nat) (cold : Bool) (w : World) (hf : f < M) (hn : n < M) (hx : x < M) :
    Calls Try.prog 23 #[wd f, wd n, wd x, .bool cold] w fun e w' => e = .returned (.tuple #[.int .u64 (((if cold then 2100 else 0) + sC f n x : Nat) : Int), .int .i64 (sB f n x)]) ∧ Below w.heap.size w w' := by
  have E : ∀ {a b : Nat} (q : Bool), a < M → b < M → decide (a = b) = q → Hid (∀ w : World, (Op.equalIn 10000 24 (.agg (wa a)) (.agg (wa b))).run Try.prog w = .ok q w) := fun q ha hb hq => Lib.hid fun w => by
    rw [equal_wa, Nat.mod_eq_of_lt ha, Nat.mod_eq_of_lt hb, hq]
  have h0 : 0 < M := by decide
  have hr : ∀ q1 q2 q3 q4 q5 q6 : Bool, decide (n = x) = q1 → decide (f = n) = q2 → decide (f = 0) = q3 → decide (x = 0) = q4 → decide (n = 0) = q5 → decide (f = x) = q6 → rB q1 q2 q3 q4 q5 q6 = sB f n x := by
    intro q1 q2 q3 q4 q5 q6 g1 g2 g3 g4 g5 g6
    have i1 : n = x ↔ q1 = true := by rw [← g1]; simp
    have i2 : f = n ↔ q2 = true := by rw [← g2]; simp
    have i3 : f = 0 ↔ q3 = true := by rw [← g3]; simp
    have i4 : x = 0 ↔ q4 = true := by rw [← g4]; simp
    have i5 : n = 0 ↔ q5 = true := by rw [← g5]; simp
    have i6 : f = x ↔ q6 = true := by rw [← g6]; simp
    clear g1 g2 g3 g4 g5 g6
    have k1 : q2 = true → (q1 = true ↔ q6 = true) := fun h => by have := i2.2 h; rw [← i1, ← i6, this]
    have k2 : q2 = true → (q5 = true ↔ q3 = true) := fun h => by have := i2.2 h; rw [← i5, ← i3, this]
    unfold sB clr rst rB
    simp only [i1, i3, i4, i5, i6, ne_eq]
    cases q1 <;> cases q2 <;> cases q3 <;> cases q4 <;> cases q5 <;> cases q6 <;> first | rfl | (exfalso; simp at k1 k2)
  have hc : ∀ q1 q2 q3 : Bool, decide (n = x) = q1 → decide (f = n) = q2 → decide (f = 0) = q3 → (if (q1 || !q2) = true then (100 : Int) else if q3 = true then 20000 else 2900) = ((sC f n x : Nat) : Int) := by
    intro q1 q2 q3 g1 g2 g3
    rw [← sC_bool, g1, g2, g3]
  obtain ⟨q1, g1⟩ : ∃ q, decide (n = x) = q := ⟨_, rfl⟩
  obtain ⟨q2, g2⟩ : ∃ q, decide (f = n) = q := ⟨_, rfl⟩
  obtain ⟨q3, g3⟩ : ∃ q, decide (f = 0) = q := ⟨_, rfl⟩
  obtain ⟨q4, g4⟩ : ∃ q, decide (x = 0) = q := ⟨_, rfl⟩
  obtain ⟨q5, g5⟩ : ∃ q, decide (n = 0) = q := ⟨_, rfl⟩
  obtain ⟨q6, g6⟩ : ∃ q, decide (f = x) = q := ⟨_, rfl⟩
  have E1 := E q1 hn hx g1
  have E2 := E q2 hf hn g2
  have E3 := E q3 hf h0 g3
  have E4 := E q4 hx h0 g4
  have E5 := E q5 hn h0 g5
  have E6 := E q6 hf hx g6
  have e : (((if cold then 2100 else 0) + sC f n x : Nat) : Int) = (if cold then 2100 else 0) + (if (q1 || !q2) = true then (100 : Int) else if q3 = true then 20000 else 2900) := by
    rw [hc q1 q2 q3 g1 g2 g3]
    cases cold <;> simp
  rw [e, ← hr q1 q2 q3 q4 q5 q6 g1 g2 g3 g4 g5 g6]
  clear e hr hc g1 g2 g3 g4 g5 g6
  cases cold <;> cases q1 <;> cases q2 <;> cases q3
  · exact rst4f f n x q4 q5 q6 w E1 E2 E3 E4 E5 E6
  · exact rst3f f n x q4 q5 q6 w E1 E2 E3 E4 E5 E6
  · exact rst2f f n x _ q4 q5 q6 w E1 E2 E3 E4 E5 E6
  · exact rst2f f n x _ q4 q5 q6 w E1 E2 E3 E4 E5 E6
  · exact rst1f f n x _ _ q4 q5 q6 w E1 E2 E3 E4 E5 E6
  · exact rst1f f n x _ _ q4 q5 q6 w E1 E2 E3 E4 E5 E6
  · exact rst1f f n x _ _ q4 q5 q6 w E1 E2 E3 E4 E5 E6
  · exact rst1f f n x _ _ q4 q5 q6 w E1 E2 E3 E4 E5 E6
  · exact rst4t f n x q4 q5 q6 w E1 E2 E3 E4 E5 E6
  · exact rst3t f n x q4 q5 q6 w E1 E2 E3 E4 E5 E6
  · exact rst2t f n x _ q4 q5 q6 w E1 E2 E3 E4 E5 E6
  · exact rst2t f n x _ q4 q5 q6 w E1 E2 E3 E4 E5 E6
  · exact rst1t f n x _ _ q4 q5 q6 w E1 E2 E3 E4 E5 E6
  · exact rst1t f n x _ _ q4 q5 q6 w E1 E2 E3 E4 E5 E6
  · exact rst1t f n x _ _ q4 q5 q6 w E1 E2 E3 E4 E5 E6
  · exact rst1t f n x _ _ q4 q5 q6 w E1 E2 E3 E4 E5 E6
end Go.Proofs.Ytdkjgpehlgejnaa
/- The statement on stores: its walk. -/
namespace Go.Proofs.Ytdkjgpehlgejnaa
open Go.RowKit SmWord
set_option maxRecDepth 100000

set_option maxHeartbeats 1000000 in
theorem stores_walk (f n x : Nat) (cold : Bool) (w : World) (hf : f < M) (hn : n < M) (hx : x < M) :
    Calls Try.prog 5 #[wd f, wd n, wd x, .bool cold] w fun e w' => e = .returned (.bool true) ∧ Below w.heap.size w w' := by
  have hs := wa_size
  obtain ⟨f0, f1, f2, bW⟩ := boxes3 w f n x
  have fo := fold_wa
  obtain ⟨W, hW⟩ : ∃ W, bx3 w f n x = W := ⟨_, rfl⟩
  rw [hW] at f0 f1 f2
  have HB := Lib.hid (hW ▸ bW)
  clear bW
  unfold bx3 at hW
  have KS := Lib.hid fun w => sstore_wd f n x cold w hf hn hx
  have KR := Lib.hid fun w => rsstore_wd f n x cold w hf hn hx
  have KF := Lib.hid gfixed_walk
  generalize ((if cold then 2100 else 0) + sC f n x) = c at *
  generalize sB f n x = r at *
  go_enter Try.func5, Try.ntmps5
  go_upto_region 1 with fail
  clear hW
  obtain ⟨p0, p1, p2, p3⟩ := wcells f0
  obtain ⟨r0, r1, r2, r3⟩ := wcells f1
  obtain ⟨s0, s1, s2, s3⟩ := wcells f2
  go_upto_region 2 with (go_at_call 22; refine (KS.out _).mono ?_; rintro e w1 ⟨rfl, b1⟩; have HB1 := Lib.hid (HB.out.trans (b1.mono HB.out.size)); replace f0 := Below.stays b1 f0; replace f1 := Below.stays b1 f1; replace f2 := Below.stays b1 f2; clear b1)
  clear p0 p1 p2 p3 r0 r1 r2 r3 s0 s1 s2 s3
  obtain ⟨p0, p1, p2, p3⟩ := wcells f0
  obtain ⟨r0, r1, r2, r3⟩ := wcells f1
  obtain ⟨s0, s1, s2, s3⟩ := wcells f2
  go_upto_region 3 with (go_at_call 23; refine (KR.out _).mono ?_; rintro e w2 ⟨rfl, b2⟩; have HB2 := Lib.hid (HB1.out.trans (b2.mono HB1.out.size)); clear b2)
  go_wp2_with (go_at_call 10; refine (KF.out _).mono ?_; rintro e w3 ⟨rfl, b3⟩; have HB3 := Lib.hid (HB2.out.trans (b3.mono HB2.out.size)); clear b3)
  go_ret
  exact ⟨rfl, HB3.out⟩
end Go.Proofs.Ytdkjgpehlgejnaa
