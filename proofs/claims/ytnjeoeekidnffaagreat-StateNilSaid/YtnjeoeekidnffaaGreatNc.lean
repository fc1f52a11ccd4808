/- Stage 14: how a place in a state is changed: change[T]. Printed by gsyg.py. -/
import Derived.Test.YtnjeoeekidnffaaGreatNb
import Derived.LaidEqlPtr
import Derived.Lib.SlicesS
import Derived.RangeFuncWrites
import Derived.RangeFuncLeaves
import Derived.WalkKit
import Derived.OwnWalkIn
import Derived.TacticsInMore
import Derived.LoopNIn
import Derived.LoopIn
namespace Go.Proofs.YtnjeoeekidnffaaGreat
open Go.RowKit SmWord Go.Maps
set_option maxRecDepth 100000

set_option maxHeartbeats 4000000 in
theorem chg_bool (sb b o : Nat) (x v : Bool) (row : List Value) (T : TypeId) (w : World) (R' : World → Prop) (hb : w.heap[b]? = some (.cells row.toArray T)) (hx : row[o]? = some (.bool x)) (K0 : Hid (x = v → ∀ w', Below w.heap.size w w' → R' w'))
    (K1 : Hid (x ≠ v → ∀ wA c0 c1, Below w.heap.size w wA → w.heap.size ≤ c0 → w.heap.size ≤ c1 → c0 ≠ c1 → wA.heap[c0]? = some (.cells #[.bool x] 4) → wA.heap[c1]? = some (.cells #[.pointer (some ⟨b, o, none⟩)] 122) →
      Calls Tryz.prog 65 #[.pointer (some ⟨sb, 0, none⟩), .func (.func 97) #[] #[.pointer (some ⟨c0, 0, none⟩), .pointer (some ⟨c1, 0, none⟩)]] (wA.setRow b (putAt row o [.bool v]).toArray) fun e w' => e = .returned (.tuple #[]) ∧ R' w')) :
    Calls Tryz.prog 64 #[.pointer (some ⟨sb, 0, none⟩), .pointer (some ⟨b, o, none⟩), .bool v] w fun e w' => e = .returned (.tuple #[]) ∧ R' w' := by
  have hblt : b < w.heap.size := (Array.getElem?_eq_some_iff.1 hb).1
  have ho : o < row.length := (List.getElem?_eq_some_iff.1 hx).1
  have hc : w.cell? ⟨b, o, none⟩ = some (.bool x) := blk_cell hb (by simpa using hx)
  go_enter Tryz.func64, Tryz.ntmps64
  go_upto_region 2 with fail
  obtain ⟨wA, hA⟩ : ∃ wA, (w.alloc (.cells #[.pointer (some ⟨b, o, none⟩)] 122)).alloc (.cells #[.bool x] 4) = wA := ⟨_, rfl⟩
  have bA : Below w.heap.size w wA := hA ▸ ((Below.refl _ _).alloc (Nat.le_refl _) _).alloc (by simp) _
  have f1 : wA.heap[w.heap.size]? = some (.cells #[.pointer (some ⟨b, o, none⟩)] 122) := hA ▸ blk_alloc (heap_alloc_new _ _)
  have f0 : wA.heap[w.heap.size + 1]? = some (.cells #[.bool x] 4) := hA ▸ heap_alloc2_new _ _ _
  have q0 : wA.cell? ⟨w.heap.size + 1, 0, none⟩ = some (.bool x) := blk_cell f0 rfl
  have q1 : wA.cell? ⟨w.heap.size, 0, none⟩ = some (.pointer (some ⟨b, o, none⟩)) := blk_cell f1 rfl
  have hbA := stay bA hb
  have q2 : wA.cell? ⟨b, o, none⟩ = some (.bool x) := blk_cell hbA (by simpa using hx)
  have hf : wA.frozen? ⟨b, o, none⟩ = false := by simp [World.frozen?, hbA]
  have hsc := setCell_put hbA ho
  have BA := Lib.hid bA
  have F0 := Lib.hid f0
  have F1 := Lib.hid f1
  clear hb hx hc bA f0 f1 hbA
  rw [hA]
  clear hA
  by_cases hxv : x = v
  · have k0 := Lib.hid (K0.out hxv)
    subst hxv
    clear K0 K1
    go_wp2_with fail
    exact bodyPost_ret (results_none rfl _ _ _) rfl ⟨rfl, k0.out _ BA.out⟩
  · have k1 := Lib.hid (K1.out hxv)
    clear K0 K1
    have hd : (x == v) = false := by simp [hxv]
    go_wp2_with (go_at_call 65; refine (k1.out wA (w.heap.size + 1) w.heap.size BA.out (by omega) (by omega) (by omega) F0.out F1.out).mono ?_; rintro e w5 ⟨rfl, hR⟩)
    exact bodyPost_end (results_none rfl _ _ _) rfl ⟨rfl, hR⟩
set_option maxHeartbeats 4000000 in
theorem chg_u64 (sb b o : Nat) (x v : Nat) (row : List Value) (T : TypeId) (w : World) (R' : World → Prop) (hb : w.heap[b]? = some (.cells row.toArray T)) (hx : row[o]? = some (.int .u64 (x : Int))) (K0 : Hid (x = v → ∀ w', Below w.heap.size w w' → R' w'))
    (K1 : Hid (x ≠ v → ∀ wA c0 c1, Below w.heap.size w wA → w.heap.size ≤ c0 → w.heap.size ≤ c1 → c0 ≠ c1 → wA.heap[c0]? = some (.cells #[.int .u64 (x : Int)] 42) → wA.heap[c1]? = some (.cells #[.pointer (some ⟨b, o, none⟩)] 139) →
      Calls Tryz.prog 65 #[.pointer (some ⟨sb, 0, none⟩), .func (.func 107) #[] #[.pointer (some ⟨c0, 0, none⟩), .pointer (some ⟨c1, 0, none⟩)]] (wA.setRow b (putAt row o [.int .u64 (v : Int)]).toArray) fun e w' => e = .returned (.tuple #[]) ∧ R' w')) :
    Calls Tryz.prog 80 #[.pointer (some ⟨sb, 0, none⟩), .pointer (some ⟨b, o, none⟩), .int .u64 (v : Int)] w fun e w' => e = .returned (.tuple #[]) ∧ R' w' := by
  have hblt : b < w.heap.size := (Array.getElem?_eq_some_iff.1 hb).1
  have ho : o < row.length := (List.getElem?_eq_some_iff.1 hx).1
  have hc : w.cell? ⟨b, o, none⟩ = some (.int .u64 (x : Int)) := blk_cell hb (by simpa using hx)
  go_enter Tryz.func80, Tryz.ntmps80
  go_upto_region 2 with fail
  obtain ⟨wA, hA⟩ : ∃ wA, (w.alloc (.cells #[.pointer (some ⟨b, o, none⟩)] 139)).alloc (.cells #[.int .u64 (x : Int)] 42) = wA := ⟨_, rfl⟩
  have bA : Below w.heap.size w wA := hA ▸ ((Below.refl _ _).alloc (Nat.le_refl _) _).alloc (by simp) _
  have f1 : wA.heap[w.heap.size]? = some (.cells #[.pointer (some ⟨b, o, none⟩)] 139) := hA ▸ blk_alloc (heap_alloc_new _ _)
  have f0 : wA.heap[w.heap.size + 1]? = some (.cells #[.int .u64 (x : Int)] 42) := hA ▸ heap_alloc2_new _ _ _
  have q0 : wA.cell? ⟨w.heap.size + 1, 0, none⟩ = some (.int .u64 (x : Int)) := blk_cell f0 rfl
  have q1 : wA.cell? ⟨w.heap.size, 0, none⟩ = some (.pointer (some ⟨b, o, none⟩)) := blk_cell f1 rfl
  have hbA := stay bA hb
  have q2 : wA.cell? ⟨b, o, none⟩ = some (.int .u64 (x : Int)) := blk_cell hbA (by simpa using hx)
  have hf : wA.frozen? ⟨b, o, none⟩ = false := by simp [World.frozen?, hbA]
  have hsc := setCell_put hbA ho
  have BA := Lib.hid bA
  have F0 := Lib.hid f0
  have F1 := Lib.hid f1
  clear hb hx hc bA f0 f1 hbA
  rw [hA]
  clear hA
  by_cases hxv : x = v
  · have k0 := Lib.hid (K0.out hxv)
    subst hxv
    clear K0 K1
    go_wp2_with fail
    exact bodyPost_ret (results_none rfl _ _ _) rfl ⟨rfl, k0.out _ BA.out⟩
  · have k1 := Lib.hid (K1.out hxv)
    clear K0 K1
    have hd : (x == v) = false := by simp [hxv]
    go_wp2_with (go_at_call 65; refine (k1.out wA (w.heap.size + 1) w.heap.size BA.out (by omega) (by omega) (by omega) F0.out F1.out).mono ?_; rintro e w5 ⟨rfl, hR⟩)
    exact bodyPost_end (results_none rfl _ _ _) rfl ⟨rfl, hR⟩
set_option maxHeartbeats 4000000 in
theorem chg_i64 (sb b o : Nat) (x v : Int) (row : List Value) (T : TypeId) (w : World) (R' : World → Prop) (hb : w.heap[b]? = some (.cells row.toArray T)) (hx : row[o]? = some (.int .i64 x)) (K0 : Hid (x = v → ∀ w', Below w.heap.size w w' → R' w'))
    (K1 : Hid (x ≠ v → ∀ wA c0 c1, Below w.heap.size w wA → w.heap.size ≤ c0 → w.heap.size ≤ c1 → c0 ≠ c1 → wA.heap[c0]? = some (.cells #[.int .i64 x] 2) → wA.heap[c1]? = some (.cells #[.pointer (some ⟨b, o, none⟩)] 154) →
      Calls Tryz.prog 65 #[.pointer (some ⟨sb, 0, none⟩), .func (.func 110) #[] #[.pointer (some ⟨c0, 0, none⟩), .pointer (some ⟨c1, 0, none⟩)]] (wA.setRow b (putAt row o [.int .i64 v]).toArray) fun e w' => e = .returned (.tuple #[]) ∧ R' w')) :
    Calls Tryz.prog 90 #[.pointer (some ⟨sb, 0, none⟩), .pointer (some ⟨b, o, none⟩), .int .i64 v] w fun e w' => e = .returned (.tuple #[]) ∧ R' w' := by
  have hblt : b < w.heap.size := (Array.getElem?_eq_some_iff.1 hb).1
  have ho : o < row.length := (List.getElem?_eq_some_iff.1 hx).1
  have hc : w.cell? ⟨b, o, none⟩ = some (.int .i64 x) := blk_cell hb (by simpa using hx)
  go_enter Tryz.func90, Tryz.ntmps90
  go_upto_region 2 with fail
  obtain ⟨wA, hA⟩ : ∃ wA, (w.alloc (.cells #[.pointer (some ⟨b, o, none⟩)] 154)).alloc (.cells #[.int .i64 x] 2) = wA := ⟨_, rfl⟩
  have bA : Below w.heap.size w wA := hA ▸ ((Below.refl _ _).alloc (Nat.le_refl _) _).alloc (by simp) _
  have f1 : wA.heap[w.heap.size]? = some (.cells #[.pointer (some ⟨b, o, none⟩)] 154) := hA ▸ blk_alloc (heap_alloc_new _ _)
  have f0 : wA.heap[w.heap.size + 1]? = some (.cells #[.int .i64 x] 2) := hA ▸ heap_alloc2_new _ _ _
  have q0 : wA.cell? ⟨w.heap.size + 1, 0, none⟩ = some (.int .i64 x) := blk_cell f0 rfl
  have q1 : wA.cell? ⟨w.heap.size, 0, none⟩ = some (.pointer (some ⟨b, o, none⟩)) := blk_cell f1 rfl
  have hbA := stay bA hb
  have q2 : wA.cell? ⟨b, o, none⟩ = some (.int .i64 x) := blk_cell hbA (by simpa using hx)
  have hf : wA.frozen? ⟨b, o, none⟩ = false := by simp [World.frozen?, hbA]
  have hsc := setCell_put hbA ho
  have BA := Lib.hid bA
  have F0 := Lib.hid f0
  have F1 := Lib.hid f1
  clear hb hx hc bA f0 f1 hbA
  rw [hA]
  clear hA
  by_cases hxv : x = v
  · have k0 := Lib.hid (K0.out hxv)
    subst hxv
    clear K0 K1
    go_wp2_with fail
    exact bodyPost_ret (results_none rfl _ _ _) rfl ⟨rfl, k0.out _ BA.out⟩
  · have k1 := Lib.hid (K1.out hxv)
    clear K0 K1
    have hd : (x == v) = false := by simp [hxv]
    go_wp2_with (go_at_call 65; refine (k1.out wA (w.heap.size + 1) w.heap.size BA.out (by omega) (by omega) (by omega) F0.out F1.out).mono ?_; rintro e w5 ⟨rfl, hR⟩)
    exact bodyPost_end (results_none rfl _ _ _) rfl ⟨rfl, hR⟩
set_option maxHeartbeats 4000000 in
theorem chg_sto (sb b o : Nat) (x v : Nat) (row : List Value) (T : TypeId) (w : World) (R' : World → Prop) (hb : w.heap[b]? = some (.cells row.toArray T)) (hx : row[o]? = some (.pointer (some ⟨x, 0, none⟩))) (hxv : x ≠ v) (hX : ∃ cx, w.heap[x]? = some (.cells cx 164)) (hV : ∃ cv, w.heap[v]? = some (.cells cv 164))
    (K1 : Hid (∀ wA c0 c1, Below w.heap.size w wA → w.heap.size ≤ c0 → w.heap.size ≤ c1 → c0 ≠ c1 → wA.heap[c0]? = some (.cells #[.pointer (some ⟨x, 0, none⟩)] 117) → wA.heap[c1]? = some (.cells #[.pointer (some ⟨b, o, none⟩)] 144) →
      Calls Tryz.prog 65 #[.pointer (some ⟨sb, 0, none⟩), .func (.func 109) #[] #[.pointer (some ⟨c0, 0, none⟩), .pointer (some ⟨c1, 0, none⟩)]] (wA.setRow b (putAt row o [.pointer (some ⟨v, 0, none⟩)]).toArray) fun e w' => e = .returned (.tuple #[]) ∧ R' w')) :
    Calls Tryz.prog 83 #[.pointer (some ⟨sb, 0, none⟩), .pointer (some ⟨b, o, none⟩), .pointer (some ⟨v, 0, none⟩)] w fun e w' => e = .returned (.tuple #[]) ∧ R' w' := by
  have hblt : b < w.heap.size := (Array.getElem?_eq_some_iff.1 hb).1
  have ho : o < row.length := (List.getElem?_eq_some_iff.1 hx).1
  have hc : w.cell? ⟨b, o, none⟩ = some (.pointer (some ⟨x, 0, none⟩)) := blk_cell hb (by simpa using hx)
  go_enter Tryz.func83, Tryz.ntmps83
  go_upto_region 2 with fail
  obtain ⟨wA, hA⟩ : ∃ wA, (w.alloc (.cells #[.pointer (some ⟨b, o, none⟩)] 144)).alloc (.cells #[.pointer (some ⟨x, 0, none⟩)] 117) = wA := ⟨_, rfl⟩
  have bA : Below w.heap.size w wA := hA ▸ ((Below.refl _ _).alloc (Nat.le_refl _) _).alloc (by simp) _
  have f1 : wA.heap[w.heap.size]? = some (.cells #[.pointer (some ⟨b, o, none⟩)] 144) := hA ▸ blk_alloc (heap_alloc_new _ _)
  have f0 : wA.heap[w.heap.size + 1]? = some (.cells #[.pointer (some ⟨x, 0, none⟩)] 117) := hA ▸ heap_alloc2_new _ _ _
  have q0 : wA.cell? ⟨w.heap.size + 1, 0, none⟩ = some (.pointer (some ⟨x, 0, none⟩)) := blk_cell f0 rfl
  have q1 : wA.cell? ⟨w.heap.size, 0, none⟩ = some (.pointer (some ⟨b, o, none⟩)) := blk_cell f1 rfl
  have hbA := stay bA hb
  have q2 : wA.cell? ⟨b, o, none⟩ = some (.pointer (some ⟨x, 0, none⟩)) := blk_cell hbA (by simpa using hx)
  have hf : wA.frozen? ⟨b, o, none⟩ = false := by simp [World.frozen?, hbA]
  have hsc := setCell_put hbA ho
  have BA := Lib.hid bA
  have F0 := Lib.hid f0
  have F1 := Lib.hid f1
  clear hb hx hc bA f0 f1 hbA
  rw [hA]
  clear hA
  obtain ⟨cx, hX⟩ := hX
  obtain ⟨cv, hV⟩ := hV
  obtain ⟨j, hj, hz⟩ : ∃ j, Tryz.prog.info? 164 = some j ∧ j.size = 2 := by
    have h2 : (Tryz.prog.info? 164).map (·.size) = some 2 := by kernel_rfl
    cases h : Tryz.prog.info? 164 with
    | none => rw [h] at h2; cases h2
    | some j => rw [h] at h2; exact ⟨j, rfl, by simpa using h2⟩
  have heq := run_eql_ptr_other (P := Tryz.prog) wA (a := ⟨x, 0, none⟩) (b := ⟨v, 0, none⟩) Tryz.underlying117 hj (by rw [hz]; decide) (fun e => hxv (congrArg Addr.block e)) (stay BA.out hX) (stay BA.out hV)
  clear hX hV
  have k1 := K1
  clear K1
  go_wp2_with (go_at_call 65; refine (k1.out wA (w.heap.size + 1) w.heap.size BA.out (by omega) (by omega) (by omega) F0.out F1.out).mono ?_; rintro e w5 ⟨rfl, hR⟩)
  exact bodyPost_end (results_none rfl _ _ _) rfl ⟨rfl, hR⟩
set_option maxHeartbeats 4000000 in
theorem chg_str (sb b o : Nat) (x v : ByteArray) (row : List Value) (T : TypeId) (w : World) (R' : World → Prop) (hb : w.heap[b]? = some (.cells row.toArray T)) (hx : row[o]? = some (.string x)) (K0 : Hid (x = v → ∀ w', Below w.heap.size w w' → R' w'))
    (K1 : Hid (x ≠ v → ∀ wA c0 c1, Below w.heap.size w wA → w.heap.size ≤ c0 → w.heap.size ≤ c1 → c0 ≠ c1 → wA.heap[c0]? = some (.cells #[.string x] 9) → wA.heap[c1]? = some (.cells #[.pointer (some ⟨b, o, none⟩)] 127) →
      Calls Tryz.prog 65 #[.pointer (some ⟨sb, 0, none⟩), .func (.func 98) #[] #[.pointer (some ⟨c0, 0, none⟩), .pointer (some ⟨c1, 0, none⟩)]] (wA.setRow b (putAt row o [.string v]).toArray) fun e w' => e = .returned (.tuple #[]) ∧ R' w')) :
    Calls Tryz.prog 67 #[.pointer (some ⟨sb, 0, none⟩), .pointer (some ⟨b, o, none⟩), .string v] w fun e w' => e = .returned (.tuple #[]) ∧ R' w' := by
  have hblt : b < w.heap.size := (Array.getElem?_eq_some_iff.1 hb).1
  have ho : o < row.length := (List.getElem?_eq_some_iff.1 hx).1
  have hc : w.cell? ⟨b, o, none⟩ = some (.string x) := blk_cell hb (by simpa using hx)
  go_enter Tryz.func67, Tryz.ntmps67
  go_upto_region 2 with fail
  obtain ⟨wA, hA⟩ : ∃ wA, (w.alloc (.cells #[.pointer (some ⟨b, o, none⟩)] 127)).alloc (.cells #[.string x] 9) = wA := ⟨_, rfl⟩
  have bA : Below w.heap.size w wA := hA ▸ ((Below.refl _ _).alloc (Nat.le_refl _) _).alloc (by simp) _
  have f1 : wA.heap[w.heap.size]? = some (.cells #[.pointer (some ⟨b, o, none⟩)] 127) := hA ▸ blk_alloc (heap_alloc_new _ _)
  have f0 : wA.heap[w.heap.size + 1]? = some (.cells #[.string x] 9) := hA ▸ heap_alloc2_new _ _ _
  have q0 : wA.cell? ⟨w.heap.size + 1, 0, none⟩ = some (.string x) := blk_cell f0 rfl
  have q1 : wA.cell? ⟨w.heap.size, 0, none⟩ = some (.pointer (some ⟨b, o, none⟩)) := blk_cell f1 rfl
  have hbA := stay bA hb
  have q2 : wA.cell? ⟨b, o, none⟩ = some (.string x) := blk_cell hbA (by simpa using hx)
  have hf : wA.frozen? ⟨b, o, none⟩ = false := by simp [World.frozen?, hbA]
  have hsc := setCell_put hbA ho
  have BA := Lib.hid bA
  have F0 := Lib.hid f0
  have F1 := Lib.hid f1
  clear hb hx hc bA f0 f1 hbA
  rw [hA]
  clear hA
  by_cases hxv : x = v
  · have k0 := Lib.hid (K0.out hxv)
    subst hxv
    clear K0 K1
    go_wp2_with fail
    exact bodyPost_ret (results_none rfl _ _ _) rfl ⟨rfl, k0.out _ BA.out⟩
  · have k1 := Lib.hid (K1.out hxv)
    clear K0 K1
    have hd : (x.toList == v.toList) = false := Bool.eq_false_iff.2 fun h => hxv ((Lib.bytes_beq_iff x v).1 h)
    go_wp2_with (go_at_call 65; refine (k1.out wA (w.heap.size + 1) w.heap.size BA.out (by omega) (by omega) (by omega) F0.out F1.out).mono ?_; rintro e w5 ⟨rfl, hR⟩)
    exact bodyPost_end (results_none rfl _ _ _) rfl ⟨rfl, hR⟩
theorem zeroWa_run (w : World) : (zeroValue 44).run Tryz.prog w = .ok (.agg (wa 0)) w := Tryz.zeroValue44 w
theorem store_newW (w : World) (m : Nat) : (storeCells ⟨w.heap.size, 0, none⟩ (wa m).toList 0).run Tryz.prog (w.alloc (.cells (wa 0) 44)) = .ok () (w.alloc (.cells (wa m) 44)) :=
  run_storeCells_new (P := Tryz.prog) w 44 _ (wa m) Tryz.infoW rfl (by simp [wa, Value.oneCell'])
set_option maxHeartbeats 4000000 in
theorem chg_word (sb b o x v : Nat) (hx' : x < M) (hv' : v < M) (row : List Value) (T : TypeId) (w : World) (R' : World → Prop) (hb : w.heap[b]? = some (.cells row.toArray T)) (ho : o + 4 ≤ row.length) (hx : ∀ j u, (wa x).toList[j]? = some u → row[o + j]? = some u) (K0 : Hid (x = v → ∀ w', Below w.heap.size w w' → R' w'))
    (K1 : Hid (x ≠ v → ∀ wA c0 c1, Below w.heap.size w wA → w.heap.size ≤ c0 → w.heap.size ≤ c1 → c0 ≠ c1 → wA.heap[c0]? = some (.cells (wa x) 44) → wA.heap[c1]? = some (.cells #[.pointer (some ⟨b, o, none⟩)] 142) →
      Calls Tryz.prog 65 #[.pointer (some ⟨sb, 0, none⟩), .func (.func 108) #[] #[.pointer (some ⟨c0, 0, none⟩), .pointer (some ⟨c1, 0, none⟩)]] (wA.setRow b (putAt row o (wa v).toList).toArray) fun e w' => e = .returned (.tuple #[]) ∧ R' w')) :
    Calls Tryz.prog 82 #[.pointer (some ⟨sb, 0, none⟩), .pointer (some ⟨b, o, none⟩), wd v] w fun e w' => e = .returned (.tuple #[]) ∧ R' w' := by
  have hw := wa_size
  have e0 := z4w
  have hblt : b < w.heap.size := (Array.getElem?_eq_some_iff.1 hb).1
  obtain ⟨W, hW⟩ : ∃ W, (w.alloc (.cells #[.pointer (some ⟨b, o, none⟩)] 142)).alloc (.cells (wa v) 44) = W := ⟨_, rfl⟩
  have bW : Below w.heap.size w W := hW ▸ ((Below.refl _ _).alloc (Nat.le_refl _) _).alloc (by simp) _
  have sW : W.heap.size = w.heap.size + 2 := hW ▸ by simp
  have g1 : W.heap[w.heap.size]? = some (.cells #[.pointer (some ⟨b, o, none⟩)] 142) := hW ▸ blk_alloc (heap_alloc_new _ _)
  have g2 : W.heap[w.heap.size + 1]? = some (.cells (wa v) 44) := hW ▸ heap_alloc2_new _ _ _
  have p1 : W.cell? ⟨w.heap.size, 0, none⟩ = some (.pointer (some ⟨b, o, none⟩)) := blk_cell g1 rfl
  have rb : W.rangeAt b o (wa x).toList := fun j u hj => blk_cell (stay bW hb) (by simpa using hx j u hj)
  unfold wd
  go_enter Tryz.func82, Tryz.ntmps82
  go_upto_region 1 with fail
  clear hW
  have sn := store_newW W x
  rw [sW] at sn
  obtain ⟨wA, hA⟩ : ∃ wA, W.alloc (.cells (wa x) 44) = wA := ⟨_, rfl⟩
  have bA : Below W.heap.size W wA := hA ▸ (Below.refl _ _).alloc (Nat.le_refl _) _
  have f0 : wA.heap[w.heap.size + 2]? = some (.cells (wa x) 44) := by rw [← sW]; exact hA ▸ heap_alloc_new _ _
  have f1 := stay bA g1
  have f2 := stay bA g2
  have q1 : wA.cell? ⟨w.heap.size, 0, none⟩ = some (.pointer (some ⟨b, o, none⟩)) := blk_cell f1 rfl
  have r0 := (rng_block (cs := (wa x).toList) (by simpa using f0)).at
  have r2 := (rng_block (cs := (wa v).toList) (by simpa using f2)).at
  have hbA := stay bA (stay bW hb)
  have hsc := store_put hbA v ho
  have BA := Lib.hid (bW.trans (bA.mono bW.size))
  have F0 := Lib.hid f0
  have F1 := Lib.hid f1
  have HA := Lib.hid hA
  have HS := Lib.hid sW
  clear hb hx bA f0 f1 f2 hbA g1 g2 bW hA
  go_upto_region 2 with (first
    | (refine wpList_load_mid rfl 44 _ rfl b o rfl (wa x).toList _ rb Tryz.underlying44 rfl (infoW4 _) ?_; simp only [Array.toArray_toList])
    | (refine wpList_alloc_row rfl 44 rfl _ zeroWa_run ?_))
  rw [HA.out]
  clear HA sn rb p1 HS
  by_cases hxv : x = v
  · have k0 := Lib.hid (K0.out hxv)
    subst hxv
    clear K0 K1
    have eq := run_eq_wa hx' hx' wA
    rw [beq_self_eq_true] at eq
    go_wp2_with (first
      | (refine wpList_load_mid rfl 44 _ rfl (w.heap.size + 2) 0 rfl (wa x).toList _ r0 Tryz.underlying44 rfl (infoW4 _) ?_; simp only [Array.toArray_toList])
      | (refine wpList_load_mid rfl 44 _ rfl (w.heap.size + 1) 0 rfl (wa x).toList _ r2 Tryz.underlying44 rfl (infoW4 _) ?_; simp only [Array.toArray_toList]))
    exact bodyPost_ret (results_none rfl _ _ _) rfl ⟨rfl, k0.out _ BA.out⟩
  · have k1 := Lib.hid (K1.out hxv)
    clear K0 K1
    have eq := run_eq_wa hx' hv' wA
    have hd : (x == v) = false := by simp [hxv]
    rw [hd] at eq
    go_wp2_with (first
      | (refine wpList_load_mid rfl 44 _ rfl (w.heap.size + 2) 0 rfl (wa x).toList _ r0 Tryz.underlying44 rfl (infoW4 _) ?_; simp only [Array.toArray_toList])
      | (refine wpList_load_mid rfl 44 _ rfl (w.heap.size + 1) 0 rfl (wa v).toList _ r2 Tryz.underlying44 rfl (infoW4 _) ?_; simp only [Array.toArray_toList])
      | (go_at_call 65; refine (k1.out wA (w.heap.size + 2) w.heap.size BA.out (by omega) (by omega) (by omega) F0.out F1.out).mono ?_; rintro e w5 ⟨rfl, hR⟩))
    exact bodyPost_end (results_none rfl _ _ _) rfl ⟨rfl, hR⟩
end Go.Proofs.YtnjeoeekidnffaaGreat
/- Stage 14: slices.Backward over a row of closures: its contract. -/
namespace Go.Proofs.YtnjeoeekidnffaaGreat
open Go.RowKit SmWord Go.Maps
set_option maxRecDepth 100000

attribute [local go_sem] Oper.semAt_some

/-- The row of closures that is gone through: in a box. -/
structure BwAt (cb k cap : Nat) (A : Option Addr) (clo : Nat → Value) (W : World) : Prop where
  box : W.cell? ⟨cb, 0, none⟩ = some (.slice A k cap)
  row : 0 < k → ∃ b off, A = some ⟨b, off, none⟩ ∧ ∀ i, i < k → W.cell? ⟨b, off + i, none⟩ = some (clo i)
/-- The last first. -/
def down (k : Nat) : List Nat := (List.range k).reverse
theorem down_len (k : Nat) : (down k).length = k := by simp [down]
theorem down_get (k i : Nat) (h : i < k) : (down k)[i]? = some (k - 1 - i) := by
  simp [down, h]
theorem down_step (k j : Nat) (hj : j < k) : (down k).take (k - j) = (down k).take (k - (j + 1)) ++ [j] := by
  rw [show k - j = k - (j + 1) + 1 by omega, List.take_add_one, down_get k _ (by omega)]
  simp
  omega
set_option maxHeartbeats 1000000 in
theorem bw_in (n l cb k cap : Nat) (hn : 1 ≤ n) (A : Option Addr) (clo : Nat → Value) (Kp : World → World → Prop) (J Jx : List Nat → World → Prop) (hKp : ∀ {A1 B1 : World}, Kp A1 B1 → BwAt cb k cap A clo A1 → BwAt cb k cap A clo B1) (hk : k ≤ 1048576)
    (hY : ∀ pre i W, J pre W → pre.length < k → YieldAt Fence.wide (n - 1) Tryz.prog l #[.int .i64 ((i : Nat) : Int), clo i] W fun e W' =>
      (e = .returned (.bool true) ∧ J (pre ++ [i]) W' ∧ Kp W W') ∨ (e = .returned (.bool false) ∧ Jx (pre ++ [i]) W'))
    (W : World) (hW : BwAt cb k cap A clo W) (h0 : J [] W) :
    CallsIn Fence.wide n Tryz.prog 94 #[.func (.yield l) #[] #[], .pointer (some ⟨cb, 0, none⟩)] W fun e W' => (∃ v, e = .returned v) ∧
      ((∃ ys, ys = down k ∧ J ys W') ∨ (∃ pre, pre <+: down k ∧ Jx pre W')) := by
  have hb := hW.box
  refine callsIn_of_wp Tryz.func94 rfl trivial ?_ rfl
  simp only [Tryz.ntmps94, List.size_toArray, List.length_cons, List.length_nil, Nat.reduceAdd, Nat.reduceSub, Array.replicate_succ, Array.replicate_zero, List.push_toArray, List.append_toArray, List.nil_append, List.cons_append]
  gi_wp2
  gi_loopw [3] (fun v wr => ∃ j : Nat, v = .int .i64 ((j : Int) - 1) ∧ j ≤ k ∧ Hid (BwAt cb k cap A clo wr) ∧ Hid (J ((down k).take (k - j)) wr)) (fun v _ => (intOf v + 1).toNat)
  case atStart =>
    refine ⟨k, by go_num, Nat.le_refl _, Lib.hid hW, Lib.hid ?_⟩
    rw [Nat.sub_self]
    exact h0
  case round =>
    obtain ⟨j, rfl, hj, HB, HJ⟩ := hrel
    cases j with
    | zero =>
      gi_wp2
      go_end0
      exact ⟨⟨_, rfl⟩, .inl ⟨down k, rfl, by have := HJ.out; rwa [Nat.sub_zero, List.take_of_length_le (by rw [down_len]; exact Nat.le_refl _)] at this⟩⟩
    | succ j =>
      obtain ⟨b, off, rfl, hc⟩ := HB.out.row (by omega)
      have hc1 := hc j (by omega)
      have hbx := HB.out.box
      have hL := Lib.hid (hY _ j wr HJ.out (by rw [List.length_take, down_len]; omega))
      have e1 : ((j + 1 : Nat) : Int) - 1 = (j : Int) := by omega
      rw [e1]
      obtain ⟨fn, tmps, assign, body, hy, hR⟩ := hL.out
      have HR := Lib.hid hR
      have HBO := Lib.hid (show BwAt cb k cap (some ⟨b, off, none⟩) clo wr from HB.out)
      clear hR hL hY hW h0 hb
      gi_wp2
      refine HR.out.mono ?_
      rintro e W3 (⟨rfl, hJ3, hk3⟩ | ⟨rfl, hJx3⟩)
      · have hB3 := hKp hk3 HBO.out
        have HJ3 := Lib.hid hJ3
        have HB3 := Lib.hid hB3
        clear hJ3 hB3 hk3
        gi_wp2
        go_roundw
        case rel => exact ⟨j, by go_num, by omega, HB3, Lib.hid (by rw [down_step k j (by omega)]; exact HJ3.out)⟩
        case measure => simp [intOf]
      · have HJ3 := Lib.hid hJx3
        clear hJx3
        gi_wp2
        refine bodyPost_ret (results_none rfl _ _ _) rfl ?_
        exact ⟨⟨_, rfl⟩, .inr ⟨_, ⟨(down k).drop (k - j), by rw [← down_step k j (by omega), List.take_append_drop]⟩, HJ3.out⟩⟩
set_option maxHeartbeats 1000000 in
theorem backward_in (n : Nat) (A : Option Addr) (k cap : Nat) (w : World) :
    CallsIn Fence.wide n Tryz.prog 62 #[.slice A k cap] w fun e w' => e = .returned (.func (.func 94) #[] #[.pointer (some ⟨w.heap.size, 0, none⟩)]) ∧ w' = w.alloc (.cells #[.slice A k cap] 86) := by
  refine callsIn_of_wp Tryz.func62 rfl trivial ?_ rfl
  simp only [Tryz.ntmps62, List.size_toArray, List.length_cons, List.length_nil, Nat.reduceAdd, Nat.reduceSub, Array.replicate_succ, Array.replicate_zero, List.push_toArray, List.append_toArray, List.nil_append, List.cons_append]
  gi_wp2
  go_ret
  exact ⟨rfl, rfl⟩
/-- What a round must leave: the box, and the row. -/
def KeepB (cb ub : Nat) (W W' : World) : Prop := W'.heap[cb]? = W.heap[cb]? ∧ W'.heap[ub]? = W.heap[ub]?
theorem KeepB.bw {cb ub k cap off : Nat} {clo : Nat → Value} {W W' : World} (h : KeepB cb ub W W') (hb : BwAt cb k cap (some ⟨ub, off, none⟩) clo W) : BwAt cb k cap (some ⟨ub, off, none⟩) clo W' := by
  refine ⟨(World.cell?_of_block (w := W) (a := ⟨cb, 0, none⟩) h.1).trans hb.box, fun hk => ?_⟩
  obtain ⟨b, off', e, hi⟩ := hb.row hk
  cases e
  exact ⟨_, _, rfl, fun i hi' => (World.cell?_of_block (w := W) (a := ⟨ub, off + i, none⟩) h.2).trans (hi i hi')⟩
theorem backward_stops (n cb ub off k cap : Nat) (hn : 1 ≤ n) (clo : Nat → Value) (hk : k ≤ 1048576) (w : World) (hcb : cb < w.heap.size) (hub : ub < w.heap.size) (hb : BwAt cb k cap (some ⟨ub, off, none⟩) clo w) :
    SeqStopsK Fence.wide n Tryz.prog 94 #[.pointer (some ⟨cb, 0, none⟩)] (fun i : Nat => #[Value.int .i64 ((i : Nat) : Int), clo i]) (KeepB cb ub) (fun ys => ys = down k) (fun pre => pre <+: down k) k w := fun l J Jx W hW _ _ hY h0 =>
  bw_in n l cb k cap hn (some ⟨ub, off, none⟩) clo (KeepB cb ub) J Jx (fun h hb => h.bw hb) hk hY W (KeepB.bw ⟨hW.block cb hcb, hW.block ub hub⟩ hb) h0
theorem keepB_t {cb ub : Nat} {A B C : World} (h : KeepB cb ub A B) (k : KeepB cb ub B C) : KeepB cb ub A C := ⟨k.1.trans h.1, k.2.trans h.2⟩
theorem keepB_b {cb ub : Nat} {w : World} (hcb : cb < w.heap.size) (hub : ub < w.heap.size) (W : World) (l : Nat) (o o' : Obj) (hl : w.heap.size ≤ l) (_ : W.heap[l]? = some o) (_ : o.isCells = false) (_ : o.isWalk = false) : KeepB cb ub W (W.putObj l o') := by
  have hp := grownBy_putObj' W l o'
  refine ⟨?_, ?_⟩
  · by_cases h : cb < W.heap.size
    · exact hp.block cb h (fun e => by cases e; omega)
    · have : W.heap.size = (W.putObj l o').heap.size := by simp [World.putObj]
      simp [Array.getElem?_eq_none (by omega : W.heap.size ≤ cb), Array.getElem?_eq_none (by omega : (W.putObj l o').heap.size ≤ cb)]
  · by_cases h : ub < W.heap.size
    · exact hp.block ub h (fun e => by cases e; omega)
    · have : W.heap.size = (W.putObj l o').heap.size := by simp [World.putObj]
      simp [Array.getElem?_eq_none (by omega : W.heap.size ≤ ub), Array.getElem?_eq_none (by omega : (W.putObj l o').heap.size ≤ ub)]
end Go.Proofs.YtnjeoeekidnffaaGreat
/- Stage 14: a range over a row, one round after the other: the j-th round is handed the j-th element (the wide fence). -/
namespace Go.Proofs.YtnjeoeekidnffaaGreat
open Go.RowKit SmWord Go.Maps
set_option maxRecDepth 100000

section
variable {P : Program} {n : Nat}
/-- A function that hands its m elements to yield, one after the other, as long as each round says 'on'. -/
def RowRuns (n : Nat) (P : Program) (gf : Nat) (lb : Array Value) (m : Nat) (encs : Nat → Array Value) (cb ub : Nat) (w : World) : Prop :=
  ∀ (l : Nat) (J : Nat → World → Prop) (W : World), Below w.heap.size w W →
    (∀ j W1, j < m → J j W1 → YieldAt Fence.wide (n - 1) P l (encs j) W1 fun e W' => e = .returned (.bool true) ∧ J (j + 1) W' ∧ KeepB cb ub W1 W') →
    J 0 W → CallsIn Fence.wide n P gf (#[.func (.yield l) #[] #[]] ++ lb) W fun e W' => (∃ v, e = .returned v) ∧ J m W'
/-- Below B all is as it was; what is no cells, from B on, too. -/
structure Calm (B : Nat) (I : Nat → World → Prop) : Prop where
  put : ∀ j W l o, I j W → B ≤ l → I j (W.putObj l o)
  alloc : ∀ j W o, I j W → I j (W.alloc o)
set_option maxHeartbeats 1000000 in
theorem range_row {g : Operand} {ps : Array Tmp} {assign body : Code} {Q : Exit → Act → World → Prop} {a : Act} {w : World} {gf : Nat} {lb : Array Value} {m cb ub : Nat} {encs : Nat → Array Value}
    (hg : a.eval g = .func (.func gf) #[] lb) (eg : ∀ args w, (callFunc gf args).run P w = .ok (.enter gf args) w) (hseq : RowRuns (n - 1) P gf lb m encs cb ub w) (hn : 1 ≤ n) (hps : ∀ j, (encs j).size = ps.size) (hcb : cb < w.heap.size) (hub : ub < w.heap.size)
    (I : Nat → World → Prop) (hI : Calm w.heap.size I) (h0 : I 0 w) (a₁ : Nat → Act)
    (hassign : ∀ (l j : Nat) (W : World) (K : Act → World → Prop), K (a₁ j) W → assign.wpIn (Fence.wide.inRound l) (n - 1 - 1) P (Exit.then K (fun _ _ _ => False)) { tmps := (ps.zip (encs j)).foldl (fun t (p, v) => t.setIfInBounds p v) a.tmps, defers := [] } W)
    (hbody : ∀ (l j : Nat) (W : World), j < m → w.heap.size ≤ W.heap.size → I j W → body.wpIn (Fence.wide.inRound l) (n - 1 - 1) P (fun e _ W' => e = .normal ∧ KeepsFrom w.heap.size W W' ∧ KeepB cb ub W W' ∧ I (j + 1) W') (a₁ j) W)
    (hdone : ∀ (D : Nat) (W : World), w.heap.size ≤ D → w.heap.size ≤ W.heap.size → I m W → W.heap[D]? = some (.deferred (some [])) → Q .normal { a with defers := { target := .collected D, args := #[] } :: a.defers } W) :
    (Code.rangeFunc g ps assign body).wpIn Fence.wide n P Q a w := by
  refine wpIn_rangeFunc fun fn hfn => ?_
  obtain ⟨R, hR⟩ : ∃ R : LoopState → Option Code → Loop, R = fun s p => { state := s, pending := p, fn, tmps := a.tmps, params := ps, assign, body, defers := w.heap.size } := ⟨_, rfl⟩
  obtain ⟨D, hD⟩ : ∃ D, w.heap.size = D := ⟨_, rfl⟩
  obtain ⟨W1, hW⟩ : ∃ W1, (w.alloc (.deferred (some []))).alloc (.loop (R .ready none)) = W1 := ⟨_, rfl⟩
  have hl1 : W1.heap[D + 1]? = some (.loop (R .ready none)) := by
    have := World.alloc_heap_new (w.alloc (.deferred (some []))) (.loop (R .ready none))
    rw [← hW, ← hD]
    rwa [World.size_alloc] at this
  have hd1 : W1.heap[D]? = some (.deferred (some [])) := by
    rw [← hW, ← hD]
    exact (Below.heap_alloc _ _ _ (by simp)).trans (World.alloc_heap_new w _)
  have hb1 : Below w.heap.size w W1 := hW ▸ ((Below.refl _ w).alloc (Nat.le_refl _) _).alloc (by simp) _
  have hI1 : I 0 W1 := hW ▸ hI.alloc _ _ _ (hI.alloc _ _ _ h0)
  have hent : (Instr.enterLoop fn a.tmps ps assign body Fence.wide.round).run P w = .ok (D + 1, [{ target := .collected D, args := #[] }]) W1 := by
    rw [← hW, hR, ← hD]
    exact run_enterLoop_outer _ _ _ _ _
  refine ⟨D + 1, _, W1, { target := .fn (.func gf) lb, args := #[.func (.yield (D + 1)) #[] #[]] }, W1, gf, #[.func (.yield (D + 1)) #[] #[]] ++ lb, W1, hent, ?_, fun _ _ => trivial, ?_, fun _ => hn, ?_⟩
  · simp only [resolve, hg]
    simp [go_sem]
  · simp [invoke, go_sem, eg]
  have hrun := hseq (D + 1) (fun j W => w.heap.size ≤ W.heap.size ∧ I j W ∧ W.heap[D + 1]? = some (.loop (R .ready none)) ∧ W.heap[D]? = some (.deferred (some []))) W1 hb1 ?round ⟨hb1.size, hI1, hl1, hd1⟩
  case round =>
    rintro j W hj ⟨hs, hi, hl, hd⟩
    have hlt : D + 1 < W.heap.size := (Array.getElem?_eq_some_iff.1 hl).1
    have hy := run_yield (P := P) (args := encs j) hl (by rw [hR]; exact hps j)
    have hbeg := run_beginRound (P := P) hl (by rw [hR])
    have hbusy := World.putObj_heap_same (o := .loop { R .ready none with state := .busy }) hlt
    have hd2 : (W.putObj (D + 1) (.loop { R .ready none with state := .busy })).heap[D]? = some (.deferred (some [])) := (World.putObj_heap_other (by omega)).trans hd
    have hput : ∀ (X : World) (o : Obj), KeepB cb ub X (X.putObj (D + 1) o) := fun X o => ⟨World.putObj_heap_other (by omega), World.putObj_heap_other (by omega)⟩
    rw [hR] at hy
    refine ⟨fn, _, assign, body, hy, roundIn_of_wpIn hfn (hassign _ j W _ ⟨_, hbeg, ?_⟩)⟩
    refine wpIn_mono (hbody _ j _ hj (by simp [World.putObj]; exact hs) (hI.put _ _ _ _ hi (by omega))) ?_
    rintro e a3 W3 ⟨rfl, hk, hkb, hi3⟩
    have hl3 := hk.same _ _ (by omega) hbusy rfl
    have hd3 := hk.same _ _ (by omega) hd2 rfl
    have hend := run_endRound (P := P) none hl3
    refine ⟨_, _, hend, rfl, ⟨?_, hI.put _ _ _ _ hi3 (by omega), ?_, (World.putObj_heap_other (by omega)).trans hd3⟩, keepB_t (hput _ _) (keepB_t hkb (hput _ _))⟩
    · have := hk.size
      simp [World.putObj] at this ⊢
      omega
    · refine (World.putObj_heap_same (Array.getElem?_eq_some_iff.1 hl3).1).trans ?_
      rw [hR]
      rfl
  refine hrun.mono ?_
  rintro e W2 ⟨⟨v, rfl⟩, hs, hi, hl, hd⟩
  have hend := run_endLoop (P := P) hl (by rw [hR]; simp)
  rw [hR] at hend
  exact ⟨none, _, hend, hdone D _ (by omega) (by simp [World.putObj]; exact hs) (hI.put _ _ _ _ hi (by omega)) ((World.putObj_heap_other (by omega)).trans hd)⟩
end
end Go.Proofs.YtnjeoeekidnffaaGreat
/- Stage 14: slices.Backward hands its row from the end; Back. -/
namespace Go.Proofs.YtnjeoeekidnffaaGreat
open Go.RowKit SmWord Go.Maps
set_option maxRecDepth 100000

attribute [local go_sem] Oper.semAt_some

set_option maxHeartbeats 1000000 in
theorem bw_row (n l cb ub off k cap : Nat) (clo : Nat → Value) (J : Nat → World → Prop) (hk : k ≤ 1048576)
    (hY : ∀ j W, j < k → J j W → YieldAt Fence.wide (n - 1) Tryz.prog l #[.int .i64 ((k - 1 - j : Nat) : Int), clo (k - 1 - j)] W fun e W' => e = .returned (.bool true) ∧ J (j + 1) W' ∧ KeepB cb ub W W')
    (W : World) (hW : BwAt cb k cap (some ⟨ub, off, none⟩) clo W) (h0 : J 0 W) :
    CallsIn Fence.wide n Tryz.prog 94 #[.func (.yield l) #[] #[], .pointer (some ⟨cb, 0, none⟩)] W fun e W' => (∃ v, e = .returned v) ∧ J k W' := by
  have hb := hW.box
  refine callsIn_of_wp Tryz.func94 rfl trivial ?_ rfl
  simp only [Tryz.ntmps94, List.size_toArray, List.length_cons, List.length_nil, Nat.reduceAdd, Nat.reduceSub, Array.replicate_succ, Array.replicate_zero, List.push_toArray, List.append_toArray, List.nil_append, List.cons_append]
  gi_wp2
  gi_loopw [3] (fun v wr => ∃ j : Nat, v = .int .i64 ((j : Int) - 1) ∧ j ≤ k ∧ Hid (BwAt cb k cap (some ⟨ub, off, none⟩) clo wr) ∧ Hid (J (k - j) wr)) (fun v _ => (intOf v + 1).toNat)
  case atStart =>
    refine ⟨k, by go_num, Nat.le_refl _, Lib.hid hW, Lib.hid ?_⟩
    rw [Nat.sub_self]
    exact h0
  case round =>
    obtain ⟨j, rfl, hj, HB, HJ⟩ := hrel
    cases j with
    | zero =>
      gi_wp2
      go_end0
      exact ⟨⟨_, rfl⟩, by have := HJ.out; rwa [Nat.sub_zero] at this⟩
    | succ j =>
      obtain ⟨b, off', e, hc⟩ := HB.out.row (by omega)
      cases e
      have hc1 := hc j (by omega)
      have hbx := HB.out.box
      have hL := hY _ wr (by omega) HJ.out
      rw [show k - 1 - (k - (j + 1)) = j by omega, show k - (j + 1) + 1 = k - j by omega] at hL
      have e1 : ((j + 1 : Nat) : Int) - 1 = (j : Int) := by omega
      rw [e1]
      obtain ⟨fn, tmps, assign, body, hy, hR⟩ := hL
      have HR := Lib.hid hR
      clear hR hY hW h0 hb
      gi_wp2
      refine ⟨fun h => absurd h (by decide), HR.out.mono ?_⟩
      rintro e W3 ⟨rfl, hJ3, hk3⟩
      have HB3 := Lib.hid (hk3.bw HB.out)
      have HJ3 := Lib.hid hJ3
      clear hJ3 hk3
      gi_wp2
      go_roundw
      case rel => exact ⟨j, by go_num, by omega, HB3, HJ3⟩
      case measure => simp [intOf]
theorem backward_row (n cb ub off k cap : Nat) (clo : Nat → Value) (hk : k ≤ 1048576) (w : World) (hcb : cb < w.heap.size) (hub : ub < w.heap.size) (hb : BwAt cb k cap (some ⟨ub, off, none⟩) clo w) :
    RowRuns n Tryz.prog 94 #[.pointer (some ⟨cb, 0, none⟩)] k (fun j => #[.int .i64 ((k - 1 - j : Nat) : Int), clo (k - 1 - j)]) cb ub w := fun l J W hW hY h0 =>
  bw_row n l cb ub off k cap clo J hk hY W (KeepB.bw ⟨hW.block cb hcb, hW.block ub hub⟩ hb) h0
end Go.Proofs.YtnjeoeekidnffaaGreat
