/- The document's Decimal: the digits of a number, as the library's own digits. -/
import Derived.Test.YtokompkkbnbinaaDoorG5
import Derived.Test.YtokompkkbnbinaaDoorG4
import Derived.Laws.ResultCell
import Derived.Test.YtokompkkbnbinaaDoorG2
namespace Go.Proofs.YtokompkkbnbinaaDoor
open Go.RowKit SmWord
set_option maxRecDepth 100000
theorem digit_cut : ∀ n, n < 10 → (⟨#[48, 49, 50, 51, 52, 53, 54, 55, 56, 57]⟩ : ByteArray).extract n (n + 1) = ⟨#[UInt8.ofNat (48 + n)]⟩ := by decide +kernel
theorem decDigits_small {n : Nat} (h : n < 10) : Lib.decDigits n = [UInt8.ofNat (48 + n)] := by rw [Lib.decDigits, dif_pos h]
theorem decDigits_big {n : Nat} (h : ¬ n < 10) : Lib.decDigits n = Lib.decDigits (n / 10) ++ [UInt8.ofNat (48 + n % 10)] := by rw [Lib.decDigits, dif_neg h]
theorem bytes_app (l : List UInt8) (c : UInt8) : (⟨l.toArray⟩ : ByteArray) ++ ⟨#[c]⟩ = ⟨(l ++ [c]).toArray⟩ := by
  apply ByteArray.ext
  simp
theorem decimal_low (n : Nat) (S : ByteArray) (w : World) (hlt : n < 10) (h0 : Hid (S = (⟨#[48, 49, 50, 51, 52, 53, 54, 55, 56, 57]⟩ : ByteArray).extract n (n + 1))) : Calls Tryd.prog 13 #[.int .i64 (n : Int)] w fun e w' => e = .returned (.string S) ∧ Below w.heap.size w w' := by
  go_enter Tryd.func13, Tryd.ntmps13
  go_wp2_with fail
  go_ret
  rw [h0.out]
  exact ⟨rfl, Below.refl _ _⟩
theorem decimal_high (n q r : Nat) (D S : ByteArray) (w : World) (hn : n ≤ 1000000) (hlt : ¬ n < 10) (hq : IntKind.i64.wrap ((n : Int) / 10) = (q : Int)) (hr : (n : Int).tmod 10 = (r : Int)) (hr1 : IntKind.i64.wrap ((r : Int) + 1) = ((r + 1 : Nat) : Int)) (hr2 : r < 10) (hD : D.size ≤ 1000)
    (ih : Hid (∀ w, Calls Tryd.prog 13 #[.int .i64 (q : Int)] w fun e w' => e = .returned (.string D) ∧ Below w.heap.size w w')) (h1 : Hid (S = D ++ (⟨#[48, 49, 50, 51, 52, 53, 54, 55, 56, 57]⟩ : ByteArray).extract r (r + 1))) : Calls Tryd.prog 13 #[.int .i64 (n : Int)] w fun e w' => e = .returned (.string S) ∧ Below w.heap.size w w' := by
  go_enter Tryd.func13, Tryd.ntmps13
  go_wp2_with fail
  go_region_with (go_at_call 13; refine (ih.out _).mono ?_; rintro e w1 ⟨rfl, hb⟩)
  all_goals
    go_wp2_with fail
    go_ret
    rw [h1.out]
    exact ⟨rfl, (Below.refl _ _).drew.trans hb⟩
theorem nDigits_le {n : Nat} (h : n < 10 ^ 6) : (Lib.decDigits n).length ≤ 1000 := by
  have : ∀ (k n : Nat), n < 10 ^ k → (Lib.decDigits n).length ≤ k + 1 := by
    intro k
    induction k with
    | zero =>
      intro n h
      rw [decDigits_small (by simp at h; omega)]
      simp
    | succ k ih =>
      intro n h
      by_cases hlt : n < 10
      · rw [decDigits_small hlt]; simp
      · rw [decDigits_big hlt]
        have := ih (n / 10) (by rw [Nat.pow_succ] at h; omega)
        simp
        omega
  have := this 6 n h
  omega
theorem decimal_walk (n : Nat) (w : World) (hn : n < 1000000) : Calls Tryd.prog 13 #[.int .i64 (n : Int)] w fun e w' => e = .returned (.string ⟨(Lib.decDigits n).toArray⟩) ∧ Below w.heap.size w w' := by
  induction n using Nat.strongRecOn generalizing w with
  | _ n ih =>
    by_cases hlt : n < 10
    · exact decimal_low n _ w hlt (Lib.hid (by rw [digit_cut n hlt, decDigits_small hlt]))
    · have hq : ((n : Int) / 10) = ((n / 10 : Nat) : Int) := by omega
      refine decimal_high n (n / 10) (n % 10) ⟨(Lib.decDigits (n / 10)).toArray⟩ _ w (by omega) hlt ?_ ?_ ?_ (Nat.mod_lt _ (by decide)) ?_ (Lib.hid fun w => ih (n / 10) (by omega) w (by omega)) (Lib.hid ?_)
      · rw [hq, IntKind.wrap_i64]; omega
      · rw [Int.tmod_eq_emod_of_nonneg (by omega)]; omega
      · rw [IntKind.wrap_i64]; omega
      · have := nDigits_le (n := n / 10) (by have : (10 : Nat) ^ 6 = 1000000 := rfl; omega)
        simpa [ByteArray.size] using this
      · rw [digit_cut _ (Nat.mod_lt _ (by decide)), bytes_app, decDigits_big hlt]
end Go.Proofs.YtokompkkbnbinaaDoor
/- The document's Info of the numbered instructions: its walk. -/
namespace Go.Proofs.YtokompkkbnbinaaDoor
open Go.RowKit SmWord
set_option maxRecDepth 100000
theorem results_pair {P : Program} {fn : Func} {p u : Tmp} {ty : TypeId} (h : fn.results = #[.cell p ty, .tmp u]) (tmps : Array Value) (w : World) (g : Nat) (t : TypeId) (cs : Array Value) (fr : Nat × Nat) (d : TypeDesc) (v : Value)
    (hp : tmps.getD p undef = .pointer (some ⟨g, 0, none⟩)) (hg : w.heap[g]? = some (.cells cs t fr))
    (hu : P.underlying ty = some d) (hd : (match d with | .struct _ | .array _ _ => true | _ => false) = true) (hi : (P.info? ty).map (·.size) = some cs.size) (hv : tmps.getD u undef = v) :
    (results fn tmps).run P w = .ok (.tuple #[.agg cs, v]) w := by
  have hp' : tmps[p]?.getD undef = .pointer (some ⟨g, 0, none⟩) := by simpa using hp
  have hv' : tmps[u]?.getD undef = v := by simpa using hv
  rw [results_cell_tmp h]
  simp [hp', asAddr, run_loadVar_row w g t ty cs fr d hg hu hd hi, hv']
/-- What is told, as a value. -/
def tC (t : OpT) : Array Value := #[.string t.nm, .int .i64 ((t.po : Nat) : Int), .int .i64 ((t.pu : Nat) : Int), .int .u64 ((t.ga : Nat) : Int), .int .i64 ((t.da : Nat) : Int)]
def tv (t : OpT) : Value := .agg (tC t)
theorem tC_size (t : OpT) : (tC t).size = 5 := rfl
theorem op_one (s : ByteArray) (a b c d : Int) : (#[Value.string s, .int .i64 a, .int .i64 b, .int .u64 c, .int .i64 d] : Array Value).all (·.oneCell') = true := by simp [Value.oneCell']
theorem tC_one (t : OpT) : (tC t).all (·.oneCell') = true := op_one _ _ _ _ _
def zO : Array Value := #[.string ⟨#[]⟩, .int .i64 0, .int .i64 0, .int .u64 0, .int .i64 0]
theorem zO_none : zO = tC none0 := rfl
theorem Tryd.infoOp : (Tryd.prog.info? 24).map (·.size) = some 5 := by kernel_rfl
set_option maxHeartbeats 1000000 in
theorem rinfo_push (x n r k : Nat) (N D : ByteArray) (w : World) (h1 : 96 ≤ x) (h2 : x < 128) (hn : (x : Int) - 95 = (n : Int)) (hr : (x : Int) / 16 = (r : Int)) (hk : (x : Int) % 16 = (k : Int)) (hD : D.size < 1000) (KD : Hid (∀ w, Calls Tryd.prog 13 #[.int .i64 (n : Int)] w fun e w' => e = .returned (.string D) ∧ Below w.heap.size w w')) (hN : Hid (sPUSH ++ D = N)) :
    Calls Tryd.prog 7 #[.int .u8 (x : Int)] w fun e w' => e = .returned (.tuple #[tv ⟨N, 0, 1, 3, n⟩, .bool true]) ∧ Below w.heap.size w w' := by
  go_enter Tryd.func7, Tryd.ntmps7
  go_wp2_with (first | (go_at_call 13; refine (KD.out _).mono ?_; rintro e w1 ⟨rfl, hb⟩; have r1 : w1.heap[w.heap.size]? = some (.cells zO 24) := stay hb (heap_alloc_new w _)) | (refine wpList_store_row rfl 24 _ _ rfl _ zO _ rfl rfl r1 Tryd.infoOp rfl (op_one _ _ _ _ _) ?_))
  all_goals
    rw [← hN.out]
    have bW : Below w.heap.size w w1 := ((Below.refl _ _).alloc (Nat.le_refl _) _).trans (hb.mono (by simp))
    exact bodyPost_ret (results_pair rfl _ _ w.heap.size 24 (tC _) (0, 0) _ _ rfl (blk_row r1) Tryd.underlying24 rfl Tryd.infoOp rfl) rfl ⟨rfl, below_setRow bW (Nat.le_refl _) _⟩
set_option maxHeartbeats 1000000 in
theorem rinfo_dup (x n r k m : Nat) (N D : ByteArray) (w : World) (h1 : 128 ≤ x) (h2 : x < 144) (hn : (k : Int) + 1 = (n : Int)) (hm : (k : Int) + 2 = (m : Int)) (hr : (x : Int) / 16 = (r : Int)) (hk : (x : Int) % 16 = (k : Int)) (hD : D.size < 1000) (KD : Hid (∀ w, Calls Tryd.prog 13 #[.int .i64 (n : Int)] w fun e w' => e = .returned (.string D) ∧ Below w.heap.size w w')) (hN : Hid (sDUP ++ D = N)) :
    Calls Tryd.prog 7 #[.int .u8 (x : Int)] w fun e w' => e = .returned (.tuple #[tv ⟨N, n, m, 3, 0⟩, .bool true]) ∧ Below w.heap.size w w' := by
  go_enter Tryd.func7, Tryd.ntmps7
  go_wp2_with (first | (go_at_call 13; refine (KD.out _).mono ?_; rintro e w1 ⟨rfl, hb⟩; have r1 : w1.heap[w.heap.size]? = some (.cells zO 24) := stay hb (heap_alloc_new w _)) | (refine wpList_store_row rfl 24 _ _ rfl _ zO _ rfl rfl r1 Tryd.infoOp rfl (op_one _ _ _ _ _) ?_))
  all_goals
    rw [← hN.out]
    have bW : Below w.heap.size w w1 := ((Below.refl _ _).alloc (Nat.le_refl _) _).trans (hb.mono (by simp))
    exact bodyPost_ret (results_pair rfl _ _ w.heap.size 24 (tC _) (0, 0) _ _ rfl (blk_row r1) Tryd.underlying24 rfl Tryd.infoOp rfl) rfl ⟨rfl, below_setRow bW (Nat.le_refl _) _⟩
set_option maxHeartbeats 1000000 in
theorem rinfo_swap (x n r k m : Nat) (N D : ByteArray) (w : World) (h1 : 144 ≤ x) (h2 : x < 160) (hn : (k : Int) + 1 = (n : Int)) (hm : (k : Int) + 2 = (m : Int)) (hr : (x : Int) / 16 = (r : Int)) (hk : (x : Int) % 16 = (k : Int)) (hD : D.size < 1000) (KD : Hid (∀ w, Calls Tryd.prog 13 #[.int .i64 (n : Int)] w fun e w' => e = .returned (.string D) ∧ Below w.heap.size w w')) (hN : Hid (sSWAP ++ D = N)) :
    Calls Tryd.prog 7 #[.int .u8 (x : Int)] w fun e w' => e = .returned (.tuple #[tv ⟨N, m, m, 3, 0⟩, .bool true]) ∧ Below w.heap.size w w' := by
  go_enter Tryd.func7, Tryd.ntmps7
  go_wp2_with (first | (go_at_call 13; refine (KD.out _).mono ?_; rintro e w1 ⟨rfl, hb⟩; have r1 : w1.heap[w.heap.size]? = some (.cells zO 24) := stay hb (heap_alloc_new w _)) | (refine wpList_store_row rfl 24 _ _ rfl _ zO _ rfl rfl r1 Tryd.infoOp rfl (op_one _ _ _ _ _) ?_))
  all_goals
    rw [← hN.out]
    have bW : Below w.heap.size w w1 := ((Below.refl _ _).alloc (Nat.le_refl _) _).trans (hb.mono (by simp))
    exact bodyPost_ret (results_pair rfl _ _ w.heap.size 24 (tC _) (0, 0) _ _ rfl (blk_row r1) Tryd.underlying24 rfl Tryd.infoOp rfl) rfl ⟨rfl, below_setRow bW (Nat.le_refl _) _⟩
set_option maxHeartbeats 1000000 in
theorem rinfo_log (x n r k m g : Nat) (N D : ByteArray) (w : World) (h1 : 160 ≤ x) (h2 : x < 165) (hn : (k : Int) + 1 = (n : Int)) (hm : (k : Int) + 2 = (m : Int)) (hg : 375 * (n : Int) = (g : Int)) (hr : (x : Int) / 16 = (r : Int)) (hk : (x : Int) % 16 = (k : Int)) (hD : D.size < 1000) (KD : Hid (∀ w, Calls Tryd.prog 13 #[.int .i64 (k : Int)] w fun e w' => e = .returned (.string D) ∧ Below w.heap.size w w')) (hN : Hid (sLOG ++ D = N)) :
    Calls Tryd.prog 7 #[.int .u8 (x : Int)] w fun e w' => e = .returned (.tuple #[tv ⟨N, m, 0, g, 0⟩, .bool true]) ∧ Below w.heap.size w w' := by
  go_enter Tryd.func7, Tryd.ntmps7
  go_wp2_with (first | (go_at_call 13; refine (KD.out _).mono ?_; rintro e w1 ⟨rfl, hb⟩; have r1 : w1.heap[w.heap.size]? = some (.cells zO 24) := stay hb (heap_alloc_new w _)) | (refine wpList_store_row rfl 24 _ _ rfl _ zO _ rfl rfl r1 Tryd.infoOp rfl (op_one _ _ _ _ _) ?_))
  all_goals
    rw [← hN.out]
    have bW : Below w.heap.size w w1 := ((Below.refl _ _).alloc (Nat.le_refl _) _).trans (hb.mono (by simp))
    exact bodyPost_ret (results_pair rfl _ _ w.heap.size 24 (tC _) (0, 0) _ _ rfl (blk_row r1) Tryd.underlying24 rfl Tryd.infoOp rfl) rfl ⟨rfl, below_setRow bW (Nat.le_refl _) _⟩
end Go.Proofs.YtokompkkbnbinaaDoor
/- The document's Info of the table's other bytes: its walk. -/
namespace Go.Proofs.YtokompkkbnbinaaDoor
open Go.RowKit SmWord
set_option maxRecDepth 100000
theorem alloc_alloc (w : World) (o o' : Obj) : Below w.heap.size w ((w.alloc o).alloc o') := ((Below.refl _ _).alloc (Nat.le_refl _) _).alloc (by simp) _
theorem blk_first (w : World) (o o' : Obj) : ((w.alloc o).alloc o').heap[w.heap.size]? = some o := blk_alloc (heap_alloc_new _ _)
set_option maxHeartbeats 1000000 in
theorem rinfo_none (x r k m : Nat) (C : Array Value) (w : World) (hx : x < 256) (n6 : r ≠ 6) (n7 : r ≠ 7) (n8 : r ≠ 8) (n9 : r ≠ 9) (n10 : r ≠ 10 ∨ 5 ≤ k) (hr : (x : Int) / 16 = (r : Int)) (hk : (x : Int) % 16 = (k : Int)) (hm : m ≤ k)
    (KN : Hid (∀ w, Calls Tryd.prog 14 #[.int .i64 (r : Int)] w fun e w' => e = .returned (.slice (some ⟨w.heap.size, 0, none⟩) m m) ∧ w' = w.alloc (.cells C 9))) :
    Calls Tryd.prog 7 #[.int .u8 (x : Int)] w fun e w' => e = .returned (.tuple #[tv none0, .bool false]) ∧ Below w.heap.size w w' := by
  rcases n10 with n10 | n10
  all_goals
    go_enter Tryd.func7, Tryd.ntmps7
    go_wp2_with (first | (go_at_call 14; refine (KN.out _).mono ?_; rintro e w1 ⟨rfl, rfl⟩) | (refine wpList_store_row rfl 24 _ _ rfl _ zO _ rfl rfl (blk_first _ _ _) Tryd.infoOp rfl (op_one _ _ _ _ _) ?_))
    all_goals
      exact bodyPost_ret (results_pair rfl _ _ w.heap.size 24 (tC _) (0, 0) _ _ rfl (blk_row (blk_first _ _ _)) Tryd.underlying24 rfl Tryd.infoOp rfl) rfl ⟨rfl, below_setRow (alloc_alloc _ _ _) (Nat.le_refl _) _⟩
set_option maxHeartbeats 1000000 in
theorem rinfo_dash (x r k m : Nat) (C : Array Value) (s : ByteArray) (w : World) (hx : x < 256) (n6 : r ≠ 6) (n7 : r ≠ 7) (n8 : r ≠ 8) (n9 : r ≠ 9) (n10 : r ≠ 10) (hr : (x : Int) / 16 = (r : Int)) (hk : (x : Int) % 16 = (k : Int)) (hm : k < m) (hC : C[k]? = some (.string s)) (hs : (s.toList == [45]) = true)
    (KN : Hid (∀ w, Calls Tryd.prog 14 #[.int .i64 (r : Int)] w fun e w' => e = .returned (.slice (some ⟨w.heap.size, 0, none⟩) m m) ∧ w' = w.alloc (.cells C 9))) :
    Calls Tryd.prog 7 #[.int .u8 (x : Int)] w fun e w' => e = .returned (.tuple #[tv none0, .bool false]) ∧ Below w.heap.size w w' := by
  have c2 : ((w.alloc (.cells zO 24)).alloc (.cells C 9)).cell? ⟨w.heap.size + 1, k, none⟩ = some (.string s) := blk_cell (heap_alloc2_new _ _ _) hC
  go_enter Tryd.func7, Tryd.ntmps7
  go_wp2_with (first | (go_at_call 14; refine (KN.out _).mono ?_; rintro e w1 ⟨rfl, rfl⟩) | (refine wpList_store_row rfl 24 _ _ rfl _ zO _ rfl rfl (blk_first _ _ _) Tryd.infoOp rfl (op_one _ _ _ _ _) ?_))
  all_goals
    exact bodyPost_ret (results_pair rfl _ _ w.heap.size 24 (tC _) (0, 0) _ _ rfl (blk_row (blk_first _ _ _)) Tryd.underlying24 rfl Tryd.infoOp rfl) rfl ⟨rfl, below_setRow (alloc_alloc _ _ _) (Nat.le_refl _) _⟩
set_option maxHeartbeats 1000000 in
theorem rinfo_row (x r k m n a b c i0 i1 i2 : Nat) (C D : Array Value) (s : ByteArray) (w : World) (hx : x < 256) (n6 : r ≠ 6) (n7 : r ≠ 7) (n8 : r ≠ 8) (n9 : r ≠ 9) (n10 : r ≠ 10) (hr : (x : Int) / 16 = (r : Int)) (hk : (x : Int) % 16 = (k : Int)) (hm : k < m) (hC : C[k]? = some (.string s)) (hs : (s.toList == [45]) = false)
    (h0 : IntKind.i64.wrap (3 * (k : Int)) = (i0 : Int)) (h1 : IntKind.i64.wrap ((i0 : Int) + 1) = (i1 : Int)) (h2 : IntKind.i64.wrap ((i0 : Int) + 2) = (i2 : Int)) (l0 : i0 < n) (l1 : i1 < n) (l2 : i2 < n)
    (hD0 : D[i0]? = some (.int .i64 (a : Int))) (hD1 : D[i1]? = some (.int .i64 (b : Int))) (hD2 : D[i2]? = some (.int .i64 (c : Int))) (hc : c < 1000000)
    (KN : Hid (∀ w, Calls Tryd.prog 14 #[.int .i64 (r : Int)] w fun e w' => e = .returned (.slice (some ⟨w.heap.size, 0, none⟩) m m) ∧ w' = w.alloc (.cells C 9)))
    (KM : Hid (∀ w, Calls Tryd.prog 15 #[.int .i64 (r : Int)] w fun e w' => e = .returned (.slice (some ⟨w.heap.size, 0, none⟩) n n) ∧ w' = w.alloc (.cells D 3))) :
    Calls Tryd.prog 7 #[.int .u8 (x : Int)] w fun e w' => e = .returned (.tuple #[tv ⟨s, a, b, c, 0⟩, .bool true]) ∧ Below w.heap.size w w' := by
  have c2 : ((w.alloc (.cells zO 24)).alloc (.cells C 9)).cell? ⟨w.heap.size + 1, k, none⟩ = some (.string s) := blk_cell (heap_alloc2_new _ _ _) hC
  go_enter Tryd.func7, Tryd.ntmps7
  go_wp2_with (first | (go_at_call 14; refine (KN.out _).mono ?_; rintro e w1 ⟨rfl, rfl⟩) | (go_at_call 15; refine (KM.out _).mono ?_; rintro e w1 ⟨rfl, rfl⟩))
  clear c2
  obtain ⟨W, hW⟩ : ∃ W, ((w.alloc (.cells zO 24)).alloc (.cells C 9)).alloc (.cells D 3) = W := ⟨_, rfl⟩
  have r0 : W.heap[w.heap.size]? = some (.cells zO 24) := by rw [← hW]; exact blk_alloc (blk_first _ _ _)
  have r1 : W.heap[w.heap.size + 1]? = some (.cells C 9) := by rw [← hW]; exact blk_alloc (heap_alloc2_new _ _ _)
  have r2 : W.heap[w.heap.size + 1 + 1]? = some (.cells D 3) := by rw [← hW]; have := heap_alloc_new ((w.alloc (.cells zO 24)).alloc (.cells C 9)) (.cells D 3); simpa using this
  have bW : Below w.heap.size w W := by rw [← hW]; exact (alloc_alloc _ _ _).alloc (by simp; omega) _
  simp only [show ((w.alloc (.cells #[.string ⟨#[]⟩, .int .i64 0, .int .i64 0, .int .u64 0, .int .i64 0] 24)).alloc (.cells C 9)).alloc (.cells D 3) = W from hW]
  have r1' := blk_cell r1 hC
  have d0 := blk_cell r2 hD0
  have d1 := blk_cell r2 hD1
  have d2 := blk_cell r2 hD2
  clear hW
  have hcc : IntKind.u64.wrap (c : Int) = (c : Int) := by rw [IntKind.wrap_u64]; omega
  refine region_lastA (aQ := ?aQ7) 23 (by kernel_rfl) (by kernel_rfl) (fun w1 => ?hq7) (fun w7 hb7 => ?hh7)
  case hq7 =>
    have e0 := fun g => ext2_cell w1 g r1'
    have e1 := fun g => ext2_cell w1 g d0
    have e2 := fun g => ext2_cell w1 g d1
    have e3 := fun g => ext2_cell w1 g d2
    simp only [List.take_succ_cons, List.take_zero, List.drop_succ_cons, List.drop_zero, List.cons_append, List.nil_append]
    repeat (go_big_quiet_step (fail))
    refine wpQuiet_nil ?_
    rfl
  have R0 := stay hb7 r0
  have B7 := bW.trans (hb7.mono bW.size)
  clear r0 r1 r2 r1' d0 d1 d2 hb7
  simp only [List.take_succ_cons, List.take_zero, List.drop_succ_cons, List.drop_zero]
  refine wpList_store_row rfl 24 _ _ rfl _ zO _ rfl rfl R0 Tryd.infoOp rfl (op_one _ _ _ _ _) ?_
  refine ⟨rfl, ?_⟩
  go_wp2_with fail
  exact bodyPost_ret (results_pair rfl _ _ w.heap.size 24 (tC _) (0, 0) _ _ rfl (blk_row R0) Tryd.underlying24 rfl Tryd.infoOp rfl) rfl ⟨rfl, below_setRow B7 (Nat.le_refl _) _⟩
end Go.Proofs.YtokompkkbnbinaaDoor
/- The document's Info, of every byte. -/
namespace Go.Proofs.YtokompkkbnbinaaDoor
open Go.RowKit SmWord
set_option maxRecDepth 100000
theorem bytes_list (s : ByteArray) : s.toList = s.data.toList := by
  obtain ⟨⟨l⟩⟩ := s
  simp
theorem nuL_length : ∀ r, r < 16 → (nuL r).length = 3 * (nmL r).length := by decide +kernel
theorem nuL_small : ∀ r, r < 16 → ∀ i, i < 48 → (nuL r).getD i 0 < 1000000 := by decide +kernel
theorem nmL_small : ∀ r, r < 16 → (nmL r).length ≤ 16 := by decide +kernel
theorem nmL_some : ∀ r, r < 16 → ∀ k, k < (nmL r).length → ((nmL r).getD k ⟨#[]⟩).data.toList.isEmpty = false := by decide +kernel
theorem nmL_ten : nmL 10 = [] := rfl
theorem sC_get {l : List ByteArray} {k : Nat} (h : k < l.length) : (sC l)[k]? = some (.string (l.getD k ⟨#[]⟩)) := by simp [sC, h]
theorem iC_get {l : List Nat} {k : Nat} (h : k < l.length) : (iC l)[k]? = some (.int .i64 ((l.getD k 0 : Nat) : Int)) := by simp [iC, h]
theorem nmd_some (s : ByteArray) (n : Nat) (hs : s.data.toList.isEmpty = false) : (nmd s n).data.toList.isEmpty = false := by
  unfold nmd
  obtain ⟨⟨l⟩⟩ := s
  cases l with
  | nil => simp at hs
  | cons a l => simp
theorem dec_size {n : Nat} (h : n < 1000) : (⟨(Lib.decDigits n).toArray⟩ : ByteArray).size < 1000 := by
  have : ∀ n, n < 1000 → (Lib.decDigits n).length ≤ 3 := by
    intro n h
    by_cases h1 : n < 10
    · rw [decDigits_small h1]; simp
    · rw [decDigits_big h1]
      by_cases h2 : n / 10 < 10
      · rw [decDigits_small h2]; simp
      · rw [decDigits_big h2, decDigits_small (by omega)]; simp
  have := this n h
  simp [ByteArray.size]
  omega
theorem told_push {x : Nat} (h1 : 96 ≤ x) (h2 : x < 128) : told x = ⟨nmd sPUSH (x - 95), 0, 1, 3, x - 95⟩ := by rw [told, if_pos ⟨h1, h2⟩]
theorem told_dup {x : Nat} (h1 : 128 ≤ x) (h2 : x < 144) : told x = ⟨nmd sDUP (x - 127), x - 127, x - 126, 3, 0⟩ := by rw [told, if_neg (by omega), if_pos ⟨h1, h2⟩]
theorem told_swap {x : Nat} (h1 : 144 ≤ x) (h2 : x < 160) : told x = ⟨nmd sSWAP (x - 143), x - 142, x - 142, 3, 0⟩ := by rw [told, if_neg (by omega), if_neg (by omega), if_pos ⟨h1, h2⟩]
theorem told_log {x : Nat} (h1 : 160 ≤ x) (h2 : x < 165) : told x = ⟨nmd sLOG (x - 160), x - 158, 0, 375 * (x - 159), 0⟩ := by rw [told, if_neg (by omega), if_neg (by omega), if_neg (by omega), if_pos ⟨h1, h2⟩]
theorem told_row {x : Nat} (h1 : x < 96 ∨ 165 ≤ x) : told x = opRow (x / 16) (x % 16) := by rw [told, if_neg (by omega), if_neg (by omega), if_neg (by omega), if_neg (by omega)]
theorem isI_nmd {x : Nat} {s : ByteArray} {n : Nat} (h : (told x).nm = nmd s n) (hs : s.data.toList.isEmpty = false) : isI x = true := by rw [isI, h, nmd_some s n hs]; rfl
theorem rinfo_walk (x : Nat) (w : World) (hx : x < 256) : Calls Tryd.prog 7 #[.int .u8 (x : Int)] w fun e w' => e = .returned (.tuple #[tv (told x), .bool (isI x)]) ∧ Below w.heap.size w w' := by
  have hr : (x : Int) / 16 = ((x / 16 : Nat) : Int) := by omega
  have hk : (x : Int) % 16 = ((x % 16 : Nat) : Int) := by omega
  by_cases a1 : 96 ≤ x ∧ x < 128
  · have e := told_push a1.1 a1.2
    rw [isI_nmd (congrArg OpT.nm e) rfl, e]
    exact rinfo_push x (x - 95) (x / 16) (x % 16) _ _ w a1.1 a1.2 (by omega) hr hk (dec_size (n := x - 95) (by omega)) (Lib.hid fun w => decimal_walk (x - 95) w (by omega)) (Lib.hid rfl)
  by_cases a2 : 128 ≤ x ∧ x < 144
  · have e := told_dup a2.1 a2.2
    rw [isI_nmd (congrArg OpT.nm e) rfl, e]
    exact rinfo_dup x (x - 127) (x / 16) (x % 16) (x - 126) _ _ w a2.1 a2.2 (by omega) (by omega) hr hk (dec_size (n := x - 127) (by omega)) (Lib.hid fun w => decimal_walk (x - 127) w (by omega)) (Lib.hid rfl)
  by_cases a3 : 144 ≤ x ∧ x < 160
  · have e := told_swap a3.1 a3.2
    rw [isI_nmd (congrArg OpT.nm e) rfl, e]
    exact rinfo_swap x (x - 143) (x / 16) (x % 16) (x - 142) _ _ w a3.1 a3.2 (by omega) (by omega) hr hk (dec_size (n := x - 143) (by omega)) (Lib.hid fun w => decimal_walk (x - 143) w (by omega)) (Lib.hid rfl)
  by_cases a4 : 160 ≤ x ∧ x < 165
  · have e := told_log a4.1 a4.2
    rw [isI_nmd (congrArg OpT.nm e) rfl, e]
    have hk' : x % 16 = x - 160 := by omega
    rw [hk'] at hk
    exact rinfo_log x (x - 159) (x / 16) (x - 160) (x - 158) (375 * (x - 159)) _ _ w a4.1 a4.2 (by omega) (by omega) (by omega) hr hk (dec_size (n := x - 160) (by omega)) (Lib.hid fun w => decimal_walk (x - 160) w (by omega)) (Lib.hid rfl)
  have hrow : x < 96 ∨ 165 ≤ x := by omega
  have e := told_row hrow
  have hr16 : x / 16 < 16 := by omega
  have hl := nuL_length _ hr16
  have hs16 := nmL_small _ hr16
  have KN := Lib.hid (names_walk (x / 16))
  have KM := Lib.hid (numbers_walk (x / 16))
  by_cases hm : (nmL (x / 16)).length ≤ x % 16
  · have e2 : told x = none0 := by rw [e, opRow, if_neg (by omega)]
    have e3 : isI x = false := by rw [isI, e2]; rfl
    rw [e3, e2]
    exact rinfo_none x _ _ _ _ w hx (by omega) (by omega) (by omega) (by omega) (by omega) hr hk hm KN
  have hc := sC_get (l := nmL (x / 16)) (k := x % 16) (by omega)
  have h10 : x / 16 ≠ 10 := fun h => by rw [h, nmL_ten] at hm; simp at hm
  by_cases hd : (((nmL (x / 16)).getD (x % 16) ⟨#[]⟩).data.toList == [45]) = true
  · have e2 : told x = none0 := by rw [e, opRow, if_neg (by rw [hd]; simp)]
    have e3 : isI x = false := by rw [isI, e2]; rfl
    rw [e3, e2]
    exact rinfo_dash x _ _ _ _ _ w hx (by omega) (by omega) (by omega) (by omega) h10 hr hk (by omega) hc (by rw [bytes_list]; exact hd) KN
  · have hd' : (((nmL (x / 16)).getD (x % 16) ⟨#[]⟩).data.toList == [45]) = false := by simpa using hd
    have e2 : told x = ⟨(nmL (x / 16)).getD (x % 16) ⟨#[]⟩, (nuL (x / 16)).getD (3 * (x % 16)) 0, (nuL (x / 16)).getD (3 * (x % 16) + 1) 0, (nuL (x / 16)).getD (3 * (x % 16) + 2) 0, 0⟩ := by rw [e, opRow, if_pos ⟨by omega, hd'⟩]
    have e3 : isI x = true := by rw [isI, e2, nmL_some _ hr16 _ (by omega)]; rfl
    rw [e3, e2]
    exact rinfo_row x _ _ _ _ _ _ _ (3 * (x % 16)) (3 * (x % 16) + 1) (3 * (x % 16) + 2) _ _ _ w hx (by omega) (by omega) (by omega) (by omega) h10 hr hk (by omega) hc (by rw [bytes_list]; exact hd') (by rw [IntKind.wrap_i64]; omega) (by rw [IntKind.wrap_i64]; omega) (by rw [IntKind.wrap_i64]; omega) (by omega) (by omega) (by omega) (iC_get (by omega)) (iC_get (by omega)) (iC_get (by omega)) (nuL_small _ hr16 _ (by omega)) KN KM
end Go.Proofs.YtokompkkbnbinaaDoor
