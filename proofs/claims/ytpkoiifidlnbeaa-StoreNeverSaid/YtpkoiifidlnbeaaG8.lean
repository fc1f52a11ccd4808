/- Commit. -/
import Derived.Test.YtpkoiifidlnbeaaG7
import Derived.Test.YtpkoiifidlnbeaaG4
import Derived.Test.YtpkoiifidlnbeaaG3
import Derived.Carry
namespace Go.Proofs.Ytpkoiifidlnbeaa
open Go.RowKit SmWord
set_option maxRecDepth 100000

section
variable {base : Nat} {Z : Hp} {w : World} {sb : Nat} {g : Gh} {L : Nat → List Acc}
theorem commit_nil (par : Int) (lv : Value) (w : World) : Calls Try.prog 11 #[.pointer none, .int .i64 par, lv] w fun e w' => e = .returned (.tuple #[.int .i64 0, .int .i64 1]) ∧ w = w' := by
  go_enter Try.func11, Try.ntmps11
  go_wp2_with fail
  exact bodyPost_ret (v := .tuple #[.int .i64 0, .int .i64 1]) (by simp [results, Try.results11, go_sem]) rfl ⟨rfl, rfl⟩
theorem commit_none (h : StoreAt base Z w sb g L) (par : Int) (lv : Value) (hp : ¬ (0 ≤ par ∧ par < g.n)) : Calls Try.prog 11 #[.pointer (some ⟨sb, 0, none⟩), .int .i64 par, lv] w fun e w' => e = .returned (.tuple #[.int .i64 0, .int .i64 12]) ∧ w = w' := by
  have KH := Lib.hid (has_walk h par)
  rw [decide_eq_false hp] at KH
  clear h hp
  go_enter Try.func11, Try.ntmps11
  go_wp2_with (go_at_call 28; refine KH.out.mono ?_; rintro e w1 ⟨rfl, rfl⟩)
  exact bodyPost_ret (v := .tuple #[.int .i64 0, .int .i64 12]) (by simp [results, Try.results11, go_sem]) rfl ⟨rfl, rfl⟩
theorem commit_arg (h : StoreAt base Z w sb g L) (p : Nat) (lv : Value) (l : List AV) (hp' : p < g.n) (hl : AccsZ (hp w) lv l) (hll : l.length ≤ 1000000) (hr : (l.all fun x => rightA x.a) = false) : Calls Try.prog 11 #[.pointer (some ⟨sb, 0, none⟩), .int .i64 (p : Int), lv] w fun e w' => e = .returned (.tuple #[.int .i64 0, .int .i64 1]) ∧ Below w.heap.size w w' := by
  have KH := Lib.hid (has_walk h (p : Int))
  rw [decide_eq_true (by omega)] at KH
  have KR := Lib.hid (allRight_walk lv l w hl hll)
  rw [hr] at KR
  obtain ⟨A, c, rfl, -⟩ := hl.row.val
  clear h hp' hl hr hll
  go_enter Try.func11, Try.ntmps11
  go_wp2_with (first
    | (go_at_call 28; refine KH.out.mono ?_; rintro e w1 ⟨rfl, rfl⟩)
    | (go_at_call 29; refine KR.out.mono ?_; rintro e w2 ⟨rfl, b2⟩; have HB := Lib.hid b2; clear b2))
  exact bodyPost_ret (v := .tuple #[.int .i64 0, .int .i64 1]) (by simp [results, Try.results11, go_sem]) rfl ⟨rfl, HB.out⟩
/-- What lies in the store's own blocks and in Z is all that AddIs asks of the world it began in. -/
theorem AddIs.early {w1 w' : World} (b : Below w.heap.size w w1) (h : StoreAt base Z w sb g L) {p : Nat} {l : List Acc} (ha : AddIs base Z w1 sb g L p l w') : AddIs base Z w sb g L p l w' := by
  obtain ⟨Z', g', h1, h2, h3, h4, h5, h6, h7, h8⟩ := ha
  have hz := b.size
  refine ⟨Z', g', h1, h2, h3, h4, fun x hx hx' => Nat.le_trans hz (h5 x hx hx'), fun x hx hs => (h6 x (by omega) hs).trans (b.block x hx), fun x hs => (h7 x hs).imp id fun hl => by omega, ?_⟩
  exact (b.mono (Nat.le_trans h.bsb (Nat.le_of_lt (Array.getElem?_eq_some_iff.1 h.blk).1))).trans h8
theorem commit_ok (h : StoreAt base Z w sb g L) (p : Nat) (lv : Value) (l : List AV) (hp' : p < g.n) (hl : AccsZ (hp w) lv l) (hll : l.length ≤ 1000000) (hr : ∀ x ∈ l, rightA x.a = true) (hn : g.n < 1048576) : Calls Try.prog 11 #[.pointer (some ⟨sb, 0, none⟩), .int .i64 (p : Int), lv] w fun e w' => e = .returned (.tuple #[.int .i64 (g.n : Int), .int .i64 0]) ∧ AddIs base Z w sb g L p (l.map AV.a) w' := by
  have KH := Lib.hid (has_walk h (p : Int))
  rw [decide_eq_true (by omega)] at KH
  have KR := Lib.hid (allRight_walk lv l w hl hll)
  rw [show (l.all fun x => rightA x.a) = true from List.all_eq_true.2 fun x hx => hr x hx] at KR
  obtain ⟨N, hN⟩ : ∃ N : Int, (g.n : Int) = N := ⟨_, rfl⟩
  have KL := Lib.hid fun w1 (b : Below w.heap.size w w1) => slen_walk (h.below b)
  have KA := Lib.hid fun w1 (b : Below w.heap.size w w1) => add_walk (h.below b) p hp' lv l (hl.sub (hp_below b)) hll hr hn
  rw [hN] at KL KA ⊢
  have HH := Lib.hid h
  obtain ⟨A, c, rfl, -⟩ := hl.row.val
  have hn' : N < 1048576 := by omega
  clear h hp' hl hr hll hn hN
  go_enter Try.func11, Try.ntmps11
  go_wp2_with (first
    | (go_at_call 28; refine KH.out.mono ?_; rintro e w1 ⟨rfl, rfl⟩)
    | (go_at_call 29; refine KR.out.mono ?_; rintro e w2 ⟨rfl, b2⟩; have HB := Lib.hid b2; clear b2)
    | (go_at_call 13; refine (KL.out _ HB.out).mono ?_; rintro e w3 ⟨rfl, rfl⟩)
    | (go_at_call 30; refine (KA.out _ HB.out).mono ?_; rintro e w4 ⟨rfl, ha⟩; have HA := Lib.hid (ha.early HB.out HH.out); clear ha))
  exact bodyPost_ret (v := .tuple #[.int .i64 N, .int .i64 0]) (by simp [results, Try.results11, go_sem]) rfl ⟨rfl, HA.out⟩
end
end Go.Proofs.Ytpkoiifidlnbeaa
/- The chapter's example. -/
namespace Go.Proofs.Ytpkoiifidlnbeaa
open Go.RowKit SmWord
set_option maxRecDepth 100000

/-- Account 1 with a balance. -/
def oneAV (n : Nat) : AV := ⟨⟨1, 0, n, [], []⟩, .slice none 0 0, .slice none 0 0⟩
theorem aN1 : aN 1 = #[Value.int .u8 0, Value.int .u8 0, Value.int .u8 0, Value.int .u8 0, Value.int .u8 0, Value.int .u8 0, Value.int .u8 0, Value.int .u8 0, Value.int .u8 0, Value.int .u8 0, Value.int .u8 0, Value.int .u8 0, Value.int .u8 0, Value.int .u8 0, Value.int .u8 0, Value.int .u8 0, Value.int .u8 0, Value.int .u8 0, Value.int .u8 0, Value.int .u8 1] := by kernel_rfl
theorem oneZ (Z : Hp) (n : Nat) (hn : n < M) : AccZ Z (oneAV n) :=
  ⟨by simp [oneAV], by simp [oneAV, B], hn, RowZ.nil Z 1, by simp [oneAV], by simp [oneAV], RowZ.nil Z 8, by simp [oneAV], by simp [oneAV]⟩
theorem one_accs {w : World} {n b : Nat} (hn : n < M) (h : w.heap[b]? = some (.cells (acs (oneAV n)).toArray 46)) : AccsZ (hp w) (.slice (some ⟨b, 0, none⟩) 1 1) [oneAV n] :=
  ⟨⟨by simp [acs_len], some ⟨b, 0, none⟩, 1, rfl, Nat.le_refl _, by simp [maxLen], fun h => by simp at h, fun _ => ⟨b, 0, rfl, by simpa using rng_block h⟩⟩, fun x hx => by
    simp at hx
    subst hx
    exact oneZ _ n hn⟩
theorem acs_one5 : (acs (oneAV 5)).toArray = #[Value.int .u8 0, Value.int .u8 0, Value.int .u8 0, Value.int .u8 0, Value.int .u8 0, Value.int .u8 0, Value.int .u8 0, Value.int .u8 0, Value.int .u8 0, Value.int .u8 0, Value.int .u8 0, Value.int .u8 0, Value.int .u8 0, Value.int .u8 0, Value.int .u8 0, Value.int .u8 0, Value.int .u8 0, Value.int .u8 0, Value.int .u8 0, Value.int .u8 1, Value.int .u64 0, Value.int .u64 5, Value.int .u64 0, Value.int .u64 0, Value.int .u64 0, Value.slice none 0 0, Value.slice none 0 0] := by kernel_rfl
theorem acs_one7 : (acs (oneAV 7)).toArray = #[Value.int .u8 0, Value.int .u8 0, Value.int .u8 0, Value.int .u8 0, Value.int .u8 0, Value.int .u8 0, Value.int .u8 0, Value.int .u8 0, Value.int .u8 0, Value.int .u8 0, Value.int .u8 0, Value.int .u8 0, Value.int .u8 0, Value.int .u8 0, Value.int .u8 0, Value.int .u8 0, Value.int .u8 0, Value.int .u8 0, Value.int .u8 0, Value.int .u8 1, Value.int .u64 0, Value.int .u64 7, Value.int .u64 0, Value.int .u64 0, Value.int .u64 0, Value.slice none 0 0, Value.slice none 0 0] := by kernel_rfl
set_option maxHeartbeats 4000000 in
theorem fixed_walk (w : World) : Calls Try.prog 9 #[] w fun e w' => e = .returned (.bool true) ∧ Below w.heap.size w w' := by
  have KN := Lib.hid (new_walk w.heap.size w (Nat.le_refl _))
  have a5 := acs_one5.symm
  have a7 := acs_one7.symm
  go_enter Try.func9, Try.ntmps9
  go_wp2_with (first
    | (go_at_call 8
       refine KN.out.mono ?_
       rintro e w1 ⟨sb, g, rfl, h1, hn1, hs1, b1⟩
       have B1 := Lib.hid b1
       have HW1 := Lib.hid h1
       have KC1 : Hid (Calls Try.prog 11 #[.pointer (some ⟨sb, 0, none⟩), .int .i64 0, .slice (some ⟨w1.heap.size, 0, none⟩) 1 1] (w1.alloc (.cells (acs (oneAV 5)).toArray 46)) fun e w' => e = .returned (.tuple #[.int .i64 1, .int .i64 0]) ∧ AddIs w.heap.size (fun _ => none) (w1.alloc (.cells (acs (oneAV 5)).toArray 46)) sb g (fun _ => []) 0 [(oneAV 5).a] w') := Lib.hid (by
         have := commit_ok (w := w1.alloc (.cells (acs (oneAV 5)).toArray 46)) (h1.below ((Below.refl _ _).alloc (Nat.le_refl _) _)) 0 (.slice (some ⟨w1.heap.size, 0, none⟩) 1 1) [oneAV 5] (by omega) (one_accs (by decide) (heap_alloc_new _ _)) (by simp) (fun x hx => by simp at hx; subst hx; rfl) (by omega)
         rw [hn1] at this
         exact this)
       have HN1 := Lib.hid hn1
       have B1' := Lib.hid ((Below.refl w1.heap.size w1).alloc (Nat.le_refl _) (.cells (acs (oneAV 5)).toArray 46))
       clear h1 b1 hn1 hs1)
    | (go_at_call 11
       refine KC1.out.mono ?_
       rintro e w2 ⟨rfl, Z2, g2, h2, hn2, hp2, -, -, -, -, b2⟩
       rw [HN1.out] at hn2 h2
       have B2 : Hid (Below w.heap.size w w2) := Lib.hid ((B1.out.trans (B1'.out.mono B1.out.size)).trans b2)
       have KC2 : Hid (Calls Try.prog 11 #[.pointer (some ⟨sb, 0, none⟩), .int .i64 0, .slice (some ⟨w2.heap.size, 0, none⟩) 1 1] (w2.alloc (.cells (acs (oneAV 7)).toArray 46)) fun e w' => e = .returned (.tuple #[.int .i64 2, .int .i64 0]) ∧ AddIs w.heap.size Z2 (w2.alloc (.cells (acs (oneAV 7)).toArray 46)) sb g2 (fun v => if v = 1 then putAll ((fun _ => []) 0) [(oneAV 5).a] else (fun _ => []) v) 0 [(oneAV 7).a] w') := Lib.hid (by
         have := commit_ok (w := w2.alloc (.cells (acs (oneAV 7)).toArray 46)) (h2.below ((Below.refl _ _).alloc (Nat.le_refl _) _)) 0 (.slice (some ⟨w2.heap.size, 0, none⟩) 1 1) [oneAV 7] (by omega) (one_accs (by decide) (heap_alloc_new _ _)) (by simp) (fun x hx => by simp at hx; subst hx; rfl) (by omega)
         rw [hn2] at this
         exact this)
       have HN2 := Lib.hid hn2
       have B2' := Lib.hid ((Below.refl w2.heap.size w2).alloc (Nat.le_refl _) (.cells (acs (oneAV 7)).toArray 46))
       clear h2 b2 hn2 hp2 KC1)
    | (go_at_call 11
       refine KC2.out.mono ?_
       rintro e w3 ⟨rfl, Z3, g3, h3, hn3, hp3, -, -, -, -, b3⟩
       rw [HN2.out] at hn3 h3
       have B3 : Hid (Below w.heap.size w w3) := Lib.hid ((B2.out.trans (B2'.out.mono B2.out.size)).trans b3)
       have H3 := Lib.hid h3
       have HN3 := Lib.hid hn3
       have KF1 : Hid (Calls Try.prog 14 #[.pointer (some ⟨sb, 0, none⟩), .int .i64 1, .agg #[Value.int .u8 0, Value.int .u8 0, Value.int .u8 0, Value.int .u8 0, Value.int .u8 0, Value.int .u8 0, Value.int .u8 0, Value.int .u8 0, Value.int .u8 0, Value.int .u8 0, Value.int .u8 0, Value.int .u8 0, Value.int .u8 0, Value.int .u8 0, Value.int .u8 0, Value.int .u8 0, Value.int .u8 0, Value.int .u8 0, Value.int .u8 0, Value.int .u8 1]] w3 (FindIs w3 (some (oneAV 5).a))) := Lib.hid (by
         have := sfind_walk h3 1 1 (by omega) (by decide)
         rw [aN1] at this
         exact this)
       clear h3 b3 hn3 hp3 KC2)
    | (refine wpList_alloc_row rfl 46 rfl _ zeroAcc ?_)
    | (go_at_call 14
       refine KF1.out.mono ?_
       rintro e w4 ⟨x4, rfl, hx4, hz4, b4⟩
       have sn4 := fun w => store_newA w x4 hz4.ones
       obtain ⟨W4, hW4⟩ : ∃ W4, w4.alloc (.cells (acs x4).toArray 46) = W4 := ⟨_, rfl⟩
       have f4 : W4.heap[w4.heap.size]? = some (.cells (acs x4).toArray 46) := hW4 ▸ heap_alloc_new _ _
       have B4' : Hid (Below w4.heap.size w4 W4) := Lib.hid (hW4 ▸ (Below.refl _ _).alloc (Nat.le_refl _) _)
       have B4 : Hid (Below w.heap.size w W4) := Lib.hid ((B3.out.trans (b4.mono B3.out.size)).trans (B4'.out.mono (Nat.le_trans B3.out.size b4.size)))
       have H4 := Lib.hid ((H3.out.below b4).below B4'.out)
       have F4 := Lib.hid f4
       have E4 := Lib.hid hx4
       have KF2 : Hid (Calls Try.prog 14 #[.pointer (some ⟨sb, 0, none⟩), .int .i64 2, .agg #[Value.int .u8 0, Value.int .u8 0, Value.int .u8 0, Value.int .u8 0, Value.int .u8 0, Value.int .u8 0, Value.int .u8 0, Value.int .u8 0, Value.int .u8 0, Value.int .u8 0, Value.int .u8 0, Value.int .u8 0, Value.int .u8 0, Value.int .u8 0, Value.int .u8 0, Value.int .u8 0, Value.int .u8 0, Value.int .u8 0, Value.int .u8 0, Value.int .u8 1]] W4 (FindIs W4 (some (oneAV 7).a))) := Lib.hid (by
         have := sfind_walk H4.out 2 1 (by have := HN3.out; omega) (by decide)
         rw [aN1] at this
         exact this)
       unfold aval
       clear b4 f4 hx4 hz4 KF1)
    | (go_at_call 14
       refine KF2.out.mono ?_
       rintro e w5 ⟨x5, rfl, hx5, hz5, b5⟩
       have sn5 := fun w => store_newA w x5 hz5.ones
       obtain ⟨W5, hW5⟩ : ∃ W5, w5.alloc (.cells (acs x5).toArray 46) = W5 := ⟨_, rfl⟩
       have f5 : W5.heap[w5.heap.size]? = some (.cells (acs x5).toArray 46) := hW5 ▸ heap_alloc_new _ _
       have B5' : Hid (Below w5.heap.size w5 W5) := Lib.hid (hW5 ▸ (Below.refl _ _).alloc (Nat.le_refl _) _)
       have B5 : Hid (Below w.heap.size w W5) := Lib.hid ((B4.out.trans (b5.mono B4.out.size)).trans (B5'.out.mono (Nat.le_trans B4.out.size b5.size)))
       have H5 := Lib.hid ((H4.out.below b5).below B5'.out)
       have F5 := Lib.hid f5
       have E5 := Lib.hid hx5
       have F45 := Lib.hid (stay B5'.out (stay b5 F4.out))
       have KF3 : Hid (Calls Try.prog 14 #[.pointer (some ⟨sb, 0, none⟩), .int .i64 0, .agg #[Value.int .u8 0, Value.int .u8 0, Value.int .u8 0, Value.int .u8 0, Value.int .u8 0, Value.int .u8 0, Value.int .u8 0, Value.int .u8 0, Value.int .u8 0, Value.int .u8 0, Value.int .u8 0, Value.int .u8 0, Value.int .u8 0, Value.int .u8 0, Value.int .u8 0, Value.int .u8 0, Value.int .u8 0, Value.int .u8 0, Value.int .u8 0, Value.int .u8 1]] W5 (FindIs W5 none)) := Lib.hid (by
         have := sfind_walk H5.out 0 1 (by have := HN3.out; omega) (by decide)
         rw [aN1] at this
         exact this)
       unfold aval
       clear b5 f5 hx5 hz5 KF2)
    | (go_at_call 14
       refine KF3.out.mono ?_
       rintro e w6 ⟨x6, rfl, hx6, hz6, b6⟩
       have sn6 := fun w => store_newA w x6 hz6.ones
       obtain ⟨W6, hW6⟩ : ∃ W6, w6.alloc (.cells (acs x6).toArray 46) = W6 := ⟨_, rfl⟩
       have B6' : Hid (Below w6.heap.size w6 W6) := Lib.hid (hW6 ▸ (Below.refl _ _).alloc (Nat.le_refl _) _)
       have B6 : Hid (Below w.heap.size w W6) := Lib.hid ((B5.out.trans (b6.mono B5.out.size)).trans (B6'.out.mono (Nat.le_trans B5.out.size b6.size)))
       obtain ⟨-, p4, -, -, -⟩ := boxcells (stay B6'.out (stay b6 F45.out))
       obtain ⟨-, p5, -, -, -⟩ := boxcells (stay B6'.out (stay b6 F5.out))
       obtain ⟨r0, r1, r2, r3⟩ := wcellsAt p4
       obtain ⟨s0, s1, s2, s3⟩ := wcellsAt p5
       simp only [Nat.reduceAdd] at r1 r2 r3 s1 s2 s3
       rw [E4.out] at r0 r1 r2 r3
       rw [E5.out] at s0 s1 s2 s3
       replace r0 : W6.cell? ⟨w4.heap.size, 21, none⟩ = some (.int .u64 5) := r0
       replace r1 : W6.cell? ⟨w4.heap.size, 22, none⟩ = some (.int .u64 0) := r1
       replace r2 : W6.cell? ⟨w4.heap.size, 23, none⟩ = some (.int .u64 0) := r2
       replace r3 : W6.cell? ⟨w4.heap.size, 24, none⟩ = some (.int .u64 0) := r3
       replace s0 : W6.cell? ⟨w5.heap.size, 21, none⟩ = some (.int .u64 7) := s0
       replace s1 : W6.cell? ⟨w5.heap.size, 22, none⟩ = some (.int .u64 0) := s1
       replace s2 : W6.cell? ⟨w5.heap.size, 23, none⟩ = some (.int .u64 0) := s2
       replace s3 : W6.cell? ⟨w5.heap.size, 24, none⟩ = some (.int .u64 0) := s3
       have q5 : ∀ w : World, (Op.equalIn 10000 27 (.agg #[.int .u64 5, .int .u64 0, .int .u64 0, .int .u64 0]) (.agg #[.int .u64 5, .int .u64 0, .int .u64 0, .int .u64 0])).run Try.prog w = .ok true w := fun w => equal_wa 5 5 w
       have q7 : ∀ w : World, (Op.equalIn 10000 27 (.agg #[.int .u64 7, .int .u64 0, .int .u64 0, .int .u64 0]) (.agg #[.int .u64 7, .int .u64 0, .int .u64 0, .int .u64 0])).run Try.prog w = .ok true w := fun w => equal_wa 7 7 w
       have eg := Try.guardW
       unfold aval
       clear b6 hx6 hz6 KF3 p4 p5))
  go_ret
  exact ⟨rfl, B6.out⟩
end Go.Proofs.Ytpkoiifidlnbeaa
/- The statements' arguments: accounts and rows of commits, as they read. -/
namespace Go.Proofs.Ytpkoiifidlnbeaa
open Go.ChangeShapes Go.WideShapes Go.ChangeAt Go.RowKit SmWord
set_option maxRecDepth 100000

theorem num_of : ∀ (n : Nat) (f : Nat → Nat), (∀ i, i < n → f i < 256) → ∃ A, A < 256 ^ n ∧ ∀ i, i < n → A / 256 ^ (n - 1 - i) % 256 = f i
  | 0, _, _ => ⟨0, by decide, fun _ h => absurd h (by omega)⟩
  | n + 1, f, hf => by
    obtain ⟨A, hA, h⟩ := num_of n f fun i hi => hf i (by omega)
    have hn := hf n (by omega)
    refine ⟨A * 256 + f n, by rw [Nat.pow_succ]; omega, fun i hi => ?_⟩
    by_cases e : i = n
    · subst e
      simp
      omega
    · have hi' : i < n := by omega
      rw [show n + 1 - 1 - i = (n - 1 - i) + 1 by omega, Nat.pow_succ, Nat.mul_comm (256 ^ (n - 1 - i)) 256, ← Nat.div_div_eq_div_mul, show (A * 256 + f n) / 256 = A by omega]
      exact h i hi'

section
variable {H : Type} {enc : TypeId × Value → H} {W : World} {base : Nat} {v : Value} {d : DataW H} {p : List MemPlace}
/-- A slice whose elements read one by one. -/
theorem open_rows {t e : TypeId} {k : Nat} {α : Type} (x0 : α) (f : α → List Value) (good : α → Prop) (ht : Try.prog.underlying t = some (.slice e)) (hk : Try.prog.cellsOf e = k) (hk0 : 0 < k) (hf : ∀ x, (f x).length = k)
    (one : ∀ (fuel : Nat) (cs : List Value) (y : DataW H × List MemPlace), cs.length = k → DataW.trod enc Try.prog W 0 (fun _ => true) true fuel e cs = some y → ∃ x, cs = f x ∧ good x)
    {fuel : Nat} {y : DataW H × List MemPlace} (h : DataW.trod enc Try.prog W 0 (fun _ => true) true fuel t [v] = some y) : ∃ l : List α, RowZ (hp W) v l.length k (l.flatMap f) ∧ ∀ x ∈ l, good x := by
  rcases Go.Deep.open_slice ht h with ⟨hcs, _⟩ | ⟨a, len, cap, m, n, D, Pl, hcs, _, hl, hm, hmm, _, hel⟩
  · simp at hcs
    subst hcs
    exact ⟨[], RowZ.nil _ _, fun x hx => by simp at hx⟩
  · simp at hcs
    subst hcs
    simp only [if_true] at hmm
    subst hmm
    rw [hk] at hel
    obtain ⟨b0, s0, spot⟩ := a
    have hsp : 0 < m → spot = none ∧ b0 < W.heap.size := fun h => by
      obtain ⟨cs', hc, _⟩ := hel 0 (by omega)
      obtain ⟨_, hlen, hat⟩ := World.cells?_some hc
      have a0 := hat 0 (by omega)
      rw [List.getElem?_eq_getElem (by omega)] at a0
      exact ⟨by simpa [Addr.add] using World.cell?_spot a0, by simpa [Addr.add] using World.block_lt_of_cell? W _ a0⟩
    have each : ∀ i, ∃ x : α, i < len → good x ∧ ∀ j u, (f x)[j]? = some u → W.cell? ⟨b0, s0 + i * k + j, none⟩ = some u := fun i => by
      by_cases hi : i < len
      · obtain ⟨rfl, _⟩ := hsp (by omega)
        obtain ⟨cs', hc, ht'⟩ := hel i (by omega)
        obtain ⟨_, hlen, hat⟩ := World.cells?_some hc
        obtain ⟨x, e, hx⟩ := one _ cs' _ (by omega) ht'
        refine ⟨x, fun _ => ⟨hx, fun j u hu => ?_⟩⟩
        have hj : j < k := by have := (List.getElem?_eq_some_iff.1 hu).1; rwa [hf] at this
        have a1 := hat j (by omega)
        rw [Addr.add_lit, Addr.add_lit, e, hu] at a1
        exact a1
      · exact ⟨x0, fun h => absurd h hi⟩
    refine ⟨(List.range len).map fun i => Classical.choose (each i), ?_, fun x hx => ?_⟩
    · have hlen : ((List.range len).map fun i => Classical.choose (each i)).length = len := by simp
      refine ⟨?_, ?_⟩
      · rw [flat_len _ (fun x _ => hf x)]
      · rw [hlen]
        refine ⟨_, _, rfl, hl, hm, fun h => (by cases h), fun hn => ?_⟩
        obtain ⟨rfl, hb⟩ := hsp (by omega)
        obtain ⟨C, t', fr', hC⟩ : ∃ C t' fr', W.heap[b0]? = some (.cells C t' fr') := by
          obtain ⟨u, hu⟩ : ∃ u, (f (Classical.choose (each 0)))[0]? = some u := ⟨(f (Classical.choose (each 0)))[0]'(by rw [hf]; exact hk0), by simp⟩
          have h0 := (Classical.choose_spec (each 0) hn).2 0 u hu
          unfold World.cell? at h0
          simp only at h0
          split at h0
          · rename_i c t' fr' he
            exact ⟨c, t', fr', he⟩
          · cases h0
        refine ⟨b0, s0, rfl, C, t', fr', hC, fun j u hj => ?_⟩
        have hjl : j < len * k := by
          have := (List.getElem?_eq_some_iff.1 hj).1
          rwa [flat_len _ (fun x _ => hf x), hlen] at this
        have hi : j / k < len := Nat.div_lt_of_lt_mul (by rw [Nat.mul_comm]; exact hjl)
        have hr : j % k < k := Nat.mod_lt _ hk0
        obtain ⟨u', hu'⟩ : ∃ u', (f (Classical.choose (each (j / k))))[j % k]? = some u' := ⟨(f (Classical.choose (each (j / k))))[j % k]'(by rw [hf]; exact hr), by simp⟩
        have h1 := flat_get (f := f) ((List.range len).map fun i => Classical.choose (each i)) (fun x _ => hf x) (j / k) (Classical.choose (each (j / k))) (by simp [hi]) (j % k) u' hu'
        rw [Nat.div_add_mod' j k] at h1
        rw [h1] at hj
        cases hj
        have h2 := (Classical.choose_spec (each (j / k)) hi).2 _ _ hu'
        rw [Nat.add_assoc, Nat.div_add_mod' j k, cell_of_row W b0 _ C t' fr' hC] at h2
        exact h2
    · obtain ⟨i, hi, rfl⟩ := List.mem_map.1 hx
      exact (Classical.choose_spec (each i) (List.mem_range.1 hi)).1
theorem mod_M (n : Nat) : n % M < M := Nat.mod_lt _ (by decide)
theorem wa_mod (n : Nat) : wa (n % M) = wa n := wa_congr (Nat.mod_mod _ _)
theorem open_w4 {fuel : Nat} {cs : List Value} {y : DataW H × List MemPlace} (hl : cs.length = 4) (hf : DataW.trod enc Try.prog W 0 (fun _ => true) true fuel 27 cs = some y) : ∃ z : Nat, cs = (wa z).toList ∧ z < M := by
  match cs, hl with
  | [c0, c1, c2, c3], _ =>
    obtain ⟨y0, y1, y2, y3, m, hx, hy0, hy1, hy2, hy3⟩ := trod_array4 Try.underlying27 Try.cells25 hf
    obtain ⟨x0, e0, _, w0⟩ := DataW.trod_int Try.underlying25 hy0
    obtain ⟨x1, e1, _, w1⟩ := DataW.trod_int Try.underlying25 hy1
    obtain ⟨x2, e2, _, w2⟩ := DataW.trod_int Try.underlying25 hy2
    obtain ⟨x3, e3, _, w3⟩ := DataW.trod_int Try.underlying25 hy3
    simp at e0 e1 e2 e3
    subst e0 e1 e2 e3
    obtain ⟨n0, rfl, b0⟩ := wf_u64 w0
    obtain ⟨n1, rfl, b1⟩ := wf_u64 w1
    obtain ⟨n2, rfl, b2⟩ := wf_u64 w2
    obtain ⟨n3, rfl, b3⟩ := wf_u64 w3
    have e := wd_num b0 b1 b2 b3
    refine ⟨num n0 n1 n2 n3 % M, ?_, mod_M _⟩
    rw [wa_mod]
    have e' : wa (num n0 n1 n2 n3) = #[.int .u64 (n0 : Int), .int .u64 (n1 : Int), .int .u64 (n2 : Int), .int .u64 (n3 : Int)] := by simpa [wd] using e
    rw [e']
theorem open_wd (hv : Value.okWide Try.prog W .any base 27 v) (h : DataW.Trod enc Try.prog W 0 (fun _ => true) true 27 v d p) : ∃ z : Nat, v = wd z ∧ z < M := by
  obtain ⟨n, rfl, _, _⟩ := open_word hv h
  exact ⟨n % M, by rw [wd, wd, wa_mod], mod_M n⟩
/-- Twenty bytes. -/
theorem open_a20 {fuel : Nat} {cs : List Value} {y : DataW H × List MemPlace} (hl : cs.length = 20) (hf : DataW.trod enc Try.prog W 0 (fun _ => true) true fuel 24 cs = some y) : ∃ A : Nat, cs = (aN A).toList ∧ A < 2 ^ 160 := by
  obtain ⟨xs, m, _, _, _, hxl, hel⟩ := DataW.trod_array Try.underlying24 hf
  have hi : ∀ i, ∃ n : Nat, i < 20 → n < 256 ∧ cs[i]? = some (.int .u8 (n : Int)) := fun i => by
    by_cases hi : i < 20
    · have h1 := hel i hi
      rw [cells8, Nat.mul_one] at h1
      have hlt : i < cs.length := by omega
      have e : (cs.drop i).take 1 = [cs[i]] := by rw [List.drop_eq_getElem_cons hlt]; rfl
      rw [e, List.getElem?_eq_getElem (by omega)] at h1
      obtain ⟨n, e1, _, wf⟩ := DataW.trod_int Try.underlying5 h1
      have hb : 0 ≤ n ∧ n ≤ 255 := by simpa [Lit.wf, IntKind.min, IntKind.max, IntKind.signed, IntKind.bits] using wf
      refine ⟨n.toNat, fun _ => ⟨by omega, ?_⟩⟩
      rw [List.getElem?_eq_getElem hlt]
      simp only [List.cons.injEq, and_true] at e1
      rw [e1, Int.toNat_of_nonneg hb.1]
    · exact ⟨0, fun h => absurd h hi⟩
  obtain ⟨A, hA, hd⟩ := num_of 20 (fun i => Classical.choose (hi i)) fun i h => (Classical.choose_spec (hi i) h).1
  refine ⟨A, ?_, by simpa using hA⟩
  apply List.ext_getElem?
  intro i
  by_cases h : i < 20
  · rw [(Classical.choose_spec (hi i) h).2, ← hd i h]
    have := arr_get .u8 (n := 20) (fun i => ((ab A i : Nat) : Int)) h
    rw [Array.getElem?_toList]
    exact this.symm
  · rw [List.getElem?_eq_none (by omega), List.getElem?_eq_none (by simp [aN_size]; omega)]
theorem open_addr (hv : Value.okWide Try.prog W .any base 24 v) (h : DataW.Trod enc Try.prog W 0 (fun _ => true) true 24 v d p) : ∃ A : Nat, v = .agg (aN A) ∧ A < 2 ^ 160 := by
  obtain ⟨cs, rfl, hsz, _⟩ : ∃ cs, v = .agg cs ∧ cs.size = Try.prog.cellsOf 24 ∧ Row.okWide Try.prog W .any base 24 cs := by
    simpa [Value.okWide, Try.underlying24] using hv
  rw [cellsA] at hsz
  obtain ⟨fuel, hf⟩ := h
  obtain ⟨A, e, hA⟩ := open_a20 (by simpa [Value.cells] using hsz) hf
  exact ⟨A, by rw [show cs = aN A from Array.ext' e], hA⟩
/-- An account, however great. -/
structure AccB (Z : Hp) (x : AV) : Prop where
  ad : x.a.ad < 2 ^ 160
  no : x.a.no < B
  ba : x.a.ba < M
  cod : RowZ Z x.p x.a.co.length 1 (x.a.co.map u8v)
  c8 : ∀ c ∈ x.a.co, c < 256
  sto : RowZ Z x.q x.a.so.length 8 (x.a.so.flatMap scs)
  sM : ∀ s ∈ x.a.so, s.1 < M ∧ s.2 < M
theorem AccB.sub {Z Z' : Hp} {x : AV} (h : AccB Z x) (hs : Sub Z Z') : AccB Z' x := { h with cod := h.cod.sub hs, sto := h.sto.sub hs }
theorem AccB.small {Z : Hp} {x : AV} (h : AccB Z x) (h1 : x.a.co.length ≤ 1000000) (h2 : x.a.so.length ≤ 1000000) : AccZ Z x := ⟨h.ad, h.no, h.ba, h.cod, h.c8, h1, h.sto, h.sM, h2⟩
theorem cellsS : Try.prog.cellsOf 82 = 8 := by kernel_rfl
theorem cellsW4 : Try.prog.cellsOf 27 = 4 := by kernel_rfl
theorem cellsAcc : Try.prog.cellsOf 46 = 27 := by kernel_rfl
theorem cellsU64 : Try.prog.cellsOf 25 = 1 := by kernel_rfl
theorem cellsSl8 : Try.prog.cellsOf 43 = 1 := by kernel_rfl
theorem cellsSlS : Try.prog.cellsOf 44 = 1 := by kernel_rfl
theorem flat_one {α : Type} (f : α → Value) : ∀ l : List α, l.flatMap (fun x => [f x]) = l.map f
  | [] => rfl
  | x :: l => by rw [List.flatMap_cons, flat_one f l]; rfl
theorem open_code {fuel : Nat} {y : DataW H × List MemPlace} (h : DataW.trod enc Try.prog W 0 (fun _ => true) true fuel 43 [v] = some y) : ∃ l : List Nat, RowZ (hp W) v l.length 1 (l.map u8v) ∧ ∀ c ∈ l, c < 256 := by
  obtain ⟨l, h1, h2⟩ := open_rows (v := v) (0 : Nat) (fun n => [u8v n]) (fun n => n < 256) Try.underlying43 cells8 (by decide) (fun _ => rfl) (fun fuel cs y hl hf => by
    match cs, hl with
    | [c], _ =>
      obtain ⟨n, e1, _, wf⟩ := DataW.trod_int Try.underlying5 hf
      have hb : 0 ≤ n ∧ n ≤ 255 := by simpa [Lit.wf, IntKind.min, IntKind.max, IntKind.signed, IntKind.bits] using wf
      refine ⟨n.toNat, ?_, by omega⟩
      rw [e1]
      unfold u8v
      rw [Int.toNat_of_nonneg hb.1]) h
  rw [flat_one] at h1
  exact ⟨l, h1, h2⟩
theorem open_slot {fuel : Nat} {cs : List Value} {y : DataW H × List MemPlace} (hl : cs.length = 8) (hf : DataW.trod enc Try.prog W 0 (fun _ => true) true fuel 82 cs = some y) : ∃ s : Nat × Nat, cs = scs s ∧ s.1 < M ∧ s.2 < M := by
  obtain ⟨ys, n', _, _, hlen, hys, hg⟩ := DataW.trod_struct Try.underlying82 hf
  have hys2 : ys.length = 2 := hys
  have g0 : DataW.trod enc Try.prog W 0 (fun _ => true) true n' 27 ((cs.drop 0).take (Try.prog.cellsOf 27)) = ys[0]? := hg 0 _ rfl
  have g1 : DataW.trod enc Try.prog W 0 (fun _ => true) true n' 27 ((cs.drop 4).take (Try.prog.cellsOf 27)) = ys[1]? := hg 1 _ rfl
  rw [cellsW4] at g0 g1
  rw [List.getElem?_eq_getElem (by omega)] at g0 g1
  obtain ⟨a, ea, ha⟩ := open_w4 (by simp; omega) g0
  obtain ⟨b, eb, hb⟩ := open_w4 (by simp; omega) g1
  refine ⟨(a, b), ?_, ha, hb⟩
  unfold scs
  rw [← ea, ← eb, List.drop_zero, List.take_of_length_le (l := cs.drop 4) (by simp; omega), List.take_append_drop]
theorem open_slots {fuel : Nat} {y : DataW H × List MemPlace} (h : DataW.trod enc Try.prog W 0 (fun _ => true) true fuel 44 [v] = some y) : ∃ l : List (Nat × Nat), RowZ (hp W) v l.length 8 (l.flatMap scs) ∧ ∀ s ∈ l, s.1 < M ∧ s.2 < M :=
  open_rows (v := v) (0, 0) scs (fun s => s.1 < M ∧ s.2 < M) Try.underlying44 cellsS (by decide) scs_len (fun fuel cs y hl hf => open_slot hl hf) h
theorem open_acc27 {fuel : Nat} {cs : List Value} {y : DataW H × List MemPlace} (hl : cs.length = 27) (hf : DataW.trod enc Try.prog W 0 (fun _ => true) true fuel 46 cs = some y) : ∃ x : AV, cs = acs x ∧ AccB (hp W) x := by
  obtain ⟨ys, n', _, _, hlen, hys, hg⟩ := DataW.trod_struct Try.underlying46 hf
  have hys5 : ys.length = 5 := hys
  have g0 : DataW.trod enc Try.prog W 0 (fun _ => true) true n' 24 ((cs.drop 0).take (Try.prog.cellsOf 24)) = ys[0]? := hg 0 _ rfl
  have g1 : DataW.trod enc Try.prog W 0 (fun _ => true) true n' 25 ((cs.drop 20).take (Try.prog.cellsOf 25)) = ys[1]? := hg 1 _ rfl
  have g2 : DataW.trod enc Try.prog W 0 (fun _ => true) true n' 27 ((cs.drop 21).take (Try.prog.cellsOf 27)) = ys[2]? := hg 2 _ rfl
  have g3 : DataW.trod enc Try.prog W 0 (fun _ => true) true n' 43 ((cs.drop 25).take (Try.prog.cellsOf 43)) = ys[3]? := hg 3 _ rfl
  have g4 : DataW.trod enc Try.prog W 0 (fun _ => true) true n' 44 ((cs.drop 26).take (Try.prog.cellsOf 44)) = ys[4]? := hg 4 _ rfl
  rw [cellsA] at g0
  rw [cellsU64] at g1
  rw [cellsW4] at g2
  rw [cellsSl8] at g3
  rw [cellsSlS] at g4
  rw [List.getElem?_eq_getElem (by omega)] at g0 g1 g2 g3 g4
  have d1 : ∀ i, (hi : i < 27) → (cs.drop i).take 1 = [cs[i]] := fun i hi => by rw [List.drop_eq_getElem_cons (by omega)]; rfl
  rw [d1 20 (by omega)] at g1
  rw [d1 25 (by omega)] at g3
  rw [d1 26 (by omega)] at g4
  obtain ⟨A, eA, hA⟩ := open_a20 (by simp; omega) g0
  obtain ⟨n, en, _, wn⟩ := DataW.trod_int Try.underlying25 g1
  obtain ⟨n0, rfl, bn⟩ := wf_u64 wn
  obtain ⟨b, eb, hb⟩ := open_w4 (by simp; omega) g2
  obtain ⟨co, h3, h3'⟩ := open_code g3
  obtain ⟨so, h4, h4'⟩ := open_slots g4
  refine ⟨⟨⟨A, n0, b, co, so⟩, cs[25], cs[26]⟩, ?_, ⟨hA, bn, hb, h3, h3', h4, h4'⟩⟩
  unfold acs
  simp only
  rw [← eA, ← eb]
  have en' : cs[20] = .int .u64 (n0 : Int) := by simpa using en
  rw [← en', List.drop_zero]
  have p1 : cs = cs.take 20 ++ cs.drop 20 := (List.take_append_drop 20 cs).symm
  have p2 : cs.drop 20 = cs[20] :: cs.drop 21 := List.drop_eq_getElem_cons (by omega)
  have p3 : cs.drop 21 = (cs.drop 21).take 4 ++ cs.drop 25 := by
    have := (List.take_append_drop 4 (cs.drop 21)).symm
    rwa [List.drop_drop] at this
  have p4 : cs.drop 25 = [cs[25], cs[26]] := by
    rw [List.drop_eq_getElem_cons (by omega), List.drop_eq_getElem_cons (by omega), List.drop_eq_nil_of_le (by omega)]
  rw [← p4, ← p3, ← p2, ← p1]
theorem open_acc (hv : Value.okWide Try.prog W .any base 46 v) (h : DataW.Trod enc Try.prog W 0 (fun _ => true) true 46 v d p) : ∃ x : AV, v = aval x ∧ AccB (hp W) x := by
  obtain ⟨cs, rfl, hsz, _⟩ : ∃ cs, v = .agg cs ∧ cs.size = Try.prog.cellsOf 46 ∧ Row.okWide Try.prog W .any base 46 cs := by
    simpa [Value.okWide, Try.underlying46] using hv
  rw [cellsAcc] at hsz
  obtain ⟨fuel, hf⟩ := h
  obtain ⟨x, e, hx⟩ := open_acc27 (by simpa [Value.cells] using hsz) hf
  exact ⟨x, by unfold aval; rw [← e]; simp [Value.cells], hx⟩
end
end Go.Proofs.Ytpkoiifidlnbeaa
/- Rows of accounts and of commits, as they read; what is too great to be gone through. -/
namespace Go.Proofs.Ytpkoiifidlnbeaa
open Go.ChangeShapes Go.WideShapes Go.ChangeAt Go.RowKit SmWord
set_option maxRecDepth 100000

/-- A row of accounts, however great. -/
structure AccsB (Z : Hp) (v : Value) (l : List AV) : Prop where
  row : RowZ Z v l.length 27 (l.flatMap acs)
  each : ∀ x ∈ l, AccB Z x
theorem AccsB.sub {Z Z' : Hp} {v : Value} {l : List AV} (h : AccsB Z v l) (hs : Sub Z Z') : AccsB Z' v l := ⟨h.row.sub hs, fun x hx => (h.each x hx).sub hs⟩
/-- A commit. -/
structure CO where
  par : Int
  v : Value
  l : List AV
instance : Inhabited CO := ⟨⟨0, .slice none 0 0, []⟩⟩
def ocs (o : CO) : List Value := [.int .i64 o.par, o.v]
def OpB (Z : Hp) (o : CO) : Prop := AccsB Z o.v o.l
theorem cellsOp2 : Try.prog.cellsOf 36 = 2 := by kernel_rfl
theorem cellsI1 : Try.prog.cellsOf 3 = 1 := by kernel_rfl
theorem cellsSlA : Try.prog.cellsOf 30 = 1 := by kernel_rfl
section
variable {H : Type} {enc : TypeId × Value → H} {W : World} {base : Nat} {v : Value} {d : DataW H} {p : List MemPlace}
theorem open_accs {fuel : Nat} {y : DataW H × List MemPlace} (h : DataW.trod enc Try.prog W 0 (fun _ => true) true fuel 30 [v] = some y) : ∃ l : List AV, AccsB (hp W) v l := by
  obtain ⟨l, h1, h2⟩ := open_rows (v := v) default acs (AccB (hp W)) Try.underlying30 cellsAcc (by decide) acs_len (fun fuel cs y hl hf => open_acc27 hl hf) h
  exact ⟨l, h1, h2⟩
theorem open_op2 {fuel : Nat} {cs : List Value} {y : DataW H × List MemPlace} (hl : cs.length = 2) (hf : DataW.trod enc Try.prog W 0 (fun _ => true) true fuel 36 cs = some y) : ∃ o : CO, cs = ocs o ∧ OpB (hp W) o := by
  obtain ⟨ys, n', _, _, hlen, hys, hg⟩ := DataW.trod_struct Try.underlying36 hf
  have hys2 : ys.length = 2 := hys
  match cs, hl with
  | [c0, c1], _ =>
    have g0 : DataW.trod enc Try.prog W 0 (fun _ => true) true n' 3 (([c0, c1].drop 0).take (Try.prog.cellsOf 3)) = ys[0]? := hg 0 _ rfl
    have g1 : DataW.trod enc Try.prog W 0 (fun _ => true) true n' 30 (([c0, c1].drop 1).take (Try.prog.cellsOf 30)) = ys[1]? := hg 1 _ rfl
    rw [cellsI1] at g0
    rw [cellsSlA] at g1
    rw [List.getElem?_eq_getElem (by omega)] at g0 g1
    obtain ⟨z, e0, _, _⟩ := DataW.trod_int Try.underlying3 g0
    obtain ⟨l, hl⟩ := open_accs g1
    simp at e0
    subst e0
    exact ⟨⟨z, c1, l⟩, rfl, hl⟩
theorem open_op (hv : Value.okWide Try.prog W .any base 36 v) (h : DataW.Trod enc Try.prog W 0 (fun _ => true) true 36 v d p) : ∃ o : CO, v = .agg (ocs o).toArray ∧ OpB (hp W) o := by
  obtain ⟨cs, rfl, hsz, _⟩ : ∃ cs, v = .agg cs ∧ cs.size = Try.prog.cellsOf 36 ∧ Row.okWide Try.prog W .any base 36 cs := by
    simpa [Value.okWide, Try.underlying36] using hv
  rw [cellsOp2] at hsz
  obtain ⟨fuel, hf⟩ := h
  obtain ⟨x, e, hx⟩ := open_op2 (by simpa [Value.cells] using hsz) hf
  exact ⟨x, by rw [← e]; simp [Value.cells], hx⟩
theorem open_ops (hv : Value.okWide Try.prog W .any base 22 v) (h : DataW.Trod enc Try.prog W 0 (fun _ => true) true 22 v d p) : ∃ l : List CO, RowZ (hp W) v l.length 2 (l.flatMap ocs) ∧ ∀ o ∈ l, OpB (hp W) o := by
  obtain ⟨a0, len0, cap0, rfl⟩ := okWide_slice Try.underlying22 hv
  obtain ⟨fuel, hf⟩ := h
  exact open_rows default ocs (OpB (hp W)) Try.underlying22 cellsOp2 (by decide) (fun _ => rfl) (fun fuel cs y hl hf => open_op2 hl hf) hf
end
/-- More than is gone through. -/
def greatA (a : Acc) : Bool := decide (3000 < a.co.length) || decide (100 < a.so.length)
def greatL (l : List AV) : Bool := decide (50 < l.length) || l.any fun x => greatA x.a
set_option maxHeartbeats 1000000 in
theorem great_walk (v : Value) (l : List AV) (w : World) (h : AccsB (hp w) v l) : Calls Try.prog 23 #[v] w fun e w' => e = .returned (.bool (greatL l)) ∧ w = w' := by
  obtain ⟨A, c, rfl, hn, hc, hA, hcells⟩ := h.row.one (fun x _ => acs_len x)
  have HX := Lib.hid h.each
  generalize hN : l.length = n at *
  have HN := Lib.hid hN
  have HC : Hid (0 < n → ∃ b off, A = some ⟨b, off, none⟩ ∧ ∀ i x, l[i]? = some x → rng (hp w) b (off + i * 27) (acs x)) := Lib.hid fun hn => by
    obtain ⟨b, off, e, _, hi⟩ := hcells hn
    exact ⟨b, off, e, hi⟩
  clear hcells h
  by_cases h50 : 50 < n
  · have : greatL l = true := by unfold greatL; rw [hN]; simp [h50]
    rw [this]
    clear hN this
    go_enter Try.func23, Try.ntmps23
    go_wp2_with fail
    go_ret
    exact ⟨rfl, rfl⟩
  · have HG : Hid (greatL l = l.any fun x => greatA x.a) := Lib.hid (by unfold greatL; rw [hN]; simp [h50])
    clear hN
    go_enter Try.func23, Try.ntmps23
    go_wp2_with fail
    go_loopw [9] (fun i wr => ∃ k : Nat, k ≤ n ∧ i = .int .i64 k ∧ Hid ((l.take k).any (fun x => greatA x.a) = false) ∧ w = wr) (fun i _ => n - (intOf i).toNat)
    case atStart => exact ⟨0, Nat.zero_le _, rfl, Lib.hid rfl, rfl⟩
    case round =>
      obtain ⟨k, hk, rfl, HO, rfl⟩ := hrel
      by_cases hlt : k < n
      · obtain ⟨b, off, rfl, hi⟩ := HC.out (by omega)
        obtain ⟨x, hx⟩ : ∃ x, l[k]? = some x := ⟨l[k]'(by rw [HN.out]; exact hlt), by simp⟩
        have r1 := hi k _ hx
        have HXx := HX.out x (List.mem_of_getElem? hx)
        have p3 := r1.cell (acs_p x)
        have p4 := r1.cell (acs_q x)
        obtain ⟨A1, c1, hp1, -⟩ := HXx.cod.val
        obtain ⟨A2, c2, hq1, -⟩ := HXx.sto.val
        rw [hp1] at p3
        rw [hq1] at p4
        have HXg := Lib.hid hx
        have HQ : Hid (((l.take (k + 1)).any fun x => greatA x.a) = greatA x.a) := Lib.hid (by
          rw [List.take_add_one, hx, List.any_append, HO.out]
          simp)
        have HT : Hid (greatA x.a = true → (l.any fun x => greatA x.a) = true) := Lib.hid fun ht => List.any_eq_true.2 ⟨x, List.mem_of_getElem? hx, ht⟩
        have HGa : Hid (greatA x.a = (decide (3000 < x.a.co.length) || decide (100 < x.a.so.length))) := Lib.hid rfl
        generalize x.a.co.length = cn at *
        generalize x.a.so.length = sn at *
        clear hx hi HXx hp1 hq1 r1
        by_cases h1 : 3000 < cn
        · go_wp2_with fail
          go_ret
          refine ⟨?_, rfl⟩
          rw [HG.out, HT.out (by rw [HGa.out]; simp [h1])]
          rfl
        · by_cases h2 : 100 < sn
          · go_wp2_with fail
            go_ret
            refine ⟨?_, rfl⟩
            rw [HG.out, HT.out (by rw [HGa.out]; simp [h2])]
            rfl
          · go_wp2_with fail
            exact ⟨⟨k + 1, by omega, by go_num, Lib.hid (by rw [HQ.out, HGa.out]; simp [h1, h2]), trivial⟩, by simp [intOf]; omega⟩
      · obtain rfl : k = n := by omega
        go_wp2_with fail
        go_ret
        refine ⟨?_, rfl⟩
        have := HO.out
        rw [List.take_of_length_le (by rw [HN.out]; exact Nat.le_refl _)] at this
        rw [HG.out, this]
        rfl
theorem fold_set_get : ∀ (L : List Value) (k : Nat) (Z : Array Value) (j : Nat), ((L.zipIdx k).foldl (fun (cs : Array Value) (x : Value × Nat) => cs.setIfInBounds x.2 x.1) Z)[j]? = if k ≤ j ∧ j < k + L.length ∧ j < Z.size then L[j - k]? else Z[j]?
  | [], k, Z, j => by
    rw [if_neg (by simp; omega)]
    rfl
  | a :: L, k, Z, j => by
    rw [List.zipIdx_cons, List.foldl_cons, fold_set_get L (k + 1) _ j]
    simp only [Array.size_setIfInBounds, List.length_cons]
    by_cases h1 : k + 1 ≤ j ∧ j < k + 1 + L.length ∧ j < Z.size
    · rw [if_pos h1, if_pos (by omega), show j - k = (j - (k + 1)) + 1 by omega, List.getElem?_cons_succ]
    · rw [if_neg h1]
      by_cases h2 : k ≤ j ∧ j < k + (L.length + 1) ∧ j < Z.size
      · rw [if_pos h2]
        obtain rfl : j = k := by omega
        rw [Array.getElem?_setIfInBounds_self_of_lt h2.2.2]
        simp
      · rw [if_neg h2]
        by_cases e : k = j
        · subst e
          have : Z.size ≤ k := by omega
          rw [Array.getElem?_eq_none (by simpa using this), Array.getElem?_eq_none this]
        · rw [Array.getElem?_setIfInBounds_ne e]
theorem fold_set {Z : Array Value} {L : List Value} (h : Z.size = L.length) : L.zipIdx.foldl (fun (cs : Array Value) (x : Value × Nat) => cs.setIfInBounds x.2 x.1) Z = L.toArray := by
  apply Array.ext_getElem?
  intro j
  rw [fold_set_get L 0 Z j]
  by_cases hj : j < L.length
  · rw [if_pos (by omega)]; simp
  · rw [if_neg (by omega), Array.getElem?_eq_none (by omega), Array.getElem?_eq_none (by simpa using hj)]
theorem fold27 (x : AV) : (acs x).zipIdx.foldl (fun (cs : Array Value) (x : Value × Nat) => cs.setIfInBounds x.2 x.1) #[Value.int .u8 0, Value.int .u8 0, Value.int .u8 0, Value.int .u8 0, Value.int .u8 0, Value.int .u8 0, Value.int .u8 0, Value.int .u8 0, Value.int .u8 0, Value.int .u8 0, Value.int .u8 0, Value.int .u8 0, Value.int .u8 0, Value.int .u8 0, Value.int .u8 0, Value.int .u8 0, Value.int .u8 0, Value.int .u8 0, Value.int .u8 0, Value.int .u8 0, Value.int .u64 0, Value.int .u64 0, Value.int .u64 0, Value.int .u64 0, Value.int .u64 0, Value.slice none 0 0, Value.slice none 0 0] = (acs x).toArray := fold_set (by rw [acs_len]; rfl)
end Go.Proofs.Ytpkoiifidlnbeaa
