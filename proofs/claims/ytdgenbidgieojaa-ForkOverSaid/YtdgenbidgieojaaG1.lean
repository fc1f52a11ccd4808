/- What the functions Of, Not, And, Or, Xor, Add, Sub and mulAdd of package word do, for every word: each returns the word it should, and leaves all older memory as it was. -/
import Derived.Test.YtdgenbidgieojaaRows
import Derived.Test.YtdgenbidgieojaaG0
import Derived.Test.YtdgenbidgieojaaShelf
import Derived.WalkKit
import Derived.WalkSpells
import Derived.WalkLawsBesides
import Derived.BigQuiet
import Derived.LoopN
import Derived.Lib.Hide
import Derived.StillTailTactics
import Derived.DeepKeys
import Derived.Deep.WholeRow
namespace Go.Proofs.Ytdgenbidgieojaa
open Go.RowKit SmWord
set_option maxRecDepth 100000

/-- The parts of the word n (of n its rest by 2^256). -/
def wa (n : Nat) : Array Value := #[.int .u64 ((l0 n : Nat) : Int), .int .u64 ((l1 n : Nat) : Int), .int .u64 ((l2 n : Nat) : Int), .int .u64 ((l3 n : Nat) : Int)]
/-- The word n. -/
abbrev wd (n : Nat) : Value := .agg (wa n)

theorem wa_congr {m n : Nat} (h : m % M = n % M) : wa m = wa n := by
  obtain ⟨h0, h1, h2, h3⟩ := parts_congr h
  unfold wa; rw [h0, h1, h2, h3]
theorem wa_inj {m n : Nat} (h : wa m = wa n) : m % M = n % M := by
  unfold wa at h
  simp only [Array.mk.injEq, List.cons.injEq, Value.int.injEq, true_and, and_true] at h
  obtain ⟨h0, h1, h2, h3⟩ := h
  exact congr_parts (by omega) (by omega) (by omega) (by omega)
theorem wd_congr {m n : Nat} (h : m % M = n % M) : wd m = wd n := congrArg Value.agg (wa_congr h)
theorem wd_num {a b c d : Nat} (ha : a < B) (hb : b < B) (hc : c < B) (hd : d < B) :
    wd (num a b c d) = .agg #[.int .u64 (a : Int), .int .u64 (b : Int), .int .u64 (c : Int), .int .u64 (d : Int)] := by
  obtain ⟨h0, h1, h2, h3⟩ := parts_num ha hb hc hd
  unfold wd wa; rw [h0, h1, h2, h3]
theorem wd_inj {m n : Nat} (h : wd m = wd n) : m % M = n % M := wa_inj (Value.agg.inj h)

def sub64Entry : Array Value → Sem Value := fun args => do
  let (x, y, b) ← Extern.MathBitsCarry.three "Sub64" args
  pure (Extern.MathBitsCarry.pair ((x + Extern.MathBitsCarry.m64 - y - b) % Extern.MathBitsCarry.m64) (if x < y + b then 1 else 0))
end Go.Proofs.Ytdgenbidgieojaa
/- What the functions Not, And, Or, Xor and mulAdd of package word do, for every word: each returns the word it should, and leaves all older memory as it was. -/
namespace Go.Proofs.Ytdgenbidgieojaa
open Go.RowKit SmWord
set_option maxRecDepth 100000

theorem xor_ones (a : Nat) (ha : a < B) : bits .xor .u64 IntKind.u64.max (a : Int) = ((B - 1 - a : Nat) : Int) := by
  have h := u64_xor_nat (B - 1) a (by decide) ha
  have e : (IntKind.u64.max : Int) = ((B - 1 : Nat) : Int) := by decide
  rw [e, h]
  congr 1
  apply Nat.eq_of_testBit_eq
  intro i
  have h1 : (B - 1).testBit i = decide (i < 64) := Nat.testBit_two_pow_sub_one 64 i
  have h2 : (B - 1 - a).testBit i = (decide (i < 64) && !a.testBit i) := by
    have := Nat.testBit_two_pow_sub_succ (n := 64) (x := a) ha i
    rw [← this]; congr 1; simp only [B]; omega
  rw [Nat.testBit_xor, h1, h2]
  by_cases hi : i < 64
  · simp [hi]
  · have : a.testBit i = false := Nat.testBit_lt_two_pow (Nat.lt_of_lt_of_le ha (Nat.pow_le_pow_right (n := 2) (i := 64) (by decide) (by omega)))
    simp [hi, this]
end Go.Proofs.Ytdgenbidgieojaa
/- What the function Mul of package word does, for every two words: it returns their product, going round, and leaves all older memory as it was. -/
namespace Go.Proofs.Ytdgenbidgieojaa
open Go.RowKit SmWord
set_option maxRecDepth 100000

theorem region_tail {P : Program} {id : Nat} {Q : Exit → Act → World → Prop} {a : Act} {w : World} {l : List Oper} (n : Nat) (hm : P.follows .mixedOrders = true) (hB : Region.lexTailB .any l.toArray n = true)
    (h : wpStill P l.toArray w.drew (fun a' => wpList P l.toArray Q (l.drop n) a' w.drew) (l.take n) a) : (Code.region id l.toArray true).wp P Q a w := wp_region_still_tail n hm hB h

end Go.Proofs.Ytdgenbidgieojaa
/- Laws of the model that this seat's proofs lean on: arrays of integers by value (equality, whole loads), and regions whose operations read, and call functions that only make new memory. -/
namespace Go.Proofs.Ytdgenbidgieojaa
open Go.RowKit SmWord
set_option maxRecDepth 100000

/-- A world in which all that lay in w lies as it lay. -/
structure Ext (w : World) where
  on : World
  below : Below w.heap.size w on

instance (w : World) : Nonempty (Ext w) := ⟨⟨w, Below.refl _ _⟩⟩

theorem region_ext {P : Program} {id : Nat} {Q : Exit → Act → World → Prop} {a : Act} {w : World} {l : List Oper} (hm : P.follows .mixedOrders = true) (hB : Region.lexB .any l.toArray = true)
    (h : wpQuiet P l.toArray (fun w' => ∃ g : Ext w, w' = g.on) (fun a' => ∀ w', (∃ g : Ext w, w' = g.on) → Q .normal a' w') l a) : (Code.region id l.toArray true).wp P Q a w :=
  wp_region_quiet (C := fun w' => ∃ g : Ext w, w' = g.on) hm hB ⟨⟨w.drew, (Below.refl _ _).drew⟩, rfl⟩ (by simpa using h)

theorem calls_ext {P : Program} {f : FuncId} {args : Array Value} {w : World} {g : Ext w} {v : Value}
    (h : Calls P f args g.on fun e w' => e = .returned v ∧ Below g.on.heap.size g.on w') : Calls P f args g.on fun e w'' => e = .returned v ∧ ∃ g' : Ext w, w'' = g'.on :=
  h.mono fun _ w'' ⟨he, hb⟩ => ⟨he, ⟨w'', g.below.trans (hb.mono g.below.size)⟩, rfl⟩

theorem Ext.block {w : World} (g : Ext w) {b : Nat} {o : Obj} (hb : w.heap[b]? = some o) : g.on.heap[b]? = some o := by
  rw [g.below.block b (Array.getElem?_eq_some_iff.1 hb).1, hb]

theorem load_row {P : Program} (w : World) (b : Nat) (t : TypeId) (c : Array Value) (fr : Nat × Nat) (n : Nat) (hn : c.size = n) (hb : w.heap[b]? = some (.cells c t fr)) :
    (loadCellsFrom ⟨b, 0, none⟩ 0 n #[]).run P w = .ok c w := by
  subst hn
  have := run_loadCells_list (P := P) w ⟨b, 0, none⟩ c.toList (fun j v hv => by
    have hadd : (⟨b, 0, none⟩ : Addr).add j = ⟨b, j, none⟩ := by unfold Addr.add; split <;> simp_all
    rw [hadd, cell_of_row _ _ j c t fr hb]
    simpa using hv)
  simpa [loadCells] using this

/-- Arrays of integers, compared. -/
theorem eqItems_ints {P : Program} {e : TypeId} {k k' : IntKind} (he : P.underlying e = some (.int k')) (d : Nat) (xs ys : Array Value) (w : World) : ∀ is : List Nat,
    (∀ i ∈ is, ∃ a b : Int, xs[i]? = some (.int k a) ∧ ys[i]? = some (.int k b)) →
    ∃ r : Bool, (Op.eqItems (d + 1) e 1 xs ys is).run P w = .ok r w ∧ (r = true ↔ ∀ i ∈ is, xs[i]? = ys[i]?)
  | [], _ => ⟨true, by simp [Op.eqItems], by simp⟩
  | i :: is, h => by
    obtain ⟨a, b, ha, hb⟩ := h i (by simp)
    obtain ⟨r, hr, hiff⟩ := eqItems_ints he d xs ys w is (fun j hj => h j (by simp [hj]))
    have hp : P.plainKey e = true := by unfold Program.plainKey; simp [he]
    have p1 : (part e xs (i * 1)).run P w = .ok (.int k a) w := run_part_plain w hp (by simpa using ha)
    have p2 : (part e ys (i * 1)).run P w = .ok (.int k b) w := run_part_plain w hp (by simpa using hb)
    simp only [Op.eqItems, Sem.run_bind, p1, p2, Result.andThen_ok, run_equalIn_int w d e k k' a b he]
    by_cases hab : a = b
    · subst hab
      refine ⟨r, by simpa using hr, ?_⟩
      rw [hiff]
      simp [ha, hb]
    · refine ⟨false, by simp [hab], ?_⟩
      simp [ha, hb, hab]

theorem equal_ints {P : Program} {t e : TypeId} {n : Nat} {k k' : IntKind} (hu : P.underlying t = some (.array n e)) (he : P.underlying e = some (.int k')) (hc : P.cellsOf e = 1)
    (xs ys : Array Value) (hx : xs.size = n) (hy : ys.size = n) (h : ∀ i, i < n → ∃ a b : Int, xs[i]? = some (.int k a) ∧ ys[i]? = some (.int k b)) (w : World) :
    ∃ r : Bool, (Op.equalIn 10000 t (.agg xs) (.agg ys)).run P w = .ok r w ∧ (r = true ↔ xs = ys) := by
  obtain ⟨i, hi⟩ := info_of_underlying he
  obtain ⟨r, hr, hiff⟩ := eqItems_ints he 9998 xs ys w (List.range n) (fun j hj => h j (List.mem_range.1 hj))
  refine ⟨r, by rw [show (10000 : Nat) = 9999 + 1 from rfl, run_equalIn_array w 9999 xs ys hu hi, hc]; exact hr, hiff.trans ⟨fun H => ?_, fun H => by simp [H]⟩⟩
  apply Array.ext_getElem?
  intro j
  by_cases hj : j < n
  · exact H j (List.mem_range.2 hj)
  · rw [Array.getElem?_eq_none (by omega), Array.getElem?_eq_none (by omega)]

theorem Try.cells33 : Try.prog.cellsOf 33 = 1 := by kernel_rfl
theorem wa_size (n : Nat) : (wa n).size = 4 := rfl
theorem wa_get (n : Nat) (i : Nat) (hi : i < 4) : ∃ a : Int, (wa n)[i]? = some (.int .u64 a) := by
  have : i = 0 ∨ i = 1 ∨ i = 2 ∨ i = 3 := by omega
  rcases this with rfl | rfl | rfl | rfl
  · exact ⟨_, rfl⟩
  · exact ⟨_, rfl⟩
  · exact ⟨_, rfl⟩
  · exact ⟨_, rfl⟩
theorem equal_wa (m n : Nat) (w : World) : (Op.equalIn 10000 35 (.agg (wa m)) (.agg (wa n))).run Try.prog w = .ok (decide (m % M = n % M)) w := by
  obtain ⟨r, hr, hiff⟩ := equal_ints (k := .u64) Try.underlying35 Try.underlying33 Try.cells33 (wa m) (wa n) (wa_size m) (wa_size n) (fun i hi => by
    obtain ⟨a, ha⟩ := wa_get m i hi
    obtain ⟨b, hb⟩ := wa_get n i hi
    exact ⟨a, b, ha, hb⟩) w
  rw [hr]
  congr 1
  rw [Bool.eq_iff_iff, hiff, decide_eq_true_iff]
  exact ⟨wa_inj, wa_congr⟩
end Go.Proofs.Ytdgenbidgieojaa
/- What the functions Compare and Len of package word do, for every word: Compare returns -1, 0 or 1 as the first is less, the same or more; Len returns how many bits the word has; all older memory is as it was. -/
namespace Go.Proofs.Ytdgenbidgieojaa
open Go.RowKit SmWord
set_option maxRecDepth 100000

theorem below_N {B : Nat} {a w : World} (h : Below B a w) (n : Nat) : Below B a (w.drewN n) := ⟨h.os, h.tape, h.output, h.size, h.block⟩

set_option maxHeartbeats 1000000 in
theorem isNaN_walk (x : Int) (w : World) : Calls Try.prog 57 #[.int .u64 x] w fun e w' => e = .returned (.bool false) ∧ w = w' := by
  have h : (x != x) = false := by simp
  go_enter Try.func57, Try.ntmps57
  go_wp2
  go_ret
  exact ⟨rfl, rfl⟩
def cmpI (x y : Int) : Int := if x < y then -1 else if y < x then 1 else 0
set_option maxHeartbeats 1000000 in
theorem cmp64_walk (x y : Int) (w : World) : Calls Try.prog 53 #[.int .u64 x, .int .u64 y] w fun e w' => e = .returned (.int .i64 (cmpI x y)) ∧ w = w' := by
  unfold cmpI
  by_cases h1 : x < y
  · rw [if_pos h1]
    go_enter Try.func53, Try.ntmps53
    go_wp2_with (go_at_call 57; refine (isNaN_walk _ _).mono ?_; rintro e w' ⟨rfl, rfl⟩)
    go_ret
    exact ⟨rfl, rfl⟩
  · rw [if_neg h1]
    by_cases h2 : y < x
    · rw [if_pos h2]
      go_enter Try.func53, Try.ntmps53
      go_wp2_with (go_at_call 57; refine (isNaN_walk _ _).mono ?_; rintro e w' ⟨rfl, rfl⟩)
      go_ret
      exact ⟨rfl, rfl⟩
    · rw [if_neg h2]
      go_enter Try.func53, Try.ntmps53
      go_wp2_with (go_at_call 57; refine (isNaN_walk _ _).mono ?_; rintro e w' ⟨rfl, rfl⟩)
      go_ret
      exact ⟨rfl, rfl⟩

set_option maxHeartbeats 1000000 in
theorem cmp_walkE (a0 a1 a2 a3 b0 b1 b2 b3 : Int) (w : World) (hg : Try.prog.eqGuardType Try.prog.depth 35 = false)
    (hE : ∀ w : World, (Op.equalIn 10000 35 (.agg #[.int .u64 a0, .int .u64 a1, .int .u64 a2, .int .u64 a3]) (.agg #[.int .u64 b0, .int .u64 b1, .int .u64 b2, .int .u64 b3])).run Try.prog w = .ok true w) :
    Calls Try.prog 46 #[.agg #[.int .u64 a0, .int .u64 a1, .int .u64 a2, .int .u64 a3], .agg #[.int .u64 b0, .int .u64 b1, .int .u64 b2, .int .u64 b3]] w fun e w' => e = .returned (.int .i64 0) ∧ Below w.heap.size w w' := by
  go_enter Try.func46, Try.ntmps46
  go_wp2
  go_ret
  refine ⟨rfl, ?_⟩
  repeat (first | exact Below.refl _ _ | refine Below.drew ?_ | refine below_N ?_ _ | refine Below.alloc ?_ (by simp; try omega) _ | refine Below.setCell ?_ (by simp; try omega) _)

set_option maxHeartbeats 1000000 in
theorem cmp_walk3 (a0 a1 a2 a3 b0 b1 b2 b3 v : Int) (w : World) (hg : Try.prog.eqGuardType Try.prog.depth 35 = false)
    (hE : ∀ w : World, (Op.equalIn 10000 35 (.agg #[.int .u64 a0, .int .u64 a1, .int .u64 a2, .int .u64 a3]) (.agg #[.int .u64 b0, .int .u64 b1, .int .u64 b2, .int .u64 b3])).run Try.prog w = .ok false w)
    (h3 : (a3 == b3) = false)
    (H : Hid (∀ w : World, Calls Try.prog 53 #[.int .u64 a3, .int .u64 b3] w fun e w' => e = .returned (.int .i64 v) ∧ w = w')) :
    Calls Try.prog 46 #[.agg #[.int .u64 a0, .int .u64 a1, .int .u64 a2, .int .u64 a3], .agg #[.int .u64 b0, .int .u64 b1, .int .u64 b2, .int .u64 b3]] w fun e w' => e = .returned (.int .i64 v) ∧ Below w.heap.size w w' := by
  go_enter Try.func46, Try.ntmps46
  go_wp2
  refine wp_loop_rounds 5 ?_
  rw [rounds_succ]
  go_wp2
  go_quiet (fail)
  go_wp2
  go_quiet ((go_at_call 53; refine (H.out _).mono ?_; rintro e w2 ⟨rfl, rfl⟩; exact ⟨rfl, _, rfl⟩))
  go_wp2
  go_ret
  refine ⟨rfl, ?_⟩
  repeat (first | exact Below.refl _ _ | refine Below.drew ?_ | refine below_N ?_ _ | refine Below.alloc ?_ (by simp; try omega) _ | refine Below.setCell ?_ (by simp; try omega) _)

set_option maxHeartbeats 1000000 in
theorem cmp_walk2 (a0 a1 a2 a3 b0 b1 b2 b3 v : Int) (w : World) (hg : Try.prog.eqGuardType Try.prog.depth 35 = false)
    (hE : ∀ w : World, (Op.equalIn 10000 35 (.agg #[.int .u64 a0, .int .u64 a1, .int .u64 a2, .int .u64 a3]) (.agg #[.int .u64 b0, .int .u64 b1, .int .u64 b2, .int .u64 b3])).run Try.prog w = .ok false w)
    (h3 : (a3 == b3) = true) (h2 : (a2 == b2) = false)
    (H : Hid (∀ w : World, Calls Try.prog 53 #[.int .u64 a2, .int .u64 b2] w fun e w' => e = .returned (.int .i64 v) ∧ w = w')) :
    Calls Try.prog 46 #[.agg #[.int .u64 a0, .int .u64 a1, .int .u64 a2, .int .u64 a3], .agg #[.int .u64 b0, .int .u64 b1, .int .u64 b2, .int .u64 b3]] w fun e w' => e = .returned (.int .i64 v) ∧ Below w.heap.size w w' := by
  go_enter Try.func46, Try.ntmps46
  go_wp2
  refine wp_loop_rounds 5 ?_
  rw [rounds_succ]
  go_wp2
  go_quiet (fail)
  go_wp2
  rw [rounds_succ]
  go_wp2
  go_quiet (fail)
  go_wp2
  go_quiet ((go_at_call 53; refine (H.out _).mono ?_; rintro e w2 ⟨rfl, rfl⟩; exact ⟨rfl, _, rfl⟩))
  go_wp2
  go_ret
  refine ⟨rfl, ?_⟩
  repeat (first | exact Below.refl _ _ | refine Below.drew ?_ | refine below_N ?_ _ | refine Below.alloc ?_ (by simp; try omega) _ | refine Below.setCell ?_ (by simp; try omega) _)

set_option maxHeartbeats 1000000 in
theorem cmp_walk1 (a0 a1 a2 a3 b0 b1 b2 b3 v : Int) (w : World) (hg : Try.prog.eqGuardType Try.prog.depth 35 = false)
    (hE : ∀ w : World, (Op.equalIn 10000 35 (.agg #[.int .u64 a0, .int .u64 a1, .int .u64 a2, .int .u64 a3]) (.agg #[.int .u64 b0, .int .u64 b1, .int .u64 b2, .int .u64 b3])).run Try.prog w = .ok false w)
    (h3 : (a3 == b3) = true) (h2 : (a2 == b2) = true) (h1 : (a1 == b1) = false)
    (H : Hid (∀ w : World, Calls Try.prog 53 #[.int .u64 a1, .int .u64 b1] w fun e w' => e = .returned (.int .i64 v) ∧ w = w')) :
    Calls Try.prog 46 #[.agg #[.int .u64 a0, .int .u64 a1, .int .u64 a2, .int .u64 a3], .agg #[.int .u64 b0, .int .u64 b1, .int .u64 b2, .int .u64 b3]] w fun e w' => e = .returned (.int .i64 v) ∧ Below w.heap.size w w' := by
  go_enter Try.func46, Try.ntmps46
  go_wp2
  refine wp_loop_rounds 5 ?_
  rw [rounds_succ]
  go_wp2
  go_quiet (fail)
  go_wp2
  rw [rounds_succ]
  go_wp2
  go_quiet (fail)
  go_wp2
  rw [rounds_succ]
  go_wp2
  go_quiet (fail)
  go_wp2
  go_quiet ((go_at_call 53; refine (H.out _).mono ?_; rintro e w2 ⟨rfl, rfl⟩; exact ⟨rfl, _, rfl⟩))
  go_wp2
  go_ret
  refine ⟨rfl, ?_⟩
  repeat (first | exact Below.refl _ _ | refine Below.drew ?_ | refine below_N ?_ _ | refine Below.alloc ?_ (by simp; try omega) _ | refine Below.setCell ?_ (by simp; try omega) _)

set_option maxHeartbeats 1000000 in
theorem cmp_walk0 (a0 a1 a2 a3 b0 b1 b2 b3 v : Int) (w : World) (hg : Try.prog.eqGuardType Try.prog.depth 35 = false)
    (hE : ∀ w : World, (Op.equalIn 10000 35 (.agg #[.int .u64 a0, .int .u64 a1, .int .u64 a2, .int .u64 a3]) (.agg #[.int .u64 b0, .int .u64 b1, .int .u64 b2, .int .u64 b3])).run Try.prog w = .ok false w)
    (h3 : (a3 == b3) = true) (h2 : (a2 == b2) = true) (h1 : (a1 == b1) = true)
    (H : Hid (∀ w : World, Calls Try.prog 53 #[.int .u64 a0, .int .u64 b0] w fun e w' => e = .returned (.int .i64 v) ∧ w = w')) :
    Calls Try.prog 46 #[.agg #[.int .u64 a0, .int .u64 a1, .int .u64 a2, .int .u64 a3], .agg #[.int .u64 b0, .int .u64 b1, .int .u64 b2, .int .u64 b3]] w fun e w' => e = .returned (.int .i64 v) ∧ Below w.heap.size w w' := by
  go_enter Try.func46, Try.ntmps46
  go_wp2
  refine wp_loop_rounds 5 ?_
  rw [rounds_succ]
  go_wp2
  go_quiet (fail)
  go_wp2
  rw [rounds_succ]
  go_wp2
  go_quiet (fail)
  go_wp2
  rw [rounds_succ]
  go_wp2
  go_quiet (fail)
  go_wp2
  rw [rounds_succ]
  go_wp2
  go_quiet (fail)
  go_wp2
  go_quiet ((go_at_call 53; refine (H.out _).mono ?_; rintro e w2 ⟨rfl, rfl⟩; exact ⟨rfl, _, rfl⟩))
  go_wp2
  go_ret
  refine ⟨rfl, ?_⟩
  repeat (first | exact Below.refl _ _ | refine Below.drew ?_ | refine below_N ?_ _ | refine Below.alloc ?_ (by simp; try omega) _ | refine Below.setCell ?_ (by simp; try omega) _)

theorem Try.guardW : Try.prog.eqGuardType Try.prog.depth 35 = false := by kernel_rfl
/-- -1, 0, 1. -/
def cmpN (m n : Nat) : Int := if m < n then -1 else if n < m then 1 else 0
theorem cmpI_nat (m n : Nat) : cmpI (m : Int) (n : Int) = cmpN m n := by
  unfold cmpI cmpN
  simp only [Int.ofNat_lt]
theorem cmp_top {a0 a1 a2 a3 b0 b1 b2 b3 : Nat} (A0 : a0 < B) (A1 : a1 < B) (A2 : a2 < B) (C0 : b0 < B) (C1 : b1 < B) (C2 : b2 < B) :
    (a3 ≠ b3 → cmpN (num a0 a1 a2 a3) (num b0 b1 b2 b3) = cmpN a3 b3) ∧ (a3 = b3 → a2 ≠ b2 → cmpN (num a0 a1 a2 a3) (num b0 b1 b2 b3) = cmpN a2 b2) ∧
    (a3 = b3 → a2 = b2 → a1 ≠ b1 → cmpN (num a0 a1 a2 a3) (num b0 b1 b2 b3) = cmpN a1 b1) ∧ (a3 = b3 → a2 = b2 → a1 = b1 → cmpN (num a0 a1 a2 a3) (num b0 b1 b2 b3) = cmpN a0 b0) := by
  unfold cmpN num
  simp only [B] at *
  refine ⟨fun h => ?_, fun h h' => ?_, fun h h' h'' => ?_, fun h h' h'' => ?_⟩
  all_goals (repeat' split) <;> omega
theorem compare_wd (m n : Nat) (w : World) :
    Calls Try.prog 46 #[wd m, wd n] w fun e w' => e = .returned (.int .i64 (cmpN (m % M) (n % M))) ∧ Below w.heap.size w w' := by
  obtain ⟨A0, A1, A2, A3⟩ := l_lt m
  obtain ⟨C0, C1, C2, C3⟩ := l_lt n
  have hq := fun w => equal_wa m n w
  by_cases he : m % M = n % M
  · have hv : cmpN (m % M) (n % M) = 0 := by rw [he]; unfold cmpN; simp
    rw [hv]
    rw [decide_eq_true he] at hq
    exact cmp_walkE _ _ _ _ _ _ _ _ w Try.guardW hq
  · rw [decide_eq_false he] at hq
    obtain ⟨t3, t2, t1, t0⟩ := cmp_top (a3 := l3 m) (b3 := l3 n) A0 A1 A2 C0 C1 C2
    rw [num_parts, num_parts] at t3 t2 t1 t0
    by_cases h3 : l3 m = l3 n
    · by_cases h2 : l2 m = l2 n
      · by_cases h1 : l1 m = l1 n
        · rw [t0 h3 h2 h1, ← cmpI_nat]
          exact cmp_walk0 _ _ _ _ _ _ _ _ _ w Try.guardW hq (by simp [h3]) (by simp [h2]) (by simp [h1]) (fun w => cmp64_walk _ _ w)
        · rw [t1 h3 h2 h1, ← cmpI_nat]
          exact cmp_walk1 _ _ _ _ _ _ _ _ _ w Try.guardW hq (by simp [h3]) (by simp [h2]) (beq_eq_false_iff_ne.2 (by omega)) (fun w => cmp64_walk _ _ w)
      · rw [t2 h3 h2, ← cmpI_nat]
        exact cmp_walk2 _ _ _ _ _ _ _ _ _ w Try.guardW hq (by simp [h3]) (beq_eq_false_iff_ne.2 (by omega)) (fun w => cmp64_walk _ _ w)
    · rw [t3 h3, ← cmpI_nat]
      exact cmp_walk3 _ _ _ _ _ _ _ _ _ w Try.guardW hq (beq_eq_false_iff_ne.2 (by omega)) (fun w => cmp64_walk _ _ w)

theorem len64_nat (x : Nat) (w : World) (h : x < B) : Calls Try.prog 67 #[.int .u64 (x : Int)] w fun e w' => e = .returned (.int .i64 ((Lib.bitLen x : Nat) : Int)) ∧ w = w' :=
  (Try.bits_Len64 x w (by omega) (by simp only [B] at h; omega)).mono fun e w' ⟨h1, h2⟩ => ⟨by rw [h1, Int.toNat_natCast], h2.symm⟩

end Go.Proofs.Ytdgenbidgieojaa
/- What the functions Shl and Shr of package word do, for every word and every number of bits: they return the word times 2^n, going round, and divided by 2^n, cut down, and leave all older memory as it was. -/
namespace Go.Proofs.Ytdgenbidgieojaa
open Go.RowKit SmWord
set_option maxRecDepth 100000

end Go.Proofs.Ytdgenbidgieojaa
/- What the functions Shl and Shr of package word do, in numbers: for every word m and every n, Shl returns m * 2^n (going round) and Shr returns m / 2^n, and all older memory is as it was. -/
namespace Go.Proofs.Ytdgenbidgieojaa
open Go.RowKit SmWord
set_option maxRecDepth 100000

theorem int_mul_pow (a r : Nat) : (a : Int) * 2 ^ r = ((a * 2 ^ r : Nat) : Int) := by
  rw [Int.natCast_mul, Int.natCast_pow]; rfl
theorem int_div_pow (a r : Nat) : (a : Int) / 2 ^ r = ((a / 2 ^ r : Nat) : Int) := by
  rw [Int.natCast_ediv, Int.natCast_pow]; rfl
theorem slo_int (a r : Nat) : IntKind.u64.wrap ((a : Int) * 2 ^ ((r : Nat) : Int).toNat) = ((slo a r : Nat) : Int) := by
  rw [Int.toNat_natCast, int_mul_pow, IntKind.wrap_u64]; unfold slo; simp only [B]; omega
theorem shi_int (a r : Nat) (hr : r < 64) : (a : Int) / 2 ^ (64 - ((r : Nat) : Int)).toNat = ((shi a r : Nat) : Int) := by
  rw [show (64 - ((r : Nat) : Int)).toNat = 64 - r by omega, int_div_pow]; rfl
theorem shl_cell (a b r : Nat) (hb : b < B) (hr : r < 64) :
    bits .or .u64 (IntKind.u64.wrap ((a : Int) * 2 ^ ((r : Nat) : Int).toNat)) ((b : Int) / 2 ^ (64 - ((r : Nat) : Int)).toNat) = ((slo a r + shi b r : Nat) : Int) := by
  have h := shl_or (a := a) hb (r := r) (by omega)
  have hs : shi b r < B := by omega
  rw [slo_int, shi_int b r hr, u64_or_nat _ _ (slo_lt a r) hs, h.1]

theorem shr_cell (a b r : Nat) (ha : a < B) (hr : r < 64) :
    bits .or .u64 ((a : Int) / 2 ^ ((r : Nat) : Int).toNat) (IntKind.u64.wrap ((b : Int) * 2 ^ (64 - ((r : Nat) : Int)).toNat)) = ((down a b r : Nat) : Int) := by
  have h := down_or (b := b) ha (r := r) (by omega)
  have e : IntKind.u64.wrap ((b : Int) * 2 ^ (64 - ((r : Nat) : Int)).toNat) = ((b * 2 ^ (64 - r) % B : Nat) : Int) := by
    rw [show (64 - ((r : Nat) : Int)).toNat = 64 - r by omega, int_mul_pow, IntKind.wrap_u64]; simp only [B]; omega
  rw [e, Int.toNat_natCast, int_div_pow, u64_or_nat _ _ (Nat.lt_of_le_of_lt (Nat.div_le_self _ _) ha) (Nat.mod_lt _ (by decide)), h.1]
theorem shr_last (a r : Nat) : (a : Int) / 2 ^ ((r : Nat) : Int).toNat = ((down a 0 r : Nat) : Int) := by
  rw [Int.toNat_natCast, int_div_pow]; unfold down; rw [Nat.zero_mod, Nat.zero_mul, Nat.add_zero]
theorem down_zero (r : Nat) : down 0 0 r = 0 := by unfold down; simp

end Go.Proofs.Ytdgenbidgieojaa
/- The chapter's examples, as the function fixed of the statements puts them together: it returns true, and leaves all older memory as it was. -/
namespace Go.Proofs.Ytdgenbidgieojaa
open Go.RowKit SmWord
set_option maxRecDepth 100000

theorem Try.infoW : (Try.prog.info? 35).map (·.size) = some 4 := by kernel_rfl
theorem store_new (w : World) (m : Nat) : (storeCells ⟨w.heap.size, 0, none⟩ (wa m).toList 0).run Try.prog (w.alloc (.cells #[.int .u64 0, .int .u64 0, .int .u64 0, .int .u64 0] 35)) = .ok () (w.alloc (.cells (wa m) 35)) :=
  run_storeCells_new (P := Try.prog) w 35 _ (wa m) Try.infoW rfl (by simp [wa, Value.oneCell'])

def kAll : Nat := M - 1
def k255 : Nat := 1 * 2 ^ 255
def k256 : Nat := k255 * 2
def k63 : Nat := B % M / 2 ^ 1
def kNot : Nat := M - 1 - 0 % M
theorem fx_e1 (w : World) : (Op.equalIn 10000 35 (.agg (wa kAll)) (.agg (wa kNot))).run Try.prog w = .ok true w := by
  rw [equal_wa, decide_eq_true (by decide)]
theorem fx_e2 (w : World) : (Op.equalIn 10000 35 (.agg (wa k256)) (.agg #[.int .u64 0, .int .u64 0, .int .u64 0, .int .u64 0])).run Try.prog w = .ok true w := by
  have := equal_wa k256 0 w
  rw [decide_eq_true (by decide)] at this
  exact this
theorem fx_e3 (w : World) : (Op.equalIn 10000 35 (.agg (wa k63)) (.agg (wa 9223372036854775808))).run Try.prog w = .ok true w := by
  rw [equal_wa, decide_eq_true (by decide)]

theorem fold_wa (n : Nat) : #[Value.int .u64 ((l0 n : Nat) : Int), .int .u64 ((l1 n : Nat) : Int), .int .u64 ((l2 n : Nat) : Int), .int .u64 ((l3 n : Nat) : Int)] = wa n := rfl
/-- The four cells of a word that lies, wherever the world has come to. -/
theorem Ext.word {w : World} (g : Ext w) {b m : Nat} {t : TypeId} {fr : Nat × Nat} (hb : w.heap[b]? = some (.cells (wa m) t fr)) :
    g.on.cell? ⟨b, 0, none⟩ = some (.int .u64 ((l0 m : Nat) : Int)) ∧ g.on.cell? ⟨b, 1, none⟩ = some (.int .u64 ((l1 m : Nat) : Int)) ∧
    g.on.cell? ⟨b, 2, none⟩ = some (.int .u64 ((l2 m : Nat) : Int)) ∧ g.on.cell? ⟨b, 3, none⟩ = some (.int .u64 ((l3 m : Nat) : Int)) := by
  have h := g.block hb
  exact ⟨cell_of_row _ _ 0 _ _ _ h, cell_of_row _ _ 1 _ _ _ h, cell_of_row _ _ 2 _ _ _ h, cell_of_row _ _ 3 _ _ _ h⟩

/-- A block that lies stays, whatever is made behind it. -/
theorem Below.stays {w w' : World} (h : Below w.heap.size w w') {b : Nat} {o : Obj} (hb : w.heap[b]? = some o) : w'.heap[b]? = some o := by
  rw [h.block b (Array.getElem?_eq_some_iff.1 hb).1, hb]

end Go.Proofs.Ytdgenbidgieojaa
