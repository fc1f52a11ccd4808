/- What the functions Of, Not, And, Or, Xor, Add, Sub and mulAdd of package word do, for every word: each returns the word it should, and leaves all older memory as it was. -/
import Derived.Test.YtdpbjdecbilaeaaRows
import Derived.Test.YtdpbjdecbilaeaaG0
import Derived.Test.YtdpbjdecbilaeaaShelf
import Derived.WalkKit
import Derived.WalkSpells
import Derived.WalkLawsBesides
import Derived.BigQuiet
import Derived.LoopN
import Derived.DeepKeys
import Derived.Deep.WholeRow
import Derived.Lib.Hide
import Derived.StillTailTactics
namespace Go.Proofs.Ytdpbjdecbilaeaa
open Go.RowKit SmWord
set_option maxRecDepth 100000

/-- The parts of the word n (of n its rest by 2^256). -/
def wa (n : Nat) : Array Value := #[.int .u64 ((l0 n : Nat) : Int), .int .u64 ((l1 n : Nat) : Int), .int .u64 ((l2 n : Nat) : Int), .int .u64 ((l3 n : Nat) : Int)]
/-- The word n. -/
abbrev wd (n : Nat) : Value := .agg (wa n)

theorem wa_congr {m n : Nat} (h : m % M = n % M) : wa m = wa n := by
  obtain ⟨h0, h1, h2, h3⟩ := parts_congr h
  unfold wa; rw [h0, h1, h2, h3]
theorem wa_inj {m n : Nat} (h : wa m = wa n) : m % M = n % M := by
  unfold wa at h
  simp only [Array.mk.injEq, List.cons.injEq, Value.int.injEq, true_and, and_true] at h
  obtain ⟨h0, h1, h2, h3⟩ := h
  exact congr_parts (by omega) (by omega) (by omega) (by omega)
theorem wd_congr {m n : Nat} (h : m % M = n % M) : wd m = wd n := congrArg Value.agg (wa_congr h)
theorem wd_num {a b c d : Nat} (ha : a < B) (hb : b < B) (hc : c < B) (hd : d < B) :
    wd (num a b c d) = .agg #[.int .u64 (a : Int), .int .u64 (b : Int), .int .u64 (c : Int), .int .u64 (d : Int)] := by
  obtain ⟨h0, h1, h2, h3⟩ := parts_num ha hb hc hd
  unfold wd wa; rw [h0, h1, h2, h3]
theorem wd_inj {m n : Nat} (h : wd m = wd n) : m % M = n % M := wa_inj (Value.agg.inj h)

theorem add64_run (x y c : Nat) (hc : c ≤ 1) (w : World) :
    (callFunc 63 #[.int .u64 (x : Int), .int .u64 (y : Int), .int .u64 (c : Int)]).run Try.prog w = .ok (.value (.tuple #[.int .u64 ((lo x y c : Nat) : Int), .int .u64 ((hi x y c : Nat) : Int)])) w := by
  rw [run_callFunc_extern (e := add64Entry) Try.func63 (by kernel_rfl) (by kernel_rfl) (by kernel_rfl) (by kernel_rfl), run_add64 x y c (by omega) (by omega) (by omega) (by omega) w]
  unfold lo hi
  simp only [Result.andThen]
  congr 7
def sub64Entry : Array Value → Sem Value := fun args => do
  let (x, y, b) ← Extern.MathBitsCarry.three "Sub64" args
  pure (Extern.MathBitsCarry.pair ((x + Extern.MathBitsCarry.m64 - y - b) % Extern.MathBitsCarry.m64) (if x < y + b then 1 else 0))
theorem sub64_run (x y c : Nat) (hc : c ≤ 1) (w : World) :
    (callFunc 65 #[.int .u64 (x : Int), .int .u64 (y : Int), .int .u64 (c : Int)]).run Try.prog w = .ok (.value (.tuple #[.int .u64 ((dlo x y c : Nat) : Int), .int .u64 ((dhi x y c : Nat) : Int)])) w := by
  rw [run_callFunc_extern (e := sub64Entry) Try.func65 (by kernel_rfl) (by kernel_rfl) (by kernel_rfl) (by kernel_rfl)]
  have h : c = 0 ∨ c = 1 := by omega
  have m : Extern.MathBitsCarry.m64 = B := rfl
  rcases h with rfl | rfl
  all_goals
    show Result.andThen (Result.ok (Extern.MathBitsCarry.pair _ _) w) _ = _
    simp only [Result.andThen, Extern.MathBitsCarry.pair, m]
    rfl

set_option maxHeartbeats 400000 in
theorem of_wd (n : Nat) (w : World) (hn : n < B) :
    Calls Try.prog 54 #[.int .u64 (n : Int)] w fun e w' => e = .returned (wd n) ∧ Below w.heap.size w w' := by
  have hv : wd n = .agg #[.int .u64 (n : Int), .int .u64 0, .int .u64 0, .int .u64 0] := by
    have := wd_num (a := n) (b := 0) (c := 0) (d := 0) hn (by decide) (by decide) (by decide)
    simpa [num] using this
  rw [hv]
  clear hv hn
  go_enter Try.func54, Try.ntmps54
  go_wp2
  refine bodyPost_ret (v := .agg #[.int .u64 (n : Int), .int .u64 0, .int .u64 0, .int .u64 0]) (by simp [results, Try.results54, go_sem]) rfl ⟨rfl, ?_⟩
  exact (Below.refl _ _).alloc (Nat.le_refl _) _

set_option maxHeartbeats 2000000 in
theorem add_walk (a0 a1 a2 a3 b0 b1 b2 b3 r0 r1 r2 r3 c0 c1 c2 c3 : Int) (w : World)
    (k0 : ∀ w : World, (callFunc 63 #[.int .u64 a0, .int .u64 b0, .int .u64 0]).run Try.prog w = .ok (.value (.tuple #[.int .u64 r0, .int .u64 c0])) w)
    (k1 : ∀ w : World, (callFunc 63 #[.int .u64 a1, .int .u64 b1, .int .u64 c0]).run Try.prog w = .ok (.value (.tuple #[.int .u64 r1, .int .u64 c1])) w)
    (k2 : ∀ w : World, (callFunc 63 #[.int .u64 a2, .int .u64 b2, .int .u64 c1]).run Try.prog w = .ok (.value (.tuple #[.int .u64 r2, .int .u64 c2])) w)
    (k3 : ∀ w : World, (callFunc 63 #[.int .u64 a3, .int .u64 b3, .int .u64 c2]).run Try.prog w = .ok (.value (.tuple #[.int .u64 r3, .int .u64 c3])) w) :
    Calls Try.prog 40 #[.agg #[.int .u64 a0, .int .u64 a1, .int .u64 a2, .int .u64 a3], .agg #[.int .u64 b0, .int .u64 b1, .int .u64 b2, .int .u64 b3]] w fun e w' =>
      e = .returned (.agg #[.int .u64 r0, .int .u64 r1, .int .u64 r2, .int .u64 r3]) ∧ Below w.heap.size w w' := by
  go_enter Try.func40, Try.ntmps40
  go_wp2
  refine wp_loop_rounds 5 ?_
  rw [rounds_succ]
  go_wp2
  go_region
  go_wp2
  rw [rounds_succ]
  go_wp2
  go_region
  go_wp2
  rw [rounds_succ]
  go_wp2
  go_region
  go_wp2
  rw [rounds_succ]
  go_wp2
  go_region
  go_wp2
  rw [rounds_succ]
  go_wp2
  refine bodyPost_ret (v := .agg #[.int .u64 r0, .int .u64 r1, .int .u64 r2, .int .u64 r3]) (by simp [results, Try.results40, go_sem]) rfl ⟨rfl, ?_⟩
  repeat (first | exact Below.refl _ _ | refine Below.drew ?_ | refine Below.alloc ?_ (by simp; try omega) _ | refine Below.setCell ?_ (by simp; try omega) _)

theorem add_wd (m n : Nat) (w : World) :
    Calls Try.prog 40 #[wd m, wd n] w fun e w' => e = .returned (wd (m + n)) ∧ Below w.heap.size w w' := by
  obtain ⟨A0, A1, A2, _⟩ := l_lt m
  obtain ⟨C0, C1, C2, _⟩ := l_lt n
  have e := add_num (l0 m) (l1 m) (l2 m) (l3 m) (l0 n) (l1 n) (l2 n) (l3 n)
  rw [num_parts, num_parts, ← Nat.add_mod] at e
  rw [← wd_congr e, wd_num (lo_lt _ _ _) (lo_lt _ _ _) (lo_lt _ _ _) (lo_lt _ _ _)]
  have q0 := hi_le A0 C0 (c := 0) (Nat.zero_le _)
  have q1 := hi_le A1 C1 q0
  have q2 := hi_le A2 C2 q1
  exact add_walk _ _ _ _ _ _ _ _ _ _ _ _ _ _ _ _ w (add64_run _ _ 0 (Nat.zero_le _)) (add64_run _ _ _ q0) (add64_run _ _ _ q1) (add64_run _ _ _ q2)

set_option maxHeartbeats 2000000 in
theorem sub_walk (a0 a1 a2 a3 b0 b1 b2 b3 r0 r1 r2 r3 c0 c1 c2 c3 : Int) (w : World)
    (k0 : ∀ w : World, (callFunc 65 #[.int .u64 a0, .int .u64 b0, .int .u64 0]).run Try.prog w = .ok (.value (.tuple #[.int .u64 r0, .int .u64 c0])) w)
    (k1 : ∀ w : World, (callFunc 65 #[.int .u64 a1, .int .u64 b1, .int .u64 c0]).run Try.prog w = .ok (.value (.tuple #[.int .u64 r1, .int .u64 c1])) w)
    (k2 : ∀ w : World, (callFunc 65 #[.int .u64 a2, .int .u64 b2, .int .u64 c1]).run Try.prog w = .ok (.value (.tuple #[.int .u64 r2, .int .u64 c2])) w)
    (k3 : ∀ w : World, (callFunc 65 #[.int .u64 a3, .int .u64 b3, .int .u64 c2]).run Try.prog w = .ok (.value (.tuple #[.int .u64 r3, .int .u64 c3])) w) :
    Calls Try.prog 42 #[.agg #[.int .u64 a0, .int .u64 a1, .int .u64 a2, .int .u64 a3], .agg #[.int .u64 b0, .int .u64 b1, .int .u64 b2, .int .u64 b3]] w fun e w' =>
      e = .returned (.agg #[.int .u64 r0, .int .u64 r1, .int .u64 r2, .int .u64 r3]) ∧ Below w.heap.size w w' := by
  go_enter Try.func42, Try.ntmps42
  go_wp2
  refine wp_loop_rounds 5 ?_
  rw [rounds_succ]
  go_wp2
  go_region
  go_wp2
  rw [rounds_succ]
  go_wp2
  go_region
  go_wp2
  rw [rounds_succ]
  go_wp2
  go_region
  go_wp2
  rw [rounds_succ]
  go_wp2
  go_region
  go_wp2
  rw [rounds_succ]
  go_wp2
  refine bodyPost_ret (v := .agg #[.int .u64 r0, .int .u64 r1, .int .u64 r2, .int .u64 r3]) (by simp [results, Try.results42, go_sem]) rfl ⟨rfl, ?_⟩
  repeat (first | exact Below.refl _ _ | refine Below.drew ?_ | refine Below.alloc ?_ (by simp; try omega) _ | refine Below.setCell ?_ (by simp; try omega) _)

theorem sub_wd (m n k : Nat) (w : World) (hk : (k + n) % M = m % M) :
    Calls Try.prog 42 #[wd m, wd n] w fun e w' => e = .returned (wd k) ∧ Below w.heap.size w w' := by
  obtain ⟨A0, A1, A2, A3⟩ := l_lt m
  obtain ⟨C0, C1, C2, C3⟩ := l_lt n
  have e := sub_num A0 A1 A2 A3 C0 C1 C2 C3
  rw [num_parts, num_parts, Nat.mod_mod] at e
  rw [← wd_congr (mod_cancel e hk), wd_num (dlo_lt _ _ _) (dlo_lt _ _ _) (dlo_lt _ _ _) (dlo_lt _ _ _)]
  have q0 := dhi_le (l0 m) (l0 n) 0
  have q1 := dhi_le (l1 m) (l1 n) (dhi (l0 m) (l0 n) 0)
  have q2 := dhi_le (l2 m) (l2 n) (dhi (l1 m) (l1 n) (dhi (l0 m) (l0 n) 0))
  exact sub_walk _ _ _ _ _ _ _ _ _ _ _ _ _ _ _ _ w (sub64_run _ _ 0 (Nat.zero_le _)) (sub64_run _ _ _ q0) (sub64_run _ _ _ q1) (sub64_run _ _ _ q2)

end Go.Proofs.Ytdpbjdecbilaeaa
/- Laws of the model that this seat's proofs lean on: arrays of integers by value (equality, whole loads), and regions whose operations read, and call functions that only make new memory. -/
namespace Go.Proofs.Ytdpbjdecbilaeaa
open Go.RowKit SmWord
set_option maxRecDepth 100000

/-- A world in which all that lay in w lies as it lay. -/
structure Ext (w : World) where
  on : World
  below : Below w.heap.size w on

instance (w : World) : Nonempty (Ext w) := ⟨⟨w, Below.refl _ _⟩⟩

theorem region_ext {P : Program} {id : Nat} {Q : Exit → Act → World → Prop} {a : Act} {w : World} {l : List Oper} (hm : P.follows .mixedOrders = true) (hB : Region.lexB .any l.toArray = true)
    (h : wpQuiet P l.toArray (fun w' => ∃ g : Ext w, w' = g.on) (fun a' => ∀ w', (∃ g : Ext w, w' = g.on) → Q .normal a' w') l a) : (Code.region id l.toArray true).wp P Q a w :=
  wp_region_quiet (C := fun w' => ∃ g : Ext w, w' = g.on) hm hB ⟨⟨w.drew, (Below.refl _ _).drew⟩, rfl⟩ (by simpa using h)

theorem calls_ext {P : Program} {f : FuncId} {args : Array Value} {w : World} {g : Ext w} {v : Value}
    (h : Calls P f args g.on fun e w' => e = .returned v ∧ Below g.on.heap.size g.on w') : Calls P f args g.on fun e w'' => e = .returned v ∧ ∃ g' : Ext w, w'' = g'.on :=
  h.mono fun _ w'' ⟨he, hb⟩ => ⟨he, ⟨w'', g.below.trans (hb.mono g.below.size)⟩, rfl⟩

theorem Ext.block {w : World} (g : Ext w) {b : Nat} {o : Obj} (hb : w.heap[b]? = some o) : g.on.heap[b]? = some o := by
  rw [g.below.block b (Array.getElem?_eq_some_iff.1 hb).1, hb]

theorem load_row {P : Program} (w : World) (b : Nat) (t : TypeId) (c : Array Value) (fr : Nat × Nat) (n : Nat) (hn : c.size = n) (hb : w.heap[b]? = some (.cells c t fr)) :
    (loadCellsFrom ⟨b, 0, none⟩ 0 n #[]).run P w = .ok c w := by
  subst hn
  have := run_loadCells_list (P := P) w ⟨b, 0, none⟩ c.toList (fun j v hv => by
    have hadd : (⟨b, 0, none⟩ : Addr).add j = ⟨b, j, none⟩ := by unfold Addr.add; split <;> simp_all
    rw [hadd, cell_of_row _ _ j c t fr hb]
    simpa using hv)
  simpa [loadCells] using this

/-- Arrays of integers, compared. -/
theorem eqItems_ints {P : Program} {e : TypeId} {k k' : IntKind} (he : P.underlying e = some (.int k')) (d : Nat) (xs ys : Array Value) (w : World) : ∀ is : List Nat,
    (∀ i ∈ is, ∃ a b : Int, xs[i]? = some (.int k a) ∧ ys[i]? = some (.int k b)) →
    ∃ r : Bool, (Op.eqItems (d + 1) e 1 xs ys is).run P w = .ok r w ∧ (r = true ↔ ∀ i ∈ is, xs[i]? = ys[i]?)
  | [], _ => ⟨true, by simp [Op.eqItems], by simp⟩
  | i :: is, h => by
    obtain ⟨a, b, ha, hb⟩ := h i (by simp)
    obtain ⟨r, hr, hiff⟩ := eqItems_ints he d xs ys w is (fun j hj => h j (by simp [hj]))
    have hp : P.plainKey e = true := by unfold Program.plainKey; simp [he]
    have p1 : (part e xs (i * 1)).run P w = .ok (.int k a) w := run_part_plain w hp (by simpa using ha)
    have p2 : (part e ys (i * 1)).run P w = .ok (.int k b) w := run_part_plain w hp (by simpa using hb)
    simp only [Op.eqItems, Sem.run_bind, p1, p2, Result.andThen_ok, run_equalIn_int w d e k k' a b he]
    by_cases hab : a = b
    · subst hab
      refine ⟨r, by simpa using hr, ?_⟩
      rw [hiff]
      simp [ha, hb]
    · refine ⟨false, by simp [hab], ?_⟩
      simp [ha, hb, hab]

theorem equal_ints {P : Program} {t e : TypeId} {n : Nat} {k k' : IntKind} (hu : P.underlying t = some (.array n e)) (he : P.underlying e = some (.int k')) (hc : P.cellsOf e = 1)
    (xs ys : Array Value) (hx : xs.size = n) (hy : ys.size = n) (h : ∀ i, i < n → ∃ a b : Int, xs[i]? = some (.int k a) ∧ ys[i]? = some (.int k b)) (w : World) :
    ∃ r : Bool, (Op.equalIn 10000 t (.agg xs) (.agg ys)).run P w = .ok r w ∧ (r = true ↔ xs = ys) := by
  obtain ⟨i, hi⟩ := info_of_underlying he
  obtain ⟨r, hr, hiff⟩ := eqItems_ints he 9998 xs ys w (List.range n) (fun j hj => h j (List.mem_range.1 hj))
  refine ⟨r, by rw [show (10000 : Nat) = 9999 + 1 from rfl, run_equalIn_array w 9999 xs ys hu hi, hc]; exact hr, hiff.trans ⟨fun H => ?_, fun H => by simp [H]⟩⟩
  apply Array.ext_getElem?
  intro j
  by_cases hj : j < n
  · exact H j (List.mem_range.2 hj)
  · rw [Array.getElem?_eq_none (by omega), Array.getElem?_eq_none (by omega)]

theorem Try.cells22 : Try.prog.cellsOf 22 = 1 := by kernel_rfl
theorem wa_size (n : Nat) : (wa n).size = 4 := rfl
theorem wa_get (n : Nat) (i : Nat) (hi : i < 4) : ∃ a : Int, (wa n)[i]? = some (.int .u64 a) := by
  have : i = 0 ∨ i = 1 ∨ i = 2 ∨ i = 3 := by omega
  rcases this with rfl | rfl | rfl | rfl
  · exact ⟨_, rfl⟩
  · exact ⟨_, rfl⟩
  · exact ⟨_, rfl⟩
  · exact ⟨_, rfl⟩
theorem equal_wa (m n : Nat) (w : World) : (Op.equalIn 10000 24 (.agg (wa m)) (.agg (wa n))).run Try.prog w = .ok (decide (m % M = n % M)) w := by
  obtain ⟨r, hr, hiff⟩ := equal_ints (k := .u64) Try.underlying24 Try.underlying22 Try.cells22 (wa m) (wa n) (wa_size m) (wa_size n) (fun i hi => by
    obtain ⟨a, ha⟩ := wa_get m i hi
    obtain ⟨b, hb⟩ := wa_get n i hi
    exact ⟨a, b, ha, hb⟩) w
  rw [hr]
  congr 1
  rw [Bool.eq_iff_iff, hiff, decide_eq_true_iff]
  exact ⟨wa_inj, wa_congr⟩
end Go.Proofs.Ytdpbjdecbilaeaa
/- What the functions Compare and Len of package word do, for every word: Compare returns -1, 0 or 1 as the first is less, the same or more; Len returns how many bits the word has; all older memory is as it was. -/
namespace Go.Proofs.Ytdpbjdecbilaeaa
open Go.RowKit SmWord
set_option maxRecDepth 100000

theorem below_N {B : Nat} {a w : World} (h : Below B a w) (n : Nat) : Below B a (w.drewN n) := ⟨h.os, h.tape, h.output, h.size, h.block⟩

set_option maxHeartbeats 1000000 in
theorem isNaN_walk (x : Int) (w : World) : Calls Try.prog 78 #[.int .u64 x] w fun e w' => e = .returned (.bool false) ∧ w = w' := by
  have h : (x != x) = false := by simp
  go_enter Try.func78, Try.ntmps78
  go_wp2
  go_ret
  exact ⟨rfl, rfl⟩
def cmpI (x y : Int) : Int := if x < y then -1 else if y < x then 1 else 0
set_option maxHeartbeats 1000000 in
theorem cmp64_walk (x y : Int) (w : World) : Calls Try.prog 72 #[.int .u64 x, .int .u64 y] w fun e w' => e = .returned (.int .i64 (cmpI x y)) ∧ w = w' := by
  unfold cmpI
  by_cases h1 : x < y
  · rw [if_pos h1]
    go_enter Try.func72, Try.ntmps72
    go_wp2_with (go_at_call 78; refine (isNaN_walk _ _).mono ?_; rintro e w' ⟨rfl, rfl⟩)
    go_ret
    exact ⟨rfl, rfl⟩
  · rw [if_neg h1]
    by_cases h2 : y < x
    · rw [if_pos h2]
      go_enter Try.func72, Try.ntmps72
      go_wp2_with (go_at_call 78; refine (isNaN_walk _ _).mono ?_; rintro e w' ⟨rfl, rfl⟩)
      go_ret
      exact ⟨rfl, rfl⟩
    · rw [if_neg h2]
      go_enter Try.func72, Try.ntmps72
      go_wp2_with (go_at_call 78; refine (isNaN_walk _ _).mono ?_; rintro e w' ⟨rfl, rfl⟩)
      go_ret
      exact ⟨rfl, rfl⟩

set_option maxHeartbeats 1000000 in
theorem cmp_walkE (a0 a1 a2 a3 b0 b1 b2 b3 : Int) (w : World) (hg : Try.prog.eqGuardType Try.prog.depth 24 = false)
    (hE : ∀ w : World, (Op.equalIn 10000 24 (.agg #[.int .u64 a0, .int .u64 a1, .int .u64 a2, .int .u64 a3]) (.agg #[.int .u64 b0, .int .u64 b1, .int .u64 b2, .int .u64 b3])).run Try.prog w = .ok true w) :
    Calls Try.prog 48 #[.agg #[.int .u64 a0, .int .u64 a1, .int .u64 a2, .int .u64 a3], .agg #[.int .u64 b0, .int .u64 b1, .int .u64 b2, .int .u64 b3]] w fun e w' => e = .returned (.int .i64 0) ∧ Below w.heap.size w w' := by
  go_enter Try.func48, Try.ntmps48
  go_wp2
  go_ret
  refine ⟨rfl, ?_⟩
  repeat (first | exact Below.refl _ _ | refine Below.drew ?_ | refine below_N ?_ _ | refine Below.alloc ?_ (by simp; try omega) _ | refine Below.setCell ?_ (by simp; try omega) _)

set_option maxHeartbeats 1000000 in
theorem cmp_walk3 (a0 a1 a2 a3 b0 b1 b2 b3 v : Int) (w : World) (hg : Try.prog.eqGuardType Try.prog.depth 24 = false)
    (hE : ∀ w : World, (Op.equalIn 10000 24 (.agg #[.int .u64 a0, .int .u64 a1, .int .u64 a2, .int .u64 a3]) (.agg #[.int .u64 b0, .int .u64 b1, .int .u64 b2, .int .u64 b3])).run Try.prog w = .ok false w)
    (h3 : (a3 == b3) = false)
    (H : Hid (∀ w : World, Calls Try.prog 72 #[.int .u64 a3, .int .u64 b3] w fun e w' => e = .returned (.int .i64 v) ∧ w = w')) :
    Calls Try.prog 48 #[.agg #[.int .u64 a0, .int .u64 a1, .int .u64 a2, .int .u64 a3], .agg #[.int .u64 b0, .int .u64 b1, .int .u64 b2, .int .u64 b3]] w fun e w' => e = .returned (.int .i64 v) ∧ Below w.heap.size w w' := by
  go_enter Try.func48, Try.ntmps48
  go_wp2
  refine wp_loop_rounds 5 ?_
  rw [rounds_succ]
  go_wp2
  go_quiet (fail)
  go_wp2
  go_quiet ((go_at_call 72; refine (H.out _).mono ?_; rintro e w2 ⟨rfl, rfl⟩; exact ⟨rfl, _, rfl⟩))
  go_wp2
  go_ret
  refine ⟨rfl, ?_⟩
  repeat (first | exact Below.refl _ _ | refine Below.drew ?_ | refine below_N ?_ _ | refine Below.alloc ?_ (by simp; try omega) _ | refine Below.setCell ?_ (by simp; try omega) _)

set_option maxHeartbeats 1000000 in
theorem cmp_walk2 (a0 a1 a2 a3 b0 b1 b2 b3 v : Int) (w : World) (hg : Try.prog.eqGuardType Try.prog.depth 24 = false)
    (hE : ∀ w : World, (Op.equalIn 10000 24 (.agg #[.int .u64 a0, .int .u64 a1, .int .u64 a2, .int .u64 a3]) (.agg #[.int .u64 b0, .int .u64 b1, .int .u64 b2, .int .u64 b3])).run Try.prog w = .ok false w)
    (h3 : (a3 == b3) = true) (h2 : (a2 == b2) = false)
    (H : Hid (∀ w : World, Calls Try.prog 72 #[.int .u64 a2, .int .u64 b2] w fun e w' => e = .returned (.int .i64 v) ∧ w = w')) :
    Calls Try.prog 48 #[.agg #[.int .u64 a0, .int .u64 a1, .int .u64 a2, .int .u64 a3], .agg #[.int .u64 b0, .int .u64 b1, .int .u64 b2, .int .u64 b3]] w fun e w' => e = .returned (.int .i64 v) ∧ Below w.heap.size w w' := by
  go_enter Try.func48, Try.ntmps48
  go_wp2
  refine wp_loop_rounds 5 ?_
  rw [rounds_succ]
  go_wp2
  go_quiet (fail)
  go_wp2
  rw [rounds_succ]
  go_wp2
  go_quiet (fail)
  go_wp2
  go_quiet ((go_at_call 72; refine (H.out _).mono ?_; rintro e w2 ⟨rfl, rfl⟩; exact ⟨rfl, _, rfl⟩))
  go_wp2
  go_ret
  refine ⟨rfl, ?_⟩
  repeat (first | exact Below.refl _ _ | refine Below.drew ?_ | refine below_N ?_ _ | refine Below.alloc ?_ (by simp; try omega) _ | refine Below.setCell ?_ (by simp; try omega) _)

set_option maxHeartbeats 1000000 in
theorem cmp_walk1 (a0 a1 a2 a3 b0 b1 b2 b3 v : Int) (w : World) (hg : Try.prog.eqGuardType Try.prog.depth 24 = false)
    (hE : ∀ w : World, (Op.equalIn 10000 24 (.agg #[.int .u64 a0, .int .u64 a1, .int .u64 a2, .int .u64 a3]) (.agg #[.int .u64 b0, .int .u64 b1, .int .u64 b2, .int .u64 b3])).run Try.prog w = .ok false w)
    (h3 : (a3 == b3) = true) (h2 : (a2 == b2) = true) (h1 : (a1 == b1) = false)
    (H : Hid (∀ w : World, Calls Try.prog 72 #[.int .u64 a1, .int .u64 b1] w fun e w' => e = .returned (.int .i64 v) ∧ w = w')) :
    Calls Try.prog 48 #[.agg #[.int .u64 a0, .int .u64 a1, .int .u64 a2, .int .u64 a3], .agg #[.int .u64 b0, .int .u64 b1, .int .u64 b2, .int .u64 b3]] w fun e w' => e = .returned (.int .i64 v) ∧ Below w.heap.size w w' := by
  go_enter Try.func48, Try.ntmps48
  go_wp2
  refine wp_loop_rounds 5 ?_
  rw [rounds_succ]
  go_wp2
  go_quiet (fail)
  go_wp2
  rw [rounds_succ]
  go_wp2
  go_quiet (fail)
  go_wp2
  rw [rounds_succ]
  go_wp2
  go_quiet (fail)
  go_wp2
  go_quiet ((go_at_call 72; refine (H.out _).mono ?_; rintro e w2 ⟨rfl, rfl⟩; exact ⟨rfl, _, rfl⟩))
  go_wp2
  go_ret
  refine ⟨rfl, ?_⟩
  repeat (first | exact Below.refl _ _ | refine Below.drew ?_ | refine below_N ?_ _ | refine Below.alloc ?_ (by simp; try omega) _ | refine Below.setCell ?_ (by simp; try omega) _)

set_option maxHeartbeats 1000000 in
theorem cmp_walk0 (a0 a1 a2 a3 b0 b1 b2 b3 v : Int) (w : World) (hg : Try.prog.eqGuardType Try.prog.depth 24 = false)
    (hE : ∀ w : World, (Op.equalIn 10000 24 (.agg #[.int .u64 a0, .int .u64 a1, .int .u64 a2, .int .u64 a3]) (.agg #[.int .u64 b0, .int .u64 b1, .int .u64 b2, .int .u64 b3])).run Try.prog w = .ok false w)
    (h3 : (a3 == b3) = true) (h2 : (a2 == b2) = true) (h1 : (a1 == b1) = true)
    (H : Hid (∀ w : World, Calls Try.prog 72 #[.int .u64 a0, .int .u64 b0] w fun e w' => e = .returned (.int .i64 v) ∧ w = w')) :
    Calls Try.prog 48 #[.agg #[.int .u64 a0, .int .u64 a1, .int .u64 a2, .int .u64 a3], .agg #[.int .u64 b0, .int .u64 b1, .int .u64 b2, .int .u64 b3]] w fun e w' => e = .returned (.int .i64 v) ∧ Below w.heap.size w w' := by
  go_enter Try.func48, Try.ntmps48
  go_wp2
  refine wp_loop_rounds 5 ?_
  rw [rounds_succ]
  go_wp2
  go_quiet (fail)
  go_wp2
  rw [rounds_succ]
  go_wp2
  go_quiet (fail)
  go_wp2
  rw [rounds_succ]
  go_wp2
  go_quiet (fail)
  go_wp2
  rw [rounds_succ]
  go_wp2
  go_quiet (fail)
  go_wp2
  go_quiet ((go_at_call 72; refine (H.out _).mono ?_; rintro e w2 ⟨rfl, rfl⟩; exact ⟨rfl, _, rfl⟩))
  go_wp2
  go_ret
  refine ⟨rfl, ?_⟩
  repeat (first | exact Below.refl _ _ | refine Below.drew ?_ | refine below_N ?_ _ | refine Below.alloc ?_ (by simp; try omega) _ | refine Below.setCell ?_ (by simp; try omega) _)

theorem Try.guardW : Try.prog.eqGuardType Try.prog.depth 24 = false := by kernel_rfl
/-- -1, 0, 1. -/
def cmpN (m n : Nat) : Int := if m < n then -1 else if n < m then 1 else 0
theorem cmpI_nat (m n : Nat) : cmpI (m : Int) (n : Int) = cmpN m n := by
  unfold cmpI cmpN
  simp only [Int.ofNat_lt]
theorem cmp_top {a0 a1 a2 a3 b0 b1 b2 b3 : Nat} (A0 : a0 < B) (A1 : a1 < B) (A2 : a2 < B) (C0 : b0 < B) (C1 : b1 < B) (C2 : b2 < B) :
    (a3 ≠ b3 → cmpN (num a0 a1 a2 a3) (num b0 b1 b2 b3) = cmpN a3 b3) ∧ (a3 = b3 → a2 ≠ b2 → cmpN (num a0 a1 a2 a3) (num b0 b1 b2 b3) = cmpN a2 b2) ∧
    (a3 = b3 → a2 = b2 → a1 ≠ b1 → cmpN (num a0 a1 a2 a3) (num b0 b1 b2 b3) = cmpN a1 b1) ∧ (a3 = b3 → a2 = b2 → a1 = b1 → cmpN (num a0 a1 a2 a3) (num b0 b1 b2 b3) = cmpN a0 b0) := by
  unfold cmpN num
  simp only [B] at *
  refine ⟨fun h => ?_, fun h h' => ?_, fun h h' h'' => ?_, fun h h' h'' => ?_⟩
  all_goals (repeat' split) <;> omega
theorem compare_wd (m n : Nat) (w : World) :
    Calls Try.prog 48 #[wd m, wd n] w fun e w' => e = .returned (.int .i64 (cmpN (m % M) (n % M))) ∧ Below w.heap.size w w' := by
  obtain ⟨A0, A1, A2, A3⟩ := l_lt m
  obtain ⟨C0, C1, C2, C3⟩ := l_lt n
  have hq := fun w => equal_wa m n w
  by_cases he : m % M = n % M
  · have hv : cmpN (m % M) (n % M) = 0 := by rw [he]; unfold cmpN; simp
    rw [hv]
    rw [decide_eq_true he] at hq
    exact cmp_walkE _ _ _ _ _ _ _ _ w Try.guardW hq
  · rw [decide_eq_false he] at hq
    obtain ⟨t3, t2, t1, t0⟩ := cmp_top (a3 := l3 m) (b3 := l3 n) A0 A1 A2 C0 C1 C2
    rw [num_parts, num_parts] at t3 t2 t1 t0
    by_cases h3 : l3 m = l3 n
    · by_cases h2 : l2 m = l2 n
      · by_cases h1 : l1 m = l1 n
        · rw [t0 h3 h2 h1, ← cmpI_nat]
          exact cmp_walk0 _ _ _ _ _ _ _ _ _ w Try.guardW hq (by simp [h3]) (by simp [h2]) (by simp [h1]) (fun w => cmp64_walk _ _ w)
        · rw [t1 h3 h2 h1, ← cmpI_nat]
          exact cmp_walk1 _ _ _ _ _ _ _ _ _ w Try.guardW hq (by simp [h3]) (by simp [h2]) (beq_eq_false_iff_ne.2 (by omega)) (fun w => cmp64_walk _ _ w)
      · rw [t2 h3 h2, ← cmpI_nat]
        exact cmp_walk2 _ _ _ _ _ _ _ _ _ w Try.guardW hq (by simp [h3]) (beq_eq_false_iff_ne.2 (by omega)) (fun w => cmp64_walk _ _ w)
    · rw [t3 h3, ← cmpI_nat]
      exact cmp_walk3 _ _ _ _ _ _ _ _ _ w Try.guardW hq (beq_eq_false_iff_ne.2 (by omega)) (fun w => cmp64_walk _ _ w)

theorem len64_nat (x : Nat) (w : World) (h : x < B) : Calls Try.prog 77 #[.int .u64 (x : Int)] w fun e w' => e = .returned (.int .i64 ((Lib.bitLen x : Nat) : Int)) ∧ w = w' :=
  (Try.bits_Len64 x w (by omega) (by simp only [B] at h; omega)).mono fun e w' ⟨h1, h2⟩ => ⟨by rw [h1, Int.toNat_natCast], h2.symm⟩

set_option maxHeartbeats 1000000 in
theorem len_walk3 (a0 a1 a2 a3 v : Int) (w : World) (h3 : (a3 != 0) = true) (hv0 : 0 ≤ v) (hv1 : v ≤ 64)
    (H : Hid (∀ w : World, Calls Try.prog 77 #[.int .u64 a3] w fun e w' => e = .returned (.int .i64 v) ∧ w = w')) :
    Calls Try.prog 70 #[.agg #[.int .u64 a0, .int .u64 a1, .int .u64 a2, .int .u64 a3]] w fun e w' => e = .returned (.int .i64 (192 + v)) ∧ Below w.heap.size w w' := by
  go_enter Try.func70, Try.ntmps70
  go_wp2
  refine wp_loop_rounds 5 ?_
  rw [rounds_succ]
  go_wp2_with (go_at_call 77; refine (H.out _).mono ?_; rintro e w' ⟨rfl, rfl⟩)
  go_ret
  refine ⟨rfl, ?_⟩
  repeat (first | exact Below.refl _ _ | refine Below.drew ?_ | refine below_N ?_ _ | refine Below.alloc ?_ (by simp; try omega) _ | refine Below.setCell ?_ (by simp; try omega) _)

set_option maxHeartbeats 1000000 in
theorem len_walk2 (a0 a1 a2 a3 v : Int) (w : World) (h3 : (a3 != 0) = false) (h2 : (a2 != 0) = true) (hv0 : 0 ≤ v) (hv1 : v ≤ 64)
    (H : Hid (∀ w : World, Calls Try.prog 77 #[.int .u64 a2] w fun e w' => e = .returned (.int .i64 v) ∧ w = w')) :
    Calls Try.prog 70 #[.agg #[.int .u64 a0, .int .u64 a1, .int .u64 a2, .int .u64 a3]] w fun e w' => e = .returned (.int .i64 (128 + v)) ∧ Below w.heap.size w w' := by
  go_enter Try.func70, Try.ntmps70
  go_wp2
  refine wp_loop_rounds 5 ?_
  rw [rounds_succ]
  go_wp2
  rw [rounds_succ]
  go_wp2_with (go_at_call 77; refine (H.out _).mono ?_; rintro e w' ⟨rfl, rfl⟩)
  go_ret
  refine ⟨rfl, ?_⟩
  repeat (first | exact Below.refl _ _ | refine Below.drew ?_ | refine below_N ?_ _ | refine Below.alloc ?_ (by simp; try omega) _ | refine Below.setCell ?_ (by simp; try omega) _)

set_option maxHeartbeats 1000000 in
theorem len_walk1 (a0 a1 a2 a3 v : Int) (w : World) (h3 : (a3 != 0) = false) (h2 : (a2 != 0) = false) (h1 : (a1 != 0) = true) (hv0 : 0 ≤ v) (hv1 : v ≤ 64)
    (H : Hid (∀ w : World, Calls Try.prog 77 #[.int .u64 a1] w fun e w' => e = .returned (.int .i64 v) ∧ w = w')) :
    Calls Try.prog 70 #[.agg #[.int .u64 a0, .int .u64 a1, .int .u64 a2, .int .u64 a3]] w fun e w' => e = .returned (.int .i64 (64 + v)) ∧ Below w.heap.size w w' := by
  go_enter Try.func70, Try.ntmps70
  go_wp2
  refine wp_loop_rounds 5 ?_
  rw [rounds_succ]
  go_wp2
  rw [rounds_succ]
  go_wp2
  rw [rounds_succ]
  go_wp2_with (go_at_call 77; refine (H.out _).mono ?_; rintro e w' ⟨rfl, rfl⟩)
  go_ret
  refine ⟨rfl, ?_⟩
  repeat (first | exact Below.refl _ _ | refine Below.drew ?_ | refine below_N ?_ _ | refine Below.alloc ?_ (by simp; try omega) _ | refine Below.setCell ?_ (by simp; try omega) _)

set_option maxHeartbeats 1000000 in
theorem len_walk0 (a0 a1 a2 a3 v : Int) (w : World) (h3 : (a3 != 0) = false) (h2 : (a2 != 0) = false) (h1 : (a1 != 0) = false) (h0 : (a0 != 0) = true) (hv0 : 0 ≤ v) (hv1 : v ≤ 64)
    (H : Hid (∀ w : World, Calls Try.prog 77 #[.int .u64 a0] w fun e w' => e = .returned (.int .i64 v) ∧ w = w')) :
    Calls Try.prog 70 #[.agg #[.int .u64 a0, .int .u64 a1, .int .u64 a2, .int .u64 a3]] w fun e w' => e = .returned (.int .i64 (0 + v)) ∧ Below w.heap.size w w' := by
  go_enter Try.func70, Try.ntmps70
  go_wp2
  refine wp_loop_rounds 5 ?_
  rw [rounds_succ]
  go_wp2
  rw [rounds_succ]
  go_wp2
  rw [rounds_succ]
  go_wp2
  rw [rounds_succ]
  go_wp2_with (go_at_call 77; refine (H.out _).mono ?_; rintro e w' ⟨rfl, rfl⟩)
  go_ret
  refine ⟨by simp, ?_⟩
  repeat (first | exact Below.refl _ _ | refine Below.drew ?_ | refine below_N ?_ _ | refine Below.alloc ?_ (by simp; try omega) _ | refine Below.setCell ?_ (by simp; try omega) _)

set_option maxHeartbeats 1000000 in
theorem len_walkZ (a0 a1 a2 a3 : Int) (w : World) (h3 : (a3 != 0) = false) (h2 : (a2 != 0) = false) (h1 : (a1 != 0) = false) (h0 : (a0 != 0) = false) :
    Calls Try.prog 70 #[.agg #[.int .u64 a0, .int .u64 a1, .int .u64 a2, .int .u64 a3]] w fun e w' => e = .returned (.int .i64 0) ∧ Below w.heap.size w w' := by
  go_enter Try.func70, Try.ntmps70
  go_wp2
  refine wp_loop_rounds 5 ?_
  rw [rounds_succ]
  go_wp2
  rw [rounds_succ]
  go_wp2
  rw [rounds_succ]
  go_wp2
  rw [rounds_succ]
  go_wp2
  rw [rounds_succ]
  go_wp2
  go_ret
  refine ⟨rfl, ?_⟩
  repeat (first | exact Below.refl _ _ | refine Below.drew ?_ | refine below_N ?_ _ | refine Below.alloc ?_ (by simp; try omega) _ | refine Below.setCell ?_ (by simp; try omega) _)
end Go.Proofs.Ytdpbjdecbilaeaa
/- What the functions Not, And, Or, Xor and mulAdd of package word do, for every word: each returns the word it should, and leaves all older memory as it was. -/
namespace Go.Proofs.Ytdpbjdecbilaeaa
open Go.RowKit SmWord
set_option maxRecDepth 100000

set_option maxHeartbeats 400000 in
theorem not_walk (a b c d : Int) (w : World) :
    Calls Try.prog 60 #[.agg #[.int .u64 a, .int .u64 b, .int .u64 c, .int .u64 d]] w fun e w' =>
      e = .returned (.agg #[.int .u64 (bits .xor .u64 IntKind.u64.max a), .int .u64 (bits .xor .u64 IntKind.u64.max b), .int .u64 (bits .xor .u64 IntKind.u64.max c), .int .u64 (bits .xor .u64 IntKind.u64.max d)]) ∧ Below w.heap.size w w' := by
  have hs : IntKind.u64.signed = false := rfl
  go_enter Try.func60, Try.ntmps60
  go_wp2
  refine bodyPost_ret (v := .agg #[.int .u64 (bits .xor .u64 IntKind.u64.max a), .int .u64 (bits .xor .u64 IntKind.u64.max b), .int .u64 (bits .xor .u64 IntKind.u64.max c), .int .u64 (bits .xor .u64 IntKind.u64.max d)]) (by simp [results, Try.results60, go_sem]) rfl ⟨rfl, ?_⟩
  repeat (first | exact Below.refl _ _ | refine Below.drew ?_ | refine Below.alloc ?_ (by simp; try omega) _ | refine Below.setCell ?_ (by simp; try omega) _)

set_option maxHeartbeats 400000 in
theorem and_walk (a b c d a' b' c' d' : Int) (w : World) :
    Calls Try.prog 50 #[.agg #[.int .u64 a, .int .u64 b, .int .u64 c, .int .u64 d], .agg #[.int .u64 a', .int .u64 b', .int .u64 c', .int .u64 d']] w fun e w' =>
      e = .returned (.agg #[.int .u64 (bits .and .u64 a a'), .int .u64 (bits .and .u64 b b'), .int .u64 (bits .and .u64 c c'), .int .u64 (bits .and .u64 d d')]) ∧ Below w.heap.size w w' := by
  go_enter Try.func50, Try.ntmps50
  go_wp2
  refine bodyPost_ret (v := .agg #[.int .u64 (bits .and .u64 a a'), .int .u64 (bits .and .u64 b b'), .int .u64 (bits .and .u64 c c'), .int .u64 (bits .and .u64 d d')]) (by simp [results, Try.results50, go_sem]) rfl ⟨rfl, ?_⟩
  repeat (first | exact Below.refl _ _ | refine Below.drew ?_ | refine Below.alloc ?_ (by simp; try omega) _ | refine Below.setCell ?_ (by simp; try omega) _)

set_option maxHeartbeats 400000 in
theorem or_walk (a b c d a' b' c' d' : Int) (w : World) :
    Calls Try.prog 51 #[.agg #[.int .u64 a, .int .u64 b, .int .u64 c, .int .u64 d], .agg #[.int .u64 a', .int .u64 b', .int .u64 c', .int .u64 d']] w fun e w' =>
      e = .returned (.agg #[.int .u64 (bits .or .u64 a a'), .int .u64 (bits .or .u64 b b'), .int .u64 (bits .or .u64 c c'), .int .u64 (bits .or .u64 d d')]) ∧ Below w.heap.size w w' := by
  go_enter Try.func51, Try.ntmps51
  go_wp2
  refine bodyPost_ret (v := .agg #[.int .u64 (bits .or .u64 a a'), .int .u64 (bits .or .u64 b b'), .int .u64 (bits .or .u64 c c'), .int .u64 (bits .or .u64 d d')]) (by simp [results, Try.results51, go_sem]) rfl ⟨rfl, ?_⟩
  repeat (first | exact Below.refl _ _ | refine Below.drew ?_ | refine Below.alloc ?_ (by simp; try omega) _ | refine Below.setCell ?_ (by simp; try omega) _)

set_option maxHeartbeats 400000 in
theorem xor_walk (a b c d a' b' c' d' : Int) (w : World) :
    Calls Try.prog 52 #[.agg #[.int .u64 a, .int .u64 b, .int .u64 c, .int .u64 d], .agg #[.int .u64 a', .int .u64 b', .int .u64 c', .int .u64 d']] w fun e w' =>
      e = .returned (.agg #[.int .u64 (bits .xor .u64 a a'), .int .u64 (bits .xor .u64 b b'), .int .u64 (bits .xor .u64 c c'), .int .u64 (bits .xor .u64 d d')]) ∧ Below w.heap.size w w' := by
  go_enter Try.func52, Try.ntmps52
  go_wp2
  refine bodyPost_ret (v := .agg #[.int .u64 (bits .xor .u64 a a'), .int .u64 (bits .xor .u64 b b'), .int .u64 (bits .xor .u64 c c'), .int .u64 (bits .xor .u64 d d')]) (by simp [results, Try.results52, go_sem]) rfl ⟨rfl, ?_⟩
  repeat (first | exact Below.refl _ _ | refine Below.drew ?_ | refine Below.alloc ?_ (by simp; try omega) _ | refine Below.setCell ?_ (by simp; try omega) _)

set_option maxHeartbeats 400000 in
theorem mulAdd_walk (x y m n h l l1 c1 l2 c2 : Int) (w : World)
    (hm : ∀ w : World, Calls Try.prog 75 #[.int .u64 x, .int .u64 y] w fun e w' => e = .returned (.tuple #[.int .u64 h, .int .u64 l]) ∧ w = w')
    (k1 : ∀ w : World, (callFunc 63 #[.int .u64 l, .int .u64 m, .int .u64 0]).run Try.prog w = .ok (.value (.tuple #[.int .u64 l1, .int .u64 c1])) w)
    (k2 : ∀ w : World, (callFunc 63 #[.int .u64 l1, .int .u64 n, .int .u64 0]).run Try.prog w = .ok (.value (.tuple #[.int .u64 l2, .int .u64 c2])) w) :
    Calls Try.prog 64 #[.int .u64 x, .int .u64 y, .int .u64 m, .int .u64 n] w fun e w' =>
      e = .returned (.tuple #[.int .u64 (IntKind.u64.wrap (IntKind.u64.wrap (h + c1) + c2)), .int .u64 l2]) ∧ w = w' := by
  have H := Lib.hid hm
  clear hm
  go_enter Try.func64, Try.ntmps64
  go_wp2_with (go_at_call 75; refine (H.out _).mono ?_; rintro e w' ⟨rfl, rfl⟩)
  go_ret2
  exact ⟨rfl, rfl⟩

theorem mulAdd_nat (x y m n : Nat) (hx : x < B) (hy : y < B) (hm : m < B) (hn : n < B) (w : World) :
    Calls Try.prog 64 #[.int .u64 (x : Int), .int .u64 (y : Int), .int .u64 (m : Int), .int .u64 (n : Int)] w fun e w' =>
      e = .returned (.tuple #[.int .u64 ((mh x y m n : Nat) : Int), .int .u64 ((ml x y m n : Nat) : Int)]) ∧ w' = w := by
  obtain ⟨e1, e2⟩ := mulAdd_num (x := x) (y := y) (m := m) (n := n)
  have hb := mh_lt hx hy hm hn
  have key := mulAdd_walk x y m n _ _ _ _ _ _ w (fun w => (Try.bits_Mul64 x y hx hy w).mono fun e w' ⟨h1, h2⟩ => ⟨h1, h2.symm⟩)
    (add64_run (x * y % B) m 0 (Nat.zero_le _)) (add64_run (lo (x * y % B) m 0) n 0 (Nat.zero_le _))
  have hw : IntKind.u64.wrap (IntKind.u64.wrap (((x * y / B : Nat) : Int) + ((hi (x * y % B) m 0 : Nat) : Int)) + ((hi (lo (x * y % B) m 0) n 0 : Nat) : Int)) = ((mh x y m n : Nat) : Int) := by
    rw [IntKind.wrap_u64, IntKind.wrap_u64]
    generalize hi (x * y % B) m 0 = u at *
    generalize hi (lo (x * y % B) m 0) n 0 = v at *
    generalize mh x y m n = z at *
    generalize x * y / B = q at *
    simp only [B] at hb
    omega
  refine key.mono fun e w' ⟨h1, h2⟩ => ⟨?_, h2.symm⟩
  rw [h1, e1]
  exact congrArg (fun z => Ending.returned (.tuple #[.int .u64 z, .int .u64 ((ml x y m n : Nat) : Int)])) hw

theorem and_wd (m n : Nat) (w : World) : Calls Try.prog 50 #[wd m, wd n] w fun e w' =>
    e = .returned (wd (num (l0 m &&& l0 n) (l1 m &&& l1 n) (l2 m &&& l2 n) (l3 m &&& l3 n))) ∧ Below w.heap.size w w' := by
  obtain ⟨A0, A1, A2, A3⟩ := l_lt m
  obtain ⟨C0, C1, C2, C3⟩ := l_lt n
  have key := and_walk (l0 m) (l1 m) (l2 m) (l3 m) (l0 n) (l1 n) (l2 n) (l3 n) w
  rw [u64_and_nat _ _ A0 C0, u64_and_nat _ _ A1 C1, u64_and_nat _ _ A2 C2, u64_and_nat _ _ A3 C3] at key
  rw [wd_num (Nat.and_lt_two_pow _ (n := 64) C0) (Nat.and_lt_two_pow _ (n := 64) C1) (Nat.and_lt_two_pow _ (n := 64) C2) (Nat.and_lt_two_pow _ (n := 64) C3)]
  exact key
theorem or_wd (m n : Nat) (w : World) : Calls Try.prog 51 #[wd m, wd n] w fun e w' =>
    e = .returned (wd (num (l0 m ||| l0 n) (l1 m ||| l1 n) (l2 m ||| l2 n) (l3 m ||| l3 n))) ∧ Below w.heap.size w w' := by
  obtain ⟨A0, A1, A2, A3⟩ := l_lt m
  obtain ⟨C0, C1, C2, C3⟩ := l_lt n
  have key := or_walk (l0 m) (l1 m) (l2 m) (l3 m) (l0 n) (l1 n) (l2 n) (l3 n) w
  rw [u64_or_nat _ _ A0 C0, u64_or_nat _ _ A1 C1, u64_or_nat _ _ A2 C2, u64_or_nat _ _ A3 C3] at key
  rw [wd_num (Nat.or_lt_two_pow (n := 64) A0 C0) (Nat.or_lt_two_pow (n := 64) A1 C1) (Nat.or_lt_two_pow (n := 64) A2 C2) (Nat.or_lt_two_pow (n := 64) A3 C3)]
  exact key
theorem xor_wd (m n : Nat) (w : World) : Calls Try.prog 52 #[wd m, wd n] w fun e w' =>
    e = .returned (wd (num (l0 m ^^^ l0 n) (l1 m ^^^ l1 n) (l2 m ^^^ l2 n) (l3 m ^^^ l3 n))) ∧ Below w.heap.size w w' := by
  obtain ⟨A0, A1, A2, A3⟩ := l_lt m
  obtain ⟨C0, C1, C2, C3⟩ := l_lt n
  have key := xor_walk (l0 m) (l1 m) (l2 m) (l3 m) (l0 n) (l1 n) (l2 n) (l3 n) w
  rw [u64_xor_nat _ _ A0 C0, u64_xor_nat _ _ A1 C1, u64_xor_nat _ _ A2 C2, u64_xor_nat _ _ A3 C3] at key
  rw [wd_num (Nat.xor_lt_two_pow (n := 64) A0 C0) (Nat.xor_lt_two_pow (n := 64) A1 C1) (Nat.xor_lt_two_pow (n := 64) A2 C2) (Nat.xor_lt_two_pow (n := 64) A3 C3)]
  exact key

theorem xor_ones (a : Nat) (ha : a < B) : bits .xor .u64 IntKind.u64.max (a : Int) = ((B - 1 - a : Nat) : Int) := by
  have h := u64_xor_nat (B - 1) a (by decide) ha
  have e : (IntKind.u64.max : Int) = ((B - 1 : Nat) : Int) := by decide
  rw [e, h]
  congr 1
  apply Nat.eq_of_testBit_eq
  intro i
  have h1 : (B - 1).testBit i = decide (i < 64) := Nat.testBit_two_pow_sub_one 64 i
  have h2 : (B - 1 - a).testBit i = (decide (i < 64) && !a.testBit i) := by
    have := Nat.testBit_two_pow_sub_succ (n := 64) (x := a) ha i
    rw [← this]; congr 1; simp only [B]; omega
  rw [Nat.testBit_xor, h1, h2]
  by_cases hi : i < 64
  · simp [hi]
  · have : a.testBit i = false := Nat.testBit_lt_two_pow (Nat.lt_of_lt_of_le ha (Nat.pow_le_pow_right (n := 2) (i := 64) (by decide) (by omega)))
    simp [hi, this]
theorem not_wd (m : Nat) (w : World) : Calls Try.prog 60 #[wd m] w fun e w' => e = .returned (wd (M - 1 - m % M)) ∧ Below w.heap.size w w' := by
  obtain ⟨A0, A1, A2, A3⟩ := l_lt m
  have key := not_walk (l0 m) (l1 m) (l2 m) (l3 m) w
  rw [xor_ones _ A0, xor_ones _ A1, xor_ones _ A2, xor_ones _ A3] at key
  rw [not_num A0 A1 A2 A3 (num_parts m), wd_num (by omega) (by omega) (by omega) (by omega)]
  exact key
end Go.Proofs.Ytdpbjdecbilaeaa
/- What the function Mul of package word does, for every two words: it returns their product, going round, and leaves all older memory as it was. -/
namespace Go.Proofs.Ytdpbjdecbilaeaa
open Go.RowKit SmWord
set_option maxRecDepth 100000

theorem region_tail {P : Program} {id : Nat} {Q : Exit → Act → World → Prop} {a : Act} {w : World} {l : List Oper} (n : Nat) (hm : P.follows .mixedOrders = true) (hB : Region.lexTailB .any l.toArray n = true)
    (h : wpStill P l.toArray w.drew (fun a' => wpList P l.toArray Q (l.drop n) a' w.drew) (l.take n) a) : (Code.region id l.toArray true).wp P Q a w := wp_region_still_tail n hm hB h

set_option maxHeartbeats 4000000 in
theorem mul_walk (a0 a1 a2 a3 b0 b1 b2 b3 p00 c00 p01 c01 p02 c02 p03 c03 p10 c10 p11 c11 p12 c12 p20 c20 p21 c21 p30 c30 : Int) (w : World)
    (q00 : Hid (∀ w : World, Calls Try.prog 64 #[.int .u64 a0, .int .u64 b0, .int .u64 0, .int .u64 0] w fun e w' => e = .returned (.tuple #[.int .u64 c00, .int .u64 p00]) ∧ w' = w))
    (q01 : Hid (∀ w : World, Calls Try.prog 64 #[.int .u64 a0, .int .u64 b1, .int .u64 0, .int .u64 c00] w fun e w' => e = .returned (.tuple #[.int .u64 c01, .int .u64 p01]) ∧ w' = w))
    (q02 : Hid (∀ w : World, Calls Try.prog 64 #[.int .u64 a0, .int .u64 b2, .int .u64 0, .int .u64 c01] w fun e w' => e = .returned (.tuple #[.int .u64 c02, .int .u64 p02]) ∧ w' = w))
    (q03 : Hid (∀ w : World, Calls Try.prog 64 #[.int .u64 a0, .int .u64 b3, .int .u64 0, .int .u64 c02] w fun e w' => e = .returned (.tuple #[.int .u64 c03, .int .u64 p03]) ∧ w' = w))
    (q10 : Hid (∀ w : World, Calls Try.prog 64 #[.int .u64 a1, .int .u64 b0, .int .u64 p01, .int .u64 0] w fun e w' => e = .returned (.tuple #[.int .u64 c10, .int .u64 p10]) ∧ w' = w))
    (q11 : Hid (∀ w : World, Calls Try.prog 64 #[.int .u64 a1, .int .u64 b1, .int .u64 p02, .int .u64 c10] w fun e w' => e = .returned (.tuple #[.int .u64 c11, .int .u64 p11]) ∧ w' = w))
    (q12 : Hid (∀ w : World, Calls Try.prog 64 #[.int .u64 a1, .int .u64 b2, .int .u64 p03, .int .u64 c11] w fun e w' => e = .returned (.tuple #[.int .u64 c12, .int .u64 p12]) ∧ w' = w))
    (q20 : Hid (∀ w : World, Calls Try.prog 64 #[.int .u64 a2, .int .u64 b0, .int .u64 p11, .int .u64 0] w fun e w' => e = .returned (.tuple #[.int .u64 c20, .int .u64 p20]) ∧ w' = w))
    (q21 : Hid (∀ w : World, Calls Try.prog 64 #[.int .u64 a2, .int .u64 b1, .int .u64 p12, .int .u64 c20] w fun e w' => e = .returned (.tuple #[.int .u64 c21, .int .u64 p21]) ∧ w' = w))
    (q30 : Hid (∀ w : World, Calls Try.prog 64 #[.int .u64 a3, .int .u64 b0, .int .u64 p21, .int .u64 0] w fun e w' => e = .returned (.tuple #[.int .u64 c30, .int .u64 p30]) ∧ w' = w)) :
    Calls Try.prog 41 #[.agg #[.int .u64 a0, .int .u64 a1, .int .u64 a2, .int .u64 a3], .agg #[.int .u64 b0, .int .u64 b1, .int .u64 b2, .int .u64 b3]] w fun e w' =>
      e = .returned (.agg #[.int .u64 p00, .int .u64 p10, .int .u64 p20, .int .u64 p30]) ∧ Below w.heap.size w w' := by
  have z0 : IntKind.i64.wrap 0 = 0 := by decide
  have z1 : IntKind.i64.wrap 1 = 1 := by decide
  have z2 : IntKind.i64.wrap 2 = 2 := by decide
  have z3 : IntKind.i64.wrap 3 = 3 := by decide
  go_enter Try.func41, Try.ntmps41
  go_wp2
  refine wp_loop_rounds 5 ?_
  rw [rounds_succ]
  go_wp2
  refine wp_loop_rounds 5 ?_
  rw [rounds_succ]
  go_wp2
  refine region_tail 20 (by kernel_rfl) (by kernel_rfl) ?_
  simp only [List.take_succ_cons, List.take_zero, List.drop_succ_cons, List.drop_zero]
  repeat still_step
  still_call (q00.out _)
  repeat still_step
  refine wpStill_nil ?_
  go_wp2
  rw [rounds_succ]
  go_wp2
  refine region_tail 20 (by kernel_rfl) (by kernel_rfl) ?_
  simp only [List.take_succ_cons, List.take_zero, List.drop_succ_cons, List.drop_zero]
  repeat still_step
  still_call (q01.out _)
  repeat still_step
  refine wpStill_nil ?_
  go_wp2
  rw [rounds_succ]
  go_wp2
  refine region_tail 20 (by kernel_rfl) (by kernel_rfl) ?_
  simp only [List.take_succ_cons, List.take_zero, List.drop_succ_cons, List.drop_zero]
  repeat still_step
  still_call (q02.out _)
  repeat still_step
  refine wpStill_nil ?_
  go_wp2
  rw [rounds_succ]
  go_wp2
  refine region_tail 20 (by kernel_rfl) (by kernel_rfl) ?_
  simp only [List.take_succ_cons, List.take_zero, List.drop_succ_cons, List.drop_zero]
  repeat still_step
  still_call (q03.out _)
  repeat still_step
  refine wpStill_nil ?_
  go_wp2
  rw [rounds_succ]
  go_wp2
  rw [rounds_succ]
  go_wp2
  refine wp_loop_rounds 5 ?_
  rw [rounds_succ]
  go_wp2
  refine region_tail 20 (by kernel_rfl) (by kernel_rfl) ?_
  simp only [List.take_succ_cons, List.take_zero, List.drop_succ_cons, List.drop_zero]
  repeat still_step
  still_call (q10.out _)
  repeat still_step
  refine wpStill_nil ?_
  go_wp2
  rw [rounds_succ]
  go_wp2
  refine region_tail 20 (by kernel_rfl) (by kernel_rfl) ?_
  simp only [List.take_succ_cons, List.take_zero, List.drop_succ_cons, List.drop_zero]
  repeat still_step
  still_call (q11.out _)
  repeat still_step
  refine wpStill_nil ?_
  go_wp2
  rw [rounds_succ]
  go_wp2
  refine region_tail 20 (by kernel_rfl) (by kernel_rfl) ?_
  simp only [List.take_succ_cons, List.take_zero, List.drop_succ_cons, List.drop_zero]
  repeat still_step
  still_call (q12.out _)
  repeat still_step
  refine wpStill_nil ?_
  go_wp2
  rw [rounds_succ]
  go_wp2
  rw [rounds_succ]
  go_wp2
  refine wp_loop_rounds 5 ?_
  rw [rounds_succ]
  go_wp2
  refine region_tail 20 (by kernel_rfl) (by kernel_rfl) ?_
  simp only [List.take_succ_cons, List.take_zero, List.drop_succ_cons, List.drop_zero]
  repeat still_step
  still_call (q20.out _)
  repeat still_step
  refine wpStill_nil ?_
  go_wp2
  rw [rounds_succ]
  go_wp2
  refine region_tail 20 (by kernel_rfl) (by kernel_rfl) ?_
  simp only [List.take_succ_cons, List.take_zero, List.drop_succ_cons, List.drop_zero]
  repeat still_step
  still_call (q21.out _)
  repeat still_step
  refine wpStill_nil ?_
  go_wp2
  rw [rounds_succ]
  go_wp2
  rw [rounds_succ]
  go_wp2
  refine wp_loop_rounds 5 ?_
  rw [rounds_succ]
  go_wp2
  refine region_tail 20 (by kernel_rfl) (by kernel_rfl) ?_
  simp only [List.take_succ_cons, List.take_zero, List.drop_succ_cons, List.drop_zero]
  repeat still_step
  still_call (q30.out _)
  repeat still_step
  refine wpStill_nil ?_
  go_wp2
  rw [rounds_succ]
  go_wp2
  rw [rounds_succ]
  go_wp2
  refine bodyPost_ret (v := .agg #[.int .u64 p00, .int .u64 p10, .int .u64 p20, .int .u64 p30]) (by simp [results, Try.results41, go_sem]) rfl ⟨rfl, ?_⟩
  repeat (first | exact Below.refl _ _ | refine Below.drew ?_ | refine Below.alloc ?_ (by simp; try omega) _ | refine Below.setCell ?_ (by simp; try omega) _)

theorem mul_wd (m n : Nat) (w : World) :
    Calls Try.prog 41 #[wd m, wd n] w fun e w' => e = .returned (wd (m * n)) ∧ Below w.heap.size w w' := by
  obtain ⟨A0, A1, A2, A3⟩ := l_lt m
  obtain ⟨C0, C1, C2, C3⟩ := l_lt n
  have q00 := fun w : World => mulAdd_nat (l0 m) (l0 n) 0 0 A0 C0 (by decide) (by decide) w
  have e00 := ml_mh (l0 m) (l0 n) 0 0
  have L00 := ml_lt (l0 m) (l0 n) 0 0
  have H00 := mh_lt A0 C0 (m := 0) (n := 0) (by decide) (by decide)
  generalize ml (l0 m) (l0 n) 0 0 = p00 at *
  generalize mh (l0 m) (l0 n) 0 0 = c00 at *
  have q01 := fun w : World => mulAdd_nat (l0 m) (l1 n) 0 c00 A0 C1 (by decide) H00 w
  have e01 := ml_mh (l0 m) (l1 n) 0 c00
  have L01 := ml_lt (l0 m) (l1 n) 0 c00
  have H01 := mh_lt A0 C1 (m := 0) (n := c00) (by decide) H00
  generalize ml (l0 m) (l1 n) 0 c00 = p01 at *
  generalize mh (l0 m) (l1 n) 0 c00 = c01 at *
  have q02 := fun w : World => mulAdd_nat (l0 m) (l2 n) 0 c01 A0 C2 (by decide) H01 w
  have e02 := ml_mh (l0 m) (l2 n) 0 c01
  have L02 := ml_lt (l0 m) (l2 n) 0 c01
  have H02 := mh_lt A0 C2 (m := 0) (n := c01) (by decide) H01
  generalize ml (l0 m) (l2 n) 0 c01 = p02 at *
  generalize mh (l0 m) (l2 n) 0 c01 = c02 at *
  have q03 := fun w : World => mulAdd_nat (l0 m) (l3 n) 0 c02 A0 C3 (by decide) H02 w
  have e03 := ml_mh (l0 m) (l3 n) 0 c02
  have L03 := ml_lt (l0 m) (l3 n) 0 c02
  have H03 := mh_lt A0 C3 (m := 0) (n := c02) (by decide) H02
  generalize ml (l0 m) (l3 n) 0 c02 = p03 at *
  generalize mh (l0 m) (l3 n) 0 c02 = c03 at *
  have q10 := fun w : World => mulAdd_nat (l1 m) (l0 n) p01 0 A1 C0 L01 (by decide) w
  have e10 := ml_mh (l1 m) (l0 n) p01 0
  have L10 := ml_lt (l1 m) (l0 n) p01 0
  have H10 := mh_lt A1 C0 (m := p01) (n := 0) L01 (by decide)
  generalize ml (l1 m) (l0 n) p01 0 = p10 at *
  generalize mh (l1 m) (l0 n) p01 0 = c10 at *
  have q11 := fun w : World => mulAdd_nat (l1 m) (l1 n) p02 c10 A1 C1 L02 H10 w
  have e11 := ml_mh (l1 m) (l1 n) p02 c10
  have L11 := ml_lt (l1 m) (l1 n) p02 c10
  have H11 := mh_lt A1 C1 (m := p02) (n := c10) L02 H10
  generalize ml (l1 m) (l1 n) p02 c10 = p11 at *
  generalize mh (l1 m) (l1 n) p02 c10 = c11 at *
  have q12 := fun w : World => mulAdd_nat (l1 m) (l2 n) p03 c11 A1 C2 L03 H11 w
  have e12 := ml_mh (l1 m) (l2 n) p03 c11
  have L12 := ml_lt (l1 m) (l2 n) p03 c11
  have H12 := mh_lt A1 C2 (m := p03) (n := c11) L03 H11
  generalize ml (l1 m) (l2 n) p03 c11 = p12 at *
  generalize mh (l1 m) (l2 n) p03 c11 = c12 at *
  have q20 := fun w : World => mulAdd_nat (l2 m) (l0 n) p11 0 A2 C0 L11 (by decide) w
  have e20 := ml_mh (l2 m) (l0 n) p11 0
  have L20 := ml_lt (l2 m) (l0 n) p11 0
  have H20 := mh_lt A2 C0 (m := p11) (n := 0) L11 (by decide)
  generalize ml (l2 m) (l0 n) p11 0 = p20 at *
  generalize mh (l2 m) (l0 n) p11 0 = c20 at *
  have q21 := fun w : World => mulAdd_nat (l2 m) (l1 n) p12 c20 A2 C1 L12 H20 w
  have e21 := ml_mh (l2 m) (l1 n) p12 c20
  have L21 := ml_lt (l2 m) (l1 n) p12 c20
  have H21 := mh_lt A2 C1 (m := p12) (n := c20) L12 H20
  generalize ml (l2 m) (l1 n) p12 c20 = p21 at *
  generalize mh (l2 m) (l1 n) p12 c20 = c21 at *
  have q30 := fun w : World => mulAdd_nat (l3 m) (l0 n) p21 0 A3 C0 L21 (by decide) w
  have e30 := ml_mh (l3 m) (l0 n) p21 0
  have L30 := ml_lt (l3 m) (l0 n) p21 0
  have H30 := mh_lt A3 C0 (m := p21) (n := 0) L21 (by decide)
  generalize ml (l3 m) (l0 n) p21 0 = p30 at *
  generalize mh (l3 m) (l0 n) p21 0 = c30 at *
  have e := mul_num e00 e01 e02 e03 e10 e11 e12 e20 e21 e30
  rw [num_parts, num_parts, ← Nat.mul_mod] at e
  rw [← wd_congr e, wd_num L00 L10 L20 L30]
  exact mul_walk _ _ _ _ _ _ _ _ _ _ _ _ _ _ _ _ _ _ _ _ _ _ _ _ _ _ _ _ w q00 q01 q02 q03 q10 q11 q12 q20 q21 q30
end Go.Proofs.Ytdpbjdecbilaeaa
/- What the functions Shl and Shr of package word do, for every word and every number of bits: they return the word times 2^n, going round, and divided by 2^n, cut down, and leave all older memory as it was. -/
namespace Go.Proofs.Ytdpbjdecbilaeaa
open Go.RowKit SmWord
set_option maxRecDepth 100000

set_option maxHeartbeats 1000000 in
theorem shl_walk0 (a0 a1 a2 a3 n r : Int) (w : World) (_h0 : 0 ≤ n) (hq : n / 64 = 0) (hr : n % 64 = r) (_r0 : 0 ≤ r) (_r1 : r < 64) :
    Calls Try.prog 56 #[.agg #[.int .u64 a0, .int .u64 a1, .int .u64 a2, .int .u64 a3], .int .u64 n] w fun e w' =>
      e = .returned (.agg #[.int .u64 (IntKind.u64.wrap (a0 * 2 ^ r.toNat)), .int .u64 (bits .or .u64 (IntKind.u64.wrap (a1 * 2 ^ r.toNat)) (a0 / 2 ^ (64 - r).toNat)), .int .u64 (bits .or .u64 (IntKind.u64.wrap (a2 * 2 ^ r.toNat)) (a1 / 2 ^ (64 - r).toNat)), .int .u64 (bits .or .u64 (IntKind.u64.wrap (a3 * 2 ^ r.toNat)) (a2 / 2 ^ (64 - r).toNat))]) ∧ Below w.heap.size w w' := by
  go_enter Try.func56, Try.ntmps56
  go_wp2
  refine wp_loop_rounds 5 ?_
  rw [rounds_succ]
  go_wp2
  rw [rounds_succ]
  go_wp2
  go_region
  go_wp2
  rw [rounds_succ]
  go_wp2
  go_region
  go_wp2
  rw [rounds_succ]
  go_wp2
  go_region
  go_wp2
  rw [rounds_succ]
  go_wp2
  refine bodyPost_ret (v := .agg #[.int .u64 (IntKind.u64.wrap (a0 * 2 ^ r.toNat)), .int .u64 (bits .or .u64 (IntKind.u64.wrap (a1 * 2 ^ r.toNat)) (a0 / 2 ^ (64 - r).toNat)), .int .u64 (bits .or .u64 (IntKind.u64.wrap (a2 * 2 ^ r.toNat)) (a1 / 2 ^ (64 - r).toNat)), .int .u64 (bits .or .u64 (IntKind.u64.wrap (a3 * 2 ^ r.toNat)) (a2 / 2 ^ (64 - r).toNat))]) (by simp [results, Try.results56, go_sem]) rfl ⟨rfl, ?_⟩
  repeat (first | exact Below.refl _ _ | refine Below.drew ?_ | refine Below.alloc ?_ (by simp; try omega) _ | refine Below.setCell ?_ (by simp; try omega) _)

set_option maxHeartbeats 1000000 in
theorem shl_walk1 (a0 a1 a2 a3 n r : Int) (w : World) (_h0 : 0 ≤ n) (hq : n / 64 = 1) (hr : n % 64 = r) (_r0 : 0 ≤ r) (_r1 : r < 64) :
    Calls Try.prog 56 #[.agg #[.int .u64 a0, .int .u64 a1, .int .u64 a2, .int .u64 a3], .int .u64 n] w fun e w' =>
      e = .returned (.agg #[.int .u64 0, .int .u64 (IntKind.u64.wrap (a0 * 2 ^ r.toNat)), .int .u64 (bits .or .u64 (IntKind.u64.wrap (a1 * 2 ^ r.toNat)) (a0 / 2 ^ (64 - r).toNat)), .int .u64 (bits .or .u64 (IntKind.u64.wrap (a2 * 2 ^ r.toNat)) (a1 / 2 ^ (64 - r).toNat))]) ∧ Below w.heap.size w w' := by
  go_enter Try.func56, Try.ntmps56
  go_wp2
  refine wp_loop_rounds 5 ?_
  rw [rounds_succ]
  go_wp2
  rw [rounds_succ]
  go_wp2
  go_region
  go_wp2
  rw [rounds_succ]
  go_wp2
  go_region
  go_wp2
  rw [rounds_succ]
  go_wp2
  refine bodyPost_ret (v := .agg #[.int .u64 0, .int .u64 (IntKind.u64.wrap (a0 * 2 ^ r.toNat)), .int .u64 (bits .or .u64 (IntKind.u64.wrap (a1 * 2 ^ r.toNat)) (a0 / 2 ^ (64 - r).toNat)), .int .u64 (bits .or .u64 (IntKind.u64.wrap (a2 * 2 ^ r.toNat)) (a1 / 2 ^ (64 - r).toNat))]) (by simp [results, Try.results56, go_sem]) rfl ⟨rfl, ?_⟩
  repeat (first | exact Below.refl _ _ | refine Below.drew ?_ | refine Below.alloc ?_ (by simp; try omega) _ | refine Below.setCell ?_ (by simp; try omega) _)

set_option maxHeartbeats 1000000 in
theorem shl_walk2 (a0 a1 a2 a3 n r : Int) (w : World) (_h0 : 0 ≤ n) (hq : n / 64 = 2) (hr : n % 64 = r) (_r0 : 0 ≤ r) (_r1 : r < 64) :
    Calls Try.prog 56 #[.agg #[.int .u64 a0, .int .u64 a1, .int .u64 a2, .int .u64 a3], .int .u64 n] w fun e w' =>
      e = .returned (.agg #[.int .u64 0, .int .u64 0, .int .u64 (IntKind.u64.wrap (a0 * 2 ^ r.toNat)), .int .u64 (bits .or .u64 (IntKind.u64.wrap (a1 * 2 ^ r.toNat)) (a0 / 2 ^ (64 - r).toNat))]) ∧ Below w.heap.size w w' := by
  go_enter Try.func56, Try.ntmps56
  go_wp2
  refine wp_loop_rounds 5 ?_
  rw [rounds_succ]
  go_wp2
  rw [rounds_succ]
  go_wp2
  go_region
  go_wp2
  rw [rounds_succ]
  go_wp2
  refine bodyPost_ret (v := .agg #[.int .u64 0, .int .u64 0, .int .u64 (IntKind.u64.wrap (a0 * 2 ^ r.toNat)), .int .u64 (bits .or .u64 (IntKind.u64.wrap (a1 * 2 ^ r.toNat)) (a0 / 2 ^ (64 - r).toNat))]) (by simp [results, Try.results56, go_sem]) rfl ⟨rfl, ?_⟩
  repeat (first | exact Below.refl _ _ | refine Below.drew ?_ | refine Below.alloc ?_ (by simp; try omega) _ | refine Below.setCell ?_ (by simp; try omega) _)

set_option maxHeartbeats 1000000 in
theorem shl_walk3 (a0 a1 a2 a3 n r : Int) (w : World) (_h0 : 0 ≤ n) (hq : n / 64 = 3) (hr : n % 64 = r) (_r0 : 0 ≤ r) (_r1 : r < 64) :
    Calls Try.prog 56 #[.agg #[.int .u64 a0, .int .u64 a1, .int .u64 a2, .int .u64 a3], .int .u64 n] w fun e w' =>
      e = .returned (.agg #[.int .u64 0, .int .u64 0, .int .u64 0, .int .u64 (IntKind.u64.wrap (a0 * 2 ^ r.toNat))]) ∧ Below w.heap.size w w' := by
  go_enter Try.func56, Try.ntmps56
  go_wp2
  refine wp_loop_rounds 5 ?_
  rw [rounds_succ]
  go_wp2
  rw [rounds_succ]
  go_wp2
  refine bodyPost_ret (v := .agg #[.int .u64 0, .int .u64 0, .int .u64 0, .int .u64 (IntKind.u64.wrap (a0 * 2 ^ r.toNat))]) (by simp [results, Try.results56, go_sem]) rfl ⟨rfl, ?_⟩
  repeat (first | exact Below.refl _ _ | refine Below.drew ?_ | refine Below.alloc ?_ (by simp; try omega) _ | refine Below.setCell ?_ (by simp; try omega) _)

set_option maxHeartbeats 1000000 in
theorem shl_walk4 (a0 a1 a2 a3 n : Int) (w : World) (_h0 : 0 ≤ n) (hq : 4 ≤ n / 64) (_hb : n ≤ 18446744073709551615) :
    Calls Try.prog 56 #[.agg #[.int .u64 a0, .int .u64 a1, .int .u64 a2, .int .u64 a3], .int .u64 n] w fun e w' =>
      e = .returned (.agg #[.int .u64 0, .int .u64 0, .int .u64 0, .int .u64 0]) ∧ Below w.heap.size w w' := by
  go_enter Try.func56, Try.ntmps56
  go_wp2
  refine wp_loop_rounds 5 ?_
  rw [rounds_succ]
  go_wp2
  refine bodyPost_ret (v := .agg #[.int .u64 0, .int .u64 0, .int .u64 0, .int .u64 0]) (by simp [results, Try.results56, go_sem]) rfl ⟨rfl, ?_⟩
  repeat (first | exact Below.refl _ _ | refine Below.drew ?_ | refine Below.alloc ?_ (by simp; try omega) _ | refine Below.setCell ?_ (by simp; try omega) _)

set_option maxHeartbeats 1000000 in
theorem shr_walk0 (a0 a1 a2 a3 n r : Int) (w : World) (_h0 : 0 ≤ n) (hq : n / 64 = 0) (hr : n % 64 = r) (_r0 : 0 ≤ r) (_r1 : r < 64) :
    Calls Try.prog 58 #[.agg #[.int .u64 a0, .int .u64 a1, .int .u64 a2, .int .u64 a3], .int .u64 n] w fun e w' =>
      e = .returned (.agg #[.int .u64 (bits .or .u64 (a0 / 2 ^ r.toNat) (IntKind.u64.wrap (a1 * 2 ^ (64 - r).toNat))), .int .u64 (bits .or .u64 (a1 / 2 ^ r.toNat) (IntKind.u64.wrap (a2 * 2 ^ (64 - r).toNat))), .int .u64 (bits .or .u64 (a2 / 2 ^ r.toNat) (IntKind.u64.wrap (a3 * 2 ^ (64 - r).toNat))), .int .u64 (a3 / 2 ^ r.toNat)]) ∧ Below w.heap.size w w' := by
  go_enter Try.func58, Try.ntmps58
  go_wp2
  refine wp_loop_rounds 5 ?_
  rw [rounds_succ]
  go_wp2
  go_region
  go_wp2
  rw [rounds_succ]
  go_wp2
  go_region
  go_wp2
  rw [rounds_succ]
  go_wp2
  go_region
  go_wp2
  rw [rounds_succ]
  go_wp2
  rw [rounds_succ]
  go_wp2
  refine bodyPost_ret (v := .agg #[.int .u64 (bits .or .u64 (a0 / 2 ^ r.toNat) (IntKind.u64.wrap (a1 * 2 ^ (64 - r).toNat))), .int .u64 (bits .or .u64 (a1 / 2 ^ r.toNat) (IntKind.u64.wrap (a2 * 2 ^ (64 - r).toNat))), .int .u64 (bits .or .u64 (a2 / 2 ^ r.toNat) (IntKind.u64.wrap (a3 * 2 ^ (64 - r).toNat))), .int .u64 (a3 / 2 ^ r.toNat)]) (by simp [results, Try.results58, go_sem]) rfl ⟨rfl, ?_⟩
  repeat (first | exact Below.refl _ _ | refine Below.drew ?_ | refine Below.alloc ?_ (by simp; try omega) _ | refine Below.setCell ?_ (by simp; try omega) _)

set_option maxHeartbeats 1000000 in
theorem shr_walk1 (a0 a1 a2 a3 n r : Int) (w : World) (_h0 : 0 ≤ n) (hq : n / 64 = 1) (hr : n % 64 = r) (_r0 : 0 ≤ r) (_r1 : r < 64) :
    Calls Try.prog 58 #[.agg #[.int .u64 a0, .int .u64 a1, .int .u64 a2, .int .u64 a3], .int .u64 n] w fun e w' =>
      e = .returned (.agg #[.int .u64 (bits .or .u64 (a1 / 2 ^ r.toNat) (IntKind.u64.wrap (a2 * 2 ^ (64 - r).toNat))), .int .u64 (bits .or .u64 (a2 / 2 ^ r.toNat) (IntKind.u64.wrap (a3 * 2 ^ (64 - r).toNat))), .int .u64 (a3 / 2 ^ r.toNat), .int .u64 0]) ∧ Below w.heap.size w w' := by
  go_enter Try.func58, Try.ntmps58
  go_wp2
  refine wp_loop_rounds 5 ?_
  rw [rounds_succ]
  go_wp2
  go_region
  go_wp2
  rw [rounds_succ]
  go_wp2
  go_region
  go_wp2
  rw [rounds_succ]
  go_wp2
  rw [rounds_succ]
  go_wp2
  refine bodyPost_ret (v := .agg #[.int .u64 (bits .or .u64 (a1 / 2 ^ r.toNat) (IntKind.u64.wrap (a2 * 2 ^ (64 - r).toNat))), .int .u64 (bits .or .u64 (a2 / 2 ^ r.toNat) (IntKind.u64.wrap (a3 * 2 ^ (64 - r).toNat))), .int .u64 (a3 / 2 ^ r.toNat), .int .u64 0]) (by simp [results, Try.results58, go_sem]) rfl ⟨rfl, ?_⟩
  repeat (first | exact Below.refl _ _ | refine Below.drew ?_ | refine Below.alloc ?_ (by simp; try omega) _ | refine Below.setCell ?_ (by simp; try omega) _)

set_option maxHeartbeats 1000000 in
theorem shr_walk2 (a0 a1 a2 a3 n r : Int) (w : World) (_h0 : 0 ≤ n) (hq : n / 64 = 2) (hr : n % 64 = r) (_r0 : 0 ≤ r) (_r1 : r < 64) :
    Calls Try.prog 58 #[.agg #[.int .u64 a0, .int .u64 a1, .int .u64 a2, .int .u64 a3], .int .u64 n] w fun e w' =>
      e = .returned (.agg #[.int .u64 (bits .or .u64 (a2 / 2 ^ r.toNat) (IntKind.u64.wrap (a3 * 2 ^ (64 - r).toNat))), .int .u64 (a3 / 2 ^ r.toNat), .int .u64 0, .int .u64 0]) ∧ Below w.heap.size w w' := by
  go_enter Try.func58, Try.ntmps58
  go_wp2
  refine wp_loop_rounds 5 ?_
  rw [rounds_succ]
  go_wp2
  go_region
  go_wp2
  rw [rounds_succ]
  go_wp2
  rw [rounds_succ]
  go_wp2
  refine bodyPost_ret (v := .agg #[.int .u64 (bits .or .u64 (a2 / 2 ^ r.toNat) (IntKind.u64.wrap (a3 * 2 ^ (64 - r).toNat))), .int .u64 (a3 / 2 ^ r.toNat), .int .u64 0, .int .u64 0]) (by simp [results, Try.results58, go_sem]) rfl ⟨rfl, ?_⟩
  repeat (first | exact Below.refl _ _ | refine Below.drew ?_ | refine Below.alloc ?_ (by simp; try omega) _ | refine Below.setCell ?_ (by simp; try omega) _)

set_option maxHeartbeats 1000000 in
theorem shr_walk3 (a0 a1 a2 a3 n r : Int) (w : World) (_h0 : 0 ≤ n) (hq : n / 64 = 3) (hr : n % 64 = r) (_r0 : 0 ≤ r) (_r1 : r < 64) :
    Calls Try.prog 58 #[.agg #[.int .u64 a0, .int .u64 a1, .int .u64 a2, .int .u64 a3], .int .u64 n] w fun e w' =>
      e = .returned (.agg #[.int .u64 (a3 / 2 ^ r.toNat), .int .u64 0, .int .u64 0, .int .u64 0]) ∧ Below w.heap.size w w' := by
  go_enter Try.func58, Try.ntmps58
  go_wp2
  refine wp_loop_rounds 5 ?_
  rw [rounds_succ]
  go_wp2
  rw [rounds_succ]
  go_wp2
  refine bodyPost_ret (v := .agg #[.int .u64 (a3 / 2 ^ r.toNat), .int .u64 0, .int .u64 0, .int .u64 0]) (by simp [results, Try.results58, go_sem]) rfl ⟨rfl, ?_⟩
  repeat (first | exact Below.refl _ _ | refine Below.drew ?_ | refine Below.alloc ?_ (by simp; try omega) _ | refine Below.setCell ?_ (by simp; try omega) _)

set_option maxHeartbeats 1000000 in
theorem shr_walk4 (a0 a1 a2 a3 n : Int) (w : World) (_h0 : 0 ≤ n) (hq : 4 ≤ n / 64) (_hb : n ≤ 18446744073709551615) :
    Calls Try.prog 58 #[.agg #[.int .u64 a0, .int .u64 a1, .int .u64 a2, .int .u64 a3], .int .u64 n] w fun e w' =>
      e = .returned (.agg #[.int .u64 0, .int .u64 0, .int .u64 0, .int .u64 0]) ∧ Below w.heap.size w w' := by
  go_enter Try.func58, Try.ntmps58
  go_wp2
  refine wp_loop_rounds 5 ?_
  rw [rounds_succ]
  go_wp2
  refine bodyPost_ret (v := .agg #[.int .u64 0, .int .u64 0, .int .u64 0, .int .u64 0]) (by simp [results, Try.results58, go_sem]) rfl ⟨rfl, ?_⟩
  repeat (first | exact Below.refl _ _ | refine Below.drew ?_ | refine Below.alloc ?_ (by simp; try omega) _ | refine Below.setCell ?_ (by simp; try omega) _)
end Go.Proofs.Ytdpbjdecbilaeaa
/- What the functions Shl and Shr of package word do, in numbers: for every word m and every n, Shl returns m * 2^n (going round) and Shr returns m / 2^n, and all older memory is as it was. -/
namespace Go.Proofs.Ytdpbjdecbilaeaa
open Go.RowKit SmWord
set_option maxRecDepth 100000

theorem int_mul_pow (a r : Nat) : (a : Int) * 2 ^ r = ((a * 2 ^ r : Nat) : Int) := by
  rw [Int.natCast_mul, Int.natCast_pow]; rfl
theorem int_div_pow (a r : Nat) : (a : Int) / 2 ^ r = ((a / 2 ^ r : Nat) : Int) := by
  rw [Int.natCast_ediv, Int.natCast_pow]; rfl
theorem slo_int (a r : Nat) : IntKind.u64.wrap ((a : Int) * 2 ^ ((r : Nat) : Int).toNat) = ((slo a r : Nat) : Int) := by
  rw [Int.toNat_natCast, int_mul_pow, IntKind.wrap_u64]; unfold slo; simp only [B]; omega
theorem shi_int (a r : Nat) (hr : r < 64) : (a : Int) / 2 ^ (64 - ((r : Nat) : Int)).toNat = ((shi a r : Nat) : Int) := by
  rw [show (64 - ((r : Nat) : Int)).toNat = 64 - r by omega, int_div_pow]; rfl
theorem shl_cell (a b r : Nat) (hb : b < B) (hr : r < 64) :
    bits .or .u64 (IntKind.u64.wrap ((a : Int) * 2 ^ ((r : Nat) : Int).toNat)) ((b : Int) / 2 ^ (64 - ((r : Nat) : Int)).toNat) = ((slo a r + shi b r : Nat) : Int) := by
  have h := shl_or (a := a) hb (r := r) (by omega)
  have hs : shi b r < B := by omega
  rw [slo_int, shi_int b r hr, u64_or_nat _ _ (slo_lt a r) hs, h.1]

theorem shr_cell (a b r : Nat) (ha : a < B) (hr : r < 64) :
    bits .or .u64 ((a : Int) / 2 ^ ((r : Nat) : Int).toNat) (IntKind.u64.wrap ((b : Int) * 2 ^ (64 - ((r : Nat) : Int)).toNat)) = ((down a b r : Nat) : Int) := by
  have h := down_or (b := b) ha (r := r) (by omega)
  have e : IntKind.u64.wrap ((b : Int) * 2 ^ (64 - ((r : Nat) : Int)).toNat) = ((b * 2 ^ (64 - r) % B : Nat) : Int) := by
    rw [show (64 - ((r : Nat) : Int)).toNat = 64 - r by omega, int_mul_pow, IntKind.wrap_u64]; simp only [B]; omega
  rw [e, Int.toNat_natCast, int_div_pow, u64_or_nat _ _ (Nat.lt_of_le_of_lt (Nat.div_le_self _ _) ha) (Nat.mod_lt _ (by decide)), h.1]
theorem shr_last (a r : Nat) : (a : Int) / 2 ^ ((r : Nat) : Int).toNat = ((down a 0 r : Nat) : Int) := by
  rw [Int.toNat_natCast, int_div_pow]; unfold down; rw [Nat.zero_mod, Nat.zero_mul, Nat.add_zero]
theorem down_zero (r : Nat) : down 0 0 r = 0 := by unfold down; simp

theorem shl_wd (m n : Nat) (hn : n < B) (w : World) :
    Calls Try.prog 56 #[wd m, .int .u64 (n : Int)] w fun e w' => e = .returned (wd (m * 2 ^ n)) ∧ Below w.heap.size w w' := by
  obtain ⟨A0, A1, A2, A3⟩ := l_lt m
  have hq : n / 64 = 0 ∨ n / 64 = 1 ∨ n / 64 = 2 ∨ n / 64 = 3 ∨ 4 ≤ n / 64 := by omega
  obtain ⟨r, hr⟩ : ∃ r, r = n % 64 := ⟨_, rfl⟩
  have r1 : r < 64 := by omega
  have c1 := shl_or (a := l1 m) A0 (r := r) (by omega)
  have c2 := shl_or (a := l2 m) A1 (r := r) (by omega)
  have c3 := shl_or (a := l3 m) A2 (r := r) (by omega)
  have e := shl_num (l0 m) (l1 m) (l2 m) (l3 m) (r := r) (by omega)
  rw [num_parts, Nat.mod_mul_mod] at e
  rcases hq with hq | hq | hq | hq | hq
  · have hn' : n = r := by omega
    rw [wd_congr (m := m * 2 ^ n) (n := num (slo (l0 m) r) (slo (l1 m) r + shi (l0 m) r) (slo (l2 m) r + shi (l1 m) r) (slo (l3 m) r + shi (l2 m) r)) (by rw [e, hn']), wd_num (slo_lt _ _) c1.2 c2.2 c3.2]
    have key := shl_walk0 (l0 m) (l1 m) (l2 m) (l3 m) n r w (by omega) (by omega) (by omega) (by omega) (by omega)
    rw [slo_int, shl_cell _ _ _ A0 r1, shl_cell _ _ _ A1 r1, shl_cell _ _ _ A2 r1] at key
    exact key
  · have hn' : 2 ^ n = 2 ^ r * B := by rw [show n = r + 64 by omega, Nat.pow_add]
    rw [wd_congr (m := m * 2 ^ n) (n := num 0 (slo (l0 m) r) (slo (l1 m) r + shi (l0 m) r) (slo (l2 m) r + shi (l1 m) r)) (by rw [num_up' e, hn', ← Nat.mul_assoc]), wd_num (by decide) (slo_lt _ _) c1.2 c2.2]
    have key := shl_walk1 (l0 m) (l1 m) (l2 m) (l3 m) n r w (by omega) (by omega) (by omega) (by omega) (by omega)
    rw [slo_int, shl_cell _ _ _ A0 r1, shl_cell _ _ _ A1 r1] at key
    exact key
  · have hn' : 2 ^ n = 2 ^ r * B * B := by rw [show n = r + 64 + 64 by omega, Nat.pow_add, Nat.pow_add]
    rw [wd_congr (m := m * 2 ^ n) (n := num 0 0 (slo (l0 m) r) (slo (l1 m) r + shi (l0 m) r)) (by rw [num_up' (num_up' e), hn', ← Nat.mul_assoc, ← Nat.mul_assoc]), wd_num (by decide) (by decide) (slo_lt _ _) c1.2]
    have key := shl_walk2 (l0 m) (l1 m) (l2 m) (l3 m) n r w (by omega) (by omega) (by omega) (by omega) (by omega)
    rw [slo_int, shl_cell _ _ _ A0 r1] at key
    exact key
  · have hn' : 2 ^ n = 2 ^ r * B * B * B := by rw [show n = r + 64 + 64 + 64 by omega, Nat.pow_add, Nat.pow_add, Nat.pow_add]
    rw [wd_congr (m := m * 2 ^ n) (n := num 0 0 0 (slo (l0 m) r)) (by rw [num_up' (num_up' (num_up' e)), hn', ← Nat.mul_assoc, ← Nat.mul_assoc, ← Nat.mul_assoc]), wd_num (by decide) (by decide) (by decide) (slo_lt _ _)]
    have key := shl_walk3 (l0 m) (l1 m) (l2 m) (l3 m) n r w (by omega) (by omega) (by omega) (by omega) (by omega)
    rw [slo_int] at key
    exact key
  · have hM : (m * 2 ^ n) % M = 0 % M := by
      rw [show n = 256 + (n - 256) by omega, Nat.pow_add, ← Nat.mul_assoc, Nat.mul_comm m (2 ^ 256), Nat.mul_assoc]
      exact Nat.mul_mod_right M _
    rw [wd_congr hM]
    exact shl_walk4 (l0 m) (l1 m) (l2 m) (l3 m) n w (by omega) (by omega) (by simp only [B] at hn; omega)

theorem shr_wd (m n : Nat) (hn : n < B) (w : World) :
    Calls Try.prog 58 #[wd m, .int .u64 (n : Int)] w fun e w' => e = .returned (wd (m % M / 2 ^ n)) ∧ Below w.heap.size w w' := by
  obtain ⟨A0, A1, A2, A3⟩ := l_lt m
  have hq : n / 64 = 0 ∨ n / 64 = 1 ∨ n / 64 = 2 ∨ n / 64 = 3 ∨ 4 ≤ n / 64 := by omega
  obtain ⟨r, hr⟩ : ∃ r, r = n % 64 := ⟨_, rfl⟩
  have r1 : r < 64 := by omega
  have z : (0 : Nat) < B := by decide
  have g : ∀ a b : Nat, a < B → down a b r < B := fun a b h => (down_or h (by omega)).2
  rw [← num_parts m]
  rcases hq with hq | hq | hq | hq | hq
  · have hn' : n = r := by omega
    rw [show 2 ^ n = 2 ^ r by rw [hn'], ← shr_num _ _ _ _ (by omega), wd_num (g _ _ A0) (g _ _ A1) (g _ _ A2) (g _ _ A3)]
    have key := shr_walk0 (l0 m) (l1 m) (l2 m) (l3 m) n r w (by omega) (by omega) (by omega) (by omega) (by omega)
    rw [shr_cell _ _ _ A0 r1, shr_cell _ _ _ A1 r1, shr_cell _ _ _ A2 r1, shr_last] at key
    exact key
  · have hn' : 2 ^ n = B * 2 ^ r := by rw [show n = 64 + r by omega, Nat.pow_add]
    rw [hn', ← Nat.div_div_eq_div_mul, num_down A0, ← shr_num _ _ _ _ (by omega), wd_num (g _ _ A1) (g _ _ A2) (g _ _ A3) (g _ _ z), down_zero]
    have key := shr_walk1 (l0 m) (l1 m) (l2 m) (l3 m) n r w (by omega) (by omega) (by omega) (by omega) (by omega)
    rw [shr_cell _ _ _ A1 r1, shr_cell _ _ _ A2 r1, shr_last] at key
    exact key
  · have hn' : 2 ^ n = B * B * 2 ^ r := by rw [show n = 64 + 64 + r by omega, Nat.pow_add, Nat.pow_add]
    rw [hn', ← Nat.div_div_eq_div_mul, ← Nat.div_div_eq_div_mul, num_down A0, num_down A1, ← shr_num _ _ _ _ (by omega), wd_num (g _ _ A2) (g _ _ A3) (g _ _ z) (g _ _ z), down_zero]
    have key := shr_walk2 (l0 m) (l1 m) (l2 m) (l3 m) n r w (by omega) (by omega) (by omega) (by omega) (by omega)
    rw [shr_cell _ _ _ A2 r1, shr_last] at key
    exact key
  · have hn' : 2 ^ n = B * B * B * 2 ^ r := by rw [show n = 64 + 64 + 64 + r by omega, Nat.pow_add, Nat.pow_add, Nat.pow_add]
    rw [hn', ← Nat.div_div_eq_div_mul, ← Nat.div_div_eq_div_mul, ← Nat.div_div_eq_div_mul, num_down A0, num_down A1, num_down A2, ← shr_num _ _ _ _ (by omega), wd_num (g _ _ A3) (g _ _ z) (g _ _ z) (g _ _ z), down_zero]
    have key := shr_walk3 (l0 m) (l1 m) (l2 m) (l3 m) n r w (by omega) (by omega) (by omega) (by omega) (by omega)
    rw [shr_last] at key
    exact key
  · have hM : num (l0 m) (l1 m) (l2 m) (l3 m) / 2 ^ n = 0 := by
      apply Nat.div_eq_of_lt
      exact Nat.lt_of_lt_of_le (num_lt A0 A1 A2 A3) (Nat.pow_le_pow_right (n := 2) (i := 256) (by decide) (by omega))
    rw [hM]
    exact shr_walk4 (l0 m) (l1 m) (l2 m) (l3 m) n w (by omega) (by omega) (by simp only [B] at hn; omega)
end Go.Proofs.Ytdpbjdecbilaeaa
/- The chapter's examples, as the function fixed of the statements puts them together: it returns true, and leaves all older memory as it was. -/
namespace Go.Proofs.Ytdpbjdecbilaeaa
open Go.RowKit SmWord
set_option maxRecDepth 100000

theorem Try.infoW : (Try.prog.info? 24).map (·.size) = some 4 := by kernel_rfl
theorem store_new (w : World) (m : Nat) : (storeCells ⟨w.heap.size, 0, none⟩ (wa m).toList 0).run Try.prog (w.alloc (.cells #[.int .u64 0, .int .u64 0, .int .u64 0, .int .u64 0] 24)) = .ok () (w.alloc (.cells (wa m) 24)) :=
  run_storeCells_new (P := Try.prog) w 24 _ (wa m) Try.infoW rfl (by simp [wa, Value.oneCell'])

def kAll : Nat := M - 1
def k255 : Nat := 1 * 2 ^ 255
def k256 : Nat := k255 * 2
def k63 : Nat := B % M / 2 ^ 1
def kNot : Nat := M - 1 - 0 % M
theorem fx_sub (w : World) : Calls Try.prog 42 #[wd 0, wd 1] w fun e w' => e = .returned (wd kAll) ∧ Below w.heap.size w w' := sub_wd 0 1 kAll w (by decide)
theorem fx_shl (w : World) : Calls Try.prog 56 #[wd 1, .int .u64 255] w fun e w' => e = .returned (wd k255) ∧ Below w.heap.size w w' := shl_wd 1 255 (by decide) w
theorem fx_mul (w : World) : Calls Try.prog 41 #[wd k255, wd 2] w fun e w' => e = .returned (wd k256) ∧ Below w.heap.size w w' := mul_wd k255 2 w
theorem fx_shr (w : World) : Calls Try.prog 58 #[.agg #[.int .u64 0, .int .u64 1, .int .u64 0, .int .u64 0], .int .u64 1] w fun e w' => e = .returned (wd k63) ∧ Below w.heap.size w w' := shr_wd B 1 (by decide) w
theorem fx_not (w : World) : Calls Try.prog 60 #[.agg #[.int .u64 0, .int .u64 0, .int .u64 0, .int .u64 0]] w fun e w' => e = .returned (wd kNot) ∧ Below w.heap.size w w' := not_wd 0 w
theorem fx_len (w : World) : Calls Try.prog 70 #[wd 256] w fun e w' => e = .returned (.int .i64 9) ∧ Below w.heap.size w w' :=
  len_walk0 256 0 0 0 9 w (by decide) (by decide) (by decide) (by decide) (by decide) (by decide) (fun w => len64_nat 256 w (by decide))
theorem fx_e1 (w : World) : (Op.equalIn 10000 24 (.agg (wa kAll)) (.agg (wa kNot))).run Try.prog w = .ok true w := by
  rw [equal_wa, decide_eq_true (by decide)]
theorem fx_e2 (w : World) : (Op.equalIn 10000 24 (.agg (wa k256)) (.agg #[.int .u64 0, .int .u64 0, .int .u64 0, .int .u64 0])).run Try.prog w = .ok true w := by
  have := equal_wa k256 0 w
  rw [decide_eq_true (by decide)] at this
  exact this
theorem fx_e3 (w : World) : (Op.equalIn 10000 24 (.agg (wa k63)) (.agg (wa 9223372036854775808))).run Try.prog w = .ok true w := by
  rw [equal_wa, decide_eq_true (by decide)]

theorem fold_wa (n : Nat) : #[Value.int .u64 ((l0 n : Nat) : Int), .int .u64 ((l1 n : Nat) : Int), .int .u64 ((l2 n : Nat) : Int), .int .u64 ((l3 n : Nat) : Int)] = wa n := rfl
/-- The four cells of a word that lies, wherever the world has come to. -/
theorem Ext.word {w : World} (g : Ext w) {b m : Nat} {t : TypeId} {fr : Nat × Nat} (hb : w.heap[b]? = some (.cells (wa m) t fr)) :
    g.on.cell? ⟨b, 0, none⟩ = some (.int .u64 ((l0 m : Nat) : Int)) ∧ g.on.cell? ⟨b, 1, none⟩ = some (.int .u64 ((l1 m : Nat) : Int)) ∧
    g.on.cell? ⟨b, 2, none⟩ = some (.int .u64 ((l2 m : Nat) : Int)) ∧ g.on.cell? ⟨b, 3, none⟩ = some (.int .u64 ((l3 m : Nat) : Int)) := by
  have h := g.block hb
  exact ⟨cell_of_row _ _ 0 _ _ _ h, cell_of_row _ _ 1 _ _ _ h, cell_of_row _ _ 2 _ _ _ h, cell_of_row _ _ 3 _ _ _ h⟩

/-- A block that lies stays, whatever is made behind it. -/
theorem Below.stays {w w' : World} (h : Below w.heap.size w w') {b : Nat} {o : Obj} (hb : w.heap[b]? = some o) : w'.heap[b]? = some o := by
  rw [h.block b (Array.getElem?_eq_some_iff.1 hb).1, hb]

end Go.Proofs.Ytdpbjdecbilaeaa
