/- Keccak's walks, to begin with: turning a lane's bits; a state in memory; a world in which one block has changed. -/
import Derived.Test.YtgejfdbbapjpmaaDoorKkM
import Derived.Test.YtgejfdbbapjpmaaDoorLast2
import Derived.Test.YtgejfdbbapjpmaaDoorRow
import Derived.Deep.LoopGhost
namespace Go.Proofs.YtgejfdbbapjpmaaDoor
open Go.RowKit SmWord
set_option maxRecDepth 100000

theorem and_63 (n : Nat) (hn : n < B) : bits .and .u64 (n : Int) 63 = ((n % 64 : Nat) : Int) := by
  have h := u64_and_nat n 63 hn (by decide)
  rw [show ((63 : Nat) : Int) = 63 from rfl] at h
  rw [h, show (63 : Nat) = 2 ^ 6 - 1 from rfl, Nat.and_two_pow_sub_one_eq_mod]
theorem rot_val {x s : Nat} (hx : x < B) : bits .or .u64 (IntKind.u64.wrap ((x : Int) * 2 ^ s)) ((x : Int) / 2 ^ (64 - s)) = (((x * 2 ^ s % B) ||| (x / 2 ^ (64 - s)) : Nat) : Int) := by
  have e1 : IntKind.u64.wrap ((x : Int) * 2 ^ s) = ((x * 2 ^ s % B : Nat) : Int) := by
    rw [IntKind.wrap_u64, show (x : Int) * 2 ^ s = ((x * 2 ^ s : Nat) : Int) by simp]
    generalize x * 2 ^ s = y
    simp only [B]
    omega
  have e2 : (x : Int) / 2 ^ (64 - s) = ((x / 2 ^ (64 - s) : Nat) : Int) := by simp
  rw [e1, e2, u64_or_nat _ _ (Nat.mod_lt _ (by decide)) (Nat.lt_of_le_of_lt (Nat.div_le_self _ _) hx)]
theorem rot_walk (x n s : Nat) (w : World) (hx : x < B) (hn : n < 1000) (hs : n % 64 = s) :
    Calls Tryd.prog 25 #[.int .u64 (x : Int), .int .i64 (n : Int)] w fun e w' => e = .returned (.int .u64 ((rl x n : Nat) : Int)) ∧ w' = w := by
  have ha := and_63 n (by simp only [B]; omega)
  have hr : rl x n = (x * 2 ^ s % B) ||| (x / 2 ^ (64 - s)) := by rw [rl, hs]
  rw [hs] at ha
  have hs2 : s < 64 := by omega
  rw [hr]
  clear hr hs
  go_enter Tryd.func25, Tryd.ntmps25
  go_wp2_with fail
  rw [rot_val hx]
  go_ret
  exact ⟨rfl, rfl⟩
theorem rot (x n : Nat) (w : World) (hx : x < B) (hn : n < 1000) :
    Calls Tryd.prog 25 #[.int .u64 (x : Int), .int .i64 (n : Int)] w fun e w' => e = .returned (.int .u64 ((rl x n : Nat) : Int)) ∧ w' = w := rot_walk x n _ w hx hn rfl
theorem up_zero (x n : Nat) (w : World) (hn : n < 1000) (hs : (n : Int) % 64 = 0) :
    Calls Tryd.prog 24 #[.int .u64 (x : Int), .int .i64 (n : Int)] w fun e w' => e = .returned (.int .u64 (x : Int)) ∧ Below w.heap.size w w' := by
  go_enter Tryd.func24, Tryd.ntmps24
  go_wp2_with fail
  go_ret
  exact ⟨rfl, Below.refl _ _⟩
theorem below_drewN (w : World) (n : Nat) : Below w.heap.size w (w.drewN n) := ⟨rfl, rfl, rfl, Nat.le_refl _, fun _ _ => rfl⟩
theorem up_more (x n s : Nat) (w : World) (hx : x < B) (hn : n < 1000) (hs : (n : Int) % 64 = (s : Int)) (h0 : (((s : Nat) : Int) == 0) = false) :
    Calls Tryd.prog 24 #[.int .u64 (x : Int), .int .i64 (n : Int)] w fun e w' => e = .returned (.int .u64 (((x * 2 ^ s % B) ||| (x / 2 ^ (64 - s)) : Nat) : Int)) ∧ Below w.heap.size w w' := by
  have hv := rot_val (s := s) hx
  go_enter Tryd.func24, Tryd.ntmps24
  go_wp2_with fail
  go_quiet (fail)
  go_wp2_with fail
  go_ret
  exact ⟨rfl, below_drewN _ _⟩
theorem up_rot (x n : Nat) (w : World) (hx : x < B) (hn : n < 1000) :
    Calls Tryd.prog 24 #[.int .u64 (x : Int), .int .i64 (n : Int)] w fun e w' => e = .returned (.int .u64 ((rl x n : Nat) : Int)) ∧ Below w.heap.size w w' := by
  by_cases h : n % 64 = 0
  · rw [rl_zero n hx h]
    exact up_zero x n w hn (by omega)
  · have := up_more x n (n % 64) w hx hn (by omega) (by simp; omega)
    rwa [rl]

/-- The lanes of a state. -/
def sa (S : Nat → Nat) : Array Value := arr .u64 25 (fun i => ((S i : Nat) : Int))
def zS : Array Value := sa fun _ => 0
theorem sa_get {S : Nat → Nat} {i : Nat} (h : i < 25) : (sa S)[i]? = some (.int .u64 ((S i : Nat) : Int)) := arr_get _ _ h
theorem sa_set {S : Nat → Nat} {i : Nat} (h : i < 25) (x : Nat) : (sa S).setIfInBounds i (.int .u64 ((x : Nat) : Int)) = sa (fun j => if j = i then x else S j) := by
  unfold sa
  rw [arr_set _ _ _ h]
  refine arr_congr fun j _ => ?_
  by_cases e : j = i <;> simp [e]
theorem sa_congr {S T : Nat → Nat} (h : eqS S T) : sa S = sa T := arr_congr fun i hi => by rw [h i hi]
theorem Tryd.infoS : (Tryd.prog.info? 23).map (fun i => (i.zero, i.size)) = some (some (.agg zS), 25) := by kernel_rfl
theorem zS_run (w : World) : (zeroValue 23).run Tryd.prog w = .ok (.agg zS) w := (zero_of_info Tryd.infoS).1 w
theorem infoArrS (S : Nat → Nat) : (Tryd.prog.info? 23).map (·.size) = some (sa S).size := by rw [sa, arr_size]; exact (zero_of_info Tryd.infoS).2

/-- Of what lay in w only block b may lie otherwise in w'. -/
structure Wrote (b : Nat) (w w' : World) : Prop where
  os : w'.os = w.os
  tape : w'.tape = w.tape
  output : w'.output = w.output
  size : w.heap.size ≤ w'.heap.size
  block : ∀ k, k < w.heap.size → k ≠ b → w'.heap[k]? = w.heap[k]?
theorem Wrote.refl (b : Nat) (w : World) : Wrote b w w := ⟨rfl, rfl, rfl, Nat.le_refl _, fun _ _ _ => rfl⟩
theorem Wrote.trans {b : Nat} {x y z : World} (h : Wrote b x y) (k : Wrote b y z) : Wrote b x z :=
  ⟨k.os.trans h.os, k.tape.trans h.tape, k.output.trans h.output, Nat.le_trans h.size k.size, fun i hi hne => (k.block i (Nat.lt_of_lt_of_le hi h.size) hne).trans (h.block i hi hne)⟩
theorem Wrote.of_below {b : Nat} {w w' : World} (h : Below w.heap.size w w') : Wrote b w w' := ⟨h.os, h.tape, h.output, h.size, fun k hk _ => h.block k hk⟩
theorem Wrote.put {b j : Nat} (w : World) (v : Value) : Wrote b w (w.setCell ⟨b, j, none⟩ v) := ⟨rfl, rfl, rfl, by simp [World.setCell], fun k _ hne => Below.heap_setCell _ _ _ _ hne⟩
theorem Wrote.row {b : Nat} (w : World) (c : Array Value) : Wrote b w (w.setRow b c) := by
  have h := below_setRow (Below.refl b w) (Nat.le_refl b) c
  exact ⟨h.os, h.tape, h.output, h.size, fun k _ hne => setRow_other _ _ _ _ hne⟩
theorem Wrote.below {b B : Nat} {w w' : World} (h : Wrote b w w') (hb : B ≤ b) (hB : B ≤ w.heap.size) : Below B w w' :=
  ⟨h.os, h.tape, h.output, h.size, fun k hk => h.block k (by omega) (by omega)⟩
theorem Wrote.other {b b' : Nat} {w w' : World} {o : Obj} (h : Wrote b w w') (hb : w.heap[b']? = some o) (hne : b' ≠ b) : w'.heap[b']? = some o := by
  rw [h.block b' (Array.getElem?_eq_some_iff.1 hb).1 hne, hb]
theorem Wrote.cell {b : Nat} {w w' : World} {p : Addr} (h : Wrote b w w') (hp : p.block < w.heap.size) (hne : p.block ≠ b) : w'.cell? p = w.cell? p := World.cell?_of_block (w := w) (h.block p.block hp hne)

/-- The two tables lie there. -/
structure Tab (w : World) : Prop where
  two : 2 ≤ w.heap.size
  const : ∀ k, k < 24 → w.cell? ⟨0, k, none⟩ = some (.int .u64 ((kc k : Nat) : Int))
  way : ∀ k, k < 24 → w.cell? ⟨1, k, none⟩ = some (.int .i64 ((pos (k + 1) : Nat) : Int))
theorem Tab.below {w w' : World} (h : Tab w) (hb : Below w.heap.size w w') : Tab w' :=
  ⟨Nat.le_trans h.two hb.size, fun k hk => (hb.cell (p := ⟨0, k, none⟩) (Nat.lt_of_lt_of_le (by simp) h.two)).trans (h.const k hk),
    fun k hk => (hb.cell (p := ⟨1, k, none⟩) (Nat.lt_of_lt_of_le (by simp) h.two)).trans (h.way k hk)⟩
theorem Tab.wrote {b : Nat} {w w' : World} (h : Tab w) (hw : Wrote b w w') (hb : 2 ≤ b) : Tab w' :=
  ⟨Nat.le_trans h.two hw.size, fun k hk => (hw.cell (p := ⟨0, k, none⟩) (Nat.lt_of_lt_of_le (by simp) h.two) (show 0 ≠ b by omega)).trans (h.const k hk),
    fun k hk => (hw.cell (p := ⟨1, k, none⟩) (Nat.lt_of_lt_of_le (by simp) h.two) (show 1 ≠ b by omega)).trans (h.way k hk)⟩
end Go.Proofs.YtgejfdbbapjpmaaDoor
