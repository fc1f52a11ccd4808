/- Walks of SHA-256, to begin with: arithmetic of 32 bits; turning down; choosing; rows of numbers and of bytes in memory; a world in which one block has changed. -/
import Derived.Test.YtnnodibjocilmaaDoorShF
import Derived.Test.YtnnodibjocilmaaDoorLast2
import Derived.Test.YtnnodibjocilmaaDoorFromW
import Derived.Deep.LoopGhost
namespace Go.Proofs.YtnnodibjocilmaaDoor
open Go.RowKit SmWord
set_option maxRecDepth 100000

theorem and31 {n m : Nat} (h : n + m = 32) (h1 : 1 ≤ n) (h2 : n ≤ 31) : bits .and .u64 (IntKind.u64.wrap (-(n : Int))) 31 = (m : Int) := by
  have e : IntKind.u64.wrap (-(n : Int)) = ((18446744073709551616 - n : Nat) : Int) := by rw [IntKind.wrap_u64]; omega
  rw [e]
  have h3 := u64_and_nat (18446744073709551616 - n) 31 (by omega) (by decide)
  rw [show ((31 : Nat) : Int) = 31 from rfl] at h3
  rw [h3, nat_mask5]
  omega
theorem up_val (x m : Nat) : (x : Int) * 2 ^ m % 4294967296 = ((x * 2 ^ m % D32 : Nat) : Int) := by
  rw [show (x : Int) * 2 ^ m = ((x * 2 ^ m : Nat) : Int) by simp]
  generalize x * 2 ^ m = y
  simp only [D32]
  omega
theorem down_val (x n : Nat) : (x : Int) / 2 ^ n = ((x / 2 ^ n : Nat) : Int) := by simp
theorem or32 {x y : Nat} (hx : x < D32) (hy : y < D32) : bits .or .u32 (x : Int) (y : Int) = ((x ||| y : Nat) : Int) := u32_or_nat x y hx hy
theorem xor32 {x y : Nat} (hx : x < D32) (hy : y < D32) : bits .xor .u32 (x : Int) (y : Int) = ((x ^^^ y : Nat) : Int) := u32_xor_nat x y hx hy
theorem and32 {x y : Nat} (hx : x < D32) (hy : y < D32) : bits .and .u32 (x : Int) (y : Int) = ((x &&& y : Nat) : Int) := u32_and_nat x y hx hy
theorem andNot32 {x y : Nat} (hx : x < D32) (hy : y < D32) : bits .andNot .u32 (x : Int) (y : Int) = ((x &&& (4294967295 - y) : Nat) : Int) := u32_andNot_nat x y hx hy
theorem sum32 (x y : Nat) : ((x : Int) + (y : Int)) % 4294967296 = (((x + y) % D32 : Nat) : Int) := by simp only [D32]; omega
theorem dn_left {x n m : Nat} (hx : x < D32) (h : n + m = 32) : bits .or .u32 ((x : Int) * 2 ^ m % 4294967296) ((x : Int) / 2 ^ (32 - m)) = ((dn x n : Nat) : Int) := by
  rw [up_val, down_val, or32 (Nat.mod_lt _ (by decide)) (Nat.lt_of_le_of_lt (Nat.div_le_self _ _) hx), show 32 - m = n by omega, Nat.or_comm, dn, show 32 - n = m by omega]
theorem dn_right {x n : Nat} (hx : x < D32) : bits .or .u32 ((x : Int) / 2 ^ n) ((x : Int) * 2 ^ (32 - n) % 4294967296) = ((dn x n : Nat) : Int) := by
  rw [up_val, down_val, or32 (Nat.lt_of_le_of_lt (Nat.div_le_self _ _) hx) (Nat.mod_lt _ (by decide)), dn]
theorem rotl_walk (x n m : Nat) (w : World) (hx : x < D32) (h : n + m = 32) (h1 : 1 ≤ n) (h2 : n ≤ 31) :
    Calls Tryd.prog 21 #[.int .u32 (x : Int), .int .i64 (-(n : Int))] w fun e w' => e = .returned (.int .u32 ((dn x n : Nat) : Int)) ∧ w' = w := by
  have ha := and31 h h1 h2
  go_enter Tryd.func21, Tryd.ntmps21
  go_wp2_with fail
  rw [dn_left hx h]
  go_ret
  exact ⟨rfl, rfl⟩
theorem sdown (x n : Nat) (w : World) (hx : x < D32) (h1 : 1 ≤ n) (h2 : n ≤ 31) :
    Calls Tryd.prog 17 #[.int .u32 (x : Int), .int .i64 (n : Int)] w fun e w' => e = .returned (.int .u32 ((dn x n : Nat) : Int)) ∧ w' = w := by
  have hc := fun w => rotl_walk x n (32 - n) w hx (by omega) h1 h2
  go_enter Tryd.func17, Tryd.ntmps17
  go_wp2_with fail
  refine (hc w).mono ?_
  rintro e w1 ⟨rfl, rfl⟩
  go_wp2_with fail
  go_ret
  exact ⟨rfl, rfl⟩
theorem below_drewN (w : World) (n : Nat) : Below w.heap.size w (w.drewN n) := ⟨rfl, rfl, rfl, Nat.le_refl _, fun _ _ => rfl⟩
theorem rdown (x n : Nat) (w : World) (hx : x < D32) (h1 : 1 ≤ n) (h2 : n ≤ 31) :
    Calls Tryd.prog 13 #[.int .u32 (x : Int), .int .i64 (n : Int)] w fun e w' => e = .returned (.int .u32 ((dn x n : Nat) : Int)) ∧ Below w.heap.size w w' := by
  have hv := dn_right (n := n) hx
  go_enter Tryd.func13, Tryd.ntmps13
  go_wp2_with fail
  go_quiet (fail)
  go_wp2_with fail
  go_ret
  exact ⟨rfl, below_drewN _ _⟩
theorem rchoose (e f g : Nat) (w : World) (he : e < D32) (hf : f < D32) (hg : g < D32) :
    Calls Tryd.prog 14 #[.int .u32 (e : Int), .int .u32 (f : Int), .int .u32 (g : Int)] w fun x w' => x = .returned (.int .u32 ((chs e f g : Nat) : Int)) ∧ w' = w := by
  have hn : (4294967295 - (e : Int)) % 4294967296 = ((4294967295 - e : Nat) : Int) := by simp only [D32] at he; omega
  have hn2 : 4294967295 - e < D32 := by simp only [D32]; omega
  have v1 := and32 he hf
  have v2 := and32 hn2 hg
  have v3 : bits .or .u32 ((e &&& f : Nat) : Int) (((4294967295 - e) &&& g : Nat) : Int) = ((chs e f g : Nat) : Int) := or32 (and_lt32 he) (and_lt32 hn2)
  go_enter Tryd.func14, Tryd.ntmps14
  go_wp2_with fail
  go_ret
  exact ⟨rfl, rfl⟩

/-- 64 numbers of 32 bits. -/
def ka (S : Nat → Nat) : Array Value := arr .u32 64 (fun i => ((S i : Nat) : Int))
def zK : Array Value := ka fun _ => 0
theorem ka_get {S : Nat → Nat} {i : Nat} (h : i < 64) : (ka S)[i]? = some (.int .u32 ((S i : Nat) : Int)) := arr_get _ _ h
theorem ka_set {S : Nat → Nat} {i : Nat} (h : i < 64) (x : Nat) : (ka S).setIfInBounds i (.int .u32 ((x : Nat) : Int)) = ka (fun j => if j = i then x else S j) := by
  unfold ka
  rw [arr_set _ _ _ h]
  refine arr_congr fun j _ => ?_
  by_cases e : j = i <;> simp [e]
theorem ka_congr {S T : Nat → Nat} (h : ∀ i, i < 64 → S i = T i) : ka S = ka T := arr_congr fun i hi => by rw [h i hi]
theorem Tryd.infoK : (Tryd.prog.info? 25).map (fun i => (i.zero, i.size)) = some (some (.agg zK), 64) := by kernel_rfl
theorem zK_run (w : World) : (zeroValue 25).run Tryd.prog w = .ok (.agg zK) w := (zero_of_info Tryd.infoK).1 w
theorem infoArrK (S : Nat → Nat) : (Tryd.prog.info? 25).map (·.size) = some (ka S).size := by rw [ka, arr_size]; exact (zero_of_info Tryd.infoK).2
/-- Eight numbers of 32 bits. -/
def va (S : Nat → Nat) : Array Value := arr .u32 8 (fun i => ((S i : Nat) : Int))
def zV : Array Value := va fun _ => 0
theorem va_get {S : Nat → Nat} {i : Nat} (h : i < 8) : (va S)[i]? = some (.int .u32 ((S i : Nat) : Int)) := arr_get _ _ h
theorem va_set {S : Nat → Nat} {i : Nat} (h : i < 8) (x : Nat) : (va S).setIfInBounds i (.int .u32 ((x : Nat) : Int)) = va (fun j => if j = i then x else S j) := by
  unfold va
  rw [arr_set _ _ _ h]
  refine arr_congr fun j _ => ?_
  by_cases e : j = i <;> simp [e]
theorem va_congr {S T : Nat → Nat} (h : ∀ i, i < 8 → S i = T i) : va S = va T := arr_congr fun i hi => by rw [h i hi]
theorem Tryd.infoV : (Tryd.prog.info? 26).map (fun i => (i.zero, i.size)) = some (some (.agg zV), 8) := by kernel_rfl
theorem zV_run (w : World) : (zeroValue 26).run Tryd.prog w = .ok (.agg zV) w := (zero_of_info Tryd.infoV).1 w
theorem infoArrV (S : Nat → Nat) : (Tryd.prog.info? 26).map (·.size) = some (va S).size := by rw [va, arr_size]; exact (zero_of_info Tryd.infoV).2
/-- 64 bytes. -/
def pa (S : Nat → Nat) : Array Value := arr .u8 64 (fun i => ((S i : Nat) : Int))
def zP : Array Value := pa fun _ => 0
theorem pa_get {S : Nat → Nat} {i : Nat} (h : i < 64) : (pa S)[i]? = some (.int .u8 ((S i : Nat) : Int)) := arr_get _ _ h
theorem pa_set {S : Nat → Nat} {i : Nat} (h : i < 64) (x : Nat) : (pa S).setIfInBounds i (.int .u8 ((x : Nat) : Int)) = pa (fun j => if j = i then x else S j) := by
  unfold pa
  rw [arr_set _ _ _ h]
  refine arr_congr fun j _ => ?_
  by_cases e : j = i <;> simp [e]
theorem pa_congr {S T : Nat → Nat} (h : ∀ i, i < 64 → S i = T i) : pa S = pa T := arr_congr fun i hi => by rw [h i hi]
theorem Tryd.infoP : (Tryd.prog.info? 41).map (fun i => (i.zero, i.size)) = some (some (.agg zP), 64) := by kernel_rfl
theorem zP_run (w : World) : (zeroValue 41).run Tryd.prog w = .ok (.agg zP) w := (zero_of_info Tryd.infoP).1 w
theorem infoArrP (S : Nat → Nat) : (Tryd.prog.info? 41).map (·.size) = some (pa S).size := by rw [pa, arr_size]; exact (zero_of_info Tryd.infoP).2
/-- 32 bytes. -/
def ha (S : Nat → Nat) : Array Value := arr .u8 32 (fun i => ((S i : Nat) : Int))
def zH : Array Value := ha fun _ => 0
theorem ha_get {S : Nat → Nat} {i : Nat} (h : i < 32) : (ha S)[i]? = some (.int .u8 ((S i : Nat) : Int)) := arr_get _ _ h
theorem ha_set {S : Nat → Nat} {i : Nat} (h : i < 32) (x : Nat) : (ha S).setIfInBounds i (.int .u8 ((x : Nat) : Int)) = ha (fun j => if j = i then x else S j) := by
  unfold ha
  rw [arr_set _ _ _ h]
  refine arr_congr fun j _ => ?_
  by_cases e : j = i <;> simp [e]
theorem ha_congr {S T : Nat → Nat} (h : ∀ i, i < 32 → S i = T i) : ha S = ha T := arr_congr fun i hi => by rw [h i hi]
theorem Tryd.infoH : (Tryd.prog.info? 30).map (fun i => (i.zero, i.size)) = some (some (.agg zH), 32) := by kernel_rfl
theorem zH_run (w : World) : (zeroValue 30).run Tryd.prog w = .ok (.agg zH) w := (zero_of_info Tryd.infoH).1 w
theorem infoArrH (S : Nat → Nat) : (Tryd.prog.info? 30).map (·.size) = some (ha S).size := by rw [ha, arr_size]; exact (zero_of_info Tryd.infoH).2
/-- Of what lay in w only block b may lie otherwise in w'. -/
structure Wrote (b : Nat) (w w' : World) : Prop where
  os : w'.os = w.os
  tape : w'.tape = w.tape
  output : w'.output = w.output
  size : w.heap.size ≤ w'.heap.size
  block : ∀ k, k < w.heap.size → k ≠ b → w'.heap[k]? = w.heap[k]?
theorem Wrote.refl (b : Nat) (w : World) : Wrote b w w := ⟨rfl, rfl, rfl, Nat.le_refl _, fun _ _ _ => rfl⟩
theorem Wrote.trans {b : Nat} {x y z : World} (h : Wrote b x y) (k : Wrote b y z) : Wrote b x z :=
  ⟨k.os.trans h.os, k.tape.trans h.tape, k.output.trans h.output, Nat.le_trans h.size k.size, fun i hi hne => (k.block i (Nat.lt_of_lt_of_le hi h.size) hne).trans (h.block i hi hne)⟩
theorem Wrote.of_below {b : Nat} {w w' : World} (h : Below w.heap.size w w') : Wrote b w w' := ⟨h.os, h.tape, h.output, h.size, fun k hk _ => h.block k hk⟩
theorem Wrote.put {b j : Nat} (w : World) (v : Value) : Wrote b w (w.setCell ⟨b, j, none⟩ v) := ⟨rfl, rfl, rfl, by simp [World.setCell], fun k _ hne => Below.heap_setCell _ _ _ _ hne⟩
theorem Wrote.row {b : Nat} (w : World) (c : Array Value) : Wrote b w (w.setRow b c) := by
  have h := below_setRow (Below.refl b w) (Nat.le_refl b) c
  exact ⟨h.os, h.tape, h.output, h.size, fun k _ hne => setRow_other _ _ _ _ hne⟩
theorem Wrote.below {b B : Nat} {w w' : World} (h : Wrote b w w') (hb : B ≤ b) (hB : B ≤ w.heap.size) : Below B w w' :=
  ⟨h.os, h.tape, h.output, h.size, fun k hk => h.block k (by omega) (by omega)⟩
theorem Wrote.other {b b' : Nat} {w w' : World} {o : Obj} (h : Wrote b w w') (hb : w.heap[b']? = some o) (hne : b' ≠ b) : w'.heap[b']? = some o := by
  rw [h.block b' (Array.getElem?_eq_some_iff.1 hb).1 hne, hb]
theorem Wrote.cell {b : Nat} {w w' : World} {p : Addr} (h : Wrote b w w') (hp : p.block < w.heap.size) (hne : p.block ≠ b) : w'.cell? p = w.cell? p := World.cell?_of_block (w := w) (h.block p.block hp hne)

/-- The table of constants lies there. -/
structure Tab (w : World) : Prop where
  one : 1 ≤ w.heap.size
  const : ∀ k, k < 64 → w.cell? ⟨0, k, none⟩ = some (.int .u32 ((ck k : Nat) : Int))
theorem Tab.below {w w' : World} (h : Tab w) (hb : Below w.heap.size w w') : Tab w' :=
  ⟨Nat.le_trans h.one hb.size, fun k hk => (hb.cell (p := ⟨0, k, none⟩) (Nat.lt_of_lt_of_le (by simp) h.one)).trans (h.const k hk)⟩
theorem Tab.wrote {b : Nat} {w w' : World} (h : Tab w) (hw : Wrote b w w') (hb : 1 ≤ b) : Tab w' :=
  ⟨Nat.le_trans h.one hw.size, fun k hk => (hw.cell (p := ⟨0, k, none⟩) (Nat.lt_of_lt_of_le (by simp) h.one) (show 0 ≠ b by omega)).trans (h.const k hk)⟩
end Go.Proofs.YtnnodibjocilmaaDoor
