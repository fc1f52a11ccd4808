/- Walks of SHA-256, to begin with: arithmetic of 32 bits; turning down; choosing; rows of numbers and of bytes in memory; a world in which one block has changed. -/
import Derived.Test.YtihefgpicnhdjaaDoorGd
import Derived.Test.YtihefgpicnhdjaaDoorG2
import Derived.Test.YtihefgpicnhdjaaDoorG3
import Derived.Deep.LoopGhost
import Derived.Deep.CutRange
import Derived.Laws.CopyOwn
import Derived.Deep.MidRow
namespace Go.Proofs.YtihefgpicnhdjaaDoor
open Go.RowKit SmWord
set_option maxRecDepth 100000

theorem and31 {n m : Nat} (h : n + m = 32) (h1 : 1 ≤ n) (h2 : n ≤ 31) : bits .and .u64 (IntKind.u64.wrap (-(n : Int))) 31 = (m : Int) := by
  have e : IntKind.u64.wrap (-(n : Int)) = ((18446744073709551616 - n : Nat) : Int) := by rw [IntKind.wrap_u64]; omega
  rw [e]
  have h3 := u64_and_nat (18446744073709551616 - n) 31 (by omega) (by decide)
  rw [show ((31 : Nat) : Int) = 31 from rfl] at h3
  rw [h3, nat_mask5]
  omega
theorem up_val (x m : Nat) : (x : Int) * 2 ^ m % 4294967296 = ((x * 2 ^ m % D32 : Nat) : Int) := by
  rw [show (x : Int) * 2 ^ m = ((x * 2 ^ m : Nat) : Int) by simp]
  generalize x * 2 ^ m = y
  simp only [D32]
  omega
theorem down_val (x n : Nat) : (x : Int) / 2 ^ n = ((x / 2 ^ n : Nat) : Int) := by simp
theorem or32 {x y : Nat} (hx : x < D32) (hy : y < D32) : bits .or .u32 (x : Int) (y : Int) = ((x ||| y : Nat) : Int) := u32_or_nat x y hx hy
theorem xor32 {x y : Nat} (hx : x < D32) (hy : y < D32) : bits .xor .u32 (x : Int) (y : Int) = ((x ^^^ y : Nat) : Int) := u32_xor_nat x y hx hy
theorem and32 {x y : Nat} (hx : x < D32) (hy : y < D32) : bits .and .u32 (x : Int) (y : Int) = ((x &&& y : Nat) : Int) := u32_and_nat x y hx hy
theorem andNot32 {x y : Nat} (hx : x < D32) (hy : y < D32) : bits .andNot .u32 (x : Int) (y : Int) = ((x &&& (4294967295 - y) : Nat) : Int) := u32_andNot_nat x y hx hy
theorem sum32 (x y : Nat) : ((x : Int) + (y : Int)) % 4294967296 = (((x + y) % D32 : Nat) : Int) := by simp only [D32]; omega
theorem dn_left {x n m : Nat} (hx : x < D32) (h : n + m = 32) : bits .or .u32 ((x : Int) * 2 ^ m % 4294967296) ((x : Int) / 2 ^ (32 - m)) = ((dn x n : Nat) : Int) := by
  rw [up_val, down_val, or32 (Nat.mod_lt _ (by decide)) (Nat.lt_of_le_of_lt (Nat.div_le_self _ _) hx), show 32 - m = n by omega, Nat.or_comm, dn, show 32 - n = m by omega]
theorem dn_right {x n : Nat} (hx : x < D32) : bits .or .u32 ((x : Int) / 2 ^ n) ((x : Int) * 2 ^ (32 - n) % 4294967296) = ((dn x n : Nat) : Int) := by
  rw [up_val, down_val, or32 (Nat.lt_of_le_of_lt (Nat.div_le_self _ _) hx) (Nat.mod_lt _ (by decide)), dn]
theorem rotl_walk (x n m : Nat) (w : World) (hx : x < D32) (h : n + m = 32) (h1 : 1 ≤ n) (h2 : n ≤ 31) :
    Calls Tryd.prog 75 #[.int .u32 (x : Int), .int .i64 (-(n : Int))] w fun e w' => e = .returned (.int .u32 ((dn x n : Nat) : Int)) ∧ w' = w := by
  have ha := and31 h h1 h2
  go_enter Tryd.func75, Tryd.ntmps75
  go_wp2_with fail
  rw [dn_left hx h]
  go_ret
  exact ⟨rfl, rfl⟩
theorem sdown (x n : Nat) (w : World) (hx : x < D32) (h1 : 1 ≤ n) (h2 : n ≤ 31) :
    Calls Tryd.prog 66 #[.int .u32 (x : Int), .int .i64 (n : Int)] w fun e w' => e = .returned (.int .u32 ((dn x n : Nat) : Int)) ∧ w' = w := by
  have hc := fun w => rotl_walk x n (32 - n) w hx (by omega) h1 h2
  go_enter Tryd.func66, Tryd.ntmps66
  go_wp2_with fail
  refine (hc w).mono ?_
  rintro e w1 ⟨rfl, rfl⟩
  go_wp2_with fail
  go_ret
  exact ⟨rfl, rfl⟩
theorem below_drewN (w : World) (n : Nat) : Below w.heap.size w (w.drewN n) := ⟨rfl, rfl, rfl, Nat.le_refl _, fun _ _ => rfl⟩
theorem rdown (x n : Nat) (w : World) (hx : x < D32) (h1 : 1 ≤ n) (h2 : n ≤ 31) :
    Calls Tryd.prog 49 #[.int .u32 (x : Int), .int .i64 (n : Int)] w fun e w' => e = .returned (.int .u32 ((dn x n : Nat) : Int)) ∧ Below w.heap.size w w' := by
  have hv := dn_right (n := n) hx
  go_enter Tryd.func49, Tryd.ntmps49
  go_wp2_with fail
  go_quiet (fail)
  go_wp2_with fail
  go_ret
  exact ⟨rfl, below_drewN _ _⟩
theorem rchoose (e f g : Nat) (w : World) (he : e < D32) (hf : f < D32) (hg : g < D32) :
    Calls Tryd.prog 50 #[.int .u32 (e : Int), .int .u32 (f : Int), .int .u32 (g : Int)] w fun x w' => x = .returned (.int .u32 ((chs e f g : Nat) : Int)) ∧ w' = w := by
  have hn : (4294967295 - (e : Int)) % 4294967296 = ((4294967295 - e : Nat) : Int) := by simp only [D32] at he; omega
  have hn2 : 4294967295 - e < D32 := by simp only [D32]; omega
  have v1 := and32 he hf
  have v2 := and32 hn2 hg
  have v3 : bits .or .u32 ((e &&& f : Nat) : Int) (((4294967295 - e) &&& g : Nat) : Int) = ((chs e f g : Nat) : Int) := or32 (and_lt32 he) (and_lt32 hn2)
  go_enter Tryd.func50, Tryd.ntmps50
  go_wp2_with fail
  go_ret
  exact ⟨rfl, rfl⟩

/-- 64 numbers of 32 bits. -/
def ka (S : Nat → Nat) : Array Value := arr .u32 64 (fun i => ((S i : Nat) : Int))
def zK : Array Value := ka fun _ => 0
theorem ka_get {S : Nat → Nat} {i : Nat} (h : i < 64) : (ka S)[i]? = some (.int .u32 ((S i : Nat) : Int)) := arr_get _ _ h
theorem ka_set {S : Nat → Nat} {i : Nat} (h : i < 64) (x : Nat) : (ka S).setIfInBounds i (.int .u32 ((x : Nat) : Int)) = ka (fun j => if j = i then x else S j) := by
  unfold ka
  rw [arr_set _ _ _ h]
  refine arr_congr fun j _ => ?_
  by_cases e : j = i <;> simp [e]
theorem ka_congr {S T : Nat → Nat} (h : ∀ i, i < 64 → S i = T i) : ka S = ka T := arr_congr fun i hi => by rw [h i hi]
theorem Tryd.infoK : (Tryd.prog.info? 48).map (fun i => (i.zero, i.size)) = some (some (.agg zK), 64) := by kernel_rfl
theorem zK_run (w : World) : (zeroValue 48).run Tryd.prog w = .ok (.agg zK) w := (zero_of_info Tryd.infoK).1 w
theorem infoArrK (S : Nat → Nat) : (Tryd.prog.info? 48).map (·.size) = some (ka S).size := by rw [ka, arr_size]; exact (zero_of_info Tryd.infoK).2
/-- Eight numbers of 32 bits. -/
def va (S : Nat → Nat) : Array Value := arr .u32 8 (fun i => ((S i : Nat) : Int))
def zVQ : Array Value := va fun _ => 0
theorem va_get {S : Nat → Nat} {i : Nat} (h : i < 8) : (va S)[i]? = some (.int .u32 ((S i : Nat) : Int)) := arr_get _ _ h
theorem va_set {S : Nat → Nat} {i : Nat} (h : i < 8) (x : Nat) : (va S).setIfInBounds i (.int .u32 ((x : Nat) : Int)) = va (fun j => if j = i then x else S j) := by
  unfold va
  rw [arr_set _ _ _ h]
  refine arr_congr fun j _ => ?_
  by_cases e : j = i <;> simp [e]
theorem va_congr {S T : Nat → Nat} (h : ∀ i, i < 8 → S i = T i) : va S = va T := arr_congr fun i hi => by rw [h i hi]
theorem Tryd.infoV : (Tryd.prog.info? 49).map (fun i => (i.zero, i.size)) = some (some (.agg zVQ), 8) := by kernel_rfl
theorem zV_run (w : World) : (zeroValue 49).run Tryd.prog w = .ok (.agg zVQ) w := (zero_of_info Tryd.infoV).1 w
theorem infoArrV (S : Nat → Nat) : (Tryd.prog.info? 49).map (·.size) = some (va S).size := by rw [va, arr_size]; exact (zero_of_info Tryd.infoV).2
/-- 64 bytes. -/
def pa (S : Nat → Nat) : Array Value := arr .u8 64 (fun i => ((S i : Nat) : Int))
def zP : Array Value := pa fun _ => 0
theorem pa_get {S : Nat → Nat} {i : Nat} (h : i < 64) : (pa S)[i]? = some (.int .u8 ((S i : Nat) : Int)) := arr_get _ _ h
theorem pa_set {S : Nat → Nat} {i : Nat} (h : i < 64) (x : Nat) : (pa S).setIfInBounds i (.int .u8 ((x : Nat) : Int)) = pa (fun j => if j = i then x else S j) := by
  unfold pa
  rw [arr_set _ _ _ h]
  refine arr_congr fun j _ => ?_
  by_cases e : j = i <;> simp [e]
theorem pa_congr {S T : Nat → Nat} (h : ∀ i, i < 64 → S i = T i) : pa S = pa T := arr_congr fun i hi => by rw [h i hi]
theorem Tryd.infoP : (Tryd.prog.info? 80).map (fun i => (i.zero, i.size)) = some (some (.agg zP), 64) := by kernel_rfl
theorem zP_run (w : World) : (zeroValue 80).run Tryd.prog w = .ok (.agg zP) w := (zero_of_info Tryd.infoP).1 w
theorem infoArrP (S : Nat → Nat) : (Tryd.prog.info? 80).map (·.size) = some (pa S).size := by rw [pa, arr_size]; exact (zero_of_info Tryd.infoP).2
/-- 32 bytes. -/
def ha (S : Nat → Nat) : Array Value := arr .u8 32 (fun i => ((S i : Nat) : Int))
def zH : Array Value := ha fun _ => 0
theorem ha_get {S : Nat → Nat} {i : Nat} (h : i < 32) : (ha S)[i]? = some (.int .u8 ((S i : Nat) : Int)) := arr_get _ _ h
theorem ha_set {S : Nat → Nat} {i : Nat} (h : i < 32) (x : Nat) : (ha S).setIfInBounds i (.int .u8 ((x : Nat) : Int)) = ha (fun j => if j = i then x else S j) := by
  unfold ha
  rw [arr_set _ _ _ h]
  refine arr_congr fun j _ => ?_
  by_cases e : j = i <;> simp [e]
theorem ha_congr {S T : Nat → Nat} (h : ∀ i, i < 32 → S i = T i) : ha S = ha T := arr_congr fun i hi => by rw [h i hi]
theorem Tryd.infoH : (Tryd.prog.info? 42).map (fun i => (i.zero, i.size)) = some (some (.agg zH), 32) := by kernel_rfl
theorem zH_run (w : World) : (zeroValue 42).run Tryd.prog w = .ok (.agg zH) w := (zero_of_info Tryd.infoH).1 w
theorem infoArrH (S : Nat → Nat) : (Tryd.prog.info? 42).map (·.size) = some (ha S).size := by rw [ha, arr_size]; exact (zero_of_info Tryd.infoH).2
/-- Of what lay in w only block b may lie otherwise in w'. -/
structure WroteQ (b : Nat) (w w' : World) : Prop where
  os : w'.os = w.os
  tape : w'.tape = w.tape
  output : w'.output = w.output
  size : w.heap.size ≤ w'.heap.size
  block : ∀ k, k < w.heap.size → k ≠ b → w'.heap[k]? = w.heap[k]?
theorem WroteQ.refl (b : Nat) (w : World) : WroteQ b w w := ⟨rfl, rfl, rfl, Nat.le_refl _, fun _ _ _ => rfl⟩
theorem WroteQ.trans {b : Nat} {x y z : World} (h : WroteQ b x y) (k : WroteQ b y z) : WroteQ b x z :=
  ⟨k.os.trans h.os, k.tape.trans h.tape, k.output.trans h.output, Nat.le_trans h.size k.size, fun i hi hne => (k.block i (Nat.lt_of_lt_of_le hi h.size) hne).trans (h.block i hi hne)⟩
theorem WroteQ.of_below {b : Nat} {w w' : World} (h : Below w.heap.size w w') : WroteQ b w w' := ⟨h.os, h.tape, h.output, h.size, fun k hk _ => h.block k hk⟩
theorem WroteQ.put {b j : Nat} (w : World) (v : Value) : WroteQ b w (w.setCell ⟨b, j, none⟩ v) := ⟨rfl, rfl, rfl, by simp [World.setCell], fun k _ hne => Below.heap_setCell _ _ _ _ hne⟩
theorem WroteQ.row {b : Nat} (w : World) (c : Array Value) : WroteQ b w (w.setRow b c) := by
  have h := below_setRow (Below.refl b w) (Nat.le_refl b) c
  exact ⟨h.os, h.tape, h.output, h.size, fun k _ hne => setRow_other _ _ _ _ hne⟩
theorem WroteQ.below {b B : Nat} {w w' : World} (h : WroteQ b w w') (hb : B ≤ b) (hB : B ≤ w.heap.size) : Below B w w' :=
  ⟨h.os, h.tape, h.output, h.size, fun k hk => h.block k (by omega) (by omega)⟩
theorem WroteQ.other {b b' : Nat} {w w' : World} {o : Obj} (h : WroteQ b w w') (hb : w.heap[b']? = some o) (hne : b' ≠ b) : w'.heap[b']? = some o := by
  rw [h.block b' (Array.getElem?_eq_some_iff.1 hb).1 hne, hb]
theorem WroteQ.cell {b : Nat} {w w' : World} {p : Addr} (h : WroteQ b w w') (hp : p.block < w.heap.size) (hne : p.block ≠ b) : w'.cell? p = w.cell? p := World.cell?_of_block (w := w) (h.block p.block hp hne)

/-- The table of constants lies there. -/
structure Tab (w : World) : Prop where
  one : 1 ≤ w.heap.size
  const : ∀ k, k < 64 → w.cell? ⟨0, k, none⟩ = some (.int .u32 ((ck k : Nat) : Int))
theorem Tab.below {w w' : World} (h : Tab w) (hb : Below w.heap.size w w') : Tab w' :=
  ⟨Nat.le_trans h.one hb.size, fun k hk => (hb.cell (p := ⟨0, k, none⟩) (Nat.lt_of_lt_of_le (by simp) h.one)).trans (h.const k hk)⟩
theorem Tab.wrote {b : Nat} {w w' : World} (h : Tab w) (hw : WroteQ b w w') (hb : 1 ≤ b) : Tab w' :=
  ⟨Nat.le_trans h.one hw.size, fun k hk => (hw.cell (p := ⟨0, k, none⟩) (Nat.lt_of_lt_of_le (by simp) h.one) (show 0 ≠ b by omega)).trans (h.const k hk)⟩
end Go.Proofs.YtihefgpicnhdjaaDoor
/- What the function spread of package sha does: the 64 numbers that are made of a piece. -/
namespace Go.Proofs.YtihefgpicnhdjaaDoor
open Go.RowKit SmWord
set_option maxRecDepth 100000

theorem sd (x n : Nat) (z : Int) (w : World) (hz : (n : Int) = z) (hx : x < D32) (h1 : 1 ≤ n) (h2 : n ≤ 31) :
    Calls Tryd.prog 66 #[.int .u32 (x : Int), .int .i64 z] w fun e w' => e = .returned (.int .u32 ((dn x n : Nat) : Int)) ∧ Below w.heap.size w w' := by
  subst hz
  exact (sdown x n w hx h1 h2).mono fun _ w' ⟨a, b⟩ => ⟨a, by subst b; exact Below.refl _ _⟩
/-- The first c bytes of number i. -/
def an (f : Nat → Nat) (i : Nat) : Nat → Nat
  | 0 => 0
  | c + 1 => an f i c * 256 + f (4 * i + c)
def ac (f : Nat → Nat) (k i : Nat) : Nat := an f i (min (k - 4 * i) 4)
theorem an_m4 (f : Nat → Nat) (i : Nat) : an f i 4 = m4 f i := by
  simp only [an, m4, Nat.add_zero]
  omega
theorem an_lt {f : Nat → Nat} {i : Nat} : ∀ c, (∀ j, j < c → f (4 * i + j) < 256) → an f i c < 256 ^ c
  | 0, _ => by simp [an]
  | c + 1, h => by
    have h1 := an_lt c fun j hj => h j (by omega)
    have h2 := h c (by omega)
    rw [an, Nat.pow_succ]
    omega
theorem ac_step {f : Nat → Nat} {k q : Nat} (hf : ∀ i, i < 64 → f i < 256) (hk : k < 64) (hq : k / 4 = q) : ac f k q < 16777216 ∧ ac f (k + 1) q = ac f k q * 256 + f k ∧ ∀ i, i ≠ q → ac f (k + 1) i = ac f k i := by
  have e1 : min (k - 4 * q) 4 = k % 4 := by omega
  have e2 : min (k + 1 - 4 * q) 4 = k % 4 + 1 := by omega
  refine ⟨?_, ?_, fun i hi => ?_⟩
  · have := an_lt (f := f) (i := q) (k % 4) fun j hj => hf _ (by omega)
    rw [ac, e1]
    exact Nat.lt_of_lt_of_le this (Nat.le_trans (Nat.pow_le_pow_right (by decide) (show k % 4 ≤ 3 by omega)) (by decide))
  · rw [ac, ac, e1, e2, an, show 4 * q + k % 4 = k by omega]
  · rw [ac, ac]
    congr 1
    omega
theorem or_byte {y x : Nat} (hy : y < 16777216) (hx : x < 256) : bits .or .u32 ((y : Int) * 256 % 4294967296) ((x : Int) % 4294967296) = ((y * 256 + x : Nat) : Int) := by
  have e : (y : Int) * 256 % 4294967296 = ((y * 256 : Nat) : Int) := by omega
  have e2 : (x : Int) % 4294967296 = (x : Int) := by omega
  rw [e, e2, u32_or_nat _ _ (by omega) (by omega), nat_join 8 _ _ (by omega) (by omega)]
/-- The first 16 numbers. -/
def mm (f : Nat → Nat) (i : Nat) : Nat := if i < 16 then m4 f i else 0
theorem ac_end (f : Nat → Nat) : ka (ac f 64) = ka (mm f) := ka_congr fun i hi => by
  unfold ac mm
  by_cases h : i < 16
  · rw [if_pos h, show min (64 - 4 * i) 4 = 4 by omega, an_m4]
  · rw [if_neg h, show min (64 - 4 * i) 4 = 0 by omega, an]
theorem ac_start (f : Nat → Nat) : ka (ac f 0) = zK := ka_congr fun i _ => by
  unfold ac
  rw [show min (0 - 4 * i) 4 = 0 by omega, an]
theorem sw_mm (f : Nat → Nat) : ∀ k, ∀ i, i < 16 + k → sw (mm f) k i = sw (m4 f) k i
  | 0, i, hi => by simp only [sw, mm, if_pos (show i < 16 by omega)]
  | k + 1, i, hi => by
    have ih := sw_mm f k
    unfold sw
    by_cases e : i = 16 + k
    · rw [if_pos e, if_pos e, ih k (by omega), ih (k + 9) (by omega), ih (k + 1) (by omega), ih (k + 14) (by omega)]
    · rw [if_neg e, if_neg e, ih i (by omega)]
theorem mm_lt {f : Nat → Nat} (hf : ∀ i, i < 64 → f i < 256) (i : Nat) : mm f i < D32 := by
  unfold mm m4
  split
  · have := hf (4 * i) (by omega)
    have := hf (4 * i + 1) (by omega)
    have := hf (4 * i + 2) (by omega)
    have := hf (4 * i + 3) (by omega)
    simp only [D32]
    omega
  · decide
theorem sw_lt {m : Nat → Nat} (hm : ∀ i, m i < D32) : ∀ k i, sw m k i < D32
  | 0, i => hm i
  | k + 1, i => by
    unfold sw
    split
    · exact Nat.mod_lt _ (by decide)
    · exact sw_lt hm k i
theorem g0_lt {x : Nat} (h : x < D32) : g0 x < D32 := xor_lt32 (xor_lt32 (dn_lt _ h) (dn_lt _ h)) (Nat.lt_of_le_of_lt (Nat.div_le_self _ _) h)
theorem g1_lt {x : Nat} (h : x < D32) : g1 x < D32 := xor_lt32 (xor_lt32 (dn_lt _ h) (dn_lt _ h)) (Nat.lt_of_le_of_lt (Nat.div_le_self _ _) h)
theorem sw_put (m : Nat → Nat) {k n : Nat} (hk : n = 16 + k) (hn : n < 64) {z : Nat} (hz : (sw m k k + sw m k (k + 9) + g0 (sw m k (k + 1)) + g1 (sw m k (k + 14))) % D32 = z) : (ka (sw m k)).setIfInBounds n (.int .u32 ((z : Nat) : Int)) = ka (sw m (k + 1)) := by
  subst hk hz
  rw [ka_set hn]
  rfl
theorem index_pa (f : Nat → Nat) {k : Nat} (hk : k < 64) (w : World) : (Instr.index 80 (.agg (pa f)) (.int .i64 (k : Int))).run Tryd.prog w = .ok (.int .u8 ((f k : Nat) : Int)) w := by
  have hn : (0 : Int) ≤ (k : Int) ∧ (k : Int) < ((64 : Nat) : Int) := by omega
  simp [Instr.index, run_underlying Tryd.underlying80, asIntOf, hn, go_sem, hk, show (pa f)[k]? = _ from arr_get _ _ hk]
set_option maxHeartbeats 2000000 in
theorem spread_walk (f : Nat → Nat) (w : World) (hf : ∀ i, i < 64 → f i < 256) :
    Calls Tryd.prog 65 #[.agg (pa f)] w fun e w' => e = .returned (.agg (ka (sw (mm f) 48))) ∧ Below w.heap.size w w' := by
  have HF := Lib.hid hf
  clear hf
  have f1 : (w.alloc (.cells (pa f) 80)).heap[w.heap.size]? = some (.cells (pa f) 80) := heap_alloc_new _ _
  have f1' : (((w.alloc (.cells (pa f) 80)).alloc (.cells zK 48)).alloc (.cells zK 48)).heap[w.heap.size]? = some (.cells (pa f) 80) := blk_alloc (blk_alloc f1)
  go_enter Tryd.func65, Tryd.ntmps65
  go_wp2_with (first | (refine wpList_alloc_row rfl 48 rfl zK zK_run ?_) | (refine wpList_load_row rfl 80 _ rfl _ rfl 80 (pa f) (0, 0) _ f1' Tryd.underlying80 rfl (infoArrP _) ?_))
  have f0 : (((w.alloc (.cells (pa f) 80)).alloc (.cells zK 48)).alloc (.cells zK 48)).heap[w.heap.size + 1]? = some (.cells zK 48) := blk_alloc (heap_alloc2_new _ _ _)
  have f2 : (((w.alloc (.cells (pa f) 80)).alloc (.cells zK 48)).alloc (.cells zK 48)).heap[w.heap.size + 1 + 1]? = some (.cells (ka (ac f 0)) 48) := by
    rw [ac_start]
    have := heap_alloc_new ((w.alloc (.cells (pa f) 80)).alloc (.cells zK 48)) (.cells zK 48)
    simpa using this
  have bW : Below w.heap.size w (((w.alloc (.cells (pa f) 80)).alloc (.cells zK 48)).alloc (.cells zK 48)) := (((Below.refl _ _).alloc (Nat.le_refl _) _).alloc (by simp) _).alloc (by simp; omega) _
  clear f1 f1'
  generalize (((w.alloc (.cells (pa f) 80)).alloc (.cells zK 48)).alloc (.cells zK 48)) = W at *
  go_loopw [10] (fun i wr => ∃ k : Nat, k ≤ 64 ∧ i = .int .i64 k ∧ Below w.heap.size w wr ∧ wr.heap[w.heap.size + 1]? = some (.cells zK 48) ∧ wr.heap[w.heap.size + 1 + 1]? = some (.cells (ka (ac f k)) 48)) (fun i _ => 64 - (intOf i).toNat)
  case atStart => exact ⟨0, by omega, rfl, bW, f0, f2⟩
  case round =>
    clear bW f0 f2
    obtain ⟨k, hk, rfl, hb, f0, f2⟩ := hrel
    by_cases hlt : k < 64
    · obtain ⟨q, hq⟩ : ∃ q, k / 4 = q := ⟨_, rfl⟩
      have hqI : (k : Int) / 4 = (q : Int) := by omega
      have hq16 : q < 64 := by omega
      obtain ⟨s1, s2, s3⟩ := ac_step HF.out hlt hq
      have hfk := HF.out k hlt
      obtain ⟨y, hy⟩ : ∃ y, ac f k q = y := ⟨_, rfl⟩
      obtain ⟨x, hx⟩ : ∃ x, f k = x := ⟨_, rfl⟩
      have c2 := blk_cell f2 (ka_get (S := ac f k) hq16)
      have fz := blk_frozen (j := q) f2
      have ix := index_pa f hlt wr
      rw [hy] at c2 s1 s2
      rw [hx] at hfk ix s2
      have hv := or_byte s1 hfk
      have hput : (ka (ac f k)).setIfInBounds q (.int .u32 ((y * 256 + x : Nat) : Int)) = ka (ac f (k + 1)) := by
        rw [ka_set hq16]
        refine ka_congr fun i _ => ?_
        by_cases e : i = q
        · rw [if_pos e, e, s2]
        · rw [if_neg e, s3 i e]
      have hz : ∃ z, y * 256 + x = z := ⟨_, rfl⟩
      obtain ⟨z, hz⟩ := hz
      rw [hz] at hv hput
      have h2 : (wr.setCell ⟨w.heap.size + 1 + 1, q, none⟩ (.int .u32 ((z : Nat) : Int))).heap[w.heap.size + 1 + 1]? = _ := blk_set f2 _
      rw [hput] at h2
      have F0 := Lib.hid f0
      have F2 := Lib.hid h2
      have HB := Lib.hid hb
      clear f0 f2 hb hz s1 s2 s3 hq hy hx hfk hput h2
      go_wp2_with fail
      exact ⟨⟨k + 1, by omega, by go_num, HB.out.setCell (by simp; omega) _, blk_other F0.out (by omega) _, F2.out⟩, by simp [intOf]; omega⟩
    · obtain rfl : k = 64 := by omega
      rw [ac_end] at f2
      have F0 := Lib.hid f0
      have F2 := Lib.hid f2
      have HB := Lib.hid hb
      clear f0 f2 hb
      go_wp2_with fail
      go_loopw [6] (fun i wr => ∃ k n : Nat, Hid (n = 16 + k) ∧ n ≤ 64 ∧ i = .int .i64 n ∧ Below w.heap.size w wr ∧ wr.heap[w.heap.size + 1]? = some (.cells zK 48) ∧ wr.heap[w.heap.size + 1 + 1]? = some (.cells (ka (sw (mm f) k)) 48)) (fun i _ => 64 - (intOf i).toNat)
      case atStart => exact ⟨0, 16, Lib.hid rfl, by omega, rfl, HB.out, F0.out, F2.out⟩
      case round =>
        clear F0 F2 HB
        obtain ⟨k, n, hn, hn6, rfl, hb, f0, f2⟩ := hrel
        by_cases hlt : n < 64
        · have HT : ∀ i, sw (mm f) k i < D32 := sw_lt (mm_lt HF.out) k
          obtain ⟨p1, hp1⟩ : ∃ p, k + 1 = p := ⟨_, rfl⟩
          obtain ⟨p14, hp14⟩ : ∃ p, k + 14 = p := ⟨_, rfl⟩
          obtain ⟨p9, hp9⟩ : ∃ p, k + 9 = p := ⟨_, rfl⟩
          have hnn := hn.out
          have i15 : (n : Int) - 15 = (p1 : Int) := by omega
          have i2 : (n : Int) - 2 = (p14 : Int) := by omega
          have i16 : (n : Int) - 16 = (k : Int) := by omega
          have i7 : (n : Int) - 7 = (p9 : Int) := by omega
          have l1 : p1 < 64 := by omega
          have l14 : p14 < 64 := by omega
          have l9 : p9 < 64 := by omega
          have l0 : k < 64 := by omega
          have hput := fun z => sw_put (mm f) (k := k) (z := z) hnn hlt
          rw [hp1, hp14, hp9] at hput
          generalize hTe : sw (mm f) k = T at *
          have c15 := blk_cell f2 (ka_get (S := T) l1)
          have c2 := blk_cell f2 (ka_get (S := T) l14)
          have F0 := Lib.hid f0
          have F2 := Lib.hid f2
          have HB := Lib.hid hb
          have HP := Lib.hid hput
          have HTT := Lib.hid HT
          have HK := Lib.hid hp1
          clear f0 f2 hb hput HT hTe hp1 hp14 hp9 hnn
          go_wp2_with fail
          go_quiet (fail)
          go_wp2_with fail
          have la : T p1 < D32 := HTT.out _
          have lb : T p14 < D32 := HTT.out _
          obtain ⟨a8, ha8⟩ : ∃ x, T p1 / 8 = x := ⟨_, rfl⟩
          obtain ⟨b10, hb10⟩ : ∃ x, T p14 / 1024 = x := ⟨_, rfl⟩
          have ea : ((T p1 : Nat) : Int) / 8 = (a8 : Int) := by omega
          have eb : ((T p14 : Nat) : Int) / 1024 = (b10 : Int) := by omega
          have xa1 := xor32 (dn_lt 7 la) (dn_lt 18 la)
          have xa2 : bits .xor .u32 ((dn (T p1) 7 ^^^ dn (T p1) 18 : Nat) : Int) (a8 : Int) = ((g0 (T p1) : Nat) : Int) := by
            rw [← ha8]
            exact xor32 (xor_lt32 (dn_lt 7 la) (dn_lt 18 la)) (Nat.lt_of_le_of_lt (Nat.div_le_self _ _) la)
          have xb1 := xor32 (dn_lt 17 lb) (dn_lt 19 lb)
          have xb2 : bits .xor .u32 ((dn (T p14) 17 ^^^ dn (T p14) 19 : Nat) : Int) (b10 : Int) = ((g1 (T p14) : Nat) : Int) := by
            rw [← hb10]
            exact xor32 (xor_lt32 (dn_lt 17 lb) (dn_lt 19 lb)) (Nat.lt_of_le_of_lt (Nat.div_le_self _ _) lb)
          obtain ⟨s1, hs1⟩ : ∃ s, (T k + T p9) % D32 = s := ⟨_, rfl⟩
          obtain ⟨s2, hs2⟩ : ∃ s, (s1 + g0 (T p1)) % D32 = s := ⟨_, rfl⟩
          obtain ⟨s3, hs3⟩ : ∃ s, (s2 + g1 (T p14)) % D32 = s := ⟨_, rfl⟩
          have q1 : ((T k : Int) + (T p9 : Int)) % 4294967296 = (s1 : Int) := by rw [← hs1]; exact sum32 _ _
          have q2 : ((s1 : Int) + ((g0 (T p1) : Nat) : Int)) % 4294967296 = (s2 : Int) := by rw [← hs2]; exact sum32 _ _
          have q3 : ((s2 : Int) + ((g1 (T p14) : Nat) : Int)) % 4294967296 = (s3 : Int) := by rw [← hs3]; exact sum32 _ _
          have hput := HP.out s3 (by rw [← hs3, ← hs2, ← hs1]; simp only [D32]; omega)
          have HP2 := Lib.hid hput
          clear HP hput hs1 hs2 hs3 ha8 hb10 c15 c2 i15 i2
          rename_i nq
          refine region_last2 (aQ := ?aQ) 29 (by kernel_rfl) (by kernel_rfl) (fun w1 => ?hq) (fun w0' hb' => ?hh)
          case hq =>
            have cg : ∀ g : Ext w1.on, ∀ i, i < 64 → g.on.cell? ⟨w.heap.size + 1 + 1, i, none⟩ = some (.int .u32 ((T i : Nat) : Int)) := fun g i hi => blk_cell (g.block (w1.block F2.out)) (ka_get (S := T) hi)
            have c16 := fun g => cg g k l0
            have c7 := fun g => cg g p9 l9
            have d1 := fun w => sd (T p1) 7 7 w rfl la (by decide) (by decide)
            have d2 := fun w => sd (T p1) 18 18 w rfl la (by decide) (by decide)
            have d3 := fun w => sd (T p14) 17 17 w rfl lb (by decide) (by decide)
            have d4 := fun w => sd (T p14) 19 19 w rfl lb (by decide) (by decide)
            clear cg
            simp only [List.take_succ_cons, List.take_zero]
            repeat (go_big_quiet_step (first | (go_at_call 66; with_reducible exact calls_ext (d1 _)) | (go_at_call 66; with_reducible exact calls_ext (d2 _)) | (go_at_call 66; with_reducible exact calls_ext (d3 _)) | (go_at_call 66; with_reducible exact calls_ext (d4 _))))
            refine wpQuiet_nil ?_
            rfl
          have g2 : w0'.heap[w.heap.size + 1 + 1]? = some (.cells (ka T) 48) := Ext.block ⟨w0', hb'⟩ F2.out
          have g0 : w0'.heap[w.heap.size + 1]? = some (.cells zK 48) := Ext.block ⟨w0', hb'⟩ F0.out
          replace HB := Lib.hid ((HB.out.trans (below_drewN wr nq |>.mono HB.out.size)).trans (hb'.mono HB.out.size))
          clear F0 F2 hb'
          have cx := blk_cell g2 (ka_get (S := T) hlt)
          have fz := blk_frozen (j := n) g2
          have h2 : (w0'.setCell ⟨w.heap.size + 1 + 1, n, none⟩ (.int .u32 ((s3 : Nat) : Int))).heap[w.heap.size + 1 + 1]? = _ := blk_set g2 _
          rw [HP2.out, ← HK.out] at h2
          have F2 := Lib.hid h2
          have F0 := Lib.hid (blk_other (b := w.heap.size + 1 + 1) (j := n) g0 (by omega) (.int .u32 ((s3 : Nat) : Int)))
          clear h2 g0 g2
          simp only [List.drop_succ_cons, List.drop_zero]
          go_wp2_with fail
          exact ⟨⟨k + 1, n + 1, Lib.hid (by have := hn.out; omega), by omega, by go_num, HB.out.setCell (by simp; omega) _, F0.out, F2.out⟩, by simp [intOf]; omega⟩
        · obtain rfl : n = 64 := by omega
          obtain rfl : k = 48 := by have := hn.out; omega
          have HB := Lib.hid hb
          clear hb
          go_wp2_with (first | (refine wpList_load_row rfl 48 _ rfl _ rfl 48 (ka (sw (mm f) 48)) (0, 0) _ f2 Tryd.underlying48 rfl (infoArrK _) ?_) | (refine wpList_store_row rfl 48 _ _ rfl _ zK (ka (sw (mm f) 48)) rfl rfl f0 (infoArrK _) rfl (arr_one _ _ _) ?_))
          refine bodyPost_ret (v := .agg (ka (sw (mm f) 48))) (results_cell_row rfl _ _ _ 48 (ka (sw (mm f) 48)) (0, 0) _ rfl (blk_row f0) Tryd.underlying48 rfl (infoArrK _)) rfl ⟨rfl, below_setRow HB.out (by omega) _⟩
end Go.Proofs.YtihefgpicnhdjaaDoor
/- What the function turn of package sha does: eight numbers in memory are turned by a piece; nothing else of what lay before changes. -/
namespace Go.Proofs.YtihefgpicnhdjaaDoor
open Go.RowKit SmWord
set_option maxRecDepth 100000

theorem vs_congr {w w' : Nat → Nat} (v : Nat → Nat) : ∀ k, (∀ i, i < k → w i = w' i) → vs v w k = vs v w' k
  | 0, _ => rfl
  | k + 1, h => by rw [vs, vs, vs_congr v k fun i hi => h i (by omega), h k (by omega)]
theorem bk_mm (S f : Nat → Nat) (i : Nat) : (S i + vs S (sw (mm f) 48) 64 i) % D32 = bk S f i := by
  rw [bk, vs_congr S 64 fun i hi => sw_mm f 48 i (by omega)]
theorem chs_lt {e f g : Nat} (he : e < D32) : chs e f g < D32 := or_lt32 (and_lt32 he) (and_lt32 (by simp only [D32]; omega))
theorem maj_lt {a b c : Nat} (ha : a < D32) (hb : b < D32) : maj a b c < D32 := or_lt32 (or_lt32 (and_lt32 ha) (and_lt32 ha)) (and_lt32 hb)
theorem G0_lt {x : Nat} (h : x < D32) : G0 x < D32 := xor_lt32 (xor_lt32 (dn_lt _ h) (dn_lt _ h)) (dn_lt _ h)
theorem G1_lt {x : Nat} (h : x < D32) : G1 x < D32 := xor_lt32 (xor_lt32 (dn_lt _ h) (dn_lt _ h)) (dn_lt _ h)
/-- What a row of eight is while its first j numbers are done. -/
def upto (R S : Nat → Nat) (j i : Nat) : Nat := if i < j then R i else S i
theorem upto_start (R S : Nat → Nat) : va (upto R S 0) = va S := va_congr fun i _ => by simp [upto]
theorem upto_end (R S : Nat → Nat) : va (upto R S 8) = va R := va_congr fun i hi => by simp [upto, hi]
theorem upto_here (R S : Nat → Nat) (j : Nat) : upto R S j j = S j := by simp [upto]
theorem upto_next (R S : Nat → Nat) {j : Nat} (h : j < 8) : (va (upto R S j)).setIfInBounds j (.int .u32 ((R j : Nat) : Int)) = va (upto R S (j + 1)) := by
  rw [va_set h]
  refine va_congr fun i _ => ?_
  unfold upto
  by_cases e : i = j
  · subst e; simp
  · by_cases l : i < j
    · simp [e, l, show i < j + 1 by omega]
    · simp [e, l, show ¬ i < j + 1 by omega]
theorem ka_agg_inj {S T : Nat → Nat} (h : S = T) : ka S = ka T := by rw [h]
set_option maxHeartbeats 4000000 in
theorem turn_walk (b : Nat) (S f : Nat → Nat) (w : World) (hS : ok8 S) (hf : ∀ i, i < 64 → f i < 256) (hT : Tab w) (hb : w.heap[b]? = some (.cells (va S) 49)) :
    Calls Tryd.prog 44 #[.pointer (some ⟨b, 0, none⟩), .agg (pa f)] w fun e w' => e = .returned (.tuple #[]) ∧ WroteQ b w w' ∧ w'.heap[b]? = some (.cells (va (bk S f)) 49) := by
  obtain ⟨X, hX⟩ : ∃ X, sw (mm f) 48 = X := ⟨_, rfl⟩
  have hXl : ∀ i, X i < D32 := by rw [← hX]; exact sw_lt (mm_lt hf) 48
  have hsp := fun w => spread_walk f w hf
  rw [hX] at hsp
  have hbk : bk S f = fun i => (S i + vs S X 64 i) % D32 := by rw [← hX]; exact funext fun i => (bk_mm S f i).symm
  rw [hbk]
  have hlb := (Array.getElem?_eq_some_iff.1 hb).1
  have HSP := Lib.hid hsp
  have HX := Lib.hid hXl
  have HS := Lib.hid hS
  have HT := Lib.hid hT
  have HW := Lib.hid hb
  clear hX hXl hsp hbk hS hT hb hf
  have f1 : (w.alloc (.cells (pa f) 80)).heap[w.heap.size]? = some (.cells (pa f) 80) := heap_alloc_new _ _
  go_enter Tryd.func44, Tryd.ntmps44
  go_wp2_with (first | (refine wpList_load_row rfl 80 _ rfl _ rfl 80 (pa f) (0, 0) _ f1 Tryd.underlying80 rfl (infoArrP _) ?_))
  have bW : Below w.heap.size w (w.alloc (.cells (pa f) 80)) := (Below.refl _ _).alloc (Nat.le_refl _) _
  clear f1
  generalize w.alloc (.cells (pa f) 80) = W at *
  refine (HSP.out W).mono ?_
  rintro e w1 ⟨rfl, b1⟩
  have HB := Lib.hid (bW.trans (b1.mono bW.size))
  clear bW b1 HSP
  have f2 : (w1.alloc (.cells zK 48)).heap[w1.heap.size]? = some (.cells zK 48) := heap_alloc_new _ _
  go_upto_region 2 with (first | (refine wpList_alloc_row rfl 48 rfl zK zK_run ?_) | (refine wpList_store_row rfl 48 _ _ rfl _ zK (ka X) rfl rfl f2 (infoArrK _) rfl (arr_one _ _ _) ?_))
  have g1 := blk_row (c' := ka X) f2
  clear f2
  have hsz := HB.out.size
  replace HB := Lib.hid (below_setRow (HB.out.alloc HB.out.size (.cells zK 48)) HB.out.size (ka X))
  obtain ⟨n, hn⟩ : ∃ n, w1.heap.size = n := ⟨_, rfl⟩
  have hnb : n ≠ b := by omega
  rw [hn] at g1 HB ⊢
  generalize (w1.alloc (.cells zK 48)).setRow n (ka X) = W2 at *
  have g0 : W2.heap[b]? = some (.cells (va S) 49) := by rw [HB.out.block b hlb]; exact HW.out
  have G0' := Lib.hid g0
  have G1' := Lib.hid g1
  have hc : ∀ i, i < 8 → W2.cell? ⟨b, i, none⟩ = some (.int .u32 ((S i : Nat) : Int)) := fun i hi => blk_cell g0 (va_get hi)
  have c0 := hc 0 (by decide)
  have c1 := hc 1 (by decide)
  have c2 := hc 2 (by decide)
  have c3 := hc 3 (by decide)
  have c4 := hc 4 (by decide)
  have c5 := hc 5 (by decide)
  have c6 := hc 6 (by decide)
  have c7 := hc 7 (by decide)
  clear hc g0 g1 hn hsz
  go_wp2_with fail
  go_quiet (fail)
  go_wp2_with fail
  clear c0 c1 c2 c3 c4 c5 c6 c7
  replace HB : Hid (Below w.heap.size w (W2.drewN nq)) := Lib.hid (HB.out.trans ((below_drewN W2 nq).mono HB.out.size))
  replace G0' : Hid ((W2.drewN nq).heap[b]? = some (.cells (va S) 49)) := Lib.hid G0'.out
  replace G1' : Hid ((W2.drewN nq).heap[n]? = some (.cells (ka X) 48)) := Lib.hid G1'.out
  generalize W2.drewN nq = W3 at *
  go_loopw [50, 5, 6, 7, 8, 9, 10, 11, 12] (fun i r0 r1 r2 r3 r4 r5 r6 r7 wr => ∃ k : Nat, k ≤ 64 ∧ i = .int .i64 k ∧ r0 = .int .u32 ((vs S X k 0 : Nat) : Int) ∧ r1 = .int .u32 ((vs S X k 1 : Nat) : Int) ∧ r2 = .int .u32 ((vs S X k 2 : Nat) : Int) ∧ r3 = .int .u32 ((vs S X k 3 : Nat) : Int) ∧ r4 = .int .u32 ((vs S X k 4 : Nat) : Int) ∧ r5 = .int .u32 ((vs S X k 5 : Nat) : Int) ∧ r6 = .int .u32 ((vs S X k 6 : Nat) : Int) ∧ r7 = .int .u32 ((vs S X k 7 : Nat) : Int) ∧ Hid (Below w.heap.size w wr) ∧ Hid (wr.heap[b]? = some (.cells (va S) 49)) ∧ Hid (wr.heap[n]? = some (.cells (ka X) 48))) (fun i _ _ _ _ _ _ _ _ _ => 64 - (intOf i).toNat)
  case atStart => exact ⟨0, by omega, rfl, rfl, rfl, rfl, rfl, rfl, rfl, rfl, rfl, HB, G0', G1'⟩
  case round =>
    clear HB G0' G1' HW
    obtain ⟨k, hk, rfl, rfl, rfl, rfl, rfl, rfl, rfl, rfl, rfl, HB, G0', G1'⟩ := hrel
    by_cases hlt : k < 64
    · have hV : ok8 (vs S X k) := vs_lt HS.out X k
      have hN : vs S X (k + 1) = rv (vs S X k) (ck k) (X k) := rfl
      have HN := Lib.hid hN
      clear hN
      generalize vs S X k = V at *
      have l0 : V 0 < D32 := hV 0 (by decide)
      have l1 : V 1 < D32 := hV 1 (by decide)
      have l2 : V 2 < D32 := hV 2 (by decide)
      have l3 : V 3 < D32 := hV 3 (by decide)
      have l4 : V 4 < D32 := hV 4 (by decide)
      have l5 : V 5 < D32 := hV 5 (by decide)
      have l6 : V 6 < D32 := hV 6 (by decide)
      have l7 : V 7 < D32 := hV 7 (by decide)
      clear hV
      obtain ⟨c, hc⟩ : ∃ c, ck k = c := ⟨_, rfl⟩
      obtain ⟨x, hx⟩ : ∃ x, X k = x := ⟨_, rfl⟩
      rw [hc, hx] at HN
      have x1 := xor32 (dn_lt 6 l4) (dn_lt 11 l4)
      have x2 : bits .xor .u32 ((dn (V 4) 6 ^^^ dn (V 4) 11 : Nat) : Int) ((dn (V 4) 25 : Nat) : Int) = ((G1 (V 4) : Nat) : Int) := xor32 (xor_lt32 (dn_lt 6 l4) (dn_lt 11 l4)) (dn_lt 25 l4)
      have a1 := and32 l4 l5
      have a2 := andNot32 l6 l4
      have a3 : bits .or .u32 ((V 4 &&& V 5 : Nat) : Int) ((V 6 &&& (4294967295 - V 4) : Nat) : Int) = ((chs (V 4) (V 5) (V 6) : Nat) : Int) := by
        rw [or32 (and_lt32 l4) (and_lt32 l6), chs, Nat.and_comm (V 6)]
      obtain ⟨t1, ht1⟩ : ∃ s, (V 7 + G1 (V 4)) % D32 = s := ⟨_, rfl⟩
      obtain ⟨t2, ht2⟩ : ∃ s, (t1 + chs (V 4) (V 5) (V 6)) % D32 = s := ⟨_, rfl⟩
      obtain ⟨t3, ht3⟩ : ∃ s, (t2 + c) % D32 = s := ⟨_, rfl⟩
      obtain ⟨t, ht⟩ : ∃ s, tt V c x = s := ⟨_, rfl⟩
      have q1 : ((V 7 : Int) + ((G1 (V 4) : Nat) : Int)) % 4294967296 = (t1 : Int) := by rw [← ht1]; exact sum32 _ _
      have q2 : ((t1 : Int) + ((chs (V 4) (V 5) (V 6) : Nat) : Int)) % 4294967296 = (t2 : Int) := by rw [← ht2]; exact sum32 _ _
      have q3 : ((t2 : Int) + (c : Int)) % 4294967296 = (t3 : Int) := by rw [← ht3]; exact sum32 _ _
      have q4 : ((t3 : Int) + (x : Int)) % 4294967296 = (t : Int) := by
        rw [sum32, ← ht, ← ht3, ← ht2, ← ht1, tt]
        simp only [D32]
        omega
      have y1 := xor32 (dn_lt 2 l0) (dn_lt 13 l0)
      have y2 : bits .xor .u32 ((dn (V 0) 2 ^^^ dn (V 0) 13 : Nat) : Int) ((dn (V 0) 22 : Nat) : Int) = ((G0 (V 0) : Nat) : Int) := xor32 (xor_lt32 (dn_lt 2 l0) (dn_lt 13 l0)) (dn_lt 22 l0)
      have b1 := and32 l0 l1
      have b2 := and32 l0 l2
      have b3 := or32 (and_lt32 (y := V 1) l0) (and_lt32 (y := V 2) l0)
      have b4 := and32 l1 l2
      have b5 : bits .or .u32 ((V 0 &&& V 1 ||| V 0 &&& V 2 : Nat) : Int) ((V 1 &&& V 2 : Nat) : Int) = ((maj (V 0) (V 1) (V 2) : Nat) : Int) := or32 (or_lt32 (and_lt32 l0) (and_lt32 l0)) (and_lt32 l1)
      obtain ⟨u, hu⟩ : ∃ s, uu V = s := ⟨_, rfl⟩
      have q5 : (((G0 (V 0) : Nat) : Int) + ((maj (V 0) (V 1) (V 2) : Nat) : Int)) % 4294967296 = (u : Int) := by rw [← hu]; exact sum32 _ _
      obtain ⟨n0, hn0⟩ : ∃ s, (t + u) % D32 = s := ⟨_, rfl⟩
      obtain ⟨n4, hn4⟩ : ∃ s, (V 3 + t) % D32 = s := ⟨_, rfl⟩
      have q6 : ((t : Int) + (u : Int)) % 4294967296 = (n0 : Int) := by rw [← hn0]; exact sum32 _ _
      have q7 : ((V 3 : Int) + (t : Int)) % 4294967296 = (n4 : Int) := by rw [← hn4]; exact sum32 _ _
      have e0 : rv V c x 0 = n0 := by rw [rv, if_pos rfl, ht, hu, hn0]
      have e4 : rv V c x 4 = n4 := by rw [rv, if_neg (by decide), if_pos rfl, ht, hn4]
      have E0 := Lib.hid e0
      have E4 := Lib.hid e4
      have HC := Lib.hid hc
      have HXX := Lib.hid hx
      clear ht1 ht2 ht3 ht hu hn0 hn4 e0 e4 hc hx
      go_wp2_with fail
      refine region_ext (by kernel_rfl) (by kernel_rfl) ?_
      have cK : ∀ g : Ext wr, g.on.cell? ⟨0, k, none⟩ = some (.int .u32 ((c : Nat) : Int)) := fun g => by
        rw [← HC.out]
        exact ((HT.out.below HB.out).below g.below).const k hlt
      have cX : ∀ g : Ext wr, g.on.cell? ⟨n, k, none⟩ = some (.int .u32 ((x : Nat) : Int)) := fun g => by
        rw [← HXX.out]
        exact blk_cell (g.block G1'.out) (ka_get hlt)
      have d1 := fun w => sd (V 4) 6 6 w rfl l4 (by decide) (by decide)
      have d2 := fun w => sd (V 4) 11 11 w rfl l4 (by decide) (by decide)
      have d3 := fun w => sd (V 4) 25 25 w rfl l4 (by decide) (by decide)
      repeat (go_big_quiet_step (first | (go_at_call 66; with_reducible exact calls_ext (d1 _)) | (go_at_call 66; with_reducible exact calls_ext (d2 _)) | (go_at_call 66; with_reducible exact calls_ext (d3 _))))
      refine wpQuiet_nil ?_
      rintro _ ⟨g1, rfl⟩
      rw [q4]
      replace HB := Lib.hid (HB.out.trans (g1.below.mono HB.out.size))
      replace G0' := Lib.hid (g1.block G0'.out)
      replace G1' := Lib.hid (g1.block G1'.out)
      generalize g1.on = w3 at *
      clear x1 x2 a1 a2 a3 q1 q2 q3 q4 cK cX d1 d2 d3 HC HXX
      go_wp2_with fail
      refine (sd (V 0) 2 2 w3 rfl l0 (by decide) (by decide)).mono ?_
      rintro e w4 ⟨rfl, b4⟩
      replace HB := Lib.hid (HB.out.trans (b4.mono HB.out.size))
      replace G0' := Lib.hid (stay b4 G0'.out)
      replace G1' := Lib.hid (stay b4 G1'.out)
      clear b4
      go_wp2_with fail
      refine (sd (V 0) 13 13 w4 rfl l0 (by decide) (by decide)).mono ?_
      rintro e w5 ⟨rfl, b5⟩
      replace HB := Lib.hid (HB.out.trans (b5.mono HB.out.size))
      replace G0' := Lib.hid (stay b5 G0'.out)
      replace G1' := Lib.hid (stay b5 G1'.out)
      clear b5
      go_wp2_with fail
      refine (sd (V 0) 22 22 w5 rfl l0 (by decide) (by decide)).mono ?_
      rintro e w6 ⟨rfl, b6⟩
      replace HB := Lib.hid (HB.out.trans (b6.mono HB.out.size))
      replace G0' := Lib.hid (stay b6 G0'.out)
      replace G1' := Lib.hid (stay b6 G1'.out)
      clear b6
      go_wp2_with fail
      refine ⟨⟨k + 1, by omega, by go_num, by rw [HN.out, E0.out, q6], by rw [HN.out]; rfl, by rw [HN.out]; rfl, by rw [HN.out]; rfl, by rw [HN.out, E4.out, q7], by rw [HN.out]; rfl, by rw [HN.out]; rfl, by rw [HN.out]; rfl, HB, G0', G1'⟩, by simp [intOf]; omega⟩
    · obtain rfl : k = 64 := by omega
      obtain ⟨V, hV⟩ : ∃ V, vs S X 64 = V := ⟨_, rfl⟩
      rw [hV]
      have HV := Lib.hid hV
      clear hV
      have R0 : Hid (wr.heap[b]? = some (.cells (va (upto (fun i => (S i + V i) % D32) S 0)) 49)) := Lib.hid (by rw [upto_start]; exact G0'.out)
      have HWr : Hid (WroteQ b w wr) := Lib.hid (⟨HB.out.os, HB.out.tape, HB.out.output, HB.out.size, fun k hk _ => HB.out.block k hk⟩)
      obtain ⟨R, hR⟩ : ∃ R : Nat → Nat, R = fun i => (S i + V i) % D32 := ⟨_, rfl⟩
      have r : ∀ i, ((S i : Nat) : Int) + ((V i : Nat) : Int) = ((S i : Nat) : Int) + ((V i : Nat) : Int) := fun _ => rfl
      have hq : ∀ i, (((S i : Nat) : Int) + ((V i : Nat) : Int)) % 4294967296 = ((R i : Nat) : Int) := fun i => by rw [hR]; exact sum32 _ _
      rw [← hR] at R0
      have HRe := Lib.hid hR
      have HQ := Lib.hid hq
      have W0 := HWr
      clear HB G0' G1' r hq hR HWr
      go_wp2_with fail
      have q0 := HQ.out 0
      try simp only [Act.put, List.setIfInBounds_toArray, List.set_cons_succ, List.set_cons_zero]
      refine region_last2 (aQ := ?aQ0) 8 (by kernel_rfl) (by kernel_rfl) (fun w1 => ?hq0) (fun w' hb' => ?hh0)
      case hq0 =>
        have cx : ∀ g : Ext w1.on, g.on.cell? ⟨b, 0, none⟩ = some (.int .u32 ((S 0 : Nat) : Int)) := fun g => by
          have := blk_cell (g.block (w1.block R0.out)) (va_get (i := 0) (by decide))
          rwa [upto_here] at this
        simp only [List.take_succ_cons, List.take_zero]
        repeat (go_big_quiet_step (fail))
        refine wpQuiet_nil ?_
        rfl
      have g0 : w'.heap[b]? = some (.cells (va (upto R S 0)) 49) := Ext.block ⟨w', hb'⟩ R0.out
      have W1 := Lib.hid (W0.out.trans (WroteQ.of_below hb'))
      clear R0 W0 hb'
      have cx := blk_cell g0 (va_get (i := 0) (by decide))
      have fz := blk_frozen (j := 0) g0
      have h0 : (w'.setCell ⟨b, 0, none⟩ (.int .u32 ((R 0 : Nat) : Int))).heap[b]? = _ := blk_set g0 _
      rw [upto_next _ _ (by decide)] at h0
      have R1 := Lib.hid h0
      clear h0 g0
      simp only [List.drop_succ_cons, List.drop_zero]
      go_wp2_with fail
      replace W1 := Lib.hid (W1.out.trans (WroteQ.put (j := 0) w' (.int .u32 ((R 0 : Nat) : Int))))
      clear cx fz q0
      generalize w'.setCell ⟨b, 0, none⟩ (.int .u32 ((R 0 : Nat) : Int)) = V0 at *
      have q1 := HQ.out 1
      try simp only [Act.put, List.setIfInBounds_toArray, List.set_cons_succ, List.set_cons_zero]
      refine region_last2 (aQ := ?aQ1) 8 (by kernel_rfl) (by kernel_rfl) (fun w1 => ?hq1) (fun w' hb' => ?hh1)
      case hq1 =>
        have cx : ∀ g : Ext w1.on, g.on.cell? ⟨b, 1, none⟩ = some (.int .u32 ((S 1 : Nat) : Int)) := fun g => by
          have := blk_cell (g.block (w1.block R1.out)) (va_get (i := 1) (by decide))
          rwa [upto_here] at this
        simp only [List.take_succ_cons, List.take_zero]
        repeat (go_big_quiet_step (fail))
        refine wpQuiet_nil ?_
        rfl
      have g1 : w'.heap[b]? = some (.cells (va (upto R S 1)) 49) := Ext.block ⟨w', hb'⟩ R1.out
      have W2 := Lib.hid (W1.out.trans (WroteQ.of_below hb'))
      clear R1 W1 hb'
      have cx := blk_cell g1 (va_get (i := 1) (by decide))
      have fz := blk_frozen (j := 1) g1
      have h1 : (w'.setCell ⟨b, 1, none⟩ (.int .u32 ((R 1 : Nat) : Int))).heap[b]? = _ := blk_set g1 _
      rw [upto_next _ _ (by decide)] at h1
      have R2 := Lib.hid h1
      clear h1 g1
      simp only [List.drop_succ_cons, List.drop_zero]
      go_wp2_with fail
      replace W2 := Lib.hid (W2.out.trans (WroteQ.put (j := 1) w' (.int .u32 ((R 1 : Nat) : Int))))
      clear cx fz q1
      generalize w'.setCell ⟨b, 1, none⟩ (.int .u32 ((R 1 : Nat) : Int)) = V1 at *
      have q2 := HQ.out 2
      try simp only [Act.put, List.setIfInBounds_toArray, List.set_cons_succ, List.set_cons_zero]
      refine region_last2 (aQ := ?aQ2) 8 (by kernel_rfl) (by kernel_rfl) (fun w1 => ?hq2) (fun w' hb' => ?hh2)
      case hq2 =>
        have cx : ∀ g : Ext w1.on, g.on.cell? ⟨b, 2, none⟩ = some (.int .u32 ((S 2 : Nat) : Int)) := fun g => by
          have := blk_cell (g.block (w1.block R2.out)) (va_get (i := 2) (by decide))
          rwa [upto_here] at this
        simp only [List.take_succ_cons, List.take_zero]
        repeat (go_big_quiet_step (fail))
        refine wpQuiet_nil ?_
        rfl
      have g2 : w'.heap[b]? = some (.cells (va (upto R S 2)) 49) := Ext.block ⟨w', hb'⟩ R2.out
      have W3 := Lib.hid (W2.out.trans (WroteQ.of_below hb'))
      clear R2 W2 hb'
      have cx := blk_cell g2 (va_get (i := 2) (by decide))
      have fz := blk_frozen (j := 2) g2
      have h2 : (w'.setCell ⟨b, 2, none⟩ (.int .u32 ((R 2 : Nat) : Int))).heap[b]? = _ := blk_set g2 _
      rw [upto_next _ _ (by decide)] at h2
      have R3 := Lib.hid h2
      clear h2 g2
      simp only [List.drop_succ_cons, List.drop_zero]
      go_wp2_with fail
      replace W3 := Lib.hid (W3.out.trans (WroteQ.put (j := 2) w' (.int .u32 ((R 2 : Nat) : Int))))
      clear cx fz q2
      generalize w'.setCell ⟨b, 2, none⟩ (.int .u32 ((R 2 : Nat) : Int)) = V2 at *
      have q3 := HQ.out 3
      try simp only [Act.put, List.setIfInBounds_toArray, List.set_cons_succ, List.set_cons_zero]
      refine region_last2 (aQ := ?aQ3) 8 (by kernel_rfl) (by kernel_rfl) (fun w1 => ?hq3) (fun w' hb' => ?hh3)
      case hq3 =>
        have cx : ∀ g : Ext w1.on, g.on.cell? ⟨b, 3, none⟩ = some (.int .u32 ((S 3 : Nat) : Int)) := fun g => by
          have := blk_cell (g.block (w1.block R3.out)) (va_get (i := 3) (by decide))
          rwa [upto_here] at this
        simp only [List.take_succ_cons, List.take_zero]
        repeat (go_big_quiet_step (fail))
        refine wpQuiet_nil ?_
        rfl
      have g3 : w'.heap[b]? = some (.cells (va (upto R S 3)) 49) := Ext.block ⟨w', hb'⟩ R3.out
      have W4 := Lib.hid (W3.out.trans (WroteQ.of_below hb'))
      clear R3 W3 hb'
      have cx := blk_cell g3 (va_get (i := 3) (by decide))
      have fz := blk_frozen (j := 3) g3
      have h3 : (w'.setCell ⟨b, 3, none⟩ (.int .u32 ((R 3 : Nat) : Int))).heap[b]? = _ := blk_set g3 _
      rw [upto_next _ _ (by decide)] at h3
      have R4 := Lib.hid h3
      clear h3 g3
      simp only [List.drop_succ_cons, List.drop_zero]
      go_wp2_with fail
      replace W4 := Lib.hid (W4.out.trans (WroteQ.put (j := 3) w' (.int .u32 ((R 3 : Nat) : Int))))
      clear cx fz q3
      generalize w'.setCell ⟨b, 3, none⟩ (.int .u32 ((R 3 : Nat) : Int)) = V3 at *
      have q4 := HQ.out 4
      try simp only [Act.put, List.setIfInBounds_toArray, List.set_cons_succ, List.set_cons_zero]
      refine region_last2 (aQ := ?aQ4) 8 (by kernel_rfl) (by kernel_rfl) (fun w1 => ?hq4) (fun w' hb' => ?hh4)
      case hq4 =>
        have cx : ∀ g : Ext w1.on, g.on.cell? ⟨b, 4, none⟩ = some (.int .u32 ((S 4 : Nat) : Int)) := fun g => by
          have := blk_cell (g.block (w1.block R4.out)) (va_get (i := 4) (by decide))
          rwa [upto_here] at this
        simp only [List.take_succ_cons, List.take_zero]
        repeat (go_big_quiet_step (fail))
        refine wpQuiet_nil ?_
        rfl
      have g4 : w'.heap[b]? = some (.cells (va (upto R S 4)) 49) := Ext.block ⟨w', hb'⟩ R4.out
      have W5 := Lib.hid (W4.out.trans (WroteQ.of_below hb'))
      clear R4 W4 hb'
      have cx := blk_cell g4 (va_get (i := 4) (by decide))
      have fz := blk_frozen (j := 4) g4
      have h4 : (w'.setCell ⟨b, 4, none⟩ (.int .u32 ((R 4 : Nat) : Int))).heap[b]? = _ := blk_set g4 _
      rw [upto_next _ _ (by decide)] at h4
      have R5 := Lib.hid h4
      clear h4 g4
      simp only [List.drop_succ_cons, List.drop_zero]
      go_wp2_with fail
      replace W5 := Lib.hid (W5.out.trans (WroteQ.put (j := 4) w' (.int .u32 ((R 4 : Nat) : Int))))
      clear cx fz q4
      generalize w'.setCell ⟨b, 4, none⟩ (.int .u32 ((R 4 : Nat) : Int)) = V4 at *
      have q5 := HQ.out 5
      try simp only [Act.put, List.setIfInBounds_toArray, List.set_cons_succ, List.set_cons_zero]
      refine region_last2 (aQ := ?aQ5) 8 (by kernel_rfl) (by kernel_rfl) (fun w1 => ?hq5) (fun w' hb' => ?hh5)
      case hq5 =>
        have cx : ∀ g : Ext w1.on, g.on.cell? ⟨b, 5, none⟩ = some (.int .u32 ((S 5 : Nat) : Int)) := fun g => by
          have := blk_cell (g.block (w1.block R5.out)) (va_get (i := 5) (by decide))
          rwa [upto_here] at this
        simp only [List.take_succ_cons, List.take_zero]
        repeat (go_big_quiet_step (fail))
        refine wpQuiet_nil ?_
        rfl
      have g5 : w'.heap[b]? = some (.cells (va (upto R S 5)) 49) := Ext.block ⟨w', hb'⟩ R5.out
      have W6 := Lib.hid (W5.out.trans (WroteQ.of_below hb'))
      clear R5 W5 hb'
      have cx := blk_cell g5 (va_get (i := 5) (by decide))
      have fz := blk_frozen (j := 5) g5
      have h5 : (w'.setCell ⟨b, 5, none⟩ (.int .u32 ((R 5 : Nat) : Int))).heap[b]? = _ := blk_set g5 _
      rw [upto_next _ _ (by decide)] at h5
      have R6 := Lib.hid h5
      clear h5 g5
      simp only [List.drop_succ_cons, List.drop_zero]
      go_wp2_with fail
      replace W6 := Lib.hid (W6.out.trans (WroteQ.put (j := 5) w' (.int .u32 ((R 5 : Nat) : Int))))
      clear cx fz q5
      generalize w'.setCell ⟨b, 5, none⟩ (.int .u32 ((R 5 : Nat) : Int)) = V5 at *
      have q6 := HQ.out 6
      try simp only [Act.put, List.setIfInBounds_toArray, List.set_cons_succ, List.set_cons_zero]
      refine region_last2 (aQ := ?aQ6) 8 (by kernel_rfl) (by kernel_rfl) (fun w1 => ?hq6) (fun w' hb' => ?hh6)
      case hq6 =>
        have cx : ∀ g : Ext w1.on, g.on.cell? ⟨b, 6, none⟩ = some (.int .u32 ((S 6 : Nat) : Int)) := fun g => by
          have := blk_cell (g.block (w1.block R6.out)) (va_get (i := 6) (by decide))
          rwa [upto_here] at this
        simp only [List.take_succ_cons, List.take_zero]
        repeat (go_big_quiet_step (fail))
        refine wpQuiet_nil ?_
        rfl
      have g6 : w'.heap[b]? = some (.cells (va (upto R S 6)) 49) := Ext.block ⟨w', hb'⟩ R6.out
      have W7 := Lib.hid (W6.out.trans (WroteQ.of_below hb'))
      clear R6 W6 hb'
      have cx := blk_cell g6 (va_get (i := 6) (by decide))
      have fz := blk_frozen (j := 6) g6
      have h6 : (w'.setCell ⟨b, 6, none⟩ (.int .u32 ((R 6 : Nat) : Int))).heap[b]? = _ := blk_set g6 _
      rw [upto_next _ _ (by decide)] at h6
      have R7 := Lib.hid h6
      clear h6 g6
      simp only [List.drop_succ_cons, List.drop_zero]
      go_wp2_with fail
      replace W7 := Lib.hid (W7.out.trans (WroteQ.put (j := 6) w' (.int .u32 ((R 6 : Nat) : Int))))
      clear cx fz q6
      generalize w'.setCell ⟨b, 6, none⟩ (.int .u32 ((R 6 : Nat) : Int)) = V6 at *
      have q7 := HQ.out 7
      try simp only [Act.put, List.setIfInBounds_toArray, List.set_cons_succ, List.set_cons_zero]
      refine region_last2 (aQ := ?aQ7) 8 (by kernel_rfl) (by kernel_rfl) (fun w1 => ?hq7) (fun w' hb' => ?hh7)
      case hq7 =>
        have cx : ∀ g : Ext w1.on, g.on.cell? ⟨b, 7, none⟩ = some (.int .u32 ((S 7 : Nat) : Int)) := fun g => by
          have := blk_cell (g.block (w1.block R7.out)) (va_get (i := 7) (by decide))
          rwa [upto_here] at this
        simp only [List.take_succ_cons, List.take_zero]
        repeat (go_big_quiet_step (fail))
        refine wpQuiet_nil ?_
        rfl
      have g7 : w'.heap[b]? = some (.cells (va (upto R S 7)) 49) := Ext.block ⟨w', hb'⟩ R7.out
      have W8 := Lib.hid (W7.out.trans (WroteQ.of_below hb'))
      clear R7 W7 hb'
      have cx := blk_cell g7 (va_get (i := 7) (by decide))
      have fz := blk_frozen (j := 7) g7
      have h7 : (w'.setCell ⟨b, 7, none⟩ (.int .u32 ((R 7 : Nat) : Int))).heap[b]? = _ := blk_set g7 _
      rw [upto_next _ _ (by decide)] at h7
      have R8 := Lib.hid h7
      clear h7 g7
      simp only [List.drop_succ_cons, List.drop_zero]
      go_wp2_with fail
      replace W8 := Lib.hid (W8.out.trans (WroteQ.put (j := 7) w' (.int .u32 ((R 7 : Nat) : Int))))
      clear cx fz q7
      generalize w'.setCell ⟨b, 7, none⟩ (.int .u32 ((R 7 : Nat) : Int)) = V7 at *
      have r8 := R8.out
      rw [upto_end, HRe.out, ← HV.out] at r8
      first | go_ret | go_end0
      exact ⟨rfl, W8.out, r8⟩
end Go.Proofs.YtihefgpicnhdjaaDoor
/- What the functions written and Sum of package sha do: the hash of bytes. -/
namespace Go.Proofs.YtihefgpicnhdjaaDoor
open Go.RowKit SmWord
set_option maxRecDepth 100000

theorem Tryd.arrayP (a : Addr) (n c : Nat) (h : 64 ≤ n) (w : World) : (Instr.arrayAt 80 (.slice (some a) n c)).run Tryd.prog w = .ok (.pointer (some a)) w := by
  simp [Instr.arrayAt, run_underlying Tryd.underlying80]
  omega
def lenOf : Value → Nat | .slice _ n _ => n | _ => 0
/-- 64 bytes, loaded out of the middle of a block. -/
theorem load_pa {ops : Array Oper} {rest : List Oper} {o : Oper} {a : Act} {w : World} {Q : Exit → Act → World → Prop} (hg : o.guard = none) (x : Operand) (ho : o.op = .load 80 x)
    (b off : Nat) (hx : a.eval x = .pointer (some ⟨b, off, none⟩)) (g : Nat → Nat) (hc : ∀ i, i < 64 → w.cell? ⟨b, off + i, none⟩ = some (.int .u8 ((g i : Nat) : Int)))
    (h : wpList Tryd.prog ops Q rest (a.put o.dst (.agg (pa g))) w) : wpList Tryd.prog ops Q (o :: rest) a w :=
  wpList_load_mid hg 80 x ho b off hx ((List.range 64).map fun i => Value.int .u8 ((g i : Nat) : Int)) _ (fun i v hv => by
    have hi : i < 64 := by have := (List.getElem?_eq_some_iff.1 hv).1; simpa using this
    rw [List.getElem?_map, List.getElem?_range hi] at hv
    cases hv
    exact hc i hi) Tryd.underlying80 rfl (by rw [List.length_map, List.length_range]; exact (zero_of_info Tryd.infoP).2) h
/-- m bytes, and noughts behind them. -/
def cp (F : Nat → Nat) (m i : Nat) : Nat := if i < m then F i else 0
theorem splice_pa (F : Nat → Nat) (m : Nat) (hm : m ≤ 64) : (splice ((List.range 64).map fun _ => Value.int .u8 ((0 : Nat) : Int)) 0 ((List.range m).map fun i => Value.int .u8 ((F i : Nat) : Int))).toArray = pa (cp F m) := by
  have hl : ((List.range m).map fun i => Value.int .u8 ((F i : Nat) : Int)).length = m := by simp
  apply Array.ext'
  apply List.ext_getElem?
  intro i
  have e1 : (pa (cp F m)).toList[i]? = (pa (cp F m))[i]? := Array.getElem?_toList
  have e2 : (splice ((List.range 64).map fun _ => Value.int .u8 ((0 : Nat) : Int)) 0 ((List.range m).map fun i => Value.int .u8 ((F i : Nat) : Int))) = ((List.range m).map fun i => Value.int .u8 ((F i : Nat) : Int)) ++ ((List.range 64).map fun _ => Value.int .u8 ((0 : Nat) : Int)).drop m := by
    unfold splice
    rw [hl, Nat.zero_add, List.take_zero, List.nil_append]
  rw [e1, e2, List.toList_toArray]
  by_cases h : i < 64
  · rw [show (pa (cp F m))[i]? = _ from arr_get _ _ h]
    by_cases l : i < m
    · rw [List.getElem?_append_left (by rw [hl]; exact l), List.getElem?_map, List.getElem?_range l]
      simp [cp, l]
    · rw [List.getElem?_append_right (by rw [hl]; omega), hl, List.getElem?_drop, List.getElem?_map, List.getElem?_range (by omega)]
      simp [cp, l]
  · rw [List.getElem?_eq_none (by rw [List.length_append, hl, List.length_drop, List.length_map, List.length_range]; omega), Array.getElem?_eq_none (by rw [pa, arr_size]; omega)]
theorem Tryd.size8 : (Tryd.prog.info? 5).map (·.size) = some 1 := by kernel_rfl
theorem copy_pa {ops : Array Oper} {rest : List Oper} {o : Oper} {a : Act} {w : World} {Q : Exit → Act → World → Prop} (hg : o.guard = none) (d s : Operand)
    (ho : o.op = .call { callee := .builtin .copy, args := #[d, s], argTypes := #[22, 22] }) (g m c : Nat) (A : Option Addr) (hd : a.eval d = .slice (some ⟨g, 0, none⟩) 64 64) (hs : a.eval s = .slice A m c) (hm : m ≤ 64) (F : Nat → Nat)
    (hsl : Sl w A m F) (hb : w.heap[g]? = some (.cells zP 80))
    (h : ∀ w', Hid (w'.heap[g]? = some (.cells (pa (cp F m)) 80)) → Below g w w' → wpList Tryd.prog ops Q rest (a.put o.dst (goInt m)) w') : wpList Tryd.prog ops Q (o :: rest) a w := by
  have hl : ((List.range m).map fun i => Value.int .u8 ((F i : Nat) : Int)).length = m := by simp
  refine wpList_copy_splice hg d s 22 22 ho 5 Tryd.underlying22 Tryd.size8 _ _ _ _ _ _ hd hs g 0 ((List.range 64).map fun _ => Value.int .u8 ((0 : Nat) : Int)) 80 hb ((List.range m).map fun i => Value.int .u8 ((F i : Nat) : Int))
    (by rw [hl]; exact (Nat.min_eq_left hm).symm) (fun h0 => ⟨rfl, ?_⟩) (by rw [hl, List.length_map, List.length_range]; omega) (fun v hv => ?_) g w (Below.refl _ _) (Nat.le_refl _) (fun w' hh hbel => ?_)
  · rw [hl] at h0
    obtain ⟨b, off, rfl, _, hc⟩ := hsl.cells h0
    refine ⟨_, rfl, fun i v hv => ?_⟩
    have hi : i < m := by have := (List.getElem?_eq_some_iff.1 hv).1; simpa using this
    rw [List.getElem?_map, List.getElem?_range hi] at hv
    cases hv
    rw [Addr.add_mid]
    exact hc i hi
  · simp at hv
    obtain ⟨i, _, rfl⟩ := hv
    rfl
  · rw [splice_pa F m hm] at hh
    rw [hl]
    exact h w' hh hbel

/-- The first k bytes of the hash. -/
def hk (S : Nat → Nat) (k i : Nat) : Nat := if i < k then hs S i else 0
theorem hk_next (S : Nat → Nat) {k : Nat} (h : k < 32) : (ha (hk S k)).setIfInBounds k (.int .u8 ((hs S k : Nat) : Int)) = ha (hk S (k + 1)) := by
  rw [ha_set h]
  refine ha_congr fun i _ => ?_
  unfold hk
  by_cases e : i = k
  · subst e; simp
  · by_cases l : i < k
    · simp [e, l, show i < k + 1 by omega]
    · simp [e, l, show ¬ i < k + 1 by omega]
theorem hk_start (S : Nat → Nat) : ha (hk S 0) = zH := ha_congr fun i _ => by simp [hk]
theorem hk_end (S : Nat → Nat) : ha (hk S 32) = ha (hs S) := ha_congr fun i hi => by simp [hk, hi]
set_option maxHeartbeats 2000000 in
theorem written_walk (S : Nat → Nat) (w : World) :
    Calls Tryd.prog 45 #[.agg (va S)] w fun e w' => e = .returned (.agg (ha (hs S))) ∧ Below w.heap.size w w' := by
  go_enter Tryd.func45, Tryd.ntmps45
  go_wp2_with (first | (refine wpList_alloc_row rfl 42 rfl zH zH_run ?_))
  have f0 : (((w.alloc (.cells (va S) 49)).alloc (.cells zH 42)).alloc (.cells zH 42)).heap[w.heap.size]? = some (.cells (va S) 49) := blk_alloc (blk_alloc (heap_alloc_new _ _))
  have f1 : (((w.alloc (.cells (va S) 49)).alloc (.cells zH 42)).alloc (.cells zH 42)).heap[w.heap.size + 1]? = some (.cells zH 42) := blk_alloc (heap_alloc2_new _ _ _)
  have f2 : (((w.alloc (.cells (va S) 49)).alloc (.cells zH 42)).alloc (.cells zH 42)).heap[w.heap.size + 1 + 1]? = some (.cells (ha (hk S 0)) 42) := by
    rw [hk_start]
    have := heap_alloc_new ((w.alloc (.cells (va S) 49)).alloc (.cells zH 42)) (.cells zH 42)
    simpa using this
  have bW : Below w.heap.size w (((w.alloc (.cells (va S) 49)).alloc (.cells zH 42)).alloc (.cells zH 42)) := (((Below.refl _ _).alloc (Nat.le_refl _) _).alloc (by simp) _).alloc (by simp; omega) _
  generalize (((w.alloc (.cells (va S) 49)).alloc (.cells zH 42)).alloc (.cells zH 42)) = W at *
  go_loopw [5] (fun i wr => ∃ k : Nat, k ≤ 32 ∧ i = .int .i64 k ∧ Below w.heap.size w wr ∧ wr.heap[w.heap.size]? = some (.cells (va S) 49) ∧ wr.heap[w.heap.size + 1]? = some (.cells zH 42) ∧ wr.heap[w.heap.size + 1 + 1]? = some (.cells (ha (hk S k)) 42)) (fun i _ => 32 - (intOf i).toNat)
  case atStart => exact ⟨0, by omega, rfl, bW, f0, f1, f2⟩
  case round =>
    clear bW f0 f1 f2
    obtain ⟨k, hk', rfl, hbw, f0, f1, f2⟩ := hrel
    by_cases hlt : k < 32
    · have hq : k / 4 < 8 := by omega
      obtain ⟨m, hm⟩ : ∃ m, 24 - 8 * (k % 4) = m := ⟨_, rfl⟩
      have hmI : 24 - 8 * ((k : Int) % 4) = (m : Int) := by omega
      have c0 := blk_cell f0 (va_get (S := S) (i := k / 4) hq)
      have c2 := blk_cell f2 (ha_get (S := hk S k) hlt)
      have fz := blk_frozen (j := k) f2
      have hv : ((S (k / 4) : Nat) : Int) / 2 ^ m % 256 = ((hs S k : Nat) : Int) := by
        unfold hs
        rw [hm, show ((S (k / 4) : Nat) : Int) / 2 ^ m = ((S (k / 4) / 2 ^ m : Nat) : Int) by simp]
        omega
      have F0 := Lib.hid f0
      have F1 := Lib.hid f1
      have F2 := Lib.hid f2
      have HB := Lib.hid hbw
      clear f0 f1 f2 hbw hm
      go_wp2_with fail
      refine ⟨⟨k + 1, by omega, by go_num, HB.out.setCell (by simp; omega) _, blk_other F0.out (by omega) _, blk_other F1.out (by omega) _, ?_⟩, by simp [intOf]; omega⟩
      rw [← hk_next S hlt]
      exact blk_set F2.out _
    · obtain rfl : k = 32 := by omega
      rw [hk_end] at f2
      have HB := Lib.hid hbw
      clear hbw f0
      go_wp2_with (first | (refine wpList_load_row rfl 42 _ rfl _ rfl 42 (ha (hs S)) (0, 0) _ f2 Tryd.underlying42 rfl (infoArrH _) ?_) | (refine wpList_store_row rfl 42 _ _ rfl _ zH (ha (hs S)) rfl rfl f1 (infoArrH _) rfl (arr_one _ _ _) ?_))
      refine bodyPost_ret (v := .agg (ha (hs S))) (results_cell_row rfl _ _ _ 42 (ha (hs S)) (0, 0) _ rfl (blk_row f1) Tryd.underlying42 rfl (infoArrH _)) rfl ⟨rfl, below_setRow HB.out (by omega) _⟩
end Go.Proofs.YtihefgpicnhdjaaDoor
/- What the function Sum of package sha does: the hash of bytes. -/
namespace Go.Proofs.YtihefgpicnhdjaaDoor
open Go.RowKit SmWord
set_option maxRecDepth 100000

theorem mm_congr {f g : Nat → Nat} (h : ∀ i, i < 64 → f i = g i) : mm f = mm g := funext fun i => by
  unfold mm m4
  split
  · rw [h (4 * i) (by omega), h (4 * i + 1) (by omega), h (4 * i + 2) (by omega), h (4 * i + 3) (by omega)]
  · rfl
theorem bk_congr (S : Nat → Nat) {f g : Nat → Nat} (h : ∀ i, i < 64 → f i = g i) : bk S f = bk S g := funext fun i => by rw [← bk_mm, ← bk_mm, mm_congr h]
/-- How many bits n bytes are, as 64 bits say it. -/
def cnt (n : Nat) : Nat := n * 8 % B
theorem mod_div_mod (x k : Nat) (h : k < 8) : x % B / 256 ^ k % 256 = x / 256 ^ k % 256 := by
  have e : B = 256 ^ k * (256 * 256 ^ (7 - k)) := by
    rw [← Nat.pow_succ', ← Nat.pow_add, show k + (7 - k).succ = 8 by omega]
  rw [e, Nat.mod_mul_right_div_self, Nat.mod_mul_right_mod]
theorem cnt_byte (n k : Nat) (h : k < 8) : cnt n / 256 ^ k % 256 = n * 8 / 256 ^ k % 256 := mod_div_mod _ _ h
/-- m bytes, a byte 128, and noughts. -/
def cq (f : Nat → Nat) (m i : Nat) : Nat := if i < m then f i else if i = m then 128 else 0
theorem cq_one (F : Nat → Nat) {m : Nat} (h : m < 64) : (pa (cp F m)).setIfInBounds m (.int .u8 128) = pa (cq F m) := by
  rw [show (Value.int .u8 128) = .int .u8 ((128 : Nat) : Int) from rfl, pa_set h]
  refine pa_congr fun i _ => ?_
  unfold cp cq
  by_cases e : i = m
  · subst e; simp
  · by_cases l : i < m
    · simp [e, l]
    · simp [e, l]
/-- The last bytes, k bytes of the count written. -/
def wc (L : Nat → Nat) (c k i : Nat) : Nat := if 64 - k ≤ i then c / 256 ^ (63 - i) % 256 else L i
theorem wc_zero (L : Nat → Nat) (c : Nat) : pa (wc L c 0) = pa L := pa_congr fun i hi => by
  unfold wc
  rw [if_neg (by omega)]
theorem wc_next (L : Nat → Nat) (c : Nat) {k j : Nat} (hk : k < 8) (hj : j + k = 63) {z : Nat} (hz : c / 256 ^ k % 256 = z) : (pa (wc L c k)).setIfInBounds j (.int .u8 ((z : Nat) : Int)) = pa (wc L c (k + 1)) := by
  rw [pa_set (by omega)]
  refine pa_congr fun i hi => ?_
  unfold wc
  by_cases e : i = j
  · rw [if_pos e, if_pos (by omega), e, show 63 - j = k by omega, hz]
  · rw [if_neg e]
    by_cases l : 64 - k ≤ i
    · rw [if_pos l, if_pos (by omega)]
    · rw [if_neg l, if_neg (by omega)]
theorem pow256 (c k : Nat) : (c : Int) / 2 ^ (8 * k) % 256 = ((c / 256 ^ k % 256 : Nat) : Int) := by
  rw [show (256 : Nat) ^ k = 2 ^ (8 * k) by rw [Nat.pow_mul], show (c : Int) / 2 ^ (8 * k) = ((c / 2 ^ (8 * k) : Nat) : Int) by simp]
  omega
theorem nb_small {n m j : Nat} (hm : m + 64 * j = n) (h : m < 56) : nb n = j + 1 := by unfold nb; omega
theorem nb_great {n m j : Nat} (hm : m + 64 * j = n) (h : 56 ≤ m) (h2 : m < 64) : nb n = j + 2 := by unfold nb; omega
/-- The last piece, where the count has its place behind what is left. -/
theorem pad_small (f : Nat → Nat) {n m j : Nat} (hm : m + 64 * j = n) (h : m < 56) : ∀ i, i < 64 → wc (cq (fun i => f (64 * j + i)) m) (cnt n) 8 i = padS f n (64 * j + i) := fun i hi => by
  unfold wc cq padS
  rw [nb_small hm h]
  by_cases h1 : 64 - 8 ≤ i
  · rw [if_pos h1, if_neg (by omega), if_neg (by omega), if_pos (by omega), cnt_byte n _ (by omega), show 64 * (j + 1) - 1 - (64 * j + i) = 63 - i by omega]
  · rw [if_neg h1]
    by_cases h2 : i < m
    · rw [if_pos h2, if_pos (by omega)]
    · rw [if_neg h2, if_neg (show ¬ 64 * j + i < n by omega)]
      by_cases h3 : i = m
      · rw [if_pos h3, if_pos (by omega)]
      · rw [if_neg h3, if_neg (by omega), if_neg (by omega)]
/-- The last but one, where it hasn't. -/
theorem pad_great (f : Nat → Nat) {n m j : Nat} (hm : m + 64 * j = n) (h : 56 ≤ m) (h2 : m < 64) : ∀ i, i < 64 → cq (fun i => f (64 * j + i)) m i = padS f n (64 * j + i) := fun i hi => by
  unfold cq padS
  rw [nb_great hm h h2]
  by_cases h2 : i < m
  · rw [if_pos h2, if_pos (by omega)]
  · rw [if_neg h2, if_neg (show ¬ 64 * j + i < n by omega)]
    by_cases h3 : i = m
    · rw [if_pos h3, if_pos (by omega)]
    · rw [if_neg h3, if_neg (by omega), if_neg (by omega)]
theorem pad_last (f : Nat → Nat) {n m j : Nat} (hm : m + 64 * j = n) (h : 56 ≤ m) (h2 : m < 64) : ∀ i, i < 64 → wc (fun _ => 0) (cnt n) 8 i = padS f n (64 * (j + 1) + i) := fun i hi => by
  unfold wc padS
  rw [nb_great hm h h2, if_neg (show ¬ 64 * (j + 1) + i < n by omega), if_neg (show ¬ 64 * (j + 1) + i = n by omega)]
  by_cases h1 : 64 - 8 ≤ i
  · rw [if_pos h1, if_pos (by omega), cnt_byte n _ (by omega), show 64 * (j + 2) - 1 - (64 * (j + 1) + i) = 63 - i by omega]
  · rw [if_neg h1, if_neg (by omega)]
theorem pad_own (f : Nat → Nat) {n i : Nat} (h : i < n) : padS f n i = f i := by rw [padS, if_pos h]
theorem pad_lt {f : Nat → Nat} {n : Nat} (h : ∀ i, i < n → f i < 256) (i : Nat) : padS f n i < 256 := by
  unfold padS
  split
  · exact h _ (by assumption)
  · split
    · decide
    · split
      · exact Nat.mod_lt _ (by decide)
      · decide
theorem bs64_next (F : Nat → Nat) (j : Nat) : bk (bs64 F j) (fun i => F (64 * j + i)) = bs64 F (j + 1) := by rw [bs64]
theorem bs64_start (F : Nat → Nat) : bs64 F 0 = ch0 := by rw [bs64]
theorem shh_hs (f : Nat → Nat) (n : Nat) : shh f n = hs (bs64 (padS f n) (nb n)) := by rw [shh]
theorem va_ch0 : va ch0 = #[.int .u32 1779033703, .int .u32 3144134277, .int .u32 1013904242, .int .u32 2773480762, .int .u32 1359893119, .int .u32 2600822924, .int .u32 528734635, .int .u32 1541459225] := by kernel_rfl
set_option maxHeartbeats 4000000 in
theorem sum_walk (A : Option Addr) (n c : Nat) (f : Nat → Nat) (w : World) (hn : n ≤ maxLen) (hc : n ≤ c) (hT : Tab w) (hs : Sl w A n f) :
    Calls Tryd.prog 21 #[.slice A n c] w fun e w' => e = .returned (.agg (ha (shh f n))) ∧ Below w.heap.size w w' := by
  have hn' : n ≤ 9223372036854775807 := hn
  have HS := Lib.hid hs
  have HT := Lib.hid hT
  clear hT hs
  go_enter Tryd.func21, Tryd.ntmps21
  go_wp2_with (first | (refine wpList_alloc_row rfl 42 rfl zH zH_run ?_) | (refine wpList_alloc_row rfl 49 rfl zVQ zV_run ?_) | (refine wpList_store_row rfl 49 _ _ rfl _ zVQ (va ch0) rfl (by rw [va_ch0]; rfl) (heap_alloc_new _ _) (infoArrV _) rfl (arr_one _ _ _) ?_))
  have f0 : (((w.alloc (.cells zH 42)).alloc (.cells zVQ 49)).setRow (w.heap.size + 1) (va ch0)).heap[w.heap.size]? = some (.cells zH 42) := blk_row_other (blk_alloc (heap_alloc_new _ _)) (by omega)
  have f1 : (((w.alloc (.cells zH 42)).alloc (.cells zVQ 49)).setRow (w.heap.size + 1) (va ch0)).heap[w.heap.size + 1]? = some (.cells (va (bs64 (padS f n) 0)) 49) := by rw [bs64_start]; exact blk_row (heap_alloc2_new _ _ _)
  have bW : Below w.heap.size w (((w.alloc (.cells zH 42)).alloc (.cells zVQ 49)).setRow (w.heap.size + 1) (va ch0)) := below_setRow (((Below.refl _ _).alloc (Nat.le_refl _) _).alloc (by simp) _) (by omega) _
  generalize (((w.alloc (.cells zH 42)).alloc (.cells zVQ 49)).setRow (w.heap.size + 1) (va ch0)) = W at *
  go_loopw [4] (fun v wr => ∃ (j m c' : Nat) (A' : Option Addr), v = .slice A' m c' ∧ Hid (m + 64 * j = n) ∧ m ≤ c' ∧ Hid (Sl w A' m (fun i => f (64 * j + i))) ∧ Below w.heap.size w wr ∧ wr.heap[w.heap.size]? = some (.cells zH 42) ∧ wr.heap[w.heap.size + 1]? = some (.cells (va (bs64 (padS f n) j)) 49)) (fun v _ => lenOf v)
  case atStart => exact ⟨0, n, c, A, rfl, Lib.hid (by omega), hc, Lib.hid (by simpa using HS.out), bW, f0, f1⟩
  case round =>
    clear f0 f1 bW hc
    obtain ⟨j, m, c', A', rfl, hm, hc', hs', hbw, f0, f1⟩ := hrel
    have hm2 : m ≤ 9223372036854775807 := by have := hm.out; omega
    by_cases hge : 64 ≤ m
    · obtain ⟨b, off, rfl, hbl, hcell⟩ := (hs'.out.below hbw).cells (by omega)
      have ha := fun w => Tryd.arrayP ⟨b, off, none⟩ m c' hge w
      have HR : Hid (∀ i, i < 64 → wr.cell? ⟨b, off + i, none⟩ = some (.int .u8 ((f (64 * j + i) : Nat) : Int))) := Lib.hid fun i hi => hcell i (by omega)
      have F0 := Lib.hid f0
      have F1 := Lib.hid f1
      have HB := Lib.hid hbw
      clear f0 f1 hbw hcell
      go_wp2_with (first | (refine load_pa rfl _ rfl b off rfl (fun i => f (64 * j + i)) HR.out ?_))
      refine (turn_walk (w.heap.size + 1) (bs64 (padS f n) j) (fun i => f (64 * j + i)) wr (bs64_lt _ _) (fun i hi => hs'.out.small i (by omega)) (HT.out.below HB.out) F1.out).mono ?_
      rintro e w1 ⟨rfl, b1, g1⟩
      rw [bk_congr _ (g := fun i => padS f n (64 * j + i)) (fun i hi => (pad_own f (by have := hm.out; omega)).symm), bs64_next] at g1
      have F0' := Lib.hid (b1.other F0.out (by omega))
      have HB1 := Lib.hid (HB.out.trans (b1.below (Nat.le_succ _) HB.out.size))
      have F1' : Hid (w1.heap[w.heap.size + 1]? = some (.cells (va (bs64 (padS f n) (j + 1))) 49)) := Lib.hid g1
      clear b1 g1 F0 F1 HR ha HB
      go_wp2_with fail
      refine ⟨⟨j + 1, m - 64, c' - 64, _, rfl, Lib.hid (by have := hm.out; omega), by omega, Lib.hid ⟨fun i hi => ?_, fun h0 => ?_⟩, HB1.out, F0'.out, F1'.out⟩, by simp [lenOf]; omega⟩
      · have := hs'.out.small (64 + i) (by omega)
        rwa [show 64 * j + (64 + i) = 64 * (j + 1) + i by omega] at this
      · obtain ⟨b1, off1, e1, hl1, hc1⟩ := hs'.out.cells (by omega)
        cases e1
        refine ⟨b, off + 64, by rw [if_neg (by omega)], hl1, fun i hi => ?_⟩
        have := hc1 (64 + i) (by omega)
        rwa [show off + (64 + i) = off + 64 + i by omega, show 64 * j + (64 + i) = 64 * (j + 1) + i by omega] at this
    · have hm6 : m < 64 := by omega
      have F1 := Lib.hid f1
      have F0 := Lib.hid f0
      have HB := Lib.hid hbw
      clear f0 f1 hbw
      have hf2 : (wr.alloc (.cells zP 80)).heap[wr.heap.size]? = some (.cells zP 80) := heap_alloc_new _ _
      have hsl := hs'.out.below (HB.out.alloc HB.out.size (.cells zP 80))
      go_upto_region 8 with (first | (refine wpList_alloc_row rfl 80 rfl zP zP_run ?_) | (refine copy_pa rfl _ _ rfl wr.heap.size m c' A' rfl rfl (by omega) _ hsl hf2 ?_; intro w3 F2 b3))
      have hlt1 : w.heap.size + 1 < wr.heap.size := (Array.getElem?_eq_some_iff.1 F1.out).1
      replace HB := Lib.hid (HB.out.trans (((Below.refl _ wr).alloc HB.out.size (.cells zP 80)).trans (b3.mono HB.out.size)))
      have hb3 : Below wr.heap.size wr w3 := ((Below.refl _ wr).alloc (Nat.le_refl _) (.cells zP 80)).trans b3
      replace F0 := Lib.hid (stay hb3 F0.out)
      replace F1 := Lib.hid (stay hb3 F1.out)
      obtain ⟨l, hl⟩ : ∃ l, wr.heap.size = l := ⟨_, rfl⟩
      rw [hl] at F2 hlt1 ⊢
      clear hf2 hsl b3 hb3
      have c4 := blk_cell F2.out (pa_get (S := cp (fun i => f (64 * j + i)) m) hm6)
      have fz := blk_frozen (j := m) F2.out
      have h4 : (w3.setCell ⟨l, m, none⟩ (.int .u8 128)).heap[l]? = _ := blk_set F2.out _
      rw [cq_one _ hm6] at h4
      have F4 := Lib.hid h4
      clear h4 F2
      go_upto_region 9 with fail
      replace HB := Lib.hid (HB.out.setCell (p := ⟨l, m, none⟩) (by simp; omega) (.int .u8 128))
      replace F0 := Lib.hid (blk_other (b := l) (j := m) F0.out (by omega) (.int .u8 128))
      replace F1 := Lib.hid (blk_other (b := l) (j := m) F1.out (by omega) (.int .u8 128))
      clear c4 fz hl
      generalize w3.setCell ⟨l, m, none⟩ (.int .u8 128) = w4 at *
      obtain ⟨C, hC⟩ : ∃ C, cnt n = C := ⟨_, rfl⟩
      have hcI : IntKind.u64.wrap (8 * (n : Int)) = (C : Int) := by rw [← hC, cnt, IntKind.wrap_u64]; simp only [B]; omega
      have HC := Lib.hid hC
      clear hC
      by_cases hbig : 56 ≤ m
      · have hfin := Lib.hid (pad_last f hm.out hbig hm6)
        have hnb : Hid (nb n = (j + 1) + 1) := Lib.hid (nb_great hm.out hbig hm6)
        rw [HC.out] at hfin
        rw [pa_congr (pad_great f hm.out hbig hm6)] at F4
        go_wp2_with (first | (refine wpList_load_row rfl 80 _ rfl _ rfl 80 (pa (fun i => padS f n (64 * j + i))) (0, 0) _ F4.out Tryd.underlying80 rfl (infoArrP _) ?_))
        refine (turn_walk (w.heap.size + 1) (bs64 (padS f n) j) (fun i => padS f n (64 * j + i)) w4 (bs64_lt _ _) (fun i _ => pad_lt HS.out.small _) (HT.out.below HB.out) F1.out).mono ?_
        rintro e w5 ⟨rfl, b5, g5⟩
        replace F0 := Lib.hid (b5.other F0.out (by omega))
        have f4 := b5.other F4.out (by omega)
        replace HB := Lib.hid (HB.out.trans (b5.below (Nat.le_succ _) HB.out.size))
        rw [bs64_next] at g5
        replace F1 : Hid (w5.heap[w.heap.size + 1]? = some (.cells (va (bs64 (padS f n) (j + 1))) 49)) := Lib.hid g5
        clear b5 g5 F4
        obtain ⟨L, hL⟩ : ∃ L : Nat → Nat, (fun _ => 0) = L := ⟨_, rfl⟩
        have hzL : Hid (zP = pa (wc L C 0)) := Lib.hid (by rw [wc_zero, ← hL]; rfl)
        rw [hL] at hfin
        go_wp2_with (first | (refine wpList_build_zero rfl 80 rfl Tryd.underlying80 Tryd.sizeOf5 zP zP_run ?_) | (refine wpList_store_row rfl 80 _ _ rfl _ (pa (fun i => padS f n (64 * j + i))) zP rfl rfl f4 (infoArrP _) rfl (arr_one _ _ _) ?_))
        have F4 : Hid ((w5.setRow l zP).heap[l]? = some (.cells (pa (wc L C 0)) 80)) := Lib.hid (by rw [← hzL.out]; exact blk_row f4)
        replace F0 := Lib.hid (blk_row_other (b := l) (c' := zP) F0.out (by omega))
        replace F1 := Lib.hid (blk_row_other (b := l) (c' := zP) F1.out (by omega))
        replace HB := Lib.hid (below_setRow HB.out (b := l) (by omega) zP)
        clear f4 hzL hL
        generalize w5.setRow l zP = w6 at *
        clear hcI
        go_loopw [35] (fun i wr => ∃ k : Nat, k ≤ 8 ∧ i = .int .i64 k ∧ Hid (Below w.heap.size w wr) ∧ Hid (wr.heap[w.heap.size]? = some (.cells zH 42)) ∧ Hid (wr.heap[w.heap.size + 1]? = some (.cells (va (bs64 (padS f n) (j + 1))) 49)) ∧ wr.heap[l]? = some (.cells (pa (wc L C k)) 80)) (fun i _ => 8 - (intOf i).toNat)
        case atStart => exact ⟨0, by omega, rfl, HB, F0, F1, F4.out⟩
        case round =>
          clear HB F0 F1 F4
          obtain ⟨k, hk, rfl, HB, F0, F1, f4⟩ := hrel
          by_cases hlt : k < 8
          · obtain ⟨p, hp⟩ : ∃ p, p + k = 63 := ⟨63 - k, by omega⟩
            obtain ⟨z, hz⟩ : ∃ z, C / 256 ^ k % 256 = z := ⟨_, rfl⟩
            have e1 : 63 - (k : Int) = (p : Int) := by omega
            have e2 : (C : Int) / 2 ^ (8 * k) % 256 = (z : Int) := by rw [pow256, hz]
            have cx := blk_cell f4 (pa_get (S := wc L C k) (i := p) (by omega))
            have fz := blk_frozen (j := p) f4
            have h4 : (wr.setCell ⟨l, p, none⟩ (.int .u8 ((z : Nat) : Int))).heap[l]? = _ := blk_set f4 _
            rw [wc_next L C hlt hp hz] at h4
            have F4 := Lib.hid h4
            have hp6 : p < 64 := by omega
            clear h4 f4 hz hp
            go_wp2_with fail
            exact ⟨⟨k + 1, by omega, by go_num, Lib.hid (HB.out.setCell (p := ⟨l, p, none⟩) (by simp; omega) _), Lib.hid (blk_other F0.out (by omega) _), Lib.hid (blk_other F1.out (by omega) _), F4.out⟩, by simp [intOf]; omega⟩
          · obtain rfl : k = 8 := by omega
            rw [pa_congr hfin.out] at f4
            have F4 := Lib.hid f4
            clear f4 hfin
            go_wp2_with (first | (refine wpList_load_row rfl 80 _ rfl _ rfl 80 (pa (fun i => padS f n (64 * (j + 1) + i))) (0, 0) _ F4.out Tryd.underlying80 rfl (infoArrP _) ?_))
            refine (turn_walk (w.heap.size + 1) (bs64 (padS f n) (j + 1)) (fun i => padS f n (64 * (j + 1) + i)) wr (bs64_lt _ _) (fun i _ => pad_lt HS.out.small _) (HT.out.below HB.out) F1.out).mono ?_
            rintro e w7 ⟨rfl, b7, g7⟩
            have F0' := Lib.hid (b7.other F0.out (by omega))
            have HB7 := Lib.hid (HB.out.trans (b7.below (Nat.le_succ _) HB.out.size))
            rw [bs64_next, ← hnb.out] at g7
            have G7 : Hid (w7.heap[w.heap.size + 1]? = some (.cells (va (bs64 (padS f n) (nb n))) 49)) := Lib.hid g7
            clear b7 g7 F0 F1 HB
            obtain ⟨V, hV⟩ : ∃ V, bs64 (padS f n) (nb n) = V := ⟨_, rfl⟩
            have HSH : Hid (shh f n = hs V) := Lib.hid (by rw [shh_hs, hV])
            rw [hV] at G7
            clear hV
            go_wp2_with (first | (refine wpList_load_row rfl 49 _ rfl _ rfl 49 (va V) (0, 0) _ G7.out Tryd.underlying49 rfl (infoArrV _) ?_))
            refine (written_walk V w7).mono ?_
            rintro e w8 ⟨rfl, b8⟩
            have f8 := stay b8 F0'.out
            have HB8 := Lib.hid (HB7.out.trans (b8.mono HB7.out.size))
            clear b8 G7 F0' HB7
            go_wp2_with (first | (refine wpList_store_row rfl 42 _ _ rfl _ zH (ha (hs V)) rfl rfl f8 (infoArrH _) rfl (arr_one _ _ _) ?_))
            refine bodyPost_ret (v := .agg (ha (hs V))) (results_cell_row rfl _ _ _ 42 (ha (hs V)) (0, 0) _ rfl (blk_row f8) Tryd.underlying42 rfl (infoArrH _)) rfl ⟨by rw [HSH.out], below_setRow HB8.out (Nat.le_refl _) _⟩
      · have hfin := Lib.hid (pad_small f hm.out (Nat.lt_of_not_le hbig))
        have hnb : Hid (nb n = j + 1) := Lib.hid (nb_small hm.out (Nat.lt_of_not_le hbig))
        rw [HC.out] at hfin
        obtain ⟨L, hL⟩ : ∃ L, cq (fun i => f (64 * j + i)) m = L := ⟨_, rfl⟩
        rw [hL, ← wc_zero L C] at F4
        rw [hL] at hfin
        clear hL
        go_wp2_with fail
        clear hcI
        go_loopw [35] (fun i wr => ∃ k : Nat, k ≤ 8 ∧ i = .int .i64 k ∧ Hid (Below w.heap.size w wr) ∧ Hid (wr.heap[w.heap.size]? = some (.cells zH 42)) ∧ Hid (wr.heap[w.heap.size + 1]? = some (.cells (va (bs64 (padS f n) j)) 49)) ∧ wr.heap[l]? = some (.cells (pa (wc L C k)) 80)) (fun i _ => 8 - (intOf i).toNat)
        case atStart => exact ⟨0, by omega, rfl, HB, F0, F1, F4.out⟩
        case round =>
          clear HB F0 F1 F4
          obtain ⟨k, hk, rfl, HB, F0, F1, f4⟩ := hrel
          by_cases hlt : k < 8
          · obtain ⟨p, hp⟩ : ∃ p, p + k = 63 := ⟨63 - k, by omega⟩
            obtain ⟨z, hz⟩ : ∃ z, C / 256 ^ k % 256 = z := ⟨_, rfl⟩
            have e1 : 63 - (k : Int) = (p : Int) := by omega
            have e2 : (C : Int) / 2 ^ (8 * k) % 256 = (z : Int) := by rw [pow256, hz]
            have cx := blk_cell f4 (pa_get (S := wc L C k) (i := p) (by omega))
            have fz := blk_frozen (j := p) f4
            have h4 : (wr.setCell ⟨l, p, none⟩ (.int .u8 ((z : Nat) : Int))).heap[l]? = _ := blk_set f4 _
            rw [wc_next L C hlt hp hz] at h4
            have F4 := Lib.hid h4
            have hp6 : p < 64 := by omega
            clear h4 f4 hz hp
            go_wp2_with fail
            exact ⟨⟨k + 1, by omega, by go_num, Lib.hid (HB.out.setCell (p := ⟨l, p, none⟩) (by simp; omega) _), Lib.hid (blk_other F0.out (by omega) _), Lib.hid (blk_other F1.out (by omega) _), F4.out⟩, by simp [intOf]; omega⟩
          · obtain rfl : k = 8 := by omega
            rw [pa_congr hfin.out] at f4
            have F4 := Lib.hid f4
            clear f4 hfin
            go_wp2_with (first | (refine wpList_load_row rfl 80 _ rfl _ rfl 80 (pa (fun i => padS f n (64 * (j) + i))) (0, 0) _ F4.out Tryd.underlying80 rfl (infoArrP _) ?_))
            refine (turn_walk (w.heap.size + 1) (bs64 (padS f n) (j)) (fun i => padS f n (64 * (j) + i)) wr (bs64_lt _ _) (fun i _ => pad_lt HS.out.small _) (HT.out.below HB.out) F1.out).mono ?_
            rintro e w7 ⟨rfl, b7, g7⟩
            have F0' := Lib.hid (b7.other F0.out (by omega))
            have HB7 := Lib.hid (HB.out.trans (b7.below (Nat.le_succ _) HB.out.size))
            rw [bs64_next, ← hnb.out] at g7
            have G7 : Hid (w7.heap[w.heap.size + 1]? = some (.cells (va (bs64 (padS f n) (nb n))) 49)) := Lib.hid g7
            clear b7 g7 F0 F1 HB
            obtain ⟨V, hV⟩ : ∃ V, bs64 (padS f n) (nb n) = V := ⟨_, rfl⟩
            have HSH : Hid (shh f n = hs V) := Lib.hid (by rw [shh_hs, hV])
            rw [hV] at G7
            clear hV
            go_wp2_with (first | (refine wpList_load_row rfl 49 _ rfl _ rfl 49 (va V) (0, 0) _ G7.out Tryd.underlying49 rfl (infoArrV _) ?_))
            refine (written_walk V w7).mono ?_
            rintro e w8 ⟨rfl, b8⟩
            have f8 := stay b8 F0'.out
            have HB8 := Lib.hid (HB7.out.trans (b8.mono HB7.out.size))
            clear b8 G7 F0' HB7
            go_wp2_with (first | (refine wpList_store_row rfl 42 _ _ rfl _ zH (ha (hs V)) rfl rfl f8 (infoArrH _) rfl (arr_one _ _ _) ?_))
            refine bodyPost_ret (v := .agg (ha (hs V))) (results_cell_row rfl _ _ _ 42 (ha (hs V)) (0, 0) _ rfl (blk_row f8) Tryd.underlying42 rfl (infoArrH _)) rfl ⟨by rw [HSH.out], below_setRow HB8.out (Nat.le_refl _) _⟩
end Go.Proofs.YtihefgpicnhdjaaDoor
