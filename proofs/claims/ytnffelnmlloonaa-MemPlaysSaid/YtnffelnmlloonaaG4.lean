/- What the small functions of package rlp do: bare, leastHead, headSize, Number; and the document's Number. -/
import Derived.Test.YtnffelnmlloonaaG3
import Derived.Test.YtnffelnmlloonaaG0
import Derived.Test.YtnffelnmlloonaaG2
import Derived.Deep.DeepCutAuto
import Derived.Deep.CutBlock
import Derived.Deep.RegionWith
import Derived.Lib.AppendZerosOnto
namespace Go.Proofs.Ytnffelnmlloonaa
open Go.RowKit SmWord
set_option maxRecDepth 100000

theorem nbl_bl (n : Nat) : (bl n + 7) / 8 = nbl n := by
  unfold bl nbl
  split
  · rfl
  · omega
theorem nbl_8 {n : Nat} (hn : n < B) : nbl n ≤ 8 := nbl_le_of (by simpa [B] using hn)
/-- How many bytes a head has. -/
def hz (n : Nat) : Nat := if n ≤ 55 then 1 else nbl n + 1
theorem hea_hz (n m : Nat) : (hea n m).length = hz n := by
  unfold hea hz
  split
  · rfl
  · simp [bdig_length]
theorem hz_le {n : Nat} (hn : n < B) : hz n ≤ 9 := by
  have := nbl_8 hn
  unfold hz
  split <;> omega
theorem Try.len32 : Try.prog.arrayLen 74 = 32 := by kernel_rfl
theorem slice32 (b j : Nat) (w : World) (h : j ≤ 32) : (Instr.sliceAt 74 (.pointer (some ⟨b, 0, none⟩)) (some (.int .i64 (j : Int))) none none).run Try.prog w = .ok (.slice (some ⟨b, if j = 32 then 0 else j, none⟩) (32 - j) (32 - j)) w := by
  have e := run_sliceAt_array_l (P := Try.prog) w 74 ⟨b, 0, none⟩ (by kernel_rfl) .i64 (j : Int) (by omega) (by rw [Try.len32]; omega)
  rw [e, Try.len32, show Try.prog.elem 74 = 5 by kernel_rfl, Try.sizeOf5]
  simp only [slicedAt, Result.andThen_ok, Int.toNat_natCast]
  by_cases hj : j = 32
  · subst hj
    rfl
  · have a1 : ¬ (32 : Nat) = j := fun h => hj h.symm
    simp [hj, a1, Addr.add]
    intro h0
    subst h0
    rfl
/-- The bytes of a number by their place, the highest first, without noughts. -/
def nf (n i : Nat) : Nat := (bdig (nbl n) n).getD i 0
theorem nf_lt (n : Nat) : ∀ i, i < nbl n → nf n i < 256 := fun i hi => by
  unfold nf
  rw [bdig_get _ _ _ hi]
  omega
theorem lb8_nf (n : Nat) : lb8 (bdig (nbl n) n) = bb (nf n) (nbl n) := by
  rw [lb8_bb, bdig_length]
  rfl
/-- A new row of no bytes. -/
theorem own_none (w : World) {base : Nat} (hb : base ≤ w.heap.size) : (w.alloc (.cells #[] 5)).ownsRow base 5 1 (.slice (some ⟨w.heap.size, 0, none⟩) 0 0) 0 [] :=
  ⟨rfl, .inr ⟨w.heap.size, 0, #[], rfl, hb, heap_alloc_new _ _, Nat.le_refl _, Nat.zero_le _, rfl, rfl⟩⟩
/-- The noughts ahead, one after another. -/
theorem ahead_zero {n k : Nat} (hn : n < 256 ^ 32) (hk : k < 32 - nbl n) : dig n (31 - k) = 0 := by
  have h := bdig_nought (n := n) (k := 32) (i := k) (by omega) (nbl_le_of hn)
  rw [bdig_get _ _ _ (by omega)] at h
  unfold dig
  exact h
theorem ahead_end {n : Nat} (hn : n < 256 ^ 32) (h : 0 < nbl n) : dig n (31 - (32 - nbl n)) ≠ 0 := by
  have h0 : n ≠ 0 := by rintro rfl; simp [nbl] at h
  have hk := nbl_le_of hn
  have h := bdig_first (n := n) (k := 32) h0 hk
  rw [bdig_get _ _ _ (by omega)] at h
  unfold dig
  exact h
end Go.Proofs.Ytnffelnmlloonaa
/- What stays while a call appends to a row of its own; what the heads of items in bytes are: appendHead of package rlp, and the document's Head. -/
namespace Go.Proofs.Ytnffelnmlloonaa
open Go.RowKit SmWord
set_option maxRecDepth 100000

/-- Blocks below base stay, and all of the kinds that T doesn't name. -/
structure Keeps (base : Nat) (T : TypeId → Bool) (w w' : World) : Prop where
  below : Below base w w'
  other : ∀ (i : Nat) (c : Array Value) (t : TypeId) (fr : Nat × Nat), T t = false → w.heap[i]? = some (.cells c t fr) → w'.heap[i]? = some (.cells c t fr)
theorem Keeps.refl (base : Nat) (T : TypeId → Bool) (w : World) : Keeps base T w w := ⟨Below.refl _ _, fun _ _ _ _ _ h => h⟩
theorem Keeps.trans {base : Nat} {T : TypeId → Bool} {a b c : World} (h : Keeps base T a b) (k : Keeps base T b c) : Keeps base T a c := ⟨h.below.trans k.below, fun i d t fr ht hi => k.other i d t fr ht (h.other i d t fr ht hi)⟩
theorem Keeps.mono {base base' : Nat} {T : TypeId → Bool} {a b : World} (h : Keeps base T a b) (hb : base' ≤ base) : Keeps base' T a b := ⟨h.below.mono hb, h.other⟩
theorem Keeps.of_below {base : Nat} {T : TypeId → Bool} {w w' : World} (h : Below w.heap.size w w') (hb : base ≤ w.heap.size) : Keeps base T w w' := ⟨h.mono hb, fun _ _ _ _ _ hi => stay h hi⟩
theorem Keeps.alloc {base : Nat} {T : TypeId → Bool} {a b : World} (h : Keeps base T a b) (hb : base ≤ b.heap.size) (o : Obj) : Keeps base T a (b.alloc o) := h.trans (.of_below ((Below.refl _ _).alloc (Nat.le_refl _) _) hb)
theorem Keeps.size {base : Nat} {T : TypeId → Bool} {a b : World} (h : Keeps base T a b) : a.heap.size ≤ b.heap.size := h.below.size
theorem Keeps.grown {base : Nat} {T : TypeId → Bool} {a w w' : World} {e : TypeId} {s : Nat} {v : Value} {k : Nat} {xs : List Value} (h : Keeps base T a w) (g : w.grownBy w' v.ownBlock) (hown : w.ownsRow base e s v k xs) (hT : T e = true) (hb : base ≤ w.heap.size) : Keeps base T a w' :=
  ⟨h.below.grown g hb (fun b hb' => (hown.lt b hb').1), fun i c t fr ht hi => by
    have h1 := h.other i c t fr ht hi
    rw [g.block i (Array.getElem?_eq_some_iff.1 h1).1, h1]
    intro e1
    rcases hown.2 with ⟨rfl, _⟩ | ⟨b, cap, cur, rfl, _, hg, _⟩
    · cases e1
    · cases e1
      rw [h1] at hg
      cases hg
      rw [hT] at ht
      cases ht⟩
theorem Keeps.setCell {base : Nat} {T : TypeId → Bool} {a w : World} (h : Keeps base T a w) {b j : Nat} {c : Array Value} {e : TypeId} (hb : w.heap[b]? = some (.cells c e)) (hT : T e = true) (hle : base ≤ b) (v : Value) : Keeps base T a (w.setCell ⟨b, j, none⟩ v) :=
  ⟨h.below.setCell hle v, fun i d t fr ht hi => by
    have h1 := h.other i d t fr ht hi
    by_cases hne : i = b
    · subst hne
      rw [h1] at hb
      cases hb
      rw [hT] at ht
      cases ht
    · exact blk_other h1 hne v⟩
theorem own_keeps {base base' : Nat} {T : TypeId → Bool} {w w' : World} {e : TypeId} {s : Nat} {v : Value} {k : Nat} {xs : List Value} (hown : w.ownsRow base e s v k xs) (h : Keeps base' T w w') (hT : T e = false) : w'.ownsRow base e s v k xs := by
  refine ⟨hown.1, ?_⟩
  rcases hown.2 with h1 | ⟨g, cap, cur, h1, h2, h3, h4⟩
  · exact .inl h1
  · exact .inr ⟨g, cap, cur, h1, h2, h.other g cur e _ hT h3, h4⟩
theorem own_below {base : Nat} {w w' : World} {e : TypeId} {s : Nat} {v : Value} {k : Nat} {xs : List Value} (hown : w.ownsRow base e s v k xs) (h : Below w.heap.size w w') : w'.ownsRow base e s v k xs :=
  own_keeps (T := fun _ => false) hown (Keeps.of_below (base := 0) h (Nat.zero_le _)) rfl
theorem Sl.kept {w w' : World} {b off n : Nat} {f : Nat → Nat} (h : Sl w (some ⟨b, off, none⟩) n f) (g : w'.heap[b]? = w.heap[b]?) (hs : w.heap.size ≤ w'.heap.size) : Sl w' (some ⟨b, off, none⟩) n f :=
  ⟨h.small, fun hn => by
    obtain ⟨b', off', e, hlt, hc⟩ := h.cells hn
    cases e
    exact ⟨b, off, rfl, Nat.lt_of_lt_of_le hlt hs, fun i hi => (World.cell?_of_block (a := ⟨b, off + i, none⟩) g).trans (hc i hi)⟩⟩
/-- Rows of bytes. -/
def U8 (t : TypeId) : Bool := t == 5
theorem own_new1 (w : World) {base : Nat} (hb : base ≤ w.heap.size) (x : Int) : (w.alloc (.cells #[.int .u8 x] 5)).ownsRow base 5 1 (.slice (some ⟨w.heap.size, 0, none⟩) 1 1) 1 [.int .u8 x] :=
  ⟨rfl, .inr ⟨w.heap.size, 1, #[.int .u8 x], rfl, hb, heap_alloc_new _ _, Nat.le_refl _, by decide, rfl, rfl⟩⟩
theorem hea_short {n : Nat} (m : Nat) (h : n ≤ 55) : hea n m = [128 + m + n] := if_pos h
theorem hea_great {n : Nat} (m : Nat) (h : ¬ n ≤ 55) : hea n m = (183 + m + nbl n) :: bdig (nbl n) n := if_neg h
end Go.Proofs.Ytnffelnmlloonaa
/- What the functions Words and Price of package mem, and the document's, do. -/
namespace Go.Proofs.Ytnffelnmlloonaa
open Go.RowKit SmWord
set_option maxRecDepth 100000

theorem words_wd (n : Nat) (w : World) (hn : n < B) : Calls Try.prog 28 #[.int .u64 (n : Int)] w fun e w' => e = .returned (.int .u64 ((wn n : Nat) : Int)) ∧ w = w' := by
  simp only [B] at hn
  have e1 : (n : Int) / 32 + (((n : Int) % 32 + 32 - 1) / 32) = ((wn n : Nat) : Int) := by unfold wn; omega
  have e2 : 0 ≤ (n : Int) % 32 := by omega
  go_enter Try.func28, Try.ntmps28
  go_wp2_with fail
  go_ret
  exact ⟨rfl, rfl⟩
theorem words_ref (n : Nat) (w : World) (hn : n < B) : Calls Try.prog 29 #[.int .u64 (n : Int)] w fun e w' => e = .returned (.int .u64 ((wn n : Nat) : Int)) ∧ w = w' := by
  simp only [B] at hn
  by_cases h : n % 32 = 0
  · have e1 : (n : Int) / 32 = ((wn n : Nat) : Int) := by unfold wn; omega
    have e2 : (((n : Int) % 32) == 0) = true := by simp; omega
    go_enter Try.func29, Try.ntmps29
    go_wp2_with fail
    go_ret
    exact ⟨rfl, rfl⟩
  · have e1 : (n : Int) / 32 + 1 = ((wn n : Nat) : Int) := by unfold wn; omega
    have e2 : (((n : Int) % 32) == 0) = false := by rw [beq_eq_false_iff_ne]; omega
    go_enter Try.func29, Try.ntmps29
    go_wp2_with fail
    go_ret
    exact ⟨rfl, rfl⟩
theorem div64_small (l y : Int) (w : World) (_hl0 : 0 ≤ l) (_hl : l < 18446744073709551616) (hy : 1 ≤ y) (_e1 : IntKind.u64.wrap (l / y) = l / y) (_e2 : IntKind.u64.wrap (l % y) = l % y) :
    Calls Try.prog 51 #[.int .u64 0, .int .u64 l, .int .u64 y] w fun e w' => e = .returned (.tuple #[.int .u64 (l / y), .int .u64 (l % y)]) ∧ Below w.heap.size w w' := by
  have h1 : (y == 0) = false := by rw [beq_eq_false_iff_ne]; omega
  have h2 : decide (y ≤ 0) = false := by simp; omega
  go_enter Try.func51, Try.ntmps51
  go_wp2_with fail
  go_region
  go_wp2_with fail
  go_ret2
  exact ⟨rfl, (Below.refl _ _).drew⟩
theorem div64_one (w : World) :
    Calls Try.prog 51 #[.int .u64 1, .int .u64 0, .int .u64 512] w fun e w' => e = .returned (.tuple #[.int .u64 36028797018963968, .int .u64 0]) ∧ Below w.heap.size w w' := by
  have K := Lib.hid fun w => Try.bits_LeadingZeros64 512 w (by decide) (by decide)
  rw [show (64 - ((Lib.bitLen (Int.toNat 512) : Nat) : Int)) = 54 by decide +kernel] at K
  have e1 : IntKind.u64.wrap 54 = 54 := by decide +kernel
  have e2 : IntKind.u64.wrap (512 * 2 ^ min (Int.toNat 54) 64) = 9223372036854775808 := by decide +kernel
  go_enter Try.func51, Try.ntmps51
  have b1 : bits .and .u64 9223372036854775808 4294967295 = 0 := by decide +kernel
  have b2 : bits .or .u64 18014398509481984 0 = 18014398509481984 := by decide +kernel
  have b3 : bits .and .u64 0 4294967295 = 0 := by decide +kernel
  go_upto_block 0 with (go_at_call 55; refine (K.out _).mono ?_; rintro e w' ⟨rfl, rfl⟩)
  go_wp2_with fail
  go_loop [15, 16] (fun q r => q = .int .u64 8388608 ∧ r = .int .u64 0) (fun _ _ => 0)
  case atStart => exact ⟨rfl, rfl⟩
  case round =>
    obtain ⟨rfl, rfl⟩ := hrel
    go_wp2_with fail
    go_loop [18, 16] (fun q r => q = .int .u64 0 ∧ r = .int .u64 0) (fun _ _ => 0)
    case atStart => exact ⟨rfl, rfl⟩
    case round =>
      obtain ⟨rfl, rfl⟩ := hrel
      go_wp2_with fail
      go_ret2
      exact ⟨rfl, Below.refl _ _⟩
theorem price_wd (n : Nat) (w : World) (hn : n < 4294967296) : Calls Try.prog 30 #[.int .u64 (n : Int)] w fun e w' => e = .returned (.int .u64 ((pr n : Nat) : Int)) ∧ Below w.heap.size w w' := by
  have K := Lib.hid fun w => Try.bits_Mul64 n n (by omega) (by omega) w
  have h := Nat.mul_lt_mul'' hn hn
  have q1 : n * n / 18446744073709551616 = 0 := by omega
  have q2 : n * n % 18446744073709551616 = n * n := by omega
  have K2 := Lib.hid fun w => div64_small ((n * n : Nat) : Int) 512 w (by omega) (by omega) (by omega) (by rw [IntKind.wrap_u64]; omega) (by rw [IntKind.wrap_u64]; omega)
  have e1 : 3 * (n : Int) + ((n * n : Nat) : Int) / 512 = ((pr n : Nat) : Int) := by unfold pr; omega
  have e2 : 0 ≤ ((n * n : Nat) : Int) / 512 ∧ ((n * n : Nat) : Int) / 512 < 36028797018963968 := by omega
  obtain ⟨e3, e4⟩ := e2
  have hc : decide (4294967296 < (n : Int)) = false := by simp; omega
  generalize n * n = s at *
  clear h
  go_enter Try.func30, Try.ntmps30
  go_wp2_with (first | (go_at_call 50; refine (K.out _).mono ?_; rintro e w' ⟨rfl, rfl⟩; rw [q1, q2]) | (go_at_call 51; refine (K2.out _).mono ?_; rintro e w1 ⟨rfl, b1⟩))
  go_ret
  exact ⟨rfl, b1⟩
theorem price_far (n : Nat) (w : World) (hn : 4294967296 < n) (_hB : n < B) : Calls Try.prog 30 #[.int .u64 (n : Int)] w fun e w' => e = .returned (.int .u64 18446744073709551615) ∧ Below w.heap.size w w' := by
  have hc : decide (4294967296 < (n : Int)) = true := by simp; omega
  go_enter Try.func30, Try.ntmps30
  go_wp2_with fail
  go_ret
  exact ⟨rfl, Below.refl _ _⟩
theorem price_top (w : World) : Calls Try.prog 30 #[.int .u64 4294967296] w fun e w' => e = .returned (.int .u64 36028809903865856) ∧ Below w.heap.size w w' := by
  have K := Lib.hid fun w => Try.bits_Mul64 4294967296 4294967296 (by omega) (by omega) w
  rw [show 4294967296 * 4294967296 / 18446744073709551616 = 1 from rfl, show 4294967296 * 4294967296 % 18446744073709551616 = 0 from rfl] at K
  have K2 := Lib.hid div64_one
  have hc : decide ((4294967296 : Int) < 4294967296) = false := by decide +kernel
  go_enter Try.func30, Try.ntmps30
  go_wp2_with (first | (go_at_call 50; refine (K.out _).mono ?_; rintro e w' ⟨rfl, rfl⟩) | (go_at_call 51; refine (K2.out _).mono ?_; rintro e w1 ⟨rfl, b1⟩))
  go_ret
  exact ⟨rfl, b1⟩
theorem price_ref (n : Nat) (w : World) (hn : n < 4294967296) : Calls Try.prog 15 #[.int .u64 (n : Int)] w fun e w' => e = .returned (.int .u64 ((pr n : Nat) : Int)) ∧ w = w' := by
  have h := Nat.mul_lt_mul'' hn hn
  have q : (n : Int) * (n : Int) = ((n * n : Nat) : Int) := by simp
  have e1 : 3 * (n : Int) + ((n * n : Nat) : Int) / 512 = ((pr n : Nat) : Int) := by unfold pr; omega
  have e2 : 0 ≤ ((n * n : Nat) : Int) / 512 ∧ ((n * n : Nat) : Int) / 512 < 36028797018963968 := by omega
  obtain ⟨e3, e4⟩ := e2
  generalize n * n = s at *
  go_enter Try.func15, Try.ntmps15
  go_wp2_with fail
  go_ret
  exact ⟨rfl, rfl⟩
/-- What a memory's length costs. -/
theorem priceOf_wd (n : Nat) (w : World) (hn : n ≤ 4194304) : Calls Try.prog 43 #[.int .i64 (n : Int)] w fun e w' => e = .returned (.int .u64 ((pr (wn n) : Nat) : Int)) ∧ Below w.heap.size w w' := by
  have hw : wn n < 4294967296 := by unfold wn; omega
  have K1 := Lib.hid fun w => words_wd n w (by simp only [B]; omega)
  have K2 := Lib.hid fun w => price_wd (wn n) w hw
  go_enter Try.func43, Try.ntmps43
  go_wp2_with (first | (go_at_call 28; refine (K1.out _).mono ?_; rintro e w' ⟨rfl, rfl⟩) | (go_at_call 30; refine (K2.out _).mono ?_; rintro e w1 ⟨rfl, b1⟩))
  go_ret
  exact ⟨rfl, b1⟩
end Go.Proofs.Ytnffelnmlloonaa
/- A memory of package mem: how it lies, its length, what reaching some bytes of it makes of it and costs. -/
namespace Go.Proofs.Ytnffelnmlloonaa
open Go.RowKit SmWord
set_option maxRecDepth 100000

/-- A memory at block b, of n bytes f, in a row of its own or none. -/
structure MemAt (w : World) (base b : Nat) (v : Value) (n : Nat) (f : Nat → Nat) : Prop where
  blk : w.heap[b]? = some (.cells #[v] 69)
  own : w.ownsRow base 5 1 v n (bb f n)
  le : base ≤ b
  small : ∀ i, i < n → f i < 256
  len : n ≤ 4194304
  div : 32 ∣ n
theorem MemAt.below {w w' : World} {base b : Nat} {v : Value} {n : Nat} {f : Nat → Nat} (h : MemAt w base b v n f) (hb : Below w.heap.size w w') : MemAt w' base b v n f :=
  ⟨stay hb h.blk, own_below h.own hb, h.le, h.small, h.len, h.div⟩
theorem MemAt.lt {w : World} {base b : Nat} {v : Value} {n : Nat} {f : Nat → Nat} (h : MemAt w base b v n f) : b < w.heap.size := (Array.getElem?_eq_some_iff.1 h.blk).1
theorem MemAt.base_le {w : World} {base b : Nat} {v : Value} {n : Nat} {f : Nat → Nat} (h : MemAt w base b v n f) : base ≤ w.heap.size := Nat.le_trans h.le (Nat.le_of_lt h.lt)
theorem MemAt.cell {w : World} {base b : Nat} {v : Value} {n : Nat} {f : Nat → Nat} (h : MemAt w base b v n f) : w.cell? ⟨b, 0, none⟩ = some v := blk_cell h.blk rfl

theorem mlen_walk {base b n : Nat} {v : Value} {f : Nat → Nat} {w : World} (h : MemAt w base b v n f) : Calls Try.prog 27 #[.pointer (some ⟨b, 0, none⟩)] w fun e w' => e = .returned (.int .i64 (n : Int)) ∧ w = w' := by
  have hc := h.cell
  obtain ⟨A, c, rfl⟩ := own_val h.own
  clear h
  go_enter Try.func27, Try.ntmps27
  go_wp2_with fail
  go_ret
  exact ⟨rfl, rfl⟩
theorem mlen_nil (w : World) : Calls Try.prog 27 #[.pointer none] w fun e w' => e = .returned (.int .i64 0) ∧ w = w' := by
  go_enter Try.func27, Try.ntmps27
  go_wp2_with fail
  go_ret
  exact ⟨rfl, rfl⟩
def zMem : Array Value := #[.slice none 0 0]
theorem mnew_walk (base : Nat) (w : World) (hb : base ≤ w.heap.size) : Calls Try.prog 10 #[] w fun e w' => ∃ b, e = .returned (.pointer (some ⟨b, 0, none⟩)) ∧ w.heap.size ≤ b ∧ MemAt w' base b (.slice none 0 0) 0 (fun _ => 0) ∧ Below w.heap.size w w' := by
  go_enter Try.func10, Try.ntmps10
  go_wp2_with fail
  go_ret
  exact ⟨_, rfl, Nat.le_refl _, ⟨heap_alloc_new _ _, World.ownsRow_nil _ _ _ _, hb, fun i hi => by omega, by omega, ⟨0, rfl⟩⟩, (Below.refl _ _).alloc (Nat.le_refl _) _⟩
theorem l0_small {m : Nat} (h : m < B) : l0 m = m := Nat.mod_eq_of_lt h
theorem smallB_eq {m : Nat} (h : m < M) : smallB m = decide (m < B) := by
  unfold smallB
  rw [Nat.mod_eq_of_lt h]
  by_cases hm : m < B
  · rw [l0_small hm, Nat.mod_eq_of_lt h, decide_eq_true rfl, decide_eq_true hm]
  · rw [decide_eq_false hm, decide_eq_false]
    intro e
    have : l0 m % M < B := Nat.lt_of_le_of_lt (Nat.mod_le _ _) (Nat.mod_lt _ (by decide))
    omega
/-- Is a word no more than what a memory may have? -/
def upm (m : Nat) : Bool := decide (m ≤ 4194304)
theorem upm_core (m : Nat) (r : Int) (ok is : Bool) (x : Int) (w : World) (H : Hid (∀ w : World, Calls Try.prog 56 #[wd m] w fun e w' => e = .returned (.tuple #[.int .u64 r, .bool ok]) ∧ Below w.heap.size w w'))
    (h : (ok = false ∧ is = false ∧ x = 0) ∨ (ok = true ∧ decide (4194304 < r) = true ∧ is = false ∧ x = 0) ∨ (ok = true ∧ decide (4194304 < r) = false ∧ is = true ∧ x = r)) :
    Calls Try.prog 53 #[wd m] w fun e w' => e = .returned (.tuple #[.int .u64 x, .bool is]) ∧ Below w.heap.size w w' := by
  have f0 : (w.alloc (.cells (wa m) 30)).heap[w.heap.size]? = some (.cells (wa m) 30) := heap_alloc_new _ _
  have HB := Lib.hid ((Below.refl w.heap.size w).alloc (Nat.le_refl _) (.cells (wa m) 30))
  rcases h with ⟨rfl, rfl, rfl⟩ | ⟨rfl, hc, rfl, rfl⟩ | ⟨rfl, hc, rfl, rfl⟩
  all_goals
    go_enter Try.func53, Try.ntmps53
    go_wp2_with (refine wpList_load_row rfl 30 _ rfl _ rfl 30 (wa m) (0, 0) _ f0 Try.underlying30 rfl Try.infoWa ?_)
    refine (H.out _).mono ?_
    rintro e w1 ⟨rfl, b1⟩
    replace HB := Lib.hid (HB.out.trans (b1.mono HB.out.size))
    clear b1 H f0
    go_wp2_with fail
    go_ret2
    exact ⟨rfl, HB.out⟩
theorem upm_walk (m : Nat) (w : World) (hm : m < M) : Calls Try.prog 53 #[wd m] w fun e w' => e = .returned (.tuple #[.int .u64 (if upm m then (m : Int) else 0), .bool (upm m)]) ∧ Below w.heap.size w w' := by
  refine upm_core m _ _ _ _ w (Lib.hid fun w => small_wd m w) ?_
  rw [smallB_eq hm]
  by_cases h : m < B
  · rw [l0_small h, decide_eq_true h, if_pos rfl]
    by_cases h2 : m ≤ 4194304
    · exact .inr (.inr ⟨rfl, by simp; omega, by unfold upm; simp [h2], by unfold upm; simp [h2]⟩)
    · exact .inr (.inl ⟨rfl, by simp; omega, by unfold upm; simp [h2], by unfold upm; simp [h2]⟩)
  · have h2 : ¬ m ≤ 4194304 := by simp only [B] at h; omega
    exact .inl ⟨by simp [h], by unfold upm; simp [h2], by unfold upm; simp [h2]⟩
theorem zero_eq {k : Nat} (hk : k < M) (w : World) : (Op.equalIn 10000 30 (.agg (wa k)) (.agg #[.int .u64 0, .int .u64 0, .int .u64 0, .int .u64 0])).run Try.prog w = .ok (decide (k = 0)) w := by
  have e : #[Value.int .u64 0, .int .u64 0, .int .u64 0, .int .u64 0] = wa 0 := rfl
  rw [e, equal_wa, Nat.mod_eq_of_lt hk]
  rfl
/-- What reaching k bytes from a on makes of a length, and whether it may be. -/
theorem reached_core {n c : Nat} {A : Option Addr} {b a k : Nat} {w : World} (hcell : w.cell? ⟨b, 0, none⟩ = some (.slice A n c)) (hb : b < w.heap.size) (hn : n ≤ 4194304) (ha : a < M) (hk : k < M) (x : Int) (ok : Bool) (h : (k = 0 ∧ ok = true ∧ x = n) ∨ (0 < k ∧ ((upm a = false ∧ ok = false ∧ x = 0) ∨ (upm a = true ∧ ((upm k = false ∧ ok = false ∧ x = 0) ∨ (upm k = true ∧ ((4194304 < a + k ∧ ok = false ∧ x = 0) ∨ (a + k ≤ 4194304 ∧ ok = true ∧ x = max (n : Int) (32 * (wn (a + k) : Int)))))))))) :
    Calls Try.prog 42 #[.pointer (some ⟨b, 0, none⟩), wd a, wd k] w fun e w' => e = .returned (.tuple #[.int .i64 x, .bool ok]) ∧ Below w.heap.size w w' := by
  have f0 : ((w.alloc (.cells (wa a) 30)).alloc (.cells (wa k) 30)).heap[w.heap.size]? = some (.cells (wa a) 30) := blk_alloc (heap_alloc_new _ _)
  have f1 : ((w.alloc (.cells (wa a) 30)).alloc (.cells (wa k) 30)).heap[w.heap.size + 1]? = some (.cells (wa k) 30) := heap_alloc2_new _ _ _
  have bW : Below w.heap.size w ((w.alloc (.cells (wa a) 30)).alloc (.cells (wa k) 30)) := ((Below.refl _ _).alloc (Nat.le_refl _) _).alloc (by simp) _
  have hc := (bW.cell (p := ⟨b, 0, none⟩) hb).trans hcell
  have KA := Lib.hid fun w => upm_walk a w ha
  have KK := Lib.hid fun w => upm_walk k w hk
  have e0 := fun w => zero_eq hk w
  have g1 := Try.guardW
  have hsz := wa_size
  have bW' := bW
  clear hcell ha
  have hbelow := Lib.hid bW
  have hnn := hn
  clear bW'
  generalize hW : ((w.alloc (.cells (wa a) 30)).alloc (.cells (wa k) 30)) = W at *
  obtain ⟨z, hz⟩ : ∃ z, w.heap.size = z := ⟨_, rfl⟩
  rw [hz] at f0 f1
  rcases h with ⟨hk0, rfl, rfl⟩ | ⟨hk1, h⟩
  · have e1 := e0
    rw [hk0] at e1
    subst hk0
    simp only [decide_true] at e1
    clear e0 KA KK
    go_enter Try.func42, Try.ntmps42
    go_upto_region 1 with fail
    clear hW hsz
    go_wp2_with (refine wpList_load_row rfl 30 _ rfl _ rfl 30 _ (0, 0) _ (by assumption) Try.underlying30 rfl Try.infoWa ?_)
    go_ret2
    exact ⟨rfl, hbelow.out⟩
  · have e1 : ∀ w, (Op.equalIn 10000 30 (.agg (wa k)) (.agg #[.int .u64 0, .int .u64 0, .int .u64 0, .int .u64 0])).run Try.prog w = .ok false w := fun w => by rw [e0 w, decide_eq_false (by omega)]
    clear e0
    go_enter Try.func42, Try.ntmps42
    go_upto_region 1 with fail
    clear hW hsz
    have F1 := Lib.hid f1
    go_wp2_with (refine wpList_load_row rfl 30 _ rfl _ rfl 30 _ (0, 0) _ (by assumption) Try.underlying30 rfl Try.infoWa ?_)
    clear f0 f1 e1 g1
    have HC := Lib.hid hc
    clear hc
    refine (KA.out _).mono ?_
    rintro e w1 ⟨rfl, b1⟩
    rcases h with ⟨hu, rfl, rfl⟩ | ⟨hu, hv⟩
    · rw [hu, if_neg (by decide)]
      replace hbelow := Lib.hid (hbelow.out.trans (b1.mono hbelow.out.size))
      clear b1
      go_wp2_with fail
      go_ret2
      exact ⟨rfl, hbelow.out⟩
    rw [hu, if_pos rfl]
    have ha1 := of_decide_eq_true hu
    have f1 := stay b1 F1.out
    have hc := (b1.cell (p := ⟨b, 0, none⟩) (Nat.lt_of_lt_of_le hb hbelow.out.size)).trans HC.out
    replace hbelow := Lib.hid (hbelow.out.trans (b1.mono hbelow.out.size))
    clear b1 HC F1 KA
    go_upto_region 8 with fail
    have HC := Lib.hid hc
    clear hc
    go_wp2_with (refine wpList_load_row rfl 30 _ rfl _ rfl 30 _ (0, 0) _ (by assumption) Try.underlying30 rfl Try.infoWa ?_)
    clear f1
    refine (KK.out _).mono ?_
    rintro e w2 ⟨rfl, b2⟩
    have hc := (b2.cell (p := ⟨b, 0, none⟩) (Nat.lt_of_lt_of_le hb hbelow.out.size)).trans HC.out
    replace hbelow := Lib.hid (hbelow.out.trans (b2.mono hbelow.out.size))
    clear b2 HC KK
    rcases hv with ⟨hv, rfl, rfl⟩ | ⟨hv, h⟩
    · rw [hv, if_neg (by decide)]
      clear hc
      go_wp2_with fail
      go_ret2
      exact ⟨rfl, hbelow.out⟩
    rw [hv, if_pos rfl]
    have hk2 := of_decide_eq_true hv
    rcases h with ⟨hs, rfl, rfl⟩ | ⟨hs, rfl, rfl⟩
    · have h1 : decide (4194304 < (a : Int) + (k : Int)) = true := by simp; omega
      clear hc
      go_wp2_with fail
      go_ret2
      exact ⟨rfl, hbelow.out⟩
    · have h1 : decide (4194304 < (a : Int) + (k : Int)) = false := by simp; omega
      have K := Lib.hid fun w => (words_wd (a + k) w (by simp only [B]; omega)).mono fun e w' h => (⟨h.1, h.2 ▸ Below.refl _ _⟩ : e = .returned (.int .u64 ((wn (a + k) : Nat) : Int)) ∧ Below w.heap.size w w')
      rw [Int.natCast_add] at K
      have h2 : wn (a + k) ≤ 131072 := by unfold wn; omega
      go_upto_region 11 with fail
      have k2 := fun g : Ext w2 => (g.below.cell (p := ⟨b, 0, none⟩) (Nat.lt_of_lt_of_le hb hbelow.out.size)).trans hc
      refine region_ext (by kernel_rfl) (by kernel_rfl) ?_
      repeat (go_big_quiet_step ((go_at_call 28; exact calls_ext (K.out _))))
      refine wpQuiet_nil ?_
      rintro _ ⟨g, rfl⟩
      go_wp2_with fail
      go_ret2
      exact ⟨rfl, hbelow.out.trans (g.below.mono hbelow.out.size)⟩
theorem reached_walk {base b n : Nat} {v : Value} {f : Nat → Nat} {w : World} (h : MemAt w base b v n f) (a k : Nat) (ha : a < M) (hk : k < M) :
    Calls Try.prog 42 #[.pointer (some ⟨b, 0, none⟩), wd a, wd k] w fun e w' => e = .returned (.tuple #[.int .i64 (if rok a k then ((rlen n a k : Nat) : Int) else 0), .bool (rok a k)]) ∧ Below w.heap.size w w' := by
  have hc := h.cell
  obtain ⟨A, c, rfl⟩ := own_val h.own
  refine reached_core hc h.lt h.len ha hk _ _ ?_
  unfold rok rlen upm
  by_cases h0 : k = 0
  · exact .inl ⟨h0, by simp [h0], by simp [h0]⟩
  refine .inr ⟨by omega, ?_⟩
  by_cases h1 : a ≤ 4194304
  · refine .inr ⟨by simp [h1], ?_⟩
    by_cases h2 : k ≤ 4194304
    · refine .inr ⟨by simp [h2], ?_⟩
      by_cases h3 : a + k ≤ 4194304
      · exact .inr ⟨h3, by simp [h3], by simp only [h0, h3, or_true, decide_true, if_true, if_false]; omega⟩
      · exact .inl ⟨by omega, by simp [h0, h3], by simp [h0, h3]⟩
    · have h3 : ¬ a + k ≤ 4194304 := by omega
      exact .inl ⟨by simp [h2], by simp [h0, h3], by simp [h0, h3]⟩
  · have h3 : ¬ a + k ≤ 4194304 := by omega
    exact .inl ⟨by simp [h1], by simp [h0, h3], by simp [h0, h3]⟩
theorem reached_nil (a k : Nat) (w : World) : Calls Try.prog 42 #[.pointer none, wd a, wd k] w fun e w' => e = .returned (.tuple #[.int .i64 0, .bool false]) ∧ Below w.heap.size w w' := by
  have bW : Below w.heap.size w ((w.alloc (.cells (wa a) 30)).alloc (.cells (wa k) 30)) := ((Below.refl _ _).alloc (Nat.le_refl _) _).alloc (by simp) _
  have HB := Lib.hid bW
  clear bW
  go_enter Try.func42, Try.ntmps42
  go_wp2_with fail
  go_ret2
  exact ⟨rfl, HB.out⟩
end Go.Proofs.Ytnffelnmlloonaa
/- Appending to a row of one's own: where the row lies behind it; noughts appended. -/
namespace Go.Proofs.Ytnffelnmlloonaa
open Go.RowKit SmWord
set_option maxRecDepth 100000

theorem run_append_where {P : Program} (w : World) (base : Nat) (t ty e : TypeId) (i : TypeInfo) (z : Value) (size bytes : Nat) (ht : P.underlying t = some (.slice e)) (hi : P.info? e = some i) (hz : i.zero = some z)
    (hsize : i.size = size) (hby : i.bytes = bytes) (hzs : z.cells.size = size) (hsz : 0 < size)
    (v : Value) (n : Nat) (xs : List Value) (hown : w.ownsRow base e size v n xs)
    (a : Addr) (m c : Nat) (news : List Value) (hl : news.length = m * size) (hnews : ∀ j u, news[j]? = some u → w.cell? (a.add j) = some u) (h1 : ∀ u ∈ news, u.oneCell' = true)
    (h63 : n + m ≤ maxLen) (hbytes : (n + m) * bytes ≤ 140737488355328) (hbase : base ≤ w.heap.size) :
    ∃ v' w', (Builtin.append_ #[t, t] ty #[v, .slice (some a) m c]).run P w = .ok v' w' ∧ w'.ownsRow base e size v' (n + m) (xs ++ news) ∧ w.grownBy w' v.ownBlock ∧ (v'.ownBlock = v.ownBlock ∨ v'.ownBlock = some w.heap.size) := by
  obtain ⟨v', w', hr, h2, h3, h4⟩ := run_append_own (P := P) w base t ty e i z size bytes ht hi hz hsize hby hzs hsz v n xs hown a m c news hl hnews h1 h63 hbytes hbase
  refine ⟨v', w', hr, h2, h3, ?_⟩
  subst hsize
  subst hby
  simp only [maxLen] at h63
  rcases hown.2 with ⟨rfl, rfl⟩ | ⟨g, cap, cur, rfl, hbg, hg, hnc, hcm, hcs, htake⟩
  · by_cases hm : m = 0
    · rw [h4.2 ⟨rfl, hm⟩]
      exact .inl rfl
    · have hr' := run_append_nil (P := P) w t ty e i z ht hi hz a m c news hl hnews (by omega) (by omega) (by have hb := hbytes; simp only [Nat.zero_add] at hb; omega)
      rw [hr] at hr'
      cases hr'
      exact .inr rfl
  · by_cases hroom : n + m ≤ cap
    · have hfit : n * i.size + news.length ≤ cur.size := by rw [hl, hcs, ← Nat.add_mul]; exact Nat.mul_le_mul_right _ hroom
      have hr' := run_append_room (P := P) w t ty e i ht hi g n cap cur hg a m c news hl hnews h1 hroom hfit
      rw [hr] at hr'
      cases hr'
      exact .inl rfl
    · have holds : ∀ j u, xs[j]? = some u → w.cell? ((⟨g, 0, none⟩ : Addr).add j) = some u := hown.cells (g := g) rfl
      have hr' := run_append_grow (P := P) w t ty e i z ht hi hz ⟨g, 0, none⟩ n cap xs hown.1 holds a m c news hl hnews (by omega) (by omega) (growslice_fits (by omega) hbytes)
      rw [hr] at hr'
      cases hr'
      exact .inr rfl
theorem zero8 (k : Nat) : (Builtin.zeroCells #[Value.int .u8 0] k).toList = List.replicate k (Value.int .u8 0) := by
  apply List.ext_getElem?
  intro i
  unfold Builtin.zeroCells
  simp only [Array.toList_map, Array.toList_range, List.getElem?_map, List.getElem?_replicate, List.size_toArray, List.length_singleton, Nat.mul_one, Nat.mod_one]
  by_cases h : i < k
  · rw [List.getElem?_range h, if_pos h]; rfl
  · rw [List.getElem?_eq_none (by simp; omega), if_neg h]; rfl
theorem run_append_noughts (w : World) (base : Nat) (ty : TypeId) (v : Value) (n : Nat) (xs : List Value) (hown : w.ownsRow base 5 1 v n xs) (k : Nat) (hk : n + k ≤ 1000000000) (hbase : base ≤ w.heap.size) :
    ∃ v' w', (Builtin.append_ #[25, 3] ty #[v, .int .i64 (k : Int)]).run Try.prog w = .ok v' w' ∧ w'.ownsRow base 5 1 v' (n + k) (xs ++ List.replicate k (Value.int .u8 0)) ∧ w.grownBy w' v.ownBlock ∧ (v'.ownBlock = v.ownBlock ∨ v'.ownBlock = some w.heap.size) := by
  obtain ⟨i, hi, hz, hs, hb⟩ := Try.parts8
  have hw : IntKind.i64.wrap (k : Int) = k := by rw [IntKind.wrap_i64]; omega
  have hw0 : IntKind.i64.wrap 0 = 0 := by decide
  have hneg : ¬ ((k : Int) < 0) := by omega
  have h48i : ¬ (281474976710656 < (k : Int) * (i.bytes : Int)) := by rw [hb]; omega
  have hxl := hown.1
  have grown : ∀ (old : Nat), old < n + k → ∀ (row : Option Nat),
      (w.drew.alloc (.cells (xs.toArray ++ Builtin.zeroCells #[Value.int .u8 0] k ++ Builtin.zeroCells #[Value.int .u8 0] (grownCap w (n + k) old 5 - (n + k))) 5)).ownsRow base 5 1
        (.slice (some ⟨w.heap.size, 0, none⟩) (n + k) (grownCap w (n + k) old 5)) (n + k) (xs ++ List.replicate k (Value.int .u8 0)) ∧
      w.grownBy (w.drew.alloc (.cells (xs.toArray ++ Builtin.zeroCells #[Value.int .u8 0] k ++ Builtin.zeroCells #[Value.int .u8 0] (grownCap w (n + k) old 5 - (n + k))) 5)) row := by
    intro old ho row
    have hge := grownCap_ge w (n + k) old 5
    have hcm : grownCap w (n + k) old 5 ≤ maxLen := grownCap_le_maxLen w (n + k) old 5 (by simp only [maxLen]; omega)
    refine ⟨⟨by simp; omega, .inr ⟨w.heap.size, _, _, rfl, hbase, heap_alloc_new w.drew _, hge, hcm, ?_, ?_⟩⟩, ⟨rfl, rfl, rfl, by simp, fun j hj _ => Below.heap_alloc w.drew _ j hj⟩⟩
    · simp only [Array.size_append, List.size_toArray, size_zeroCells]
      simp
      omega
    · simp only [Array.toList_append, zero8]
      rw [show (n + k) * 1 = (xs ++ List.replicate k (Value.int .u8 0)).length by simp; omega]
      exact List.take_left
  rcases hown.2 with ⟨rfl, rfl⟩ | ⟨g, cap, cur, rfl, hbg, hg, hnc, hcm, hcs, htake⟩
  · have hx : xs = [] := List.eq_nil_of_length_eq_zero (by simpa using hown.1)
    subst hx
    by_cases hm : k = 0
    · subst hm
      refine ⟨.slice none 0 0, w, ?_, World.ownsRow_nil w base _ _, ⟨rfl, rfl, rfl, Nat.le_refl _, fun _ _ _ => rfl⟩, .inl rfl⟩
      simp [Builtin.append_, run_underlying Try.underlying25, run_underlying Try.underlying3, sizeOf, typeInfo, hi, asInt, asIntOf, hw0]
    · have hr := Lib.run_append_nil_zeros (P := Try.prog) w 25 3 ty 5 i _ .i64 .i64 Try.underlying25 Try.underlying3 hi hz k (by omega) (by omega) (by omega) (by rw [hb]; omega)
      have hgr := grown 0 (by omega) (Value.ownBlock (.slice none 0 0))
      simp only [Nat.zero_add, List.nil_append, Array.empty_append] at hgr ⊢
      exact ⟨_, _, hr, hgr.1, hgr.2, .inr rfl⟩
  · by_cases hm : k = 0
    · subst hm
      refine ⟨_, w, ?_, ⟨?_, ?_⟩, ⟨rfl, rfl, rfl, Nat.le_refl _, fun _ _ _ => rfl⟩, .inl rfl⟩
      · simp [Builtin.append_, run_underlying Try.underlying25, run_underlying Try.underlying3, sizeOf, typeInfo, hi, asInt, asIntOf, hw0, hnc, storeCells]
      · simp; omega
      · exact .inr ⟨g, cap, cur, rfl, hbg, hg, hnc, hcm, hcs, by simpa using htake⟩
    · by_cases hroom : n + k ≤ cap
      · have hst := run_storeCells_at Try.prog g n 5 (List.replicate k (Value.int .u8 0)) 0 cur w hg (by simp; omega) (fun v hv => by rw [List.eq_of_mem_replicate hv]; rfl)
        simp only [Nat.add_zero] at hst
        have hz8 : (Builtin.zeroCells (Value.int .u8 0).cells k).toList = List.replicate k (Value.int .u8 0) := zero8 k
        have hadd : (⟨g, 0, none⟩ : Addr).add n = ⟨g, n, none⟩ := by rw [Addr.add_lit]; simp
        have hr : (Builtin.append_ #[25, 3] ty #[.slice (some ⟨g, 0, none⟩) n cap, .int .i64 (k : Int)]).run Try.prog w = .ok (.slice (some ⟨g, 0, none⟩) (n + k) cap) (w.setRow g (cur.toList.take n ++ List.replicate k (Value.int .u8 0) ++ cur.toList.drop (n + (List.replicate k (Value.int .u8 0)).length)).toArray) := by
          simp [Builtin.append_, run_underlying Try.underlying25, run_underlying Try.underlying3, sizeOf, typeInfo, zeroValue, hi, hz, hs, asInt, asIntOf, hw, hneg, h48i, hm, hroom, hadd, hz8, hst]
        refine ⟨_, _, hr, ⟨?_, .inr ⟨g, cap, _, rfl, hbg, setRow_heap w g cur _ _ _ hg, hroom, hcm, ?_, ?_⟩⟩, ⟨rfl, rfl, rfl, by simp, fun k _ hk => setRow_other w g k _ (fun e => hk (by simp [Value.ownBlock, e]))⟩, .inl rfl⟩
        · simp; omega
        · simp; omega
        · rw [Nat.mul_one] at htake
          rw [htake, show (n + k) * 1 = (xs ++ List.replicate k (Value.int .u8 0)).length by simp; omega]
          exact List.take_left
      · have holds : ∀ j u, xs[j]? = some u → w.drew.cell? ((⟨g, 0, none⟩ : Addr).add j) = some u := hown.cells (g := g) rfl
        have hr := Lib.run_append_grow_zeros (P := Try.prog) w 25 3 ty 5 i _ .i64 .i64 Try.underlying25 Try.underlying3 hi hz (some ⟨g, 0, none⟩) n cap xs (run_firstCells_some (P := Try.prog) w.drew i.size n ⟨g, 0, none⟩ n cap xs (by rw [hs]; exact hown.1) holds) k (by omega) (by omega) (by omega) (by omega) (by rw [hb]; omega) (growslice_fits (by omega) (by rw [hb]; omega))
        have hgr := grown cap (by omega) (Value.ownBlock (.slice (some ⟨g, 0, none⟩) n cap))
        exact ⟨_, _, hr, hgr.1, hgr.2, .inr rfl⟩
end Go.Proofs.Ytnffelnmlloonaa
