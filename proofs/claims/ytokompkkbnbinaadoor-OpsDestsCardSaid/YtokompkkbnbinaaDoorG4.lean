/- What the small functions of package rlp do: bare, leastHead, headSize, Number; and the document's Number. -/
import Derived.Test.YtokompkkbnbinaaDoorG3
namespace Go.Proofs.YtokompkkbnbinaaDoor
open Go.RowKit SmWord
set_option maxRecDepth 100000

theorem nbl_bl (n : Nat) : (bl n + 7) / 8 = nbl n := by
  unfold bl nbl
  split
  · rfl
  · omega
theorem nbl_8 {n : Nat} (hn : n < B) : nbl n ≤ 8 := nbl_le_of (by simpa [B] using hn)
/-- How many bytes a head has. -/
def hz (n : Nat) : Nat := if n ≤ 55 then 1 else nbl n + 1
theorem hea_hz (n m : Nat) : (hea n m).length = hz n := by
  unfold hea hz
  split
  · rfl
  · simp [bdig_length]
theorem hz_le {n : Nat} (hn : n < B) : hz n ≤ 9 := by
  have := nbl_8 hn
  unfold hz
  split <;> omega
theorem Tryd.len32 : Tryd.prog.arrayLen 80 = 32 := by kernel_rfl
theorem slice32 (b j : Nat) (w : World) (h : j ≤ 32) : (Instr.sliceAt 80 (.pointer (some ⟨b, 0, none⟩)) (some (.int .i64 (j : Int))) none none).run Tryd.prog w = .ok (.slice (some ⟨b, if j = 32 then 0 else j, none⟩) (32 - j) (32 - j)) w := by
  have e := run_sliceAt_array_l (P := Tryd.prog) w 80 ⟨b, 0, none⟩ (by kernel_rfl) .i64 (j : Int) (by omega) (by rw [Tryd.len32]; omega)
  rw [e, Tryd.len32, show Tryd.prog.elem 80 = 5 by kernel_rfl, Tryd.sizeOf5]
  simp only [slicedAt, Result.andThen_ok, Int.toNat_natCast]
  by_cases hj : j = 32
  · subst hj
    rfl
  · have a1 : ¬ (32 : Nat) = j := fun h => hj h.symm
    simp [hj, a1, Addr.add]
    intro h0
    subst h0
    rfl
/-- The bytes of a number by their place, the highest first, without noughts. -/
def nf (n i : Nat) : Nat := (bdig (nbl n) n).getD i 0
theorem nf_lt (n : Nat) : ∀ i, i < nbl n → nf n i < 256 := fun i hi => by
  unfold nf
  rw [bdig_get _ _ _ hi]
  omega
theorem lb8_nf (n : Nat) : lb8 (bdig (nbl n) n) = bb (nf n) (nbl n) := by
  rw [lb8_bb, bdig_length]
  rfl
/-- A new row of no bytes. -/
theorem own_none (w : World) {base : Nat} (hb : base ≤ w.heap.size) : (w.alloc (.cells #[] 5)).ownsRow base 5 1 (.slice (some ⟨w.heap.size, 0, none⟩) 0 0) 0 [] :=
  ⟨rfl, .inr ⟨w.heap.size, 0, #[], rfl, hb, heap_alloc_new _ _, Nat.le_refl _, Nat.zero_le _, rfl, rfl⟩⟩
/-- The noughts ahead, one after another. -/
theorem ahead_zero {n k : Nat} (hn : n < 256 ^ 32) (hk : k < 32 - nbl n) : dig n (31 - k) = 0 := by
  have h := bdig_nought (n := n) (k := 32) (i := k) (by omega) (nbl_le_of hn)
  rw [bdig_get _ _ _ (by omega)] at h
  unfold dig
  exact h
theorem ahead_end {n : Nat} (hn : n < 256 ^ 32) (h : 0 < nbl n) : dig n (31 - (32 - nbl n)) ≠ 0 := by
  have h0 : n ≠ 0 := by rintro rfl; simp [nbl] at h
  have hk := nbl_le_of hn
  have h := bdig_first (n := n) (k := 32) h0 hk
  rw [bdig_get _ _ _ (by omega)] at h
  unfold dig
  exact h
end Go.Proofs.YtokompkkbnbinaaDoor
/- What stays while a call appends to a row of its own; what the heads of items in bytes are: appendHead of package rlp, and the document's Head. -/
namespace Go.Proofs.YtokompkkbnbinaaDoor
open Go.RowKit SmWord
set_option maxRecDepth 100000

/-- Blocks below base stay, and all of the kinds that T doesn't name. -/
structure Keeps (base : Nat) (T : TypeId → Bool) (w w' : World) : Prop where
  below : Below base w w'
  other : ∀ (i : Nat) (c : Array Value) (t : TypeId) (fr : Nat × Nat), T t = false → w.heap[i]? = some (.cells c t fr) → w'.heap[i]? = some (.cells c t fr)
theorem Keeps.refl (base : Nat) (T : TypeId → Bool) (w : World) : Keeps base T w w := ⟨Below.refl _ _, fun _ _ _ _ _ h => h⟩
theorem Keeps.trans {base : Nat} {T : TypeId → Bool} {a b c : World} (h : Keeps base T a b) (k : Keeps base T b c) : Keeps base T a c := ⟨h.below.trans k.below, fun i d t fr ht hi => k.other i d t fr ht (h.other i d t fr ht hi)⟩
theorem Keeps.mono {base base' : Nat} {T : TypeId → Bool} {a b : World} (h : Keeps base T a b) (hb : base' ≤ base) : Keeps base' T a b := ⟨h.below.mono hb, h.other⟩
theorem Keeps.of_below {base : Nat} {T : TypeId → Bool} {w w' : World} (h : Below w.heap.size w w') (hb : base ≤ w.heap.size) : Keeps base T w w' := ⟨h.mono hb, fun _ _ _ _ _ hi => stay h hi⟩
theorem Keeps.alloc {base : Nat} {T : TypeId → Bool} {a b : World} (h : Keeps base T a b) (hb : base ≤ b.heap.size) (o : Obj) : Keeps base T a (b.alloc o) := h.trans (.of_below ((Below.refl _ _).alloc (Nat.le_refl _) _) hb)
theorem Keeps.size {base : Nat} {T : TypeId → Bool} {a b : World} (h : Keeps base T a b) : a.heap.size ≤ b.heap.size := h.below.size
theorem Keeps.grown {base : Nat} {T : TypeId → Bool} {a w w' : World} {e : TypeId} {s : Nat} {v : Value} {k : Nat} {xs : List Value} (h : Keeps base T a w) (g : w.grownBy w' v.ownBlock) (hown : w.ownsRow base e s v k xs) (hT : T e = true) (hb : base ≤ w.heap.size) : Keeps base T a w' :=
  ⟨h.below.grown g hb (fun b hb' => (hown.lt b hb').1), fun i c t fr ht hi => by
    have h1 := h.other i c t fr ht hi
    rw [g.block i (Array.getElem?_eq_some_iff.1 h1).1, h1]
    intro e1
    rcases hown.2 with ⟨rfl, _⟩ | ⟨b, cap, cur, rfl, _, hg, _⟩
    · cases e1
    · cases e1
      rw [h1] at hg
      cases hg
      rw [hT] at ht
      cases ht⟩
theorem Keeps.setCell {base : Nat} {T : TypeId → Bool} {a w : World} (h : Keeps base T a w) {b j : Nat} {c : Array Value} {e : TypeId} (hb : w.heap[b]? = some (.cells c e)) (hT : T e = true) (hle : base ≤ b) (v : Value) : Keeps base T a (w.setCell ⟨b, j, none⟩ v) :=
  ⟨h.below.setCell hle v, fun i d t fr ht hi => by
    have h1 := h.other i d t fr ht hi
    by_cases hne : i = b
    · subst hne
      rw [h1] at hb
      cases hb
      rw [hT] at ht
      cases ht
    · exact blk_other h1 hne v⟩
theorem own_keeps {base base' : Nat} {T : TypeId → Bool} {w w' : World} {e : TypeId} {s : Nat} {v : Value} {k : Nat} {xs : List Value} (hown : w.ownsRow base e s v k xs) (h : Keeps base' T w w') (hT : T e = false) : w'.ownsRow base e s v k xs := by
  refine ⟨hown.1, ?_⟩
  rcases hown.2 with h1 | ⟨g, cap, cur, h1, h2, h3, h4⟩
  · exact .inl h1
  · exact .inr ⟨g, cap, cur, h1, h2, h.other g cur e _ hT h3, h4⟩
theorem own_below {base : Nat} {w w' : World} {e : TypeId} {s : Nat} {v : Value} {k : Nat} {xs : List Value} (hown : w.ownsRow base e s v k xs) (h : Below w.heap.size w w') : w'.ownsRow base e s v k xs :=
  own_keeps (T := fun _ => false) hown (Keeps.of_below (base := 0) h (Nat.zero_le _)) rfl
theorem Sl.kept {w w' : World} {b off n : Nat} {f : Nat → Nat} (h : Sl w (some ⟨b, off, none⟩) n f) (g : w'.heap[b]? = w.heap[b]?) (hs : w.heap.size ≤ w'.heap.size) : Sl w' (some ⟨b, off, none⟩) n f :=
  ⟨h.small, fun hn => by
    obtain ⟨b', off', e, hlt, hc⟩ := h.cells hn
    cases e
    exact ⟨b, off, rfl, Nat.lt_of_lt_of_le hlt hs, fun i hi => (World.cell?_of_block (a := ⟨b, off + i, none⟩) g).trans (hc i hi)⟩⟩
/-- Rows of bytes. -/
def U8 (t : TypeId) : Bool := t == 5
theorem own_new1 (w : World) {base : Nat} (hb : base ≤ w.heap.size) (x : Int) : (w.alloc (.cells #[.int .u8 x] 5)).ownsRow base 5 1 (.slice (some ⟨w.heap.size, 0, none⟩) 1 1) 1 [.int .u8 x] :=
  ⟨rfl, .inr ⟨w.heap.size, 1, #[.int .u8 x], rfl, hb, heap_alloc_new _ _, Nat.le_refl _, by decide, rfl, rfl⟩⟩
theorem hea_short {n : Nat} (m : Nat) (h : n ≤ 55) : hea n m = [128 + m + n] := if_pos h
theorem hea_great {n : Nat} (m : Nat) (h : ¬ n ≤ 55) : hea n m = (183 + m + nbl n) :: bdig (nbl n) n := if_neg h
end Go.Proofs.YtokompkkbnbinaaDoor
