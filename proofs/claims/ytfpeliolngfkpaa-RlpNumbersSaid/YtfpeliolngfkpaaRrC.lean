/- What stays while a call appends to a row of its own; what the heads of items in bytes are: appendHead of package rlp, and the document's Head. -/
import Derived.Test.YtfpeliolngfkpaaRrB
namespace Go.Proofs.Ytfpeliolngfkpaa
open Go.RowKit SmWord
set_option maxRecDepth 100000

/-- Blocks below base stay, and all of the kinds that T doesn't name. -/
structure Keeps (base : Nat) (T : TypeId → Bool) (w w' : World) : Prop where
  below : Below base w w'
  other : ∀ (i : Nat) (c : Array Value) (t : TypeId) (fr : Nat × Nat), T t = false → w.heap[i]? = some (.cells c t fr) → w'.heap[i]? = some (.cells c t fr)
theorem Keeps.refl (base : Nat) (T : TypeId → Bool) (w : World) : Keeps base T w w := ⟨Below.refl _ _, fun _ _ _ _ _ h => h⟩
theorem Keeps.trans {base : Nat} {T : TypeId → Bool} {a b c : World} (h : Keeps base T a b) (k : Keeps base T b c) : Keeps base T a c := ⟨h.below.trans k.below, fun i d t fr ht hi => k.other i d t fr ht (h.other i d t fr ht hi)⟩
theorem Keeps.mono {base base' : Nat} {T : TypeId → Bool} {a b : World} (h : Keeps base T a b) (hb : base' ≤ base) : Keeps base' T a b := ⟨h.below.mono hb, h.other⟩
theorem Keeps.of_below {base : Nat} {T : TypeId → Bool} {w w' : World} (h : Below w.heap.size w w') (hb : base ≤ w.heap.size) : Keeps base T w w' := ⟨h.mono hb, fun _ _ _ _ _ hi => stay h hi⟩
theorem Keeps.alloc {base : Nat} {T : TypeId → Bool} {a b : World} (h : Keeps base T a b) (hb : base ≤ b.heap.size) (o : Obj) : Keeps base T a (b.alloc o) := h.trans (.of_below ((Below.refl _ _).alloc (Nat.le_refl _) _) hb)
theorem Keeps.size {base : Nat} {T : TypeId → Bool} {a b : World} (h : Keeps base T a b) : a.heap.size ≤ b.heap.size := h.below.size
theorem Keeps.grown {base : Nat} {T : TypeId → Bool} {a w w' : World} {e : TypeId} {s : Nat} {v : Value} {k : Nat} {xs : List Value} (h : Keeps base T a w) (g : w.grownBy w' v.ownBlock) (hown : w.ownsRow base e s v k xs) (hT : T e = true) (hb : base ≤ w.heap.size) : Keeps base T a w' :=
  ⟨h.below.grown g hb (fun b hb' => (hown.lt b hb').1), fun i c t fr ht hi => by
    have h1 := h.other i c t fr ht hi
    rw [g.block i (Array.getElem?_eq_some_iff.1 h1).1, h1]
    intro e1
    rcases hown.2 with ⟨rfl, _⟩ | ⟨b, cap, cur, rfl, _, hg, _⟩
    · cases e1
    · cases e1
      rw [h1] at hg
      cases hg
      rw [hT] at ht
      cases ht⟩
theorem Keeps.setCell {base : Nat} {T : TypeId → Bool} {a w : World} (h : Keeps base T a w) {b j : Nat} {c : Array Value} {e : TypeId} (hb : w.heap[b]? = some (.cells c e)) (hT : T e = true) (hle : base ≤ b) (v : Value) : Keeps base T a (w.setCell ⟨b, j, none⟩ v) :=
  ⟨h.below.setCell hle v, fun i d t fr ht hi => by
    have h1 := h.other i d t fr ht hi
    by_cases hne : i = b
    · subst hne
      rw [h1] at hb
      cases hb
      rw [hT] at ht
      cases ht
    · exact blk_other h1 hne v⟩
theorem own_keeps {base base' : Nat} {T : TypeId → Bool} {w w' : World} {e : TypeId} {s : Nat} {v : Value} {k : Nat} {xs : List Value} (hown : w.ownsRow base e s v k xs) (h : Keeps base' T w w') (hT : T e = false) : w'.ownsRow base e s v k xs := by
  refine ⟨hown.1, ?_⟩
  rcases hown.2 with h1 | ⟨g, cap, cur, h1, h2, h3, h4⟩
  · exact .inl h1
  · exact .inr ⟨g, cap, cur, h1, h2, h.other g cur e _ hT h3, h4⟩
theorem own_below {base : Nat} {w w' : World} {e : TypeId} {s : Nat} {v : Value} {k : Nat} {xs : List Value} (hown : w.ownsRow base e s v k xs) (h : Below w.heap.size w w') : w'.ownsRow base e s v k xs :=
  own_keeps (T := fun _ => false) hown (Keeps.of_below (base := 0) h (Nat.zero_le _)) rfl
theorem Sl.kept {w w' : World} {b off n : Nat} {f : Nat → Nat} (h : Sl w (some ⟨b, off, none⟩) n f) (g : w'.heap[b]? = w.heap[b]?) (hs : w.heap.size ≤ w'.heap.size) : Sl w' (some ⟨b, off, none⟩) n f :=
  ⟨h.small, fun hn => by
    obtain ⟨b', off', e, hlt, hc⟩ := h.cells hn
    cases e
    exact ⟨b, off, rfl, Nat.lt_of_lt_of_le hlt hs, fun i hi => (World.cell?_of_block (a := ⟨b, off + i, none⟩) g).trans (hc i hi)⟩⟩
/-- Rows of bytes. -/
def U8 (t : TypeId) : Bool := t == 5
theorem own_new1 (w : World) {base : Nat} (hb : base ≤ w.heap.size) (x : Int) : (w.alloc (.cells #[.int .u8 x] 5)).ownsRow base 5 1 (.slice (some ⟨w.heap.size, 0, none⟩) 1 1) 1 [.int .u8 x] :=
  ⟨rfl, .inr ⟨w.heap.size, 1, #[.int .u8 x], rfl, hb, heap_alloc_new _ _, Nat.le_refl _, by decide, rfl, rfl⟩⟩
theorem hea_short {n : Nat} (m : Nat) (h : n ≤ 55) : hea n m = [128 + m + n] := if_pos h
theorem hea_great {n : Nat} (m : Nat) (h : ¬ n ≤ 55) : hea n m = (183 + m + nbl n) :: bdig (nbl n) n := if_neg h
set_option maxHeartbeats 1000000 in
theorem ahead_walk (base : Nat) (v : Value) (k : Nat) (xs : List Value) (list : Bool) (n : Nat) (w : World) (hown : w.ownsRow base 5 1 v k xs) (hbase : base ≤ w.heap.size) (hk : k ≤ 140737488350000) (hn : n < B) :
    Calls Try.prog 18 #[v, .bool list, .int .u64 (n : Int)] w fun e w' => (∃ v', e = .returned v' ∧ w'.ownsRow base 5 1 v' (k + hz n) (xs ++ lb8 (hea n (if list then 64 else 0)))) ∧ Keeps base U8 w w' := by
  have hn' : n < 18446744073709551616 := hn
  obtain ⟨A0, c0, rfl⟩ := own_val hown
  obtain ⟨L, hL, hLv, hLm⟩ : ∃ L : Nat, (L = 128 ∨ L = 192) ∧ (if list then (192 : Int) else 128) = (L : Int) ∧ 128 + (if list then 64 else 0) = L := by cases list <;> exact ⟨_, by decide, rfl, rfl⟩
  have K1 := Lib.hid fun w => least_walk list w
  rw [hLv] at K1
  have HW := Lib.hid hown
  clear hown hLv
  by_cases h : n ≤ 55
  · have e1 : hz n = 1 := if_pos h
    rw [e1, hea_short _ h, hLm]
    clear e1 hLm hn
    have e2 : ((n : Int) % 256) = (n : Int) := by omega
    obtain ⟨q, hq⟩ : ∃ q : Nat, L + n = q := ⟨_, rfl⟩
    rw [hq]
    have e3 : (L : Int) + (n : Int) = (q : Int) := by omega
    have hq8 : q < 256 := by omega
    have o2 := HW.out.alloc (.cells #[.int .u8 (q : Int)] 5)
    have HX := Lib.hid o2
    have b2 : Keeps base U8 w (w.alloc (.cells #[.int .u8 (q : Int)] 5)) := (Keeps.refl _ _ _).alloc hbase _
    have HB := Lib.hid b2
    have hs2 := Nat.le_trans hbase b2.size
    clear HW o2 b2 hq hL
    go_enter Try.func18, Try.ntmps18
    go_wp2_with fail
    refine (K1.out _).mono ?_
    rintro e w1 ⟨rfl, rfl⟩
    go_wp2_with (at_builtin; refine append_one rfl _ _ rfl base _ k xs rfl HX.out ⟨w1.heap.size, 0, none⟩ (q : Int) rfl (cell_one_new _ _ _) (by omega) hs2 ?_)
    intro v' w' o3 g3
    have HO := Lib.hid o3
    have HG := Lib.hid (HB.out.grown g3 HX.out rfl hs2)
    clear o3 g3 HX HB
    go_wp2_with fail
    go_ret
    exact ⟨⟨_, rfl, HO.out⟩, HG.out⟩
  · have e1 : hz n = 1 + nbl n := by rw [hz, if_neg h, Nat.add_comm]
    have hm8 := nbl_8 hn
    have e4 : (183 + (if list then 64 else 0) + nbl n) = L + 55 + nbl n := by omega
    rw [e1, hea_great _ h, e4, show ∀ x : Nat, ∀ l : List Nat, lb8 (x :: l) = Value.int .u8 (x : Int) :: lb8 l from fun _ _ => rfl, lb8_nf]
    have K2 := Lib.hid fun w => of_wd n w hn
    have K3 := Lib.hid fun w => number_walk n w (Nat.lt_trans hn (by decide))
    clear e1 e4 hLm hn
    generalize nbl n = m at *
    have e2 : (m : Int) % 256 = (m : Int) := by omega
    obtain ⟨q1, hq1⟩ : ∃ q : Nat, L + 55 = q := ⟨_, rfl⟩
    obtain ⟨q, hq⟩ : ∃ q : Nat, q1 + m = q := ⟨_, rfl⟩
    rw [hq1, hq]
    have e3 : (L : Int) + 55 = (q1 : Int) := by omega
    have e5 : (q1 : Int) + (m : Int) = (q : Int) := by omega
    have hq8 : q < 256 := by omega
    have hq9 : q1 < 256 := by omega
    clear hq hq1 hL
    go_enter Try.func18, Try.ntmps18
    go_wp2_with fail
    refine (K1.out _).mono ?_
    rintro e w1 ⟨rfl, rfl⟩
    go_wp2_with fail
    refine (K2.out _).mono ?_
    rintro e w2 ⟨rfl, b1⟩
    go_wp2_with fail
    refine (K3.out _).mono ?_
    rintro e w3 ⟨⟨nb, no, rfl, hnb, hs⟩, b2⟩
    have b3 := b1.trans (b2.mono b1.size)
    have o3 := own_below HW.out b3
    have HX := Lib.hid (o3.alloc (.cells #[.int .u8 (q : Int)] 5))
    have k3 : Keeps base U8 w1 (w3.alloc (.cells #[.int .u8 (q : Int)] 5)) := (Keeps.of_below b3 hbase).alloc (Nat.le_trans hbase b3.size) _
    have HB := Lib.hid k3
    have HS := Lib.hid (hs.below ((Below.refl _ _).alloc (Nat.le_refl _) (.cells #[.int .u8 (q : Int)] 5)))
    have hs2 := Nat.le_trans hbase k3.size
    have hne : ∀ b, (Value.slice A0 k c0).ownBlock = some b → b < nb := fun b hb => by have h1 := (HW.out.lt b hb).2; have h2 := b1.size; omega
    have HN := Lib.hid hne
    clear b1 b2 b3 o3 k3 HW hs hne hnb
    go_wp2_with (at_builtin; refine append_one rfl _ _ rfl base _ k xs rfl HX.out ⟨w3.heap.size, 0, none⟩ (q : Int) rfl (cell_one_new _ _ _) (by omega) hs2 ?_)
    intro v' w' o3 g3
    have HG := Lib.hid (HB.out.grown g3 HX.out rfl hs2)
    have hs5 : base ≤ w'.heap.size := Nat.le_trans hbase HG.out.size
    have hd : m = 0 ∨ 0 < m := by omega
    have HS' : Hid (Sl w' (some ⟨nb, no, none⟩) m (nf n)) := Lib.hid (by
      rcases hd with rfl | hm
      · exact ⟨fun i hi => by omega, fun hi => by omega⟩
      · obtain ⟨_, _, e, hl, _⟩ := HS.out.cells hm
        cases e
        exact HS.out.kept (g3.block nb hl (fun e => Nat.lt_irrefl _ (HN.out nb e.symm))) g3.size)
    have HO := Lib.hid o3
    clear o3 g3 HX HB HS HN hd
    go_wp2_with (at_builtin; refine append_sl rfl _ _ rfl base _ (k + 1) _ rfl HO.out _ m _ (nf n) rfl (fun h => by cases h) HS'.out (by omega) hs5 ?_)
    intro v2 w4 o4 g4
    have HG2 := Lib.hid (HG.out.grown g4 HO.out rfl hs5)
    have HO2 := Lib.hid o4
    clear o4 g4 HG HO HS'
    go_wp2_with fail
    go_ret
    have := HO2.out
    rw [Nat.add_assoc] at this
    exact ⟨⟨_, rfl, this⟩, HG2.out⟩
set_option maxHeartbeats 1000000 in
theorem rhead_walk (n m : Nat) (w : World) (hn : n ≤ 1000000000) (hm : m = 0 ∨ m = 64) :
    Calls Try.prog 33 #[.int .i64 (n : Int), .int .i64 (m : Int)] w fun e w' => (∃ v', e = .returned v' ∧ w'.ownsRow w.heap.size 5 1 v' (hz n) (lb8 (hea n m))) ∧ Below w.heap.size w w' := by
  by_cases h : n ≤ 55
  · have e1 : hz n = 1 := if_pos h
    rw [e1, hea_short _ h]
    obtain ⟨q1, hq1⟩ : ∃ q : Nat, 128 + m = q := ⟨_, rfl⟩
    obtain ⟨q, hq⟩ : ∃ q : Nat, q1 + n = q := ⟨_, rfl⟩
    rw [hq1, hq]
    have e2 : (128 : Int) + (m : Int) = (q1 : Int) := by omega
    have e3 : (q1 : Int) + (n : Int) = (q : Int) := by omega
    have e4 : (q : Int) % 256 = (q : Int) := by omega
    have o2 := Lib.hid (own_new1 w (Nat.le_refl _) (q : Int))
    clear hq hq1 hm e1
    go_enter Try.func33, Try.ntmps33
    go_wp2_with fail
    go_ret
    exact ⟨⟨_, rfl, o2.out⟩, (Below.refl _ _).alloc (Nat.le_refl _) _⟩
  · have e1 : hz n = 1 + nbl n := by rw [hz, if_neg h, Nat.add_comm]
    have hB : n < B := Nat.lt_of_le_of_lt hn (by decide)
    have hm8 := nbl_8 hB
    have K3 := fun w => rnumber_walk n w (Nat.lt_trans hB (by decide))
    have hv : wd n = .agg #[.int .u64 (n : Int), .int .u64 0, .int .u64 0, .int .u64 0] := by
      have := wd_num (a := n) (b := 0) (c := 0) (d := 0) hB (by decide) (by decide) (by decide)
      simpa [num] using this
    rw [hv] at K3
    replace K3 := Lib.hid K3
    have hf := Lib.hid (nf_lt n)
    rw [e1, hea_great _ h, show ∀ x : Nat, ∀ l : List Nat, lb8 (x :: l) = Value.int .u8 (x : Int) :: lb8 l from fun _ _ => rfl, lb8_nf]
    clear e1 hv hB
    generalize nbl n = k at *
    obtain ⟨q1, hq1⟩ : ∃ q : Nat, 183 + m = q := ⟨_, rfl⟩
    obtain ⟨q, hq⟩ : ∃ q : Nat, q1 + k = q := ⟨_, rfl⟩
    rw [hq1, hq]
    have e2 : (183 : Int) + (m : Int) = (q1 : Int) := by omega
    have e3 : (q1 : Int) + (k : Int) = (q : Int) := by omega
    have e4 : (q : Int) % 256 = (q : Int) := by omega
    clear hq hq1 hm
    go_enter Try.func33, Try.ntmps33
    go_wp2_with fail
    refine (K3.out _).mono ?_
    rintro e w1 ⟨⟨v1, rfl, o1⟩, b1⟩
    obtain ⟨A1, c1, rfl, hc1, hA1, hs1⟩ := own_sl o1 hf.out
    have bW : Below w.heap.size w (w1.alloc (.cells #[.int .u8 (q : Int)] 5)) := b1.alloc b1.size _
    have o2 := own_new1 w1 b1.size (q : Int)
    have HS := Lib.hid (hs1.below ((Below.refl _ _).alloc (Nat.le_refl _) (.cells #[.int .u8 (q : Int)] 5)))
    have hs2 := bW.size
    have HB := Lib.hid bW
    have HO := Lib.hid o2
    have HA := Lib.hid hA1
    clear o1 b1 bW hs1 o2 hA1 hf
    go_wp2_with (at_builtin; refine append_sl rfl _ _ rfl w.heap.size _ 1 [.int .u8 (q : Int)] rfl HO.out _ k _ (nf n) rfl HA.out HS.out (by omega) hs2 ?_)
    intro v2 w4 o4 g4
    have HG2 := Lib.hid (HB.out.grown g4 hs2 (fun b hb' => (HO.out.lt b hb').1))
    have HO2 := Lib.hid o4
    clear o4 g4 HO HS HB HA
    go_wp2_with fail
    go_ret
    exact ⟨⟨_, rfl, HO2.out⟩, HG2.out⟩
end Go.Proofs.Ytfpeliolngfkpaa
