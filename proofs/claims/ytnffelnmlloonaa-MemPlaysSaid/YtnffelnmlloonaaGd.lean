/- A stack and the document's row of words beside each other. -/
import Derived.Test.YtnffelnmlloonaaGc
namespace Go.Proofs.Ytnffelnmlloonaa
open Go.RowKit SmWord
set_option maxRecDepth 100000

/-- Two rows of one's own lie apart. -/
def Dis (v u : Value) : Prop := ∀ g, v.ownBlock = some g → u.ownBlock ≠ some g
theorem WOwn.blk {w : World} {base n : Nat} {u : Value} {X : Nat → Nat} (h : WOwn w base u n X) {g : Nat} (hg : u.ownBlock = some g) : base ≤ g ∧ g < w.heap.size := World.ownsRow.lt h g hg
theorem WOwn.keep {w w' : World} {base n : Nat} {u : Value} {X : Nat → Nat} (h : WOwn w base u n X) (hk : ∀ g, u.ownBlock = some g → w'.heap[g]? = w.heap[g]?) : WOwn w' base u n X := by
  refine ⟨h.1, ?_⟩
  rcases h.2 with h1 | ⟨g, cap, cur, rfl, h2, h3, h4⟩
  · exact .inl h1
  · exact .inr ⟨g, cap, cur, rfl, h2, (hk g rfl).trans h3, h4⟩
theorem WOwn.below {w w' : World} {base n : Nat} {u : Value} {X : Nat → Nat} (h : WOwn w base u n X) (hb : Below w.heap.size w w') : WOwn w' base u n X := own_below h hb
theorem WOwn.off {w w' : World} {base sb n m : Nat} {v u : Value} {X Y : Nat → Nat} (h : WOwn w base u n X) (hs : StackAt w base sb v m Y) (hd : Dis v u) (ho : Off base sb v w w') : WOwn w' base u n X :=
  h.keep fun g hg => ho.block g (h.blk hg).2 (fun e => own_ne h hs.blk (by decide) (by rw [hg, e])) (fun e => hd g e hg)
theorem Dis.off {w w' : World} {base sb n : Nat} {v v' u : Value} {X : Nat → Nat} (hd : Dis v u) (hu : WOwn w base u n X) (ho : SOff base sb v v' w w') : Dis v' u := fun g hg => by
  rcases ho.own with h | ⟨g', h, hl⟩
  · exact hd g (h.symm.trans hg)
  · intro e
    rw [h] at hg
    cases hg
    have := (hu.blk e).2
    omega
theorem StackAt.keep {w w' : World} {base sb n : Nat} {v : Value} {X : Nat → Nat} (h : StackAt w base sb v n X) (hb : w'.heap[sb]? = w.heap[sb]?) (hk : ∀ g, v.ownBlock = some g → w'.heap[g]? = w.heap[g]?) : StackAt w' base sb v n X :=
  ⟨hb.trans h.blk, h.own.keep hk, h.le, h.small, h.len⟩
theorem StackAt.grown {w w' : World} {base sb n m : Nat} {v u : Value} {X Y : Nat → Nat} (h : StackAt w base sb v n X) (hu : WOwn w base u m Y) (hd : Dis v u) (g : w.grownBy w' u.ownBlock) : StackAt w' base sb v n X :=
  h.keep (g.block sb h.lt fun e => own_ne hu h.blk (by decide) e.symm) fun k hk => g.block k (h.own.blk hk).2 fun e => hd k hk e.symm
theorem Dis.grown {w : World} {base sb n : Nat} {v u u' : Value} {X : Nat → Nat} (hd : Dis v u) (h : StackAt w base sb v n X) (hw : u'.ownBlock = u.ownBlock ∨ u'.ownBlock = some w.heap.size) : Dis v u' := fun g hg e => by
  rcases hw with hw | hw
  · exact hd g hg (hw.symm.trans e)
  · rw [hw] at e
    cases e
    have := (h.own.blk hg).2
    omega
theorem WOwn.take {w : World} {base n m c : Nat} {A : Option Addr} {X : Nat → Nat} (h : WOwn w base (.slice A n c) n X) (hm : m ≤ n) : WOwn w base (.slice A m c) m X := by
  rcases h.2 with ⟨h1, rfl⟩ | ⟨g, cap, cur, h1, hbg, hgg, hgc, hcm, hcs, htake⟩
  · obtain rfl : m = 0 := by omega
    cases h1
    exact World.ownsRow_nil _ _ _ _
  · cases h1
    refine ⟨wl_length _ _, .inr ⟨g, c, cur, rfl, hbg, hgg, by omega, hcm, hcs, ?_⟩⟩
    rw [← wl_take X hm, ← htake, List.take_take, Nat.min_eq_left (by omega)]
theorem WOwn.same {w : World} {base n : Nat} {u : Value} {X Y : Nat → Nat} (h : WOwn w base u n X) (he : ∀ i, i < n → Y i = X i) : WOwn w base u n Y := by
  unfold WOwn
  rw [wl_congr he]
  exact h
/-- A word is appended to a row of one's own. -/
theorem append_w {ops : Array Oper} {rest : List Oper} {o : Oper} {a : Act} {w : World} {Q : Exit → Act → World → Prop} (hg : o.guard = none) (s x : Operand)
    (ho : o.op = .call { callee := .builtin .append, args := #[s, x], argTypes := #[55, 55] }) (base : Nat) (v : Value) (n : Nat) (X : Nat → Nat) (hs : a.eval s = v) (hown : WOwn w base v n X)
    (g c m : Nat) (hx : a.eval x = .slice (some ⟨g, 0, none⟩) 1 c) (hgm : w.heap[g]? = some (.cells (wa m) 30)) (hn : n ≤ 100000) (hbase : base ≤ w.heap.size)
    (h : ∀ v' w', WOwn w' base v' (n + 1) (fun i => if i < n then X i else m) → w.grownBy w' v.ownBlock → (v'.ownBlock = v.ownBlock ∨ v'.ownBlock = some w.heap.size) → wpList Try.prog ops Q rest (a.put o.dst v') w') : wpList Try.prog ops Q (o :: rest) a w := by
  obtain ⟨v', w', hr, h1, h2, h3⟩ := run_append_word w base o.type v n X hown m g c hgm hn hbase
  exact Lib.wpList_append_run w hg s x _ _ ho v _ hs hx v' w' hr (h v' w' h1 h2 h3)
/-- A row of words that can be read, word by word. -/
def RdW (w : World) (A : Option Addr) (n : Nat) (X : Nat → Nat) : Prop := 0 < n → ∃ g, A = some ⟨g, 0, none⟩ ∧ ∀ i, i < n → w.cell? ⟨g, i * 4, none⟩ = some (.int .u64 ((l0 (X i) : Nat) : Int)) ∧ w.cell? ⟨g, i * 4 + 1, none⟩ = some (.int .u64 ((l1 (X i) : Nat) : Int)) ∧ w.cell? ⟨g, i * 4 + 2, none⟩ = some (.int .u64 ((l2 (X i) : Nat) : Int)) ∧ w.cell? ⟨g, i * 4 + 3, none⟩ = some (.int .u64 ((l3 (X i) : Nat) : Int))
theorem WOwn.rd {w : World} {base n c : Nat} {A : Option Addr} {X : Nat → Nat} (h : WOwn w base (.slice A n c) n X) : RdW w A n X := fun hn => by
  obtain ⟨g, c', e, _⟩ := wown_some h hn
  cases e
  exact ⟨g, rfl, fun i hi => wown_cells h hi⟩
theorem RdW.below {w w' : World} {A : Option Addr} {n : Nat} {X : Nat → Nat} (h : RdW w A n X) (hb : Below w.heap.size w w') : RdW w' A n X := fun hn => by
  obtain ⟨g, rfl, hc⟩ := h hn
  have hl : g < w.heap.size := World.block_lt_of_cell? w ⟨g, 0 * 4, none⟩ (hc 0 hn).1
  exact ⟨g, rfl, fun i hi => by
    obtain ⟨h0, h1, h2, h3⟩ := hc i hi
    exact ⟨(hb.cell (p := ⟨g, i * 4, none⟩) hl).trans h0, (hb.cell (p := ⟨g, i * 4 + 1, none⟩) hl).trans h1, (hb.cell (p := ⟨g, i * 4 + 2, none⟩) hl).trans h2, (hb.cell (p := ⟨g, i * 4 + 3, none⟩) hl).trans h3⟩⟩
theorem same_walk {A B : Option Addr} {n c d : Nat} {X : Nat → Nat} (w : World) (hn : n ≤ 100000) (hA : RdW w A n X) (hB : RdW w B n X) :
    Calls Try.prog 37 #[.slice A n c, .slice B n d] w fun e w' => e = .returned (.bool true) ∧ Below w.heap.size w w' := by
  have HA := Lib.hid hA
  have HBB := Lib.hid hB
  have ew : ∀ (m : Nat) (w : World), (Op.equalIn 10000 30 (.agg (wa m)) (.agg (wa m))).run Try.prog w = .ok true w := fun m w => by rw [equal_wa]; simp
  have g1 := Try.guardW
  clear hA hB
  go_enter Try.func37, Try.ntmps37
  go_wp2_with fail
  go_loopw [13] (fun i wr => ∃ j : Nat, j ≤ n ∧ i = .int .i64 (j : Int) ∧ Hid (Below w.heap.size w wr)) (fun i _ => n - (intOf i).toNat)
  case atStart => exact ⟨0, Nat.zero_le _, rfl, Lib.hid (Below.refl _ _)⟩
  case round =>
    obtain ⟨j, hj, rfl, HB⟩ := hrel
    by_cases hlt : j < n
    · obtain ⟨a, rfl, ha⟩ := (HA.out.below HB.out) (by omega)
      obtain ⟨b, rfl, hb⟩ := (HBB.out.below HB.out) (by omega)
      obtain ⟨q0, q1, q2, q3⟩ := ha j hlt
      obtain ⟨r0, r1, r2, r3⟩ := hb j hlt
      have hjn : (j : Int) < (n : Int) := by omega
      have fo := fold_w
      have HB2 := Lib.hid HB.out.drew
      clear ha hb HB
      go_upto_region 6 with fail
      go_region
      all_goals
        go_wp2_with fail
        exact ⟨⟨j + 1, by omega, by go_num, HB2⟩, by simp only [intOf]; omega⟩
    · obtain rfl : j = n := by omega
      go_wp2_with fail
      go_ret
      exact ⟨rfl, HB.out⟩
end Go.Proofs.Ytnffelnmlloonaa
