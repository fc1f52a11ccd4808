/- The statement MemNil at every call: it returns true. -/
import Derived.Test.YtnffelnmlloonaaG8
import Derived.Test.YtnffelnmlloonaaG7
namespace Go.Proofs.Ytnffelnmlloonaa
open Go.RowKit SmWord
set_option maxRecDepth 100000

/-- The cells of a call that lies in a block. -/
theorem op_cells {w : World} {b : Nat} {x : OpV} {t : TypeId} (hb : w.heap[b]? = some (.cells (oa x) t)) :
    w.cell? ⟨b, 0, none⟩ = some (.int .i64 x.kd) ∧ w.cell? ⟨b, 1, none⟩ = some (.int .i64 x.n) ∧ w.cell? ⟨b, 2, none⟩ = some (.int .i64 x.m) ∧ w.cell? ⟨b, 3, none⟩ = some (.int .i64 x.k) ∧
    w.cell? ⟨b, 4, none⟩ = some (.int .u64 ((l0 x.a : Nat) : Int)) ∧ w.cell? ⟨b, 5, none⟩ = some (.int .u64 ((l1 x.a : Nat) : Int)) ∧ w.cell? ⟨b, 6, none⟩ = some (.int .u64 ((l2 x.a : Nat) : Int)) ∧ w.cell? ⟨b, 7, none⟩ = some (.int .u64 ((l3 x.a : Nat) : Int)) ∧
    w.cell? ⟨b, 8, none⟩ = some (.int .u64 ((l0 x.b : Nat) : Int)) ∧ w.cell? ⟨b, 9, none⟩ = some (.int .u64 ((l1 x.b : Nat) : Int)) ∧ w.cell? ⟨b, 10, none⟩ = some (.int .u64 ((l2 x.b : Nat) : Int)) ∧ w.cell? ⟨b, 11, none⟩ = some (.int .u64 ((l3 x.b : Nat) : Int)) ∧
    w.cell? ⟨b, 12, none⟩ = some (.slice x.dA x.dn x.dc) :=
  ⟨blk_cell hb rfl, blk_cell hb rfl, blk_cell hb rfl, blk_cell hb rfl, blk_cell hb rfl, blk_cell hb rfl, blk_cell hb rfl, blk_cell hb rfl, blk_cell hb rfl, blk_cell hb rfl, blk_cell hb rfl, blk_cell hb rfl, blk_cell hb rfl⟩
set_option maxHeartbeats 2000000 in
theorem nil_walk (x : OpV) (w : World) : Calls Try.prog 7 #[.agg (oa x)] w fun e w' => e = .returned (.bool true) ∧ Below w.heap.size w w' := by
  have f0 : (w.alloc (.cells (oa x) 32)).heap[w.heap.size]? = some (.cells (oa x) 32) := heap_alloc_new _ _
  have HB := Lib.hid ((Below.refl w.heap.size w).alloc (Nat.le_refl _) (.cells (oa x) 32))
  have KF := Lib.hid mfixed_walk
  have fo := fold_w
  have F0 := Lib.hid f0
  generalize hW : w.alloc (.cells (oa x) 32) = W at *
  obtain ⟨z, hz⟩ : ∃ z, w.heap.size = z := ⟨_, rfl⟩
  rw [hz] at HB F0
  have fin : ∀ w2, Below z w w2 → Below w.heap.size w w2 := fun w2 h => by rw [hz]; exact h
  have FIN := Lib.hid fin
  have hzW : z ≤ W.heap.size := by rw [← hz, ← hW]; simp
  obtain ⟨_, _, _, _, _, _, _, _, _, _, _, _, c12⟩ := op_cells F0.out
  clear f0 fin
  have ew : ∀ w, (Op.equalIn 10000 30 (.agg (wa 0)) (.agg (wa 0))).run Try.prog w = .ok true w := fun w => by rw [equal_wa]; simp
  have g1 := Try.guardW
  by_cases hlen : x.dn ≤ 1000
  · have c1 : decide (1000 < (x.dn : Int)) = false := by simp; omega
    go_enter Try.func7, Try.ntmps7
    go_upto_region 5 with fail
    clear c12 hW
    obtain ⟨p0, p1, p2, p3, p4, p5, p6, p7, p8, p9, p10, p11, p12⟩ := op_cells F0.out
    go_wp2_with fail
    refine (mcost_nil x.a x.b _).mono ?_
    rintro e w1 ⟨rfl, b1⟩
    clear p0 p1 p2 p3 p4 p5 p6 p7 p8 p9 p10 p11 p12
    replace F0 := Lib.hid (stay b1 F0.out)
    replace HB := Lib.hid (HB.out.trans (b1.mono hzW))
    have hz1 := Nat.le_trans hzW b1.size
    clear b1
    obtain ⟨p0, p1, p2, p3, p4, p5, p6, p7, p8, p9, p10, p11, p12⟩ := op_cells F0.out
    go_wp2_with fail
    refine (mwrite_nil x.n x.dA x.dn x.dc _).mono ?_
    rintro e w2 ⟨rfl, rfl⟩
    go_wp2_with fail
    refine (mcopy_nil x.n x.m x.k _).mono ?_
    rintro e w3 ⟨rfl, rfl⟩
    go_wp2_with fail
    refine (msetword_nil x.n x.a _).mono ?_
    rintro e w4 ⟨rfl, b4⟩
    clear p0 p1 p2 p3 p4 p5 p6 p7 p8 p9 p10 p11 p12
    replace F0 := Lib.hid (stay b4 F0.out)
    replace HB := Lib.hid (HB.out.trans (b4.mono hz1))
    have hz4 := Nat.le_trans hz1 b4.size
    clear b4
    go_wp2_with fail
    refine (spop_nil _).mono ?_
    rintro e w5 ⟨rfl, b5⟩
    replace F0 := Lib.hid (stay b5 F0.out)
    replace HB := Lib.hid (HB.out.trans (b5.mono hz4))
    have hz5 := Nat.le_trans hz4 b5.size
    clear b5
    have hs0 := store_wa0
    have hsz := wa_size
    have hzw := z4_w0
    go_upto_region 10 with fail
    clear hs0
    have Aw5 := Lib.hid (heap_alloc_new w5 (.cells (wa 0) 30))
    have Fw5 := Lib.hid (blk_alloc (o' := .cells (wa 0) 30) F0.out)
    have Bw5 := Lib.hid (HB.out.alloc hz5 (.cells (wa 0) 30))
    have Hw5 : z ≤ (w5.alloc (.cells (wa 0) 30)).heap.size := by simp; omega
    have KW := word_ref 0
    have hzD : da 0 = arr .i64 32 (fun _ => 0) := arr_congr fun i hi => by simp [dig]
    generalize (w5.alloc (.cells (wa 0) 30)) = v5 at *
    generalize w5.heap.size = y5 at *
    go_wp2_with (first
      | (go_at_call 11; refine (KF.out _).mono ?_; rintro e w6 ⟨rfl, bbw6⟩; have Fw6 := Lib.hid (stay bbw6 Fw5.out); have Aw6 := Lib.hid (stay bbw6 Aw5.out); have Bw6 := Lib.hid (Bw5.out.trans (bbw6.mono Hw5)); have Hw6 := Nat.le_trans Hw5 bbw6.size; clear bbw6; obtain ⟨p0, p1, p2, p3, p4, p5, p6, p7, p8, p9, p10, p11, p12⟩ := op_cells Fw6.out; obtain ⟨u0, u1, u2, u3⟩ := wcells Aw6.out)
      | (go_at_call 27; refine (mlen_nil _).mono ?_; rintro e x1 ⟨rfl, rfl⟩)
      | (go_at_call 16; refine (mreach_nil x.a x.b _).mono ?_; rintro e w7 ⟨rfl, bbw7⟩; have Fw7 := Lib.hid (stay bbw7 Fw6.out); have Aw7 := Lib.hid (stay bbw7 Aw6.out); have Bw7 := Lib.hid (Bw6.out.trans (bbw7.mono Hw6)); have Hw7 := Nat.le_trans Hw6 bbw7.size; clear bbw7; obtain ⟨p0, p1, p2, p3, p4, p5, p6, p7, p8, p9, p10, p11, p12⟩ := op_cells Fw7.out; obtain ⟨u0, u1, u2, u3⟩ := wcells Aw7.out)
      | (go_at_call 24; refine (mread_nil x.n x.k _).mono ?_; rintro e x2 ⟨rfl, rfl⟩)
      | (go_at_call 25; refine (mword_nil x.n _).mono ?_; rintro e w8 ⟨rfl, bbw8⟩; have Fw8 := Lib.hid (stay bbw8 Fw7.out); have Aw8 := Lib.hid (stay bbw8 Aw7.out); have Bw8 := Lib.hid (Bw7.out.trans (bbw8.mono Hw7)); have Hw8 := Nat.le_trans Hw7 bbw8.size; clear bbw8; obtain ⟨p0, p1, p2, p3, p4, p5, p6, p7, p8, p9, p10, p11, p12⟩ := op_cells Fw8.out; obtain ⟨u0, u1, u2, u3⟩ := wcells Aw8.out)
      | (go_at_call 39; refine (KW _).mono ?_; rintro e w9 ⟨rfl, bbw9⟩; have Fw9 := Lib.hid (stay bbw9 Fw8.out); have Aw9 := Lib.hid (stay bbw9 Aw8.out); have Bw9 := Lib.hid (Bw8.out.trans (bbw9.mono Hw8)); have Hw9 := Nat.le_trans Hw8 bbw9.size; clear bbw9; obtain ⟨p0, p1, p2, p3, p4, p5, p6, p7, p8, p9, p10, p11, p12⟩ := op_cells Fw9.out; obtain ⟨u0, u1, u2, u3⟩ := wcells Aw9.out)
      | (go_at_call 36; refine (slen_nil _).mono ?_; rintro e x3 ⟨rfl, rfl⟩)
      | (go_at_call 32; refine (spush_nil x.a _).mono ?_; rintro e wA ⟨rfl, bbwA⟩; have FwA := Lib.hid (stay bbwA Fw9.out); have AwA := Lib.hid (stay bbwA Aw9.out); have BwA := Lib.hid (Bw9.out.trans (bbwA.mono Hw9)); have HwA := Nat.le_trans Hw9 bbwA.size; clear bbwA; obtain ⟨p0, p1, p2, p3, p4, p5, p6, p7, p8, p9, p10, p11, p12⟩ := op_cells FwA.out; obtain ⟨u0, u1, u2, u3⟩ := wcells AwA.out)
      | (go_at_call 34; refine (sdup_nil x.n _).mono ?_; rintro e x4 ⟨rfl, rfl⟩)
      | (go_at_call 35; refine (sswap_nil x.n _).mono ?_; rintro e x5 ⟨rfl, rfl⟩)
      | (go_at_call 38; refine (sall_nil _).mono ?_; rintro e x6 ⟨rfl, rfl⟩))
    go_ret
    exact ⟨rfl, FIN.out _ BwA.out⟩
  · have c1 : decide (1000 < (x.dn : Int)) = true := by simp; omega
    go_enter Try.func7, Try.ntmps7
    go_wp2_with (go_at_call 11; refine (KF.out _).mono ?_; rintro e w6 ⟨rfl, b6⟩)
    go_ret
    exact ⟨rfl, FIN.out _ (HB.out.trans (b6.mono hzW))⟩
end Go.Proofs.Ytnffelnmlloonaa
