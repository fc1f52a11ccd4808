/- The statements' own: which calls are gone through. -/
import Derived.Test.YtnffelnmlloonaaG9
namespace Go.Proofs.Ytnffelnmlloonaa
open Go.RowKit SmWord
set_option maxRecDepth 100000

theorem lsmall_core (m : Nat) (x0 x1 x2 x3 : Nat) (w : World) (e : wa m = #[.int .u64 (x0 : Int), .int .u64 (x1 : Int), .int .u64 (x2 : Int), .int .u64 (x3 : Int)]) (ok : Bool)
    (H1 : Hid (x1 = 0 ∧ x2 = 0 ∧ x3 = 0 ∧ x0 ≤ 4194304 → ok = true)) (H2 : Hid (¬ (x1 = 0 ∧ x2 = 0 ∧ x3 = 0 ∧ x0 ≤ 4194304) → ok = false)) :
    Calls Try.prog 40 #[wd m] w fun e w' => e = .returned (.bool ok) ∧ Below w.heap.size w w' := by
  have f0 : (w.alloc (.cells (wa m) 30)).heap[w.heap.size]? = some (.cells (wa m) 30) := heap_alloc_new _ _
  rw [e] at f0
  have c0 := blk_cell (j := 0) f0 rfl
  have c1 := blk_cell (j := 1) f0 rfl
  have c2 := blk_cell (j := 2) f0 rfl
  have c3 := blk_cell (j := 3) f0 rfl
  simp only [wd, e]
  clear f0 e
  by_cases h1 : x1 = 0
  · by_cases h2 : x2 = 0
    · by_cases h3 : x3 = 0
      · by_cases h4 : x0 ≤ 4194304
        · have c : decide ((x0 : Int) ≤ 4194304) = true := by simp; omega
          obtain rfl := H1.out ⟨h1, h2, h3, h4⟩
          go_enter Try.func40, Try.ntmps40
          go_wp2_with fail
          go_ret
          exact ⟨rfl, (Below.refl _ _).alloc (Nat.le_refl _) _⟩
        · have c : decide ((x0 : Int) ≤ 4194304) = false := by simp; omega
          obtain rfl := H2.out (fun h => h4 h.2.2.2)
          go_enter Try.func40, Try.ntmps40
          go_wp2_with fail
          go_ret
          exact ⟨rfl, (Below.refl _ _).alloc (Nat.le_refl _) _⟩
      · obtain rfl := H2.out (fun h => h3 h.2.2.1)
        go_enter Try.func40, Try.ntmps40
        go_wp2_with fail
        go_ret
        exact ⟨rfl, (Below.refl _ _).alloc (Nat.le_refl _) _⟩
    · obtain rfl := H2.out (fun h => h2 h.2.1)
      go_enter Try.func40, Try.ntmps40
      go_wp2_with fail
      go_ret
      exact ⟨rfl, (Below.refl _ _).alloc (Nat.le_refl _) _⟩
  · obtain rfl := H2.out (fun h => h1 h.1)
    go_enter Try.func40, Try.ntmps40
    go_wp2_with fail
    go_ret
    exact ⟨rfl, (Below.refl _ _).alloc (Nat.le_refl _) _⟩
theorem lsmall_walk (m : Nat) (w : World) (hm : m < M) : Calls Try.prog 40 #[wd m] w fun e w' => e = .returned (.bool (upm m)) ∧ Below w.heap.size w w' := by
  obtain ⟨h1, _⟩ := upm_parts hm
  exact lsmall_core m (l0 m) (l1 m) (l2 m) (l3 m) w rfl _ (Lib.hid fun h => decide_eq_true (h1.2 h)) (Lib.hid fun h => decide_eq_false fun h' => h (h1.1 h'))
theorem fold_o (x : OpV) : #[.int .i64 x.kd, .int .i64 x.n, .int .i64 x.m, .int .i64 x.k,
  .int .u64 ((l0 x.a : Nat) : Int), .int .u64 ((l1 x.a : Nat) : Int), .int .u64 ((l2 x.a : Nat) : Int), .int .u64 ((l3 x.a : Nat) : Int),
  .int .u64 ((l0 x.b : Nat) : Int), .int .u64 ((l1 x.b : Nat) : Int), .int .u64 ((l2 x.b : Nat) : Int), .int .u64 ((l3 x.b : Nat) : Int), Value.slice x.dA x.dn x.dc] = oa x := rfl
def zO : Array Value := #[.int .i64 0, .int .i64 0, .int .i64 0, .int .i64 0, .int .u64 0, .int .u64 0, .int .u64 0, .int .u64 0, .int .u64 0, .int .u64 0, .int .u64 0, .int .u64 0, .slice none 0 0]
theorem Try.infoZO : (Try.prog.info? 32).map (fun i => (i.zero, i.size)) = some (some (.agg zO), 13) := by kernel_rfl
theorem zO_run (w : World) : (zeroValue 32).run Try.prog w = .ok (.agg zO) w := (zero_of_info Try.infoZO).1 w
theorem infoO (x : OpV) : (Try.prog.info? 32).map (·.size) = some (oa x).size := (zero_of_info Try.infoZO).2
theorem oa_one (x : OpV) : (oa x).all (·.oneCell') = true := by simp [oa, Value.oneCell']
/-- Is a call gone through? -/
def pass (i : Nat) (x : OpV) : Prop := i ≤ 100 ∧ x.dn ≤ 1000 ∧ ¬ (x.kd = 0 ∧ x.a ≤ 4194304 ∧ x.b ≤ 4194304 ∧ 250000 < x.a + x.b ∧ x.a + x.b ≤ 4194304) ∧ x.k ≤ 5000
theorem ops_cells {w : World} {b off n : Nat} {X : Nat → OpV} {i : Nat} (h : ∀ i, i < n → ∀ j v, (oa (X i))[j]? = some v → w.cell? ⟨b, off + 13 * i + j, none⟩ = some v) (hi : i < n) :
    w.cell? ⟨b, off + i * 13, none⟩ = some (.int .i64 (X i).kd) ∧ w.cell? ⟨b, off + i * 13 + 1, none⟩ = some (.int .i64 (X i).n) ∧ w.cell? ⟨b, off + i * 13 + 2, none⟩ = some (.int .i64 (X i).m) ∧ w.cell? ⟨b, off + i * 13 + 3, none⟩ = some (.int .i64 (X i).k) ∧
    w.cell? ⟨b, off + i * 13 + 4, none⟩ = some (.int .u64 ((l0 (X i).a : Nat) : Int)) ∧ w.cell? ⟨b, off + i * 13 + 5, none⟩ = some (.int .u64 ((l1 (X i).a : Nat) : Int)) ∧ w.cell? ⟨b, off + i * 13 + 6, none⟩ = some (.int .u64 ((l2 (X i).a : Nat) : Int)) ∧ w.cell? ⟨b, off + i * 13 + 7, none⟩ = some (.int .u64 ((l3 (X i).a : Nat) : Int)) ∧
    w.cell? ⟨b, off + i * 13 + 8, none⟩ = some (.int .u64 ((l0 (X i).b : Nat) : Int)) ∧ w.cell? ⟨b, off + i * 13 + 9, none⟩ = some (.int .u64 ((l1 (X i).b : Nat) : Int)) ∧ w.cell? ⟨b, off + i * 13 + 10, none⟩ = some (.int .u64 ((l2 (X i).b : Nat) : Int)) ∧ w.cell? ⟨b, off + i * 13 + 11, none⟩ = some (.int .u64 ((l3 (X i).b : Nat) : Int)) ∧
    w.cell? ⟨b, off + i * 13 + 12, none⟩ = some (.slice (X i).dA (X i).dn (X i).dc) := by
  have k : ∀ j v, (oa (X i))[j]? = some v → w.cell? ⟨b, off + i * 13 + j, none⟩ = some v := fun j v hv => by
    have := h i hi j v hv
    rwa [Nat.mul_comm 13 i] at this
  exact ⟨k 0 _ rfl, k 1 _ rfl, k 2 _ rfl, k 3 _ rfl, k 4 _ rfl, k 5 _ rfl, k 6 _ rfl, k 7 _ rfl, k 8 _ rfl, k 9 _ rfl, k 10 _ rfl, k 11 _ rfl, k 12 _ rfl⟩
set_option maxHeartbeats 2000000 in
theorem cut_walk {A : Option Addr} {n c : Nat} {X : Nat → OpV} (w : World) (hn : n ≤ maxLen) (hnc : n ≤ c) (hX : OpsS w A n X) :
    Calls Try.prog 12 #[.slice A n c] w fun e w' => (∃ m c', e = .returned (.slice A m c') ∧ m ≤ n ∧ m ≤ c' ∧ (∀ i, i < m → pass i (X i))) ∧ Below w.heap.size w w' := by
  have HX := Lib.hid hX
  have hn2 : n ≤ 9223372036854775807 := hn
  clear hX
  go_enter Try.func12, Try.ntmps12
  go_wp2_with fail
  go_loopw [7] (fun i wr => ∃ j : Nat, j ≤ n ∧ i = .int .i64 (j : Int) ∧ Hid (∀ x, x < j → pass x (X x)) ∧ Hid (Below w.heap.size w wr)) (fun i _ => n - (intOf i).toNat)
  case atStart => exact ⟨0, Nat.zero_le _, rfl, Lib.hid fun x hx => by omega, Lib.hid (Below.refl _ _)⟩
  case round =>
    obtain ⟨j, hj, rfl, hp, hb⟩ := hrel
    by_cases hlt : j < n
    · obtain ⟨b, off, rfl, hbl, hc⟩ := (HX.out.below hb.out).cells (by omega)
      have hjn : (j : Int) < (n : Int) := by omega
      obtain ⟨q0, q1, q2, q3, q4, q5, q6, q7, q8, q9, q10, q11, q12⟩ := ops_cells hc hlt
      have fo := fold_o (X j)
      clear hc
      have s0 : (wr.alloc (.cells zO 32)).heap[wr.heap.size]? = some (.cells zO 32) := heap_alloc_new _ _
      go_upto_region 4 with (first | (refine wpList_alloc_row rfl 32 rfl zO zO_run ?_) | (refine wpList_store_row rfl 32 _ _ rfl _ zO (oa (X j)) rfl rfl s0 (infoO _) rfl (oa_one _) ?_))
      simp only [Act.put]
      clear s0 q0 q1 q2 q3 q4 q5 q6 q7 q8 q9 q10 q11 q12 fo
      have OK := Lib.hid (HX.out.ok j hlt)
      have F := Lib.hid (blk_row (c' := oa (X j)) (heap_alloc_new wr (.cells zO 32)))
      have hb2 := Lib.hid (below_setRow (hb.out.alloc hb.out.size (.cells zO 32)) hb.out.size (oa (X j)))
      obtain ⟨pb, hpb⟩ : ∃ pb : Bool, (pb = true ↔ ¬ pass j (X j)) := by
        by_cases h : pass j (X j)
        · exact ⟨false, by simp [h]⟩
        · exact ⟨true, by simp [h]⟩
      have HPB := Lib.hid hpb
      clear hpb
      generalize hx : X j = x at *
      generalize (wr.alloc (.cells zO 32)).setRow wr.heap.size (oa x) = W at *
      generalize wr.heap.size = z at *
      have hzb : w.heap.size ≤ W.heap.size := hb2.out.size
      have fw := fold_w
      obtain ⟨p0, p1, p2, p3, p4, p5, p6, p7, p8, p9, p10, p11, p12⟩ := op_cells F.out
      go_cut [59] (fun s59 wx => s59 = .bool pb ∧ Below W.heap.size W wx)
      case first =>
        by_cases a1 : 100 < j
        · have d1 : decide (100 < (j : Int)) = true := by simp; omega
          obtain rfl : pb = true := HPB.out.2 (fun h => by obtain ⟨e1, e2, e3, e4⟩ := h; omega)
          go_wp2_with fail
          go_meet
          exact ⟨rfl, Below.refl _ _⟩
        have d1 : decide (100 < (j : Int)) = false := by simp; omega
        by_cases a2 : 1000 < x.dn
        · have d2 : decide (1000 < (x.dn : Int)) = true := by simp; omega
          obtain rfl : pb = true := HPB.out.2 (fun h => by obtain ⟨e1, e2, e3, e4⟩ := h; omega)
          go_wp2_with fail
          go_meet
          exact ⟨rfl, Below.refl _ _⟩
        have d2 : decide (1000 < (x.dn : Int)) = false := by simp; omega
        by_cases a3 : x.kd = 0
        · have d3 : (x.kd == 0) = true := by simp [a3]
          by_cases a4 : x.a ≤ 4194304
          · have d4 : upm x.a = true := decide_eq_true a4
            by_cases a5 : x.b ≤ 4194304
            · have d5 : upm x.b = true := decide_eq_true a5
              have EA : Hid (l0 x.a = x.a) := Lib.hid (l0_small (by simp only [B]; omega))
              have EB : Hid (l0 x.b = x.b) := Lib.hid (l0_small (by simp only [B]; omega))
              have hla : l0 x.a ≤ 4194304 := by rw [EA.out]; exact a4
              have hlb : l0 x.b ≤ 4194304 := by rw [EB.out]; exact a5
              by_cases a6 : 250000 < x.a + x.b
              · have d6 : decide (250000 < ((l0 x.a : Nat) : Int) + ((l0 x.b : Nat) : Int)) = true := by rw [EA.out, EB.out]; simp; omega
                by_cases a7 : x.a + x.b ≤ 4194304
                · have d7 : decide (((l0 x.a : Nat) : Int) + ((l0 x.b : Nat) : Int) ≤ 4194304) = true := by rw [EA.out, EB.out]; simp; omega
                  obtain rfl : pb = true := HPB.out.2 (fun h => by obtain ⟨e1, e2, e3, e4⟩ := h; omega)
                  go_wp2_with (first
                    | (go_at_call_of 40 (Value.agg (wa x.a)); refine (lsmall_walk x.a _ OK.out.a).mono ?_; rintro e y1 ⟨rfl, c1⟩; have F1 := Lib.hid (stay c1 F.out); have B1 := Lib.hid c1; clear c1 p0 p1 p2 p3 p4 p5 p6 p7 p8 p9 p10 p11 p12; obtain ⟨p0, p1, p2, p3, p4, p5, p6, p7, p8, p9, p10, p11, p12⟩ := op_cells F1.out; rw [d4])
                    | (go_at_call_of 40 (Value.agg (wa x.b)); refine (lsmall_walk x.b _ OK.out.b).mono ?_; rintro e y2 ⟨rfl, c2⟩; have F2 := Lib.hid (stay c2 F1.out); have B2 := Lib.hid (B1.out.trans (c2.mono B1.out.size)); clear c2 p0 p1 p2 p3 p4 p5 p6 p7 p8 p9 p10 p11 p12; obtain ⟨p0, p1, p2, p3, p4, p5, p6, p7, p8, p9, p10, p11, p12⟩ := op_cells F2.out; rw [d5]))
                  go_meet
                  exact ⟨rfl, B2.out⟩
                · have d7 : decide (((l0 x.a : Nat) : Int) + ((l0 x.b : Nat) : Int) ≤ 4194304) = false := by rw [EA.out, EB.out]; simp; omega
                  by_cases a8 : 5000 < x.k
                  · have d8 : decide (5000 < x.k) = true := by simp [a8]
                    obtain rfl : pb = true := HPB.out.2 (fun h => by obtain ⟨e1, e2, e3, e4⟩ := h; omega)
                    go_wp2_with (first
                      | (go_at_call_of 40 (Value.agg (wa x.a)); refine (lsmall_walk x.a _ OK.out.a).mono ?_; rintro e y1 ⟨rfl, c1⟩; have F1 := Lib.hid (stay c1 F.out); have B1 := Lib.hid c1; clear c1 p0 p1 p2 p3 p4 p5 p6 p7 p8 p9 p10 p11 p12; obtain ⟨p0, p1, p2, p3, p4, p5, p6, p7, p8, p9, p10, p11, p12⟩ := op_cells F1.out; rw [d4])
                      | (go_at_call_of 40 (Value.agg (wa x.b)); refine (lsmall_walk x.b _ OK.out.b).mono ?_; rintro e y2 ⟨rfl, c2⟩; have F2 := Lib.hid (stay c2 F1.out); have B2 := Lib.hid (B1.out.trans (c2.mono B1.out.size)); clear c2 p0 p1 p2 p3 p4 p5 p6 p7 p8 p9 p10 p11 p12; obtain ⟨p0, p1, p2, p3, p4, p5, p6, p7, p8, p9, p10, p11, p12⟩ := op_cells F2.out; rw [d5]))
                    go_meet
                    exact ⟨rfl, B2.out⟩
                  · have d8 : decide (5000 < x.k) = false := by simp; omega
                    obtain rfl : pb = false := by
                      cases hpb : pb with
                      | false => rfl
                      | true => exact absurd (⟨by omega, by omega, by omega, by omega⟩ : pass j x) (HPB.out.1 hpb)
                    go_wp2_with (first
                      | (go_at_call_of 40 (Value.agg (wa x.a)); refine (lsmall_walk x.a _ OK.out.a).mono ?_; rintro e y1 ⟨rfl, c1⟩; have F1 := Lib.hid (stay c1 F.out); have B1 := Lib.hid c1; clear c1 p0 p1 p2 p3 p4 p5 p6 p7 p8 p9 p10 p11 p12; obtain ⟨p0, p1, p2, p3, p4, p5, p6, p7, p8, p9, p10, p11, p12⟩ := op_cells F1.out; rw [d4])
                      | (go_at_call_of 40 (Value.agg (wa x.b)); refine (lsmall_walk x.b _ OK.out.b).mono ?_; rintro e y2 ⟨rfl, c2⟩; have F2 := Lib.hid (stay c2 F1.out); have B2 := Lib.hid (B1.out.trans (c2.mono B1.out.size)); clear c2 p0 p1 p2 p3 p4 p5 p6 p7 p8 p9 p10 p11 p12; obtain ⟨p0, p1, p2, p3, p4, p5, p6, p7, p8, p9, p10, p11, p12⟩ := op_cells F2.out; rw [d5]))
                    go_meet
                    exact ⟨rfl, B2.out⟩
              · have d6 : decide (250000 < ((l0 x.a : Nat) : Int) + ((l0 x.b : Nat) : Int)) = false := by rw [EA.out, EB.out]; simp; omega
                by_cases a8 : 5000 < x.k
                · have d8 : decide (5000 < x.k) = true := by simp [a8]
                  obtain rfl : pb = true := HPB.out.2 (fun h => by obtain ⟨e1, e2, e3, e4⟩ := h; omega)
                  go_wp2_with (first
                    | (go_at_call_of 40 (Value.agg (wa x.a)); refine (lsmall_walk x.a _ OK.out.a).mono ?_; rintro e y1 ⟨rfl, c1⟩; have F1 := Lib.hid (stay c1 F.out); have B1 := Lib.hid c1; clear c1 p0 p1 p2 p3 p4 p5 p6 p7 p8 p9 p10 p11 p12; obtain ⟨p0, p1, p2, p3, p4, p5, p6, p7, p8, p9, p10, p11, p12⟩ := op_cells F1.out; rw [d4])
                    | (go_at_call_of 40 (Value.agg (wa x.b)); refine (lsmall_walk x.b _ OK.out.b).mono ?_; rintro e y2 ⟨rfl, c2⟩; have F2 := Lib.hid (stay c2 F1.out); have B2 := Lib.hid (B1.out.trans (c2.mono B1.out.size)); clear c2 p0 p1 p2 p3 p4 p5 p6 p7 p8 p9 p10 p11 p12; obtain ⟨p0, p1, p2, p3, p4, p5, p6, p7, p8, p9, p10, p11, p12⟩ := op_cells F2.out; rw [d5]))
                  go_meet
                  exact ⟨rfl, B2.out⟩
                · have d8 : decide (5000 < x.k) = false := by simp; omega
                  obtain rfl : pb = false := by
                    cases hpb : pb with
                    | false => rfl
                    | true => exact absurd (⟨by omega, by omega, by omega, by omega⟩ : pass j x) (HPB.out.1 hpb)
                  go_wp2_with (first
                    | (go_at_call_of 40 (Value.agg (wa x.a)); refine (lsmall_walk x.a _ OK.out.a).mono ?_; rintro e y1 ⟨rfl, c1⟩; have F1 := Lib.hid (stay c1 F.out); have B1 := Lib.hid c1; clear c1 p0 p1 p2 p3 p4 p5 p6 p7 p8 p9 p10 p11 p12; obtain ⟨p0, p1, p2, p3, p4, p5, p6, p7, p8, p9, p10, p11, p12⟩ := op_cells F1.out; rw [d4])
                    | (go_at_call_of 40 (Value.agg (wa x.b)); refine (lsmall_walk x.b _ OK.out.b).mono ?_; rintro e y2 ⟨rfl, c2⟩; have F2 := Lib.hid (stay c2 F1.out); have B2 := Lib.hid (B1.out.trans (c2.mono B1.out.size)); clear c2 p0 p1 p2 p3 p4 p5 p6 p7 p8 p9 p10 p11 p12; obtain ⟨p0, p1, p2, p3, p4, p5, p6, p7, p8, p9, p10, p11, p12⟩ := op_cells F2.out; rw [d5]))
                  go_meet
                  exact ⟨rfl, B2.out⟩
            · have d5 : upm x.b = false := decide_eq_false a5
              by_cases a8 : 5000 < x.k
              · have d8 : decide (5000 < x.k) = true := by simp [a8]
                obtain rfl : pb = true := HPB.out.2 (fun h => by obtain ⟨e1, e2, e3, e4⟩ := h; omega)
                go_wp2_with (first
                  | (go_at_call_of 40 (Value.agg (wa x.a)); refine (lsmall_walk x.a _ OK.out.a).mono ?_; rintro e y1 ⟨rfl, c1⟩; have F1 := Lib.hid (stay c1 F.out); have B1 := Lib.hid c1; clear c1 p0 p1 p2 p3 p4 p5 p6 p7 p8 p9 p10 p11 p12; obtain ⟨p0, p1, p2, p3, p4, p5, p6, p7, p8, p9, p10, p11, p12⟩ := op_cells F1.out; rw [d4])
                  | (go_at_call_of 40 (Value.agg (wa x.b)); refine (lsmall_walk x.b _ OK.out.b).mono ?_; rintro e y2 ⟨rfl, c2⟩; have F2 := Lib.hid (stay c2 F1.out); have B2 := Lib.hid (B1.out.trans (c2.mono B1.out.size)); clear c2 p0 p1 p2 p3 p4 p5 p6 p7 p8 p9 p10 p11 p12; obtain ⟨p0, p1, p2, p3, p4, p5, p6, p7, p8, p9, p10, p11, p12⟩ := op_cells F2.out; rw [d5]))
                go_meet
                exact ⟨rfl, B2.out⟩
              · have d8 : decide (5000 < x.k) = false := by simp; omega
                obtain rfl : pb = false := by
                  cases hpb : pb with
                  | false => rfl
                  | true => exact absurd (⟨by omega, by omega, by omega, by omega⟩ : pass j x) (HPB.out.1 hpb)
                go_wp2_with (first
                  | (go_at_call_of 40 (Value.agg (wa x.a)); refine (lsmall_walk x.a _ OK.out.a).mono ?_; rintro e y1 ⟨rfl, c1⟩; have F1 := Lib.hid (stay c1 F.out); have B1 := Lib.hid c1; clear c1 p0 p1 p2 p3 p4 p5 p6 p7 p8 p9 p10 p11 p12; obtain ⟨p0, p1, p2, p3, p4, p5, p6, p7, p8, p9, p10, p11, p12⟩ := op_cells F1.out; rw [d4])
                  | (go_at_call_of 40 (Value.agg (wa x.b)); refine (lsmall_walk x.b _ OK.out.b).mono ?_; rintro e y2 ⟨rfl, c2⟩; have F2 := Lib.hid (stay c2 F1.out); have B2 := Lib.hid (B1.out.trans (c2.mono B1.out.size)); clear c2 p0 p1 p2 p3 p4 p5 p6 p7 p8 p9 p10 p11 p12; obtain ⟨p0, p1, p2, p3, p4, p5, p6, p7, p8, p9, p10, p11, p12⟩ := op_cells F2.out; rw [d5]))
                go_meet
                exact ⟨rfl, B2.out⟩
          · have d4 : upm x.a = false := decide_eq_false a4
            by_cases a8 : 5000 < x.k
            · have d8 : decide (5000 < x.k) = true := by simp [a8]
              obtain rfl : pb = true := HPB.out.2 (fun h => by obtain ⟨e1, e2, e3, e4⟩ := h; omega)
              go_wp2_with (first
                | (go_at_call_of 40 (Value.agg (wa x.a)); refine (lsmall_walk x.a _ OK.out.a).mono ?_; rintro e y1 ⟨rfl, c1⟩; have F1 := Lib.hid (stay c1 F.out); have B1 := Lib.hid c1; clear c1 p0 p1 p2 p3 p4 p5 p6 p7 p8 p9 p10 p11 p12; obtain ⟨p0, p1, p2, p3, p4, p5, p6, p7, p8, p9, p10, p11, p12⟩ := op_cells F1.out; rw [d4]))
              go_meet
              exact ⟨rfl, B1.out⟩
            · have d8 : decide (5000 < x.k) = false := by simp; omega
              obtain rfl : pb = false := by
                cases hpb : pb with
                | false => rfl
                | true => exact absurd (⟨by omega, by omega, by omega, by omega⟩ : pass j x) (HPB.out.1 hpb)
              go_wp2_with (first
                | (go_at_call_of 40 (Value.agg (wa x.a)); refine (lsmall_walk x.a _ OK.out.a).mono ?_; rintro e y1 ⟨rfl, c1⟩; have F1 := Lib.hid (stay c1 F.out); have B1 := Lib.hid c1; clear c1 p0 p1 p2 p3 p4 p5 p6 p7 p8 p9 p10 p11 p12; obtain ⟨p0, p1, p2, p3, p4, p5, p6, p7, p8, p9, p10, p11, p12⟩ := op_cells F1.out; rw [d4]))
              go_meet
              exact ⟨rfl, B1.out⟩
        · have d3 : (x.kd == 0) = false := by simp [a3]
          by_cases a8 : 5000 < x.k
          · have d8 : decide (5000 < x.k) = true := by simp [a8]
            obtain rfl : pb = true := HPB.out.2 (fun h => by obtain ⟨e1, e2, e3, e4⟩ := h; omega)
            go_wp2_with fail
            go_meet
            exact ⟨rfl, Below.refl _ _⟩
          · have d8 : decide (5000 < x.k) = false := by simp; omega
            obtain rfl : pb = false := by
              cases hpb : pb with
              | false => rfl
              | true => exact absurd (⟨by omega, by omega, by omega, by omega⟩ : pass j x) (HPB.out.1 hpb)
            go_wp2_with fail
            go_meet
            exact ⟨rfl, Below.refl _ _⟩
      case rest =>
        obtain ⟨rfl, b1⟩ := hcut
        clear p0 p1 p2 p3 p4 p5 p6 p7 p8 p9 p10 p11 p12
        have BW := Lib.hid (hb2.out.trans (b1.mono hb2.out.size))
        clear b1 F
        cases pb with
        | true =>
          have hjc : j ≤ c := by omega
          go_wp2_with fail
          go_ret
          exact ⟨⟨j, _, rfl, hj, hjc, hp.out⟩, BW.out⟩
        | false =>
          have hps : pass j x := Classical.byContradiction fun h => by have := HPB.out.2 h; cases this
          subst hx
          have HPS := Lib.hid hps
          clear hps
          go_wp2_with fail
          refine ⟨⟨j + 1, by omega, by go_num, Lib.hid fun y hy => ?_, BW⟩, by simp only [intOf]; omega⟩
          by_cases e : y = j
          · subst e; exact HPS.out
          · exact hp.out y (by omega)
    · obtain rfl : j = n := by omega
      go_wp2_with fail
      go_ret
      exact ⟨⟨j, _, rfl, Nat.le_refl _, hnc, hp.out⟩, hb.out⟩
end Go.Proofs.Ytnffelnmlloonaa
