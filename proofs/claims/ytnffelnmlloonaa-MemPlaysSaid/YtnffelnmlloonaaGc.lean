/- The statement MemBack at every row of words and every number: it returns true. -/
import Derived.Test.YtnffelnmlloonaaGa
namespace Go.Proofs.Ytnffelnmlloonaa
open Go.RowKit SmWord
set_option maxRecDepth 100000

theorem ws_cells {w : World} {b off n : Nat} {X : Nat → Nat} {i : Nat} (h : ∀ i, i < n → ∀ j v, (wa (X i))[j]? = some v → w.cell? ⟨b, off + 4 * i + j, none⟩ = some v) (hi : i < n) :
    w.cell? ⟨b, off + i * 4, none⟩ = some (.int .u64 ((l0 (X i) : Nat) : Int)) ∧ w.cell? ⟨b, off + i * 4 + 1, none⟩ = some (.int .u64 ((l1 (X i) : Nat) : Int)) ∧ w.cell? ⟨b, off + i * 4 + 2, none⟩ = some (.int .u64 ((l2 (X i) : Nat) : Int)) ∧ w.cell? ⟨b, off + i * 4 + 3, none⟩ = some (.int .u64 ((l3 (X i) : Nat) : Int)) := by
  have k : ∀ j v, (wa (X i))[j]? = some v → w.cell? ⟨b, off + i * 4 + j, none⟩ = some v := fun j v hv => by
    have := h i hi j v hv
    rwa [Nat.mul_comm 4 i] at this
  exact ⟨k 0 _ rfl, k 1 _ rfl, k 2 _ rfl, k 3 _ rfl⟩
theorem swp_swp (X : Nat → Nat) (i j k : Nat) : swp (swp X i j) i j k = X k := by
  unfold swp
  by_cases h1 : k = i
  · subst h1
    by_cases h2 : j = k
    · subst h2; simp
    · simp [h2]
  · by_cases h2 : k = j
    · subst h2; simp [h1]
    · simp [h1, h2]
set_option maxHeartbeats 4000000 in
theorem back_core {A : Option Addr} {n c : Nat} {X : Nat → Nat} (z : Int) (w : World) (hn : n ≤ 1000) (hnc : n ≤ c) (hX : WsS w A n X) (hz : i64B z) :
    Calls Try.prog 9 #[.slice A n c, .int .i64 z] w fun e w' => e = .returned (.bool true) ∧ Below w.heap.size w w' := by
  have K0 := Lib.hid (snew_walk w.heap.size w (Nat.le_refl _))
  have HX := Lib.hid hX
  have KF := Lib.hid mfixed_walk
  have c0 : decide (1000 < (n : Int)) = false := by simp; omega
  clear hX
  go_enter Try.func9, Try.ntmps9
  go_wp2_with fail
  refine K0.out.mono ?_
  rintro e w1 ⟨sb, rfl, _, hS, b1⟩
  have HS := Lib.hid hS
  have HB := Lib.hid b1
  clear hS b1 K0
  go_wp2_with fail
  go_loopw [28] (fun i wr => ∃ (j : Nat) (v : Value), j ≤ n ∧ i = .int .i64 (j : Int) ∧ Hid (StackAt wr w.heap.size sb v j X) ∧ Hid (Below w.heap.size w wr)) (fun i _ => n - (intOf i).toNat)
  case atStart => exact ⟨0, _, Nat.zero_le _, rfl, Lib.hid (HS.out.same fun i hi => by omega), HB⟩
  case round =>
    clear HS HB
    obtain ⟨j, v, hj, rfl, HS, HB⟩ := hrel
    by_cases hlt : j < n
    · obtain ⟨b, off, rfl, hbl, hc⟩ := (HX.out.below HB.out).cells (by omega)
      have hjn : (j : Int) < (n : Int) := by omega
      have hsm := HX.out.small j hlt
      obtain ⟨q0, q1, q2, q3⟩ := ws_cells hc hlt
      have fo := fold_w
      have hz4 := z4_w0
      have hs0 := store_wa0
      have hsz := wa_size
      clear hc
      go_upto_region 7 with fail
      have f0 : (wr.alloc (.cells (wa (X j)) 30)).heap[wr.heap.size]? = some (.cells (wa (X j)) 30) := heap_alloc_new _ _
      have b1 : Below wr.heap.size wr (wr.alloc (.cells (wa (X j)) 30)) := (Below.refl _ _).alloc (Nat.le_refl _) _
      have KP := Lib.hid (spush_walk (HS.out.below b1) (X j) hsm)
      replace HB := Lib.hid (HB.out.trans (b1.mono HB.out.size))
      clear b1 q0 q1 q2 q3 hs0 hsz
      generalize wr.alloc (.cells (wa (X j)) 30) = W at *
      unfold PushIs at KP
      rw [if_pos (show j < 1024 by omega), decide_eq_true (show j < 1024 by omega)] at KP
      go_wp2_with (first | (refine wpList_load_row rfl 30 _ rfl _ rfl 30 _ (0, 0) _ f0 Try.underlying30 rfl Try.infoWa ?_) | (go_at_call 32; refine KP.out.mono ?_; rintro e w3 ⟨rfl, v', h3, h4⟩; have H3 := Lib.hid h3; have H4 := Lib.hid h4.off.below; clear h3 h4))
      refine ⟨⟨j + 1, v', by omega, by go_num, Lib.hid (H3.out.same fun i hi => ?_), Lib.hid (HB.out.trans H4.out)⟩, by simp only [intOf]; omega⟩
      by_cases e : i < j
      · exact (if_pos e).symm
      · rw [if_neg e, show i = j by omega]
    · obtain rfl : j = n := by omega
      clear hlt hj
      have ew : ∀ (m : Nat) (w : World), (Op.equalIn 10000 30 (.agg (wa m)) (.agg (wa m))).run Try.prog w = .ok true w := fun m w => by rw [equal_wa]; simp
      have g1 := Try.guardW
      have hz4 := z4_w0
      have hsz := wa_size
      have KD := Lib.hid (sdup_walk HS.out z)
      unfold DupIs at KD
      have hbase := HS.out.base_le
      by_cases hd : 1 ≤ z ∧ z ≤ j ∧ j < 1024
      · rw [if_pos hd, decide_eq_true hd] at KD
        obtain ⟨k, rfl⟩ : ∃ k : Nat, z = (k : Int) := ⟨z.toNat, by omega⟩
        obtain ⟨q, rfl⟩ : ∃ q, j = q + k := ⟨j - k, by omega⟩
        rw [Int.toNat_natCast, Nat.add_sub_cancel] at KD
        have hql : q < q + k := by omega
        clear hd
        go_upto_region 10 with (go_at_call 34; refine KD.out.mono ?_; rintro e w3 ⟨rfl, v3, h3, o3⟩; have H3 := Lib.hid h3; have B3 := Lib.hid (HB.out.trans o3.off.below); have S3 := Lib.hid h3.base_le; clear h3 o3)
        have KP := spop_walk H3.out
        unfold PopIs at KP
        rw [if_pos (by omega), decide_eq_true (by omega), Nat.add_sub_cancel] at KP
        dsimp only at KP
        rw [if_neg (Nat.lt_irrefl _)] at KP
        have KP' := Lib.hid KP
        clear KP
        have hs0 := store_wa0
        go_upto_region 11 with (go_at_call 33; refine KP'.out.mono ?_; rintro e w4 ⟨rfl, v4, h4, o4⟩; have H4 := Lib.hid (h4.same (Y := X) (fun i hi => (if_pos hi).symm)); have B4 := Lib.hid (B3.out.trans o4.off.below); clear h4 o4)
        have f4 : (w4.alloc (.cells (wa (X q)) 30)).heap[w4.heap.size]? = some (.cells (wa (X q)) 30) := heap_alloc_new _ _
        have b5 : Below w4.heap.size w4 (w4.alloc (.cells (wa (X q)) 30)) := (Below.refl _ _).alloc (Nat.le_refl _) _
        have H5 := Lib.hid (H4.out.below b5)
        have B5 := Lib.hid (B4.out.trans (b5.mono B4.out.size))
        clear b5 hs0 H4 B4 H3 B3 HS HB KD KP'
        generalize w4.alloc (.cells (wa (X q)) 30) = W5 at *
        generalize w4.heap.size = z5 at *
        obtain ⟨b, off, rfl, hbl, hc⟩ := (HX.out.below B5.out).cells (by omega)
        obtain ⟨q0, q1, q2, q3⟩ := ws_cells hc hql
        obtain ⟨u0, u1, u2, u3⟩ := wcells f4
        have fo := fold_w
        have e1 : (q : Int) + (k : Int) - (k : Int) = (q : Int) := by omega
        have e2 : IntKind.i64.wrap (q : Int) = (q : Int) := by rw [IntKind.wrap_i64]; omega
        clear hc f4
        go_region
        all_goals
          have B6 := Lib.hid (B5.out.drew)
          have H6 := Lib.hid (H5.out.below (Below.refl _ W5).drew)
          generalize W5.drew = W6 at *
          clear q0 q1 q2 q3 u0 u1 u2 u3 H5 B5
          go_upto_region 13 with fail
          have KS := sswap_walk H6.out (k : Int)
          unfold SwapIs at KS
          by_cases hs : 1 ≤ (k : Int) ∧ (k : Int) < ((q + k : Nat) : Int)
          · rw [if_pos hs, decide_eq_true hs] at KS
            have KS' := Lib.hid KS
            clear KS
            go_upto_block 2 with (first
              | (go_at_call 35; refine KS'.out.mono ?_; rintro e w7 ⟨rfl, h7, o7⟩; have H7 := Lib.hid h7; have B7 := Lib.hid (B6.out.trans o7.below); have KT := sswap_walk h7 (k : Int); unfold SwapIs at KT; rw [if_pos hs, decide_eq_true hs] at KT; have KT' := Lib.hid KT; clear KS' KT h7 o7)
              | (go_at_call 35; refine KT'.out.mono ?_; rintro e w8 ⟨rfl, h8, o8⟩; have H8 := Lib.hid (h8.same (Y := X) (fun i _ => (swp_swp X _ _ i).symm)); have B8 := Lib.hid (B7.out.trans o8.below); clear h8 o8))
            go_wp2_with fail
            go_loopw [10] (fun i wx => ∃ (t : Nat) (v : Value), t ≤ (q + k) ∧ i = .int .i64 ((t : Int) - 1) ∧ Hid (StackAt wx w.heap.size sb v t X) ∧ Hid (Below w.heap.size w wx)) (fun i _ => (intOf i + 1).toNat)
            case atStart => exact ⟨(q + k), _, Nat.le_refl _, by first | rfl | (rw [Int.natCast_add]), H8, B8⟩
            case round =>
              clear H8 B8
              obtain ⟨t, v9, ht, rfl, HS9, HB9⟩ := hrel
              by_cases ht0 : 0 < t
              · obtain ⟨u, rfl⟩ : ∃ u, t = u + 1 := ⟨t - 1, by omega⟩
                have e9 : ((u + 1 : Nat) : Int) - 1 = (u : Int) := by omega
                rw [e9]
                have c9 : decide (0 ≤ (u : Int)) = true := by simp
                have hul : u < (q + k) := by omega
                have hu63 : (u : Int) ≤ 1000 := by omega
                have KP := spop_walk HS9.out
                unfold PopIs at KP
                rw [if_pos (by omega), decide_eq_true (by omega), Nat.add_sub_cancel] at KP
                have KP' := Lib.hid KP
                clear KP
                have hs0 := store_wa0
                go_upto_region 19 with (go_at_call 33; refine KP'.out.mono ?_; rintro e wB ⟨rfl, vB, hB, oB⟩; have HSB := Lib.hid hB; have HBB := Lib.hid (HB9.out.trans oB.off.below); clear hB oB)
                have fB : (wB.alloc (.cells (wa (X u)) 30)).heap[wB.heap.size]? = some (.cells (wa (X u)) 30) := heap_alloc_new _ _
                have bB : Below wB.heap.size wB (wB.alloc (.cells (wa (X u)) 30)) := (Below.refl _ _).alloc (Nat.le_refl _) _
                have HSC := Lib.hid (HSB.out.below (bB.trans (Below.refl _ _).drew))
                have HBC := Lib.hid ((HBB.out.trans (bB.mono HBB.out.size)).drew)
                clear hs0 HSB HS9 HB9 KP' bB
                obtain ⟨b, off, hbe, hbl, hc⟩ := (HX.out.below (HBC.out)).cells (by omega)
                obtain ⟨q0, q1, q2, q3⟩ := ws_cells hc hul
                obtain ⟨u0, u1, u2, u3⟩ := wcells fB
                have fo := fold_w
                clear hc fB HBB
                first | (cases hbe) | (subst hbe)
                go_region
                all_goals
                  go_wp2_with fail
                  refine ⟨⟨u, vB, by omega, by go_num, HSC, HBC⟩, by simp only [intOf]; omega⟩
              · obtain rfl : t = 0 := by omega
                have e9 : ((0 : Nat) : Int) - 1 = -1 := rfl
                rw [e9]
                have c9 : decide ((0 : Int) ≤ -1) = false := by decide
                go_wp2_with (first | (go_at_call 11; refine (KF.out _).mono ?_; rintro e wD ⟨rfl, bD⟩; have HD := Lib.hid (HS9.out.below bD); have BD := Lib.hid (HB9.out.trans (bD.mono HB9.out.size)); clear bD) | (go_at_call 36; refine (slen_walk HD.out).mono ?_; rintro e wE ⟨rfl, rfl⟩))
                go_ret
                exact ⟨rfl, BD.out⟩
          · rw [if_neg hs, decide_eq_false hs] at KS
            have KS' := Lib.hid KS
            clear KS
            go_upto_block 2 with (go_at_call 35; refine KS'.out.mono ?_; rintro e w8 ⟨rfl, h8, o8⟩; have H8 := Lib.hid h8; have B8 := Lib.hid (B6.out.trans o8.below); clear h8 o8)
            go_wp2_with fail
            go_loopw [10] (fun i wx => ∃ (t : Nat) (v : Value), t ≤ (q + k) ∧ i = .int .i64 ((t : Int) - 1) ∧ Hid (StackAt wx w.heap.size sb v t X) ∧ Hid (Below w.heap.size w wx)) (fun i _ => (intOf i + 1).toNat)
            case atStart => exact ⟨(q + k), _, Nat.le_refl _, by first | rfl | (rw [Int.natCast_add]), H8, B8⟩
            case round =>
              clear H8 B8
              obtain ⟨t, v9, ht, rfl, HS9, HB9⟩ := hrel
              by_cases ht0 : 0 < t
              · obtain ⟨u, rfl⟩ : ∃ u, t = u + 1 := ⟨t - 1, by omega⟩
                have e9 : ((u + 1 : Nat) : Int) - 1 = (u : Int) := by omega
                rw [e9]
                have c9 : decide (0 ≤ (u : Int)) = true := by simp
                have hul : u < (q + k) := by omega
                have hu63 : (u : Int) ≤ 1000 := by omega
                have KP := spop_walk HS9.out
                unfold PopIs at KP
                rw [if_pos (by omega), decide_eq_true (by omega), Nat.add_sub_cancel] at KP
                have KP' := Lib.hid KP
                clear KP
                have hs0 := store_wa0
                go_upto_region 19 with (go_at_call 33; refine KP'.out.mono ?_; rintro e wB ⟨rfl, vB, hB, oB⟩; have HSB := Lib.hid hB; have HBB := Lib.hid (HB9.out.trans oB.off.below); clear hB oB)
                have fB : (wB.alloc (.cells (wa (X u)) 30)).heap[wB.heap.size]? = some (.cells (wa (X u)) 30) := heap_alloc_new _ _
                have bB : Below wB.heap.size wB (wB.alloc (.cells (wa (X u)) 30)) := (Below.refl _ _).alloc (Nat.le_refl _) _
                have HSC := Lib.hid (HSB.out.below (bB.trans (Below.refl _ _).drew))
                have HBC := Lib.hid ((HBB.out.trans (bB.mono HBB.out.size)).drew)
                clear hs0 HSB HS9 HB9 KP' bB
                obtain ⟨b, off, hbe, hbl, hc⟩ := (HX.out.below (HBC.out)).cells (by omega)
                obtain ⟨q0, q1, q2, q3⟩ := ws_cells hc hul
                obtain ⟨u0, u1, u2, u3⟩ := wcells fB
                have fo := fold_w
                clear hc fB HBB
                first | (cases hbe) | (subst hbe)
                go_region
                all_goals
                  go_wp2_with fail
                  refine ⟨⟨u, vB, by omega, by go_num, HSC, HBC⟩, by simp only [intOf]; omega⟩
              · obtain rfl : t = 0 := by omega
                have e9 : ((0 : Nat) : Int) - 1 = -1 := rfl
                rw [e9]
                have c9 : decide ((0 : Int) ≤ -1) = false := by decide
                go_wp2_with (first | (go_at_call 11; refine (KF.out _).mono ?_; rintro e wD ⟨rfl, bD⟩; have HD := Lib.hid (HS9.out.below bD); have BD := Lib.hid (HB9.out.trans (bD.mono HB9.out.size)); clear bD) | (go_at_call 36; refine (slen_walk HD.out).mono ?_; rintro e wE ⟨rfl, rfl⟩))
                go_ret
                exact ⟨rfl, BD.out⟩
      · rw [if_neg hd, decide_eq_false hd] at KD
        clear hd
        go_upto_region 13 with (go_at_call 34; refine KD.out.mono ?_; rintro e w3 ⟨rfl, v3, h3, o3⟩; have H6 := Lib.hid (h3.same (Y := X) (fun i hi => (if_pos hi).symm)); have B6 := Lib.hid (HB.out.trans o3.off.below); clear h3 o3)
        have KS := sswap_walk H6.out z
        unfold SwapIs at KS
        by_cases hs : 1 ≤ z ∧ z < ((j : Nat) : Int)
        · rw [if_pos hs, decide_eq_true hs] at KS
          have KS' := Lib.hid KS
          clear KS
          go_upto_block 2 with (first
            | (go_at_call 35; refine KS'.out.mono ?_; rintro e w7 ⟨rfl, h7, o7⟩; have H7 := Lib.hid h7; have B7 := Lib.hid (B6.out.trans o7.below); have KT := sswap_walk h7 z; unfold SwapIs at KT; rw [if_pos hs, decide_eq_true hs] at KT; have KT' := Lib.hid KT; clear KS' KT h7 o7)
            | (go_at_call 35; refine KT'.out.mono ?_; rintro e w8 ⟨rfl, h8, o8⟩; have H8 := Lib.hid (h8.same (Y := X) (fun i _ => (swp_swp X _ _ i).symm)); have B8 := Lib.hid (B7.out.trans o8.below); clear h8 o8))
          go_wp2_with fail
          go_loopw [10] (fun i wx => ∃ (t : Nat) (v : Value), t ≤ j ∧ i = .int .i64 ((t : Int) - 1) ∧ Hid (StackAt wx w.heap.size sb v t X) ∧ Hid (Below w.heap.size w wx)) (fun i _ => (intOf i + 1).toNat)
          case atStart => exact ⟨j, _, Nat.le_refl _, by first | rfl | (rw [Int.natCast_add]), H8, B8⟩
          case round =>
            clear H8 B8
            obtain ⟨t, v9, ht, rfl, HS9, HB9⟩ := hrel
            by_cases ht0 : 0 < t
            · obtain ⟨u, rfl⟩ : ∃ u, t = u + 1 := ⟨t - 1, by omega⟩
              have e9 : ((u + 1 : Nat) : Int) - 1 = (u : Int) := by omega
              rw [e9]
              have c9 : decide (0 ≤ (u : Int)) = true := by simp
              have hul : u < j := by omega
              have hu63 : (u : Int) ≤ 1000 := by omega
              have KP := spop_walk HS9.out
              unfold PopIs at KP
              rw [if_pos (by omega), decide_eq_true (by omega), Nat.add_sub_cancel] at KP
              have KP' := Lib.hid KP
              clear KP
              have hs0 := store_wa0
              go_upto_region 19 with (go_at_call 33; refine KP'.out.mono ?_; rintro e wB ⟨rfl, vB, hB, oB⟩; have HSB := Lib.hid hB; have HBB := Lib.hid (HB9.out.trans oB.off.below); clear hB oB)
              have fB : (wB.alloc (.cells (wa (X u)) 30)).heap[wB.heap.size]? = some (.cells (wa (X u)) 30) := heap_alloc_new _ _
              have bB : Below wB.heap.size wB (wB.alloc (.cells (wa (X u)) 30)) := (Below.refl _ _).alloc (Nat.le_refl _) _
              have HSC := Lib.hid (HSB.out.below (bB.trans (Below.refl _ _).drew))
              have HBC := Lib.hid ((HBB.out.trans (bB.mono HBB.out.size)).drew)
              clear hs0 HSB HS9 HB9 KP' bB
              obtain ⟨b, off, hbe, hbl, hc⟩ := (HX.out.below (HBC.out)).cells (by omega)
              obtain ⟨q0, q1, q2, q3⟩ := ws_cells hc hul
              obtain ⟨u0, u1, u2, u3⟩ := wcells fB
              have fo := fold_w
              clear hc fB HBB
              first | (cases hbe) | (subst hbe)
              go_region
              all_goals
                go_wp2_with fail
                refine ⟨⟨u, vB, by omega, by go_num, HSC, HBC⟩, by simp only [intOf]; omega⟩
            · obtain rfl : t = 0 := by omega
              have e9 : ((0 : Nat) : Int) - 1 = -1 := rfl
              rw [e9]
              have c9 : decide ((0 : Int) ≤ -1) = false := by decide
              go_wp2_with (first | (go_at_call 11; refine (KF.out _).mono ?_; rintro e wD ⟨rfl, bD⟩; have HD := Lib.hid (HS9.out.below bD); have BD := Lib.hid (HB9.out.trans (bD.mono HB9.out.size)); clear bD) | (go_at_call 36; refine (slen_walk HD.out).mono ?_; rintro e wE ⟨rfl, rfl⟩))
              go_ret
              exact ⟨rfl, BD.out⟩
        · rw [if_neg hs, decide_eq_false hs] at KS
          have KS' := Lib.hid KS
          clear KS
          go_upto_block 2 with (go_at_call 35; refine KS'.out.mono ?_; rintro e w8 ⟨rfl, h8, o8⟩; have H8 := Lib.hid h8; have B8 := Lib.hid (B6.out.trans o8.below); clear h8 o8)
          go_wp2_with fail
          go_loopw [10] (fun i wx => ∃ (t : Nat) (v : Value), t ≤ j ∧ i = .int .i64 ((t : Int) - 1) ∧ Hid (StackAt wx w.heap.size sb v t X) ∧ Hid (Below w.heap.size w wx)) (fun i _ => (intOf i + 1).toNat)
          case atStart => exact ⟨j, _, Nat.le_refl _, by first | rfl | (rw [Int.natCast_add]), H8, B8⟩
          case round =>
            clear H8 B8
            obtain ⟨t, v9, ht, rfl, HS9, HB9⟩ := hrel
            by_cases ht0 : 0 < t
            · obtain ⟨u, rfl⟩ : ∃ u, t = u + 1 := ⟨t - 1, by omega⟩
              have e9 : ((u + 1 : Nat) : Int) - 1 = (u : Int) := by omega
              rw [e9]
              have c9 : decide (0 ≤ (u : Int)) = true := by simp
              have hul : u < j := by omega
              have hu63 : (u : Int) ≤ 1000 := by omega
              have KP := spop_walk HS9.out
              unfold PopIs at KP
              rw [if_pos (by omega), decide_eq_true (by omega), Nat.add_sub_cancel] at KP
              have KP' := Lib.hid KP
              clear KP
              have hs0 := store_wa0
              go_upto_region 19 with (go_at_call 33; refine KP'.out.mono ?_; rintro e wB ⟨rfl, vB, hB, oB⟩; have HSB := Lib.hid hB; have HBB := Lib.hid (HB9.out.trans oB.off.below); clear hB oB)
              have fB : (wB.alloc (.cells (wa (X u)) 30)).heap[wB.heap.size]? = some (.cells (wa (X u)) 30) := heap_alloc_new _ _
              have bB : Below wB.heap.size wB (wB.alloc (.cells (wa (X u)) 30)) := (Below.refl _ _).alloc (Nat.le_refl _) _
              have HSC := Lib.hid (HSB.out.below (bB.trans (Below.refl _ _).drew))
              have HBC := Lib.hid ((HBB.out.trans (bB.mono HBB.out.size)).drew)
              clear hs0 HSB HS9 HB9 KP' bB
              obtain ⟨b, off, hbe, hbl, hc⟩ := (HX.out.below (HBC.out)).cells (by omega)
              obtain ⟨q0, q1, q2, q3⟩ := ws_cells hc hul
              obtain ⟨u0, u1, u2, u3⟩ := wcells fB
              have fo := fold_w
              clear hc fB HBB
              first | (cases hbe) | (subst hbe)
              go_region
              all_goals
                go_wp2_with fail
                refine ⟨⟨u, vB, by omega, by go_num, HSC, HBC⟩, by simp only [intOf]; omega⟩
            · obtain rfl : t = 0 := by omega
              have e9 : ((0 : Nat) : Int) - 1 = -1 := rfl
              rw [e9]
              have c9 : decide ((0 : Int) ≤ -1) = false := by decide
              go_wp2_with (first | (go_at_call 11; refine (KF.out _).mono ?_; rintro e wD ⟨rfl, bD⟩; have HD := Lib.hid (HS9.out.below bD); have BD := Lib.hid (HB9.out.trans (bD.mono HB9.out.size)); clear bD) | (go_at_call 36; refine (slen_walk HD.out).mono ?_; rintro e wE ⟨rfl, rfl⟩))
              go_ret
              exact ⟨rfl, BD.out⟩
theorem back_far {A : Option Addr} {n c : Nat} (z : Int) (w : World) (hn : 1000 < n) :
    Calls Try.prog 9 #[.slice A n c, .int .i64 z] w fun e w' => e = .returned (.bool true) ∧ Below w.heap.size w w' := by
  have c0 : decide (1000 < (n : Int)) = true := by simp; omega
  go_enter Try.func9, Try.ntmps9
  go_wp2_with fail
  refine (snew_walk w.heap.size w (Nat.le_refl _)).mono ?_
  rintro e w1 ⟨sb, rfl, _, hS, b1⟩
  have HB := Lib.hid b1
  clear hS b1
  go_wp2_with (go_at_call 11; refine (mfixed_walk _).mono ?_; rintro e w6 ⟨rfl, b6⟩)
  go_ret
  exact ⟨rfl, HB.out.trans (b6.mono HB.out.size)⟩
theorem back_walk {A : Option Addr} {n c : Nat} {X : Nat → Nat} (z : Int) (w : World) (hnc : n ≤ c) (hX : WsS w A n X) (hz : i64B z) :
    Calls Try.prog 9 #[.slice A n c, .int .i64 z] w fun e w' => e = .returned (.bool true) ∧ Below w.heap.size w w' := by
  by_cases h : n ≤ 1000
  · exact back_core z w h hnc hX hz
  · exact back_far z w (by omega)
end Go.Proofs.Ytnffelnmlloonaa
