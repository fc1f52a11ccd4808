/- The statement MemStacks at every number and row of calls: it returns true. -/
import Derived.Test.YtnffelnmlloonaaGd
import Derived.Test.YtnffelnmlloonaaGb
namespace Go.Proofs.Ytnffelnmlloonaa
open Go.RowKit SmWord
set_option maxRecDepth 100000

theorem wlit {j : Nat} (h : j < B) : #[Value.int .u64 (j : Int), .int .u64 0, .int .u64 0, .int .u64 0] = wa j := by
  have h0 : l0 j = j := Nat.mod_eq_of_lt h
  have h1 : j / B = 0 := Nat.div_eq_of_lt h
  have e1 : l1 j = 0 := by unfold l1; rw [h1]; rfl
  have e2 : l2 j = 0 := by unfold l2; rw [h1]; rfl
  have e3 : l3 j = 0 := by unfold l3; rw [h1]; rfl
  unfold wa
  rw [h0, e1, e2, e3]
  rfl
theorem build_wa (n : Nat) : Array.foldl (fun (cs : Array Value) x => cs.setIfInBounds x.snd x.fst) #[Value.int .u64 0, .int .u64 0, .int .u64 0, .int .u64 0] (wa n).zipIdx 0 (wa n).size = wa n := rfl
theorem Off.keepS {base sb n : Nat} {v : Value} {X : Nat → Nat} {w w' : World} (h : Off base sb v w w') (hs : StackAt w base sb v n X) {i : Nat} {c : Array Value} {t : TypeId} (hi : w.heap[i]? = some (.cells c t)) (h1 : t ≠ 84) (h2 : t ≠ 30) : w'.heap[i]? = some (.cells c t) :=
  (h.block i (Array.getElem?_eq_some_iff.1 hi).1 (blk_ne hi hs.blk h1) (own_ne hs.own hi h2)).trans hi
/-- A stack and a row of words that say the same, apart from each other. -/
structure Both (w : World) (base sb : Nat) (v u : Value) (n : Nat) (X : Nat → Nat) : Prop where
  st : StackAt w base sb v n X
  row : WOwn w base u n X
  dis : Dis v u
theorem Both.below {w w' : World} {base sb n : Nat} {v u : Value} {X : Nat → Nat} (h : Both w base sb v u n X) (hb : Below w.heap.size w w') : Both w' base sb v u n X := ⟨h.st.below hb, h.row.below hb, h.dis⟩
theorem StackAt.row {w : World} {base sb n m g c : Nat} {v : Value} {X Y : Nat → Nat} (h : StackAt w base sb v n X) (hu : WOwn w base (.slice (some ⟨g, 0, none⟩) m c) m Y) (hd : Dis v (.slice (some ⟨g, 0, none⟩) m c)) (cur : Array Value) : StackAt (w.setRow g cur) base sb v n X :=
  h.keep (setRow_other _ _ _ _ fun e => own_ne hu h.blk (by decide) (by rw [e]; rfl)) fun k hk => setRow_other _ _ _ _ fun e => hd k hk (by rw [e]; rfl)
theorem swp_eq (Y : Nat → Nat) (a b i : Nat) : swp Y a b i = if i = b then Y a else if i = a then Y b else Y i := by
  unfold swp
  by_cases h1 : i = a
  · subst h1
    by_cases h2 : i = b
    · subst h2; simp
    · simp [h2]
  · simp [h1]
theorem stacks_far {A : Option Addr} {n c z : Nat} (w : World) (hn : 200 < n) :
    Calls Try.prog 6 #[.int .u16 (z : Int), .slice A n c] w fun e w' => e = .returned (.bool true) ∧ Below w.heap.size w w' := by
  have c0 : decide (200 < (n : Int)) = true := by simp; omega
  have KF := Lib.hid mfixed_walk
  go_enter Try.func6, Try.ntmps6
  go_wp2_with fail
  refine (snew_walk w.heap.size w (Nat.le_refl _)).mono ?_
  rintro e w1 ⟨sb, rfl, _, hS, b1⟩
  have HB := Lib.hid b1
  clear hS b1
  go_upto_region 4 with (go_at_call 11; refine (KF.out _).mono ?_; rintro e w6 ⟨rfl, b6⟩)
  have HB2 := Lib.hid (HB.out.trans (b6.mono HB.out.size))
  clear HB b6
  go_wp2_with (go_at_call 11; refine (KF.out _).mono ?_; rintro e w7 ⟨rfl, b7⟩)
  go_ret
  exact ⟨rfl, HB2.out.trans (b7.mono HB2.out.size)⟩
set_option maxHeartbeats 16000000 in
theorem stacks_core {A : Option Addr} {m c z : Nat} {X : Nat → OpV} (w : World) (hm : m ≤ 200) (hz : z < 65536) (hX : OpsS w A m X) :
    Calls Try.prog 6 #[.int .u16 (z : Int), .slice A m c] w fun e w' => e = .returned (.bool true) ∧ Below w.heap.size w w' := by
  have K0 := Lib.hid (snew_walk w.heap.size w (Nat.le_refl _))
  have HX := Lib.hid hX
  have KF := Lib.hid mfixed_walk
  have c0 : decide (200 < (m : Int)) = false := by simp; omega
  have e0 : (z : Int) % 1030 = ((z % 1030 : Nat) : Int) := by omega
  have hN : z % 1030 < 1030 := Nat.mod_lt _ (by decide)
  clear hX
  go_enter Try.func6, Try.ntmps6
  go_wp2_with fail
  refine K0.out.mono ?_
  rintro e w1 ⟨sb, rfl, _, hS, b1⟩
  have HS := Lib.hid hS
  have HB := Lib.hid b1
  clear hS b1 K0
  go_upto_region 5 with (go_at_call 11; refine (KF.out _).mono ?_; rintro e w6 ⟨rfl, b6⟩)
  have HB2 := Lib.hid (HB.out.trans (b6.mono HB.out.size))
  have HS2 := Lib.hid (HS.out.below b6)
  clear HB HS b6
  generalize z % 1030 = N at *
  go_wp2_with fail
  rw [e0]
  clear e0
  go_loopw [6, 37] (fun s i wr => ∃ (j : Nat) (v u : Value), j ≤ N ∧ i = .int .i64 (j : Int) ∧ u = s ∧ Hid (Both wr w.heap.size sb v u (min j 1024) id) ∧ Hid (Below w.heap.size w wr)) (fun _ i _ => N - (intOf i).toNat)
  case atStart => exact ⟨0, _, _, Nat.zero_le _, rfl, rfl, Lib.hid ⟨HS2.out.same fun i hi => by omega, World.ownsRow_nil _ _ _ _, fun g hg => by cases hg⟩, HB2⟩
  case round =>
    clear HS2 HB2
    obtain ⟨j, v, u, hj, rfl, rfl, HS, HB⟩ := hrel
    by_cases hlt : j < N
    · obtain ⟨B0, c1, rfl⟩ := own_val HS.out.row
      have hjn : (j : Int) < (N : Int) := by omega
      have hj63 : j ≤ 1030 := by omega
      have hsz := wa_size
      have hfo := build_wa
      have wl0 := wlit (j := j) (by simp only [B]; omega)
      have KP := spush_walk HS.out.st j (by unfold M; omega)
      unfold PushIs at KP
      have KP' := Lib.hid KP
      have hbase := HS.out.st.base_le
      clear KP
      by_cases h1 : j < 1024
      · have hmin : min j 1024 = j := by omega
        rw [hmin] at KP' HS ⊢
        rw [if_pos h1, decide_eq_true h1] at KP'
        have d1 : decide ((j : Int) < 1024) = true := by simp; omega
        go_upto_region 12 with (go_at_call 32; refine KP'.out.mono ?_; rintro e w3 ⟨rfl, v3, h3, o3⟩; have H3 := Lib.hid h3; have O3 := Lib.hid o3; clear h3 o3)
        have R3 := Lib.hid (HS.out.row.off HS.out.st HS.out.dis O3.out.off)
        have D3 := Lib.hid (HS.out.dis.off HS.out.row O3.out)
        have B3 := Lib.hid (HB.out.trans O3.out.off.below)
        clear HS HB KP' O3
        have f4 : (w3.alloc (.cells (wa j) 30)).heap[w3.heap.size]? = some (.cells (wa j) 30) := heap_alloc_new _ _
        have b4 : Below w3.heap.size w3 (w3.alloc (.cells (wa j) 30)) := (Below.refl _ _).alloc (Nat.le_refl _) _
        have H4 := Lib.hid (H3.out.below b4)
        have R4 := Lib.hid (R3.out.below b4)
        have B4 := Lib.hid (B3.out.trans (b4.mono B3.out.size))
        clear b4 H3 R3 B3
        go_wp2_with (at_builtin; refine append_w rfl _ _ rfl w.heap.size (.slice B0 j c1) j id rfl R4.out w3.heap.size 1 j rfl f4 (by omega) H4.out.base_le ?_; intro v5 w5 o5 g5 h5; have O5 := Lib.hid o5; have G5 := Lib.hid g5; have P5 := Lib.hid h5; clear o5 g5 h5)
        refine ⟨⟨j + 1, v3, _, by omega, by go_num, rfl, Lib.hid ?_, Lib.hid (B4.out.grown G5.out B4.out.size fun k hk => (R4.out.blk hk).1)⟩, by simp only [intOf]; omega⟩
        have hmin2 : min (j + 1) 1024 = j + 1 := by omega
        rw [hmin2]
        exact ⟨(H4.out.grown R4.out D3.out G5.out).same fun i hi => by show i = if i < j then i else j; split <;> omega, O5.out.same fun i hi => by show i = if i < j then i else j; split <;> omega, D3.out.grown H4.out P5.out⟩
      · have hmin : min j 1024 = 1024 := by omega
        rw [hmin] at KP' HS ⊢
        rw [if_neg (by omega), decide_eq_false (by omega)] at KP'
        go_wp2_with (go_at_call 32; refine KP'.out.mono ?_; rintro e w3 ⟨rfl, v3, h3, o3⟩; have H3 := Lib.hid h3; have O3 := Lib.hid o3; clear h3 o3)
        refine ⟨⟨j + 1, v3, _, by omega, by go_num, rfl, Lib.hid ?_, Lib.hid (HB.out.trans O3.out.off.below)⟩, by simp only [intOf]; omega⟩
        have hmin2 : min (j + 1) 1024 = 1024 := by omega
        rw [hmin2]
        exact ⟨H3.out.same fun i hi => (if_pos hi).symm, HS.out.row.off HS.out.st HS.out.dis O3.out.off, HS.out.dis.off HS.out.row O3.out⟩
    · obtain rfl : j = N := by omega
      clear hlt hN
      have HS' : ∃ (n : Nat) (Y : Nat → Nat), Hid (Both wr w.heap.size sb v u n Y) := ⟨_, _, HS⟩
      clear HS
      go_wp2_with fail
      go_loopw [6, 60] (fun s i wx => ∃ (t n : Nat) (v u : Value) (Y : Nat → Nat), t ≤ m ∧ i = .int .i64 (t : Int) ∧ u = s ∧ Hid (Both wx w.heap.size sb v u n Y) ∧ Hid (Below w.heap.size w wx)) (fun _ i _ => m - (intOf i).toNat)
      case atStart =>
        obtain ⟨n, Y, h⟩ := HS'
        exact ⟨0, n, v, u, Y, Nat.zero_le _, rfl, rfl, h, HB⟩
      case round =>
        clear HS' HB hj
        obtain ⟨t, n, v2, u2, Y, ht, rfl, rfl, HS, HB⟩ := hrel
        obtain ⟨UA, uc, rfl⟩ := own_val HS.out.row
        have hln := HS.out.st.len
        by_cases hlt : t < m
        · obtain ⟨b, off, rfl, hbl, hc⟩ := (HX.out.below HB.out).cells (by omega)
          have htn : (t : Int) < (m : Int) := by omega
          have OK := Lib.hid (HX.out.ok t hlt)
          obtain ⟨q0, q1, q2, q3, q4, q5, q6, q7, q8, q9, q10, q11, q12⟩ := ops_cells hc hlt
          have fo := fold_o (X t)
          clear hc
          have s0 : (wr.alloc (.cells zO 32)).heap[wr.heap.size]? = some (.cells zO 32) := heap_alloc_new _ _
          go_upto_region 18 with (first | (refine wpList_alloc_row rfl 32 rfl zO zO_run ?_) | (refine wpList_store_row rfl 32 _ _ rfl _ zO (oa (X t)) rfl rfl s0 (infoO _) rfl (oa_one _) ?_))
          try simp only [Act.put]
          clear s0 q0 q1 q2 q3 q4 q5 q6 q7 q8 q9 q10 q11 q12 fo
          have F := Lib.hid (blk_row (c' := oa (X t)) (heap_alloc_new wr (.cells zO 32)))
          have b1 := below_setRow ((Below.refl wr.heap.size wr).alloc (Nat.le_refl _) (.cells zO 32)) (Nat.le_refl _) (oa (X t))
          replace HS := Lib.hid (HS.out.below b1)
          replace HB := Lib.hid (HB.out.trans (b1.mono HB.out.size))
          clear b1
          generalize X t = x at *
          generalize (wr.alloc (.cells zO 32)).setRow wr.heap.size (oa x) = W at *
          generalize wr.heap.size = z1 at *
          have fw := fold_w
          have hsz := wa_size
          have hfo := build_wa
          have hz4 := z4_w0
          obtain ⟨p0, p1, p2, p3, p4, p5, p6, p7, p8, p9, p10, p11, p12⟩ := op_cells F.out
          by_cases k0 : x.kd = 0
          · have d0 : (x.kd == 0) = true := by simp [k0]
            have KP := spush_walk HS.out.st x.a OK.out.a
            unfold PushIs at KP
            by_cases hn : n < 1024
            · have d1 : decide ((n : Int) < 1024) = true := by simp; omega
              rw [if_pos hn, decide_eq_true hn] at KP
              have KP' := Lib.hid KP
              clear KP
              go_upto_region 30 with (go_at_call 32; refine KP'.out.mono ?_; rintro e w3 ⟨rfl, v3, h3, o3⟩; have H3 := Lib.hid h3; have O3 := Lib.hid o3; have F3 := Lib.hid (o3.off.keepS HS.out.st F.out (by decide) (by decide)); clear h3 o3 p0 p1 p2 p3 p4 p5 p6 p7 p8 p9 p10 p11 p12; obtain ⟨p0, p1, p2, p3, p4, p5, p6, p7, p8, p9, p10, p11, p12⟩ := op_cells F3.out)
              have R3 := Lib.hid (HS.out.row.off HS.out.st HS.out.dis O3.out.off)
              have D3 := Lib.hid (HS.out.dis.off HS.out.row O3.out)
              have B3 := Lib.hid (HB.out.trans O3.out.off.below)
              clear HS HB KP' O3
              have f4 : (w3.alloc (.cells (wa x.a) 30)).heap[w3.heap.size]? = some (.cells (wa x.a) 30) := heap_alloc_new _ _
              have b4 : Below w3.heap.size w3 (w3.alloc (.cells (wa x.a) 30)) := (Below.refl _ _).alloc (Nat.le_refl _) _
              have H4 := Lib.hid (H3.out.below b4)
              have R4 := Lib.hid (R3.out.below b4)
              have B4 := Lib.hid (B3.out.trans (b4.mono B3.out.size))
              clear b4 H3 R3 B3
              go_wp2_with (first
                | (at_builtin; refine append_w rfl _ _ rfl w.heap.size (.slice UA n uc) n Y rfl R4.out w3.heap.size 1 x.a rfl f4 (by omega) H4.out.base_le ?_; intro v5 w5 o5 g5 h5; obtain ⟨A5, c5, rfl⟩ := own_val o5; have O5 := Lib.hid o5; have S9 := Lib.hid (H4.out.grown R4.out D3.out g5); have D9 := Lib.hid (D3.out.grown H4.out h5); have B9 := Lib.hid (B4.out.grown g5 B4.out.size fun k hk => (R4.out.blk hk).1); clear o5 g5 h5)
                | (go_at_call 36; refine (slen_walk S9.out).mono ?_; rintro e w9 ⟨rfl, rfl⟩))
              refine ⟨⟨t + 1, n + 1, v3, _, fun i => if i < n then Y i else x.a, by omega, by go_num, rfl, Lib.hid ⟨S9.out, O5.out, D9.out⟩, Lib.hid (B9.out)⟩, by simp only [intOf]; omega⟩
            · have d1 : decide ((n : Int) < 1024) = false := by simp; omega
              rw [if_neg hn, decide_eq_false hn] at KP
              have KP' := Lib.hid KP
              clear KP
              go_wp2_with (first
                | (go_at_call 32; refine KP'.out.mono ?_; rintro e w3 ⟨rfl, v3, h3, o3⟩; have S9 := Lib.hid h3; have O3 := Lib.hid o3; clear h3 o3 p0 p1 p2 p3 p4 p5 p6 p7 p8 p9 p10 p11 p12)
                | (go_at_call 36; refine (slen_walk S9.out).mono ?_; rintro e w9 ⟨rfl, rfl⟩))
              refine ⟨⟨t + 1, n, v3, _, Y, by omega, by go_num, rfl, Lib.hid ⟨S9.out.same fun i hi => (if_pos hi).symm, HS.out.row.off HS.out.st HS.out.dis O3.out.off, HS.out.dis.off HS.out.row O3.out⟩, Lib.hid (HB.out.trans O3.out.off.below)⟩, by simp only [intOf]; omega⟩
          have d0 : (x.kd == 0) = false := by simp [k0]
          by_cases k1 : x.kd = 1
          · have d1 : (x.kd == 1) = true := by simp [k1]
            have KP := spop_walk HS.out.st
            unfold PopIs at KP
            have hs0 := store_wa0
            have ew : ∀ (m : Nat) (w : World), (Op.equalIn 10000 30 (.agg (wa m)) (.agg (wa m))).run Try.prog w = .ok true w := fun m w => by rw [equal_wa]; simp
            have g1 := Try.guardW
            by_cases hn : 0 < n
            · obtain ⟨q, rfl⟩ : ∃ q, n = q + 1 := ⟨n - 1, by omega⟩
              rw [if_pos hn, decide_eq_true hn, Nat.add_sub_cancel] at KP
              have KP' := Lib.hid KP
              clear KP
              go_upto_region 33 with (go_at_call 33; refine KP'.out.mono ?_; rintro e w3 ⟨rfl, v3, h3, o3⟩; have H3 := Lib.hid h3; have O3 := Lib.hid o3; clear h3 o3 p0 p1 p2 p3 p4 p5 p6 p7 p8 p9 p10 p11 p12)
              have f4 : (w3.alloc (.cells (wa (Y q)) 30)).heap[w3.heap.size]? = some (.cells (wa (Y q)) 30) := heap_alloc_new _ _
              have b4 : Below w3.heap.size w3 (w3.alloc (.cells (wa (Y q)) 30)) := (Below.refl _ _).alloc (Nat.le_refl _) _
              have R4 := Lib.hid ((HS.out.row.off HS.out.st HS.out.dis O3.out.off).below b4)
              have D4 := Lib.hid (HS.out.dis.off HS.out.row O3.out)
              have B4 := Lib.hid ((HB.out.trans O3.out.off.below).trans (b4.mono (HB.out.trans O3.out.off.below).size))
              have H4 := Lib.hid (H3.out.below b4)
              clear b4 H3 HS HB O3 hs0 KP'
              generalize w3.alloc (.cells (wa (Y q)) 30) = W4 at *
              generalize w3.heap.size = z4 at *
              obtain ⟨gu, ucc, hue, huc⟩ := wown_some R4.out (by omega)
              cases hue
              obtain ⟨r0, r1, r2, r3⟩ := wown_cells R4.out (show q < q + 1 by omega)
              obtain ⟨u0, u1, u2, u3⟩ := wcells f4
              have e1 : (q : Int) + 1 - 1 = (q : Int) := by omega
              have e2 : decide (0 < (q : Int) + 1) = true := by simp only [decide_eq_true_eq]; omega
              have e3 : max (q : Int) 0 = (q : Int) := by omega
              go_region
              all_goals
                have S9 := Lib.hid (H4.out.below (Below.refl _ W4).drew)
                have R9 := Lib.hid ((R4.out.below (Below.refl _ W4).drew).take (show q ≤ q + 1 by omega))
                have B9 := Lib.hid B4.out.drew
                go_wp2_with (go_at_call 36; refine (slen_walk S9.out).mono ?_; rintro e w9 ⟨rfl, rfl⟩)
                refine ⟨⟨t + 1, q, v3, _, Y, by omega, by go_num, rfl, Lib.hid ⟨S9.out, R9.out, fun g hg => D4.out g hg⟩, Lib.hid (B9.out)⟩, by simp only [intOf]; omega⟩
            · obtain rfl : n = 0 := by omega
              rw [if_neg hn, decide_eq_false hn] at KP
              have KP' := Lib.hid KP
              clear KP
              go_upto_region 33 with (go_at_call 33; refine KP'.out.mono ?_; rintro e w3 ⟨rfl, v3, h3, o3⟩; have H3 := Lib.hid h3; have O3 := Lib.hid o3; clear h3 o3 p0 p1 p2 p3 p4 p5 p6 p7 p8 p9 p10 p11 p12)
              have f4 : (w3.alloc (.cells (wa 0) 30)).heap[w3.heap.size]? = some (.cells (wa 0) 30) := heap_alloc_new _ _
              have b4 : Below w3.heap.size w3 (w3.alloc (.cells (wa 0) 30)) := (Below.refl _ _).alloc (Nat.le_refl _) _
              have R4 := Lib.hid ((HS.out.row.off HS.out.st HS.out.dis O3.out.off).below b4)
              have D4 := Lib.hid (HS.out.dis.off HS.out.row O3.out)
              have B4 := Lib.hid ((HB.out.trans O3.out.off.below).trans (b4.mono (HB.out.trans O3.out.off.below).size))
              have H4 := Lib.hid (H3.out.below b4)
              clear b4 H3 HS HB O3 hs0 KP'
              generalize w3.alloc (.cells (wa 0) 30) = W4 at *
              generalize w3.heap.size = z4 at *
              obtain ⟨u0, u1, u2, u3⟩ := wcells f4
              go_region
              all_goals
                have S9 := Lib.hid (H4.out.below (Below.refl _ W4).drew)
                have R9 := Lib.hid (R4.out.below (Below.refl _ W4).drew)
                have B9 := Lib.hid B4.out.drew
                go_wp2_with (go_at_call 36; refine (slen_walk S9.out).mono ?_; rintro e w9 ⟨rfl, rfl⟩)
                refine ⟨⟨t + 1, 0, v3, _, Y, by omega, by go_num, rfl, Lib.hid ⟨S9.out, R9.out, fun g hg => D4.out g hg⟩, Lib.hid (B9.out)⟩, by simp only [intOf]; omega⟩
          have d1 : (x.kd == 1) = false := by simp [k1]
          by_cases k2 : x.kd = 2
          · have d2 : (x.kd == 2) = true := by simp [k2]
            have KD := sdup_walk HS.out.st x.n
            unfold DupIs at KD
            by_cases a1 : 1 ≤ x.n
            · have f1 : decide (1 ≤ x.n) = true := by simp [a1]
              by_cases a2 : x.n ≤ (n : Int)
              · have f2 : decide (x.n ≤ (n : Int)) = true := by simp [a2]
                by_cases a3 : n < 1024
                · have f3 : decide ((n : Int) < 1024) = true := by simp; omega
                  have hmay : 1 ≤ x.n ∧ x.n ≤ (n : Int) ∧ n < 1024 := ⟨a1, a2, a3⟩
                  rw [if_pos hmay, decide_eq_true hmay] at KD
                  obtain ⟨k, hk⟩ : ∃ k : Nat, x.n = (k : Int) := ⟨x.n.toNat, by omega⟩
                  obtain ⟨q, rfl⟩ : ∃ q, n = q + k := ⟨n - k, by omega⟩
                  have e5 : q + k - x.n.toNat = q := by rw [hk, Int.toNat_natCast, Nat.add_sub_cancel]
                  rw [e5] at KD
                  have e6 : (q : Int) + (k : Int) - x.n = (q : Int) := by omega
                  have e7 : IntKind.i64.wrap (q : Int) = (q : Int) := by rw [IntKind.wrap_i64]; omega
                  have hqk : q < q + k := by omega
                  replace f2 : decide (x.n ≤ (q : Int) + (k : Int)) = true := by simp only [decide_eq_true_eq]; omega
                  replace f3 : decide ((q : Int) + (k : Int) < 1024) = true := by simp only [decide_eq_true_eq]; omega
                  have KD' := Lib.hid KD
                  clear KD hmay a1 a2 e5 hk
                  go_upto_region 41 with (go_at_call 34; refine KD'.out.mono ?_; rintro e w3 ⟨rfl, v3, h3, o3⟩; have H3 := Lib.hid h3; have O3 := Lib.hid o3; have F3 := Lib.hid (o3.off.keepS HS.out.st F.out (by decide) (by decide)); clear h3 o3 p0 p1 p2 p3 p4 p5 p6 p7 p8 p9 p10 p11 p12; obtain ⟨p0, p1, p2, p3, p4, p5, p6, p7, p8, p9, p10, p11, p12⟩ := op_cells F3.out)
                  have R3 := Lib.hid (HS.out.row.off HS.out.st HS.out.dis O3.out.off)
                  have D3 := Lib.hid (HS.out.dis.off HS.out.row O3.out)
                  have B3 := Lib.hid (HB.out.trans O3.out.off.below)
                  clear HS HB KD' O3
                  obtain ⟨gu, ucc, hue, huc⟩ := wown_some R3.out (by omega)
                  cases hue
                  obtain ⟨r0, r1, r2, r3⟩ := wown_cells R3.out hqk
                  have f4 : (w3.alloc (.cells (wa (Y q)) 30)).heap[w3.heap.size]? = some (.cells (wa (Y q)) 30) := heap_alloc_new _ _
                  have b4 : Below w3.heap.size w3 (w3.alloc (.cells (wa (Y q)) 30)) := (Below.refl _ _).alloc (Nat.le_refl _) _
                  have H4 := Lib.hid (H3.out.below b4)
                  have R4 := Lib.hid (R3.out.below b4)
                  have B4 := Lib.hid (B3.out.trans (b4.mono B3.out.size))
                  clear b4 H3 R3 B3
                  go_wp2_with (first
                    | (at_builtin; refine append_w rfl _ _ rfl w.heap.size (.slice (some ⟨gu, 0, none⟩) (q + k) uc) (q + k) Y rfl R4.out w3.heap.size 1 (Y q) rfl f4 (by omega) H4.out.base_le ?_; intro v5 w5 o5 g5 h5; obtain ⟨A5, c5, rfl⟩ := own_val o5; have O5 := Lib.hid o5; have S9 := Lib.hid (H4.out.grown R4.out D3.out g5); have D9 := Lib.hid (D3.out.grown H4.out h5); have B9 := Lib.hid (B4.out.grown g5 B4.out.size fun k hk => (R4.out.blk hk).1); clear o5 g5 h5)
                    | (go_at_call 36; refine (slen_walk S9.out).mono ?_; rintro e w9 ⟨rfl, rfl⟩))
                  refine ⟨⟨t + 1, q + k + 1, v3, _, fun i => if i < q + k then Y i else Y q, by omega, by go_num, rfl, Lib.hid ⟨S9.out, O5.out, D9.out⟩, Lib.hid (B9.out)⟩, by simp only [intOf]; omega⟩
                · have f3 : decide ((n : Int) < 1024) = false := by simp; omega
                  have hmay : ¬ (1 ≤ x.n ∧ x.n ≤ (n : Int) ∧ n < 1024) := by omega
                  rw [if_neg hmay, decide_eq_false hmay] at KD
                  have KD' := Lib.hid KD
                  clear KD
                  go_wp2_with (first
                    | (go_at_call 34; refine KD'.out.mono ?_; rintro e w3 ⟨rfl, v3, h3, o3⟩; have S9 := Lib.hid h3; have O3 := Lib.hid o3; clear h3 o3 p0 p1 p2 p3 p4 p5 p6 p7 p8 p9 p10 p11 p12)
                    | (go_at_call 36; refine (slen_walk S9.out).mono ?_; rintro e w9 ⟨rfl, rfl⟩))
                  refine ⟨⟨t + 1, n, v3, _, Y, by omega, by go_num, rfl, Lib.hid ⟨S9.out.same fun i hi => (if_pos hi).symm, HS.out.row.off HS.out.st HS.out.dis O3.out.off, HS.out.dis.off HS.out.row O3.out⟩, Lib.hid (HB.out.trans O3.out.off.below)⟩, by simp only [intOf]; omega⟩
              · have f2 : decide (x.n ≤ (n : Int)) = false := by simp; omega
                have hmay : ¬ (1 ≤ x.n ∧ x.n ≤ (n : Int) ∧ n < 1024) := by omega
                rw [if_neg hmay, decide_eq_false hmay] at KD
                have KD' := Lib.hid KD
                clear KD
                go_wp2_with (first
                  | (go_at_call 34; refine KD'.out.mono ?_; rintro e w3 ⟨rfl, v3, h3, o3⟩; have S9 := Lib.hid h3; have O3 := Lib.hid o3; clear h3 o3 p0 p1 p2 p3 p4 p5 p6 p7 p8 p9 p10 p11 p12)
                  | (go_at_call 36; refine (slen_walk S9.out).mono ?_; rintro e w9 ⟨rfl, rfl⟩))
                refine ⟨⟨t + 1, n, v3, _, Y, by omega, by go_num, rfl, Lib.hid ⟨S9.out.same fun i hi => (if_pos hi).symm, HS.out.row.off HS.out.st HS.out.dis O3.out.off, HS.out.dis.off HS.out.row O3.out⟩, Lib.hid (HB.out.trans O3.out.off.below)⟩, by simp only [intOf]; omega⟩
            · have f1 : decide (1 ≤ x.n) = false := by simp; omega
              have hmay : ¬ (1 ≤ x.n ∧ x.n ≤ (n : Int) ∧ n < 1024) := by omega
              rw [if_neg hmay, decide_eq_false hmay] at KD
              have KD' := Lib.hid KD
              clear KD
              go_wp2_with (first
                | (go_at_call 34; refine KD'.out.mono ?_; rintro e w3 ⟨rfl, v3, h3, o3⟩; have S9 := Lib.hid h3; have O3 := Lib.hid o3; clear h3 o3 p0 p1 p2 p3 p4 p5 p6 p7 p8 p9 p10 p11 p12)
                | (go_at_call 36; refine (slen_walk S9.out).mono ?_; rintro e w9 ⟨rfl, rfl⟩))
              refine ⟨⟨t + 1, n, v3, _, Y, by omega, by go_num, rfl, Lib.hid ⟨S9.out.same fun i hi => (if_pos hi).symm, HS.out.row.off HS.out.st HS.out.dis O3.out.off, HS.out.dis.off HS.out.row O3.out⟩, Lib.hid (HB.out.trans O3.out.off.below)⟩, by simp only [intOf]; omega⟩
          have d2 : (x.kd == 2) = false := by simp [k2]
          have KS := sswap_walk HS.out.st x.n
          unfold SwapIs at KS
          by_cases a1 : 1 ≤ x.n
          · have f1 : decide (1 ≤ x.n) = true := by simp [a1]
            by_cases a2 : x.n < (n : Int)
            · have f2 : decide (x.n < (n : Int)) = true := by simp [a2]
              have hmay : 1 ≤ x.n ∧ x.n < (n : Int) := ⟨a1, a2⟩
              rw [if_pos hmay, decide_eq_true hmay] at KS
              obtain ⟨k, hk⟩ : ∃ k : Nat, x.n = (k : Int) := ⟨x.n.toNat, by omega⟩
              obtain ⟨q, rfl⟩ : ∃ q, n = q + k + 1 := ⟨n - k - 1, by omega⟩
              have e5 : q + k - x.n.toNat = q := by rw [hk, Int.toNat_natCast, Nat.add_sub_cancel]
              rw [Nat.add_sub_cancel, e5] at KS
              have e6 : (q : Int) + (k : Int) - x.n = (q : Int) := by omega
              have e7 : IntKind.i64.wrap (q : Int) = (q : Int) := by rw [IntKind.wrap_i64]; omega
              have e8 : (q : Int) + (k : Int) + 1 - 1 = ((q + k : Nat) : Int) := by omega
              replace f2 : decide (x.n < (q : Int) + (k : Int) + 1) = true := by simp only [decide_eq_true_eq]; omega
              have KS' := Lib.hid KS
              clear KS hmay a1 a2 e5 hk
              go_upto_region 23 with (go_at_call 35; refine KS'.out.mono ?_; rintro e w3 ⟨rfl, h3, o3⟩; have H3 := Lib.hid h3; have O3 := Lib.hid o3; have F3 := Lib.hid (o3.keepS HS.out.st F.out (by decide) (by decide)); clear h3 o3 p0 p1 p2 p3 p4 p5 p6 p7 p8 p9 p10 p11 p12; obtain ⟨p0, p1, p2, p3, p4, p5, p6, p7, p8, p9, p10, p11, p12⟩ := op_cells F3.out)
              have R3 := Lib.hid (HS.out.row.off HS.out.st HS.out.dis O3.out)
              have D3 := Lib.hid HS.out.dis
              have B3 := Lib.hid (HB.out.trans O3.out.below)
              clear HS HB KS' O3
              obtain ⟨gu, ucc, hue, huc⟩ := wown_some R3.out (by omega)
              cases hue
              have b4 : Below w3.heap.size w3 (w3.alloc (.cells (wa (Y (q + k))) 30)) := (Below.refl _ _).alloc (Nat.le_refl _) _
              have f4 : (w3.alloc (.cells (wa (Y (q + k))) 30)).heap[w3.heap.size]? = some (.cells (wa (Y (q + k))) 30) := heap_alloc_new _ _
              have F4 := Lib.hid (stay b4 F3.out)
              have H4 := Lib.hid (H3.out.below b4)
              have R4 := R3.out.below b4
              have B4 := Lib.hid (B3.out.trans (b4.mono B3.out.size))
              have hgl := R3.out.blk (g := gu) rfl
              obtain ⟨t0, t1, t2, t3⟩ := wown_cells R3.out (show q + k < q + k + 1 by omega)
              have hs0 := store_wa0
              go_upto_region 24 with fail
              clear p0 p1 p2 p3 p4 p5 p6 p7 p8 p9 p10 p11 p12 t0 t1 t2 t3 hs0
              have hz4s : gu < w3.heap.size := hgl.2
              generalize hW4 : w3.alloc (.cells (wa (Y (q + k))) 30) = W4 at *
              generalize w3.heap.size = z4 at *
              obtain ⟨r0, r1, r2, r3⟩ := wown_cells R4 (show q < q + k + 1 by omega)
              obtain ⟨cur1, s1, o1⟩ := store_own R4 (show q + k < q + k + 1 by omega) (Y q)
              obtain ⟨cur2, s2, o2⟩ := store_own o1 (show q < q + k + 1 by omega) (Y (q + k))
              obtain ⟨p0, p1, p2, p3, p4, p5, p6, p7, p8, p9, p10, p11, p12⟩ := op_cells F4.out
              have hzg : z1 ≠ gu := fun e => own_ne R4 F4.out (by decide) (by rw [e]; rfl)
              go_upto_region 25 with fail
              clear p0 p1 p2 p3 p4 p5 p6 p7 p8 p9 p10 p11 p12 r0 r1 r2 r3
              have F5 := blk_row_other (b := gu) (c' := cur1) F4.out hzg
              obtain ⟨p0, p1, p2, p3, p4, p5, p6, p7, p8, p9, p10, p11, p12⟩ := op_cells F5
              obtain ⟨u0, u1, u2, u3⟩ := wcells (blk_row_other (b := gu) (c' := cur1) f4 (by omega))
              have S9 := Lib.hid ((H4.out.row R4 D3.out cur1).row o1 D3.out cur2)
              have R9 := Lib.hid o2
              have B9 := Lib.hid (below_setRow (below_setRow B4.out hgl.1 cur1) hgl.1 cur2)
              clear F5 o1 o2 R4
              go_wp2_with (go_at_call 36; refine (slen_walk S9.out).mono ?_; rintro e w9 ⟨rfl, rfl⟩)
              refine ⟨⟨t + 1, q + k + 1, v2, _, swp Y (q + k) q, by omega, by go_num, rfl, Lib.hid ⟨S9.out, R9.out.same fun i _ => swp_eq Y (q + k) q i, D3.out⟩, B9⟩, by simp only [intOf]; omega⟩
            · have f2 : decide (x.n < (n : Int)) = false := by simp; omega
              have hmay : ¬ (1 ≤ x.n ∧ x.n < (n : Int)) := by omega
              rw [if_neg hmay, decide_eq_false hmay] at KS
              have KS' := Lib.hid KS
              clear KS
              go_wp2_with (first
                | (go_at_call 35; refine KS'.out.mono ?_; rintro e w3 ⟨rfl, h3, o3⟩; have S9 := Lib.hid h3; have O3 := Lib.hid o3; clear h3 o3 p0 p1 p2 p3 p4 p5 p6 p7 p8 p9 p10 p11 p12)
                | (go_at_call 36; refine (slen_walk S9.out).mono ?_; rintro e w9 ⟨rfl, rfl⟩))
              refine ⟨⟨t + 1, n, v2, _, Y, by omega, by go_num, rfl, Lib.hid ⟨S9.out, HS.out.row.off HS.out.st HS.out.dis O3.out, HS.out.dis⟩, Lib.hid (HB.out.trans O3.out.below)⟩, by simp only [intOf]; omega⟩
          · have f1 : decide (1 ≤ x.n) = false := by simp; omega
            have hmay : ¬ (1 ≤ x.n ∧ x.n < (n : Int)) := by omega
            rw [if_neg hmay, decide_eq_false hmay] at KS
            have KS' := Lib.hid KS
            clear KS
            go_wp2_with (first
              | (go_at_call 35; refine KS'.out.mono ?_; rintro e w3 ⟨rfl, h3, o3⟩; have S9 := Lib.hid h3; have O3 := Lib.hid o3; clear h3 o3 p0 p1 p2 p3 p4 p5 p6 p7 p8 p9 p10 p11 p12)
              | (go_at_call 36; refine (slen_walk S9.out).mono ?_; rintro e w9 ⟨rfl, rfl⟩))
            refine ⟨⟨t + 1, n, v2, _, Y, by omega, by go_num, rfl, Lib.hid ⟨S9.out, HS.out.row.off HS.out.st HS.out.dis O3.out, HS.out.dis⟩, Lib.hid (HB.out.trans O3.out.below)⟩, by simp only [intOf]; omega⟩
        · obtain rfl : t = m := by omega
          have KA := Lib.hid (sall_walk HS.out.st)
          go_wp2_with fail
          refine KA.out.mono ?_
          rintro e w9 ⟨⟨va, rfl, ha⟩, b9⟩
          obtain ⟨AA, ca, rfl⟩ := own_val ha
          have HA := Lib.hid ha.rd
          have HU := Lib.hid ((HS.out.row.below b9).rd)
          have HB9 := Lib.hid (HB.out.trans (b9.mono HB.out.size))
          clear ha b9
          go_wp2_with fail
          refine (same_walk w9 (by omega) HA.out HU.out).mono ?_
          rintro e wA ⟨rfl, bA⟩
          go_wp2_with fail
          go_ret
          exact ⟨rfl, HB9.out.trans (bA.mono HB9.out.size)⟩
theorem stacks_walk {A : Option Addr} {m c z : Nat} {X : Nat → OpV} (w : World) (hz : z < 65536) (hX : OpsS w A m X) :
    Calls Try.prog 6 #[.int .u16 (z : Int), .slice A m c] w fun e w' => e = .returned (.bool true) ∧ Below w.heap.size w w' := by
  by_cases h : m ≤ 200
  · exact stacks_core w h hz hX
  · exact stacks_far w (by omega)
end Go.Proofs.Ytnffelnmlloonaa
