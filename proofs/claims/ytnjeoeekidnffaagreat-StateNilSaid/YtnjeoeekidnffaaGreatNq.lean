/- Stage 14: the document's Set, walked. -/
import Derived.Test.YtnjeoeekidnffaaGreatNp
namespace Go.Proofs.YtnjeoeekidnffaaGreat
open Go.RowKit SmWord Go.Maps
set_option maxRecDepth 100000

/-- An entry with other slots, which lie at q. -/
def enSo (e : EnV) (l : List (Nat × Nat)) (q : Value) : EnV := { e with x := { e.x with a := { e.x.a with so := l }, q := q } }
theorem enC_so (e : EnV) (l : List (Nat × Nat)) (q : Value) : putAt (enC e) 26 [q] = enC (enSo e l q) := by
  have h1 : ((aN e.x.a.ad).toList ++ (.int .u64 (e.x.a.no : Int) :: (wa e.x.a.ba).toList ++ [e.x.p])).length = 26 := by simp [aN_size, wa_size]
  have := putAt_right ((aN e.x.a.ad).toList ++ (.int .u64 (e.x.a.no : Int) :: (wa e.x.a.ba).toList ++ [e.x.p])) [e.x.q, .bool e.fr, .bool e.de] 0 [q]
  rw [h1] at this
  have e1 : enC e = (aN e.x.a.ad).toList ++ (.int .u64 (e.x.a.no : Int) :: (wa e.x.a.ba).toList ++ [e.x.p]) ++ [e.x.q, .bool e.fr, .bool e.de] := by
    unfold enC acs
    simp
  rw [e1]
  refine this.trans ?_
  unfold enC acs enSo putAt
  simp
theorem enC_so_z {Z : Hp} {e : EnV} {l : List (Nat × Nat)} {q : Value} (h : AccZ Z e.x) (hq : RowZ Z q l.length 8 (l.flatMap scs)) (hM : ∀ s ∈ l, s.1 < M ∧ s.2 < M) (hl : l.length ≤ 1000000) : AccZ Z (enSo e l q).x :=
  { h with sto := hq, sM := hM, sl := hl }
theorem zeroS (w : World) : (zeroValue 136).run Tryz.prog w = .ok (.agg (wa 0 ++ wa 0)) w := by kernel_rfl
theorem infoSl (o : Nat × Nat) : (Tryz.prog.info? 136).map (·.size) = some (scs o).length := by rw [scs_len]; kernel_rfl
theorem setPut_get {k v : Nat} {h : Bool} {l : List (Nat × Nat)} : setPut k v h l = if h && decide (v ≠ 0) then l ++ [(k, v)] else l := rfl
theorem load_midGS {P : Program} {ops : Array Oper} {rest : List Oper} {op : Oper} {a : Act} {w : World} {Q : Exit → Act → World → Prop} (hw : Region.wanted op (yielded ops a.tmps) = true) (ty : TypeId) (x : Operand) (ho : op.op = .load ty x)
    (b o : Nat) (hx : a.eval x = .pointer (some ⟨b, o, none⟩)) (cs : List Value) (d : TypeDesc) (hc : w.rangeAt b o cs)
    (hu : P.underlying ty = some d) (hd : d.isRow = true) (hi : (P.info? ty).map (·.size) = some cs.length)
    (h : wpList P ops Q rest (a.put op.dst (.agg cs.toArray)) w) : wpList P ops Q (op :: rest) a w :=
  wpList_step fun K hK => by
    simp only [hw, if_true]
    exact wp_load_mid ty x ho b o hx cs d hc hu hd hi (hK _ _ h)
theorem enC_q (e : EnV) : (enC e)[26]? = some e.x.q := by
  have h1 : ((aN e.x.a.ad).toList ++ (.int .u64 (e.x.a.no : Int) :: (wa e.x.a.ba).toList ++ [e.x.p])).length = 26 := by simp [aN_size, wa_size]
  have e1 : enC e = (aN e.x.a.ad).toList ++ (.int .u64 (e.x.a.no : Int) :: (wa e.x.a.ba).toList ++ [e.x.p]) ++ [e.x.q, .bool e.fr, .bool e.de] := by
    unfold enC acs
    simp
  rw [e1, List.getElem?_append_right (by omega), h1]
  rfl
theorem ssboxes (w : World) (d : Dst) (A k v : Nat) : ∃ W, ((((w.alloc (.cells (dC d) 37)).alloc (.cells (aN A) 41)).alloc (.cells (wa k) 44)).alloc (.cells (wa v) 44)).alloc (.cells (dC dst0) 37) = W ∧ W.heap[w.heap.size]? = some (.cells (dC d) 37) ∧ W.heap[w.heap.size + 1]? = some (.cells (aN A) 41) ∧ W.heap[w.heap.size + 2]? = some (.cells (wa k) 44) ∧ W.heap[w.heap.size + 3]? = some (.cells (wa v) 44) ∧ W.heap[w.heap.size + 4]? = some (.cells (dC dst0) 37) ∧ Below w.heap.size w W ∧ W.heap.size = w.heap.size + 5 := by
  obtain ⟨w1, h1, f0, f1, f2, b1, s1⟩ := csboxes w d A k
  obtain ⟨w2, h2⟩ : ∃ w2, w1.alloc (.cells (wa v) 44) = w2 := ⟨_, rfl⟩
  have b2 : Below w1.heap.size w1 w2 := h2 ▸ (Below.refl _ _).alloc (Nat.le_refl _) _
  have g3 : w2.heap[w.heap.size + 3]? = some (.cells (wa v) 44) := by rw [← s1]; exact h2 ▸ heap_alloc_new _ _
  have s2 : w2.heap.size = w.heap.size + 4 := h2 ▸ by simp [s1]
  obtain ⟨w3, h3⟩ : ∃ w3, w2.alloc (.cells (dC dst0) 37) = w3 := ⟨_, rfl⟩
  have b3 : Below w2.heap.size w2 w3 := h3 ▸ (Below.refl _ _).alloc (Nat.le_refl _) _
  have g4 : w3.heap[w.heap.size + 4]? = some (.cells (dC dst0) 37) := by rw [← s2]; exact h3 ▸ heap_alloc_new _ _
  exact ⟨w3, by rw [h1, h2, h3], stay b3 (stay b2 f0), stay b3 (stay b2 f1), stay b3 (stay b2 f2), stay b3 g3, g4, (b1.trans (b2.mono b1.size)).trans (b3.mono (by omega)), h3 ▸ by simp [s2]⟩
set_option maxHeartbeats 8000000 in
theorem rset_walk {Z : Hp} {V0 : List AV} {W : List EnV} (R : Hp → Value → Prop) (d : Dst) (A K x : Nat) (w : World) (hd : d.One) (hb : AccsZ Z d.w V0) (h : EnsZ Z d.l W) (hz : Sub Z (hp w)) (hA : A < 2 ^ 160) (hK : K < M) (hx : x < M) (hl : W.length ≤ 1000000) (hl0 : V0.length ≤ 1000000) (hsl : (atV W V0 A).x.a.so.length ≤ 400000)
    (HK : Hid (∀ w1, Below w.heap.size w w1 → Calls Tryz.prog 88 #[.agg (dC d)] w1 fun e w2 => ∃ v, e = .returned (.agg (dC { d with ps := v })) ∧ v.oneCell' = true ∧ (∃ Zk, R Zk v ∧ Sub Zk (fr w1.heap.size w2)) ∧ Below w1.heap.size w1 w2)) :
    Calls Tryz.prog 47 #[.agg (dC d), .agg (aN A), wd K, wd x] w fun e w' => ∃ v l' Zk q, e = .returned (.agg (dC { d with ps := v, l := l' })) ∧ v.oneCell' = true ∧ EnsZ (orH Z (fr w.heap.size w')) l' (woE W (atV W V0 A).x.a.ad ++ [enSo (atV W V0 A) (setD K x (atV W V0 A).x.a.so) q]) ∧ R Zk v ∧ Sub Zk (fr w.heap.size w') ∧ Below w.heap.size w w' := by
  obtain ⟨V, hV, f0, f1, f3, f4, f2, bW, sW⟩ := ssboxes w d A K x
  have hs := aN_size A
  have hsw := wa_size
  have HB := Lib.hid bW
  have F0 := Lib.hid f0
  have F2 := Lib.hid f2
  have F3 := Lib.hid f3
  have F4 := Lib.hid f4
  have SV := Lib.hid sW
  have KA := Lib.hid (dat_walk d A V hb h (hz.trans (hp_below bW)) hA hl hl0)
  have hzx := atV_z hb h hA
  have HZE := Lib.hid hzx
  obtain ⟨e0, he0⟩ : ∃ e0, atV W V0 A = e0 := ⟨_, rfl⟩
  rw [he0] at KA HZE hsl ⊢
  have HSL := Lib.hid hsl
  have HZ := Lib.hid hz
  have HH := Lib.hid h
  have HL := Lib.hid hl
  have HKM := Lib.hid hK
  have HXM := Lib.hid hx
  have r0 := (rng_block (w := V) (cs := (dC d).toList) (by simpa [dC] using f0)).at
  have r1 := adblk f1
  have one0 := enC_ones HZE.out
  obtain ⟨P, c, hq, hnc, hcM, hP, hcells⟩ := HZE.out.sto.one (fun x _ => scs_len x)
  have HC : Hid (0 < e0.x.a.so.length → ∃ b off, P = some ⟨b, off, none⟩ ∧ ∀ i y, e0.x.a.so[i]? = some y → rng (hp w) b (off + i * 8) (scs y)) := Lib.hid fun hn => by
    obtain ⟨b, off, e, _, hi⟩ := hcells hn
    exact ⟨b, off, e, fun i y hy => (hi i y hy).sub hz⟩
  have HSM := Lib.hid HZE.out.sM
  obtain ⟨so, hso⟩ : ∃ so, e0.x.a.so = so := ⟨_, rfl⟩
  have HSO := Lib.hid hso
  rw [hso] at HC HSM HSL hq hnc hP hsl ⊢
  obtain ⟨n, hn⟩ : ∃ n, so.length = n := ⟨_, rfl⟩
  have HN := Lib.hid hn
  rw [hn] at HC HSL hq hnc hP
  have HQ := Lib.hid hq
  obtain ⟨LF, hLF⟩ : ∃ LF, setD K x so = LF := ⟨_, rfl⟩
  rw [hLF]
  have HLF := Lib.hid hLF
  clear hLF
  clear f0 f1 f2 f3 f4 bW sW hb h hz hA hl hl0 hzx he0 hK hx hcells hso hn hsl hq
  unfold eval' at KA
  unfold wd
  go_enter Tryz.func47, Tryz.ntmps47
  go_upto_region 1 with (refine wpList_alloc_row rfl 37 rfl _ zeroD ?_)
  try rw [hV]
  clear hV
  go_upto_region 2 with (first
    | (refine wpList_load_mid rfl 37 _ rfl w.heap.size 0 rfl (dC d).toList _ r0 Tryz.underlying37 rfl infoD ?_)
    | (refine wpList_load_mid rfl 41 _ rfl (w.heap.size + 1) 0 rfl (aN A).toList _ r1 Tryz.underlying41 rfl (infoAd _) ?_; simp only [Array.toArray_toList])
    | (go_at_call 56; refine KA.out.mono ?_; rintro e w1 ⟨rfl, b1⟩)
    | (refine wpList_alloc_row rfl 109 rfl _ zeroEn ?_)
    | (refine wpList_store_row rfl 109 _ _ rfl _ (enC ⟨noneAV, false, false⟩).toArray (enC e0).toArray rfl rfl (heap_alloc_new _ _) (by simpa using infoEn e0) (by simp [enC_len]) one0 ?_))
  obtain ⟨w2, hw2⟩ : ∃ w2, (w1.alloc (.cells (enC ⟨noneAV, false, false⟩).toArray 109)).setRow w1.heap.size (enC e0).toArray = w2 := ⟨_, rfl⟩
  have g2 : w2.heap[w1.heap.size]? = some (.cells (enC e0).toArray 109) := hw2 ▸ blk_row (heap_alloc_new _ _)
  have b2 : Below V.heap.size V w2 := hw2 ▸ below_setRow (b1.alloc b1.size _) b1.size _
  have s12 : w1.heap.size < w2.heap.size := by rw [← hw2]; simp
  rw [hw2]
  have s1 := b1.size
  obtain ⟨pe, hpe⟩ : ∃ pe, w1.heap.size = pe := ⟨_, rfl⟩
  rw [hpe] at g2 s12 s1 ⊢
  clear hw2 b1 KA r0 r1 one0 hpe
  go_upto_region 3 with fail
  have HE := Lib.hid g2
  have S2 := Lib.hid (show w.heap.size + 5 ≤ pe ∧ pe < w2.heap.size by have := SV.out; exact ⟨by omega, s12⟩)
  have HBW := Lib.hid (HB.out.trans (b2.mono HB.out.size))
  have G0 := Lib.hid (stay b2 F0.out)
  have G3 := Lib.hid (stay b2 F3.out)
  have G4 := Lib.hid (stay b2 F4.out)
  have G2 := Lib.hid (stay b2 F2.out)
  have HO5 := Lib.hid (own_emptyS w2 w2.heap.size (Nat.le_refl _))
  have HB5 : Hid (Below w2.heap.size w2 (w2.alloc (.cells #[] 136))) := Lib.hid ((Below.refl _ _).alloc (Nat.le_refl _) _)
  have HN5 := Lib.hid (show w2.heap.size < (w2.alloc (.cells #[] 136)).heap.size by simp)
  generalize w2.alloc (.cells #[] 136) = w5 at *
  clear b2 g2 s12 s1 F0 F2 F3 F4 HB SV
  have p5 : w5.cell? ⟨pe, 26, none⟩ = some (.slice P n c) := blk_cell (stay HB5.out HE.out) (by simp [enC_q, HQ.out])
  go_wp2_with fail
  clear p5
  go_loopw [22, 10, 11] (fun i lo dn wr => ∃ k : Nat, k ≤ n ∧ i = .int .i64 k ∧ dn = .bool (setFold K x (so.take k)).1 ∧ Hid (wr.ownsRow w2.heap.size 136 8 lo (setFold K x (so.take k)).2.length ((setFold K x (so.take k)).2.flatMap scs)) ∧ Hid (Below w2.heap.size w2 wr)) (fun i _ _ _ => n - (intOf i).toNat)
  case atStart => exact ⟨0, Nat.zero_le _, rfl, rfl, HO5, HB5⟩
  case round =>
    obtain ⟨k, hk, rfl, hdn, HO, HW⟩ := hrel
    have hnb := HSL.out
    by_cases hlt : k < n
    · obtain ⟨b, off, rfl, hi⟩ := HC.out (by omega)
      obtain ⟨o, ho⟩ : ∃ o, so[k]? = some o := ⟨so[k]'(by rw [HN.out]; exact hlt), by simp⟩
      have HOM := Lib.hid (HSM.out o (List.mem_of_getElem? ho))
      have bwr : Below w.heap.size w wr := HBW.out.trans (HW.out.mono HBW.out.size)
      have rx := ((hi k _ ho).sub (hp_below bwr)).at
      have HSU := Lib.hid (setFold_succ (k := K) (v := x) ho)
      have hfl := setFold_len K x (so.take k)
      have htl : (so.take k).length ≤ k := by simp; omega
      obtain ⟨⟨dn, L⟩, hst⟩ : ∃ st, setFold K x (so.take k) = st := ⟨_, rfl⟩
      rw [hst] at hdn HO HSU hfl
      dsimp only at hdn HO hfl
      subst hdn
      have hLl : L.length ≤ 800000 := by have := HSL.out; omega
      have BW := Lib.hid bwr
      have p5 : wr.cell? ⟨pe, 26, none⟩ = some (.slice (some ⟨b, off, none⟩) n c) := blk_cell (stay HW.out HE.out) (by simp [enC_q, HQ.out])
      clear hst hi bwr htl hfl ho
      go_upto_region 8 with (first
        | (refine wpList_load_mid rfl 136 _ rfl b (off + k * 8) rfl (scs o) _ rx Tryz.underlying136 rfl (infoSl o) ?_)
        | (refine wpList_alloc_row rfl 136 rfl _ zeroS ?_)
        | (refine wpList_store_row rfl 136 _ _ rfl _ (wa 0 ++ wa 0) (scs o).toArray rfl rfl (heap_alloc_new _ _) (by simpa using infoSl o) (by simp [scs_len, wa_size]) (scs_one o) ?_))
      try simp only [Act.put, List.setIfInBounds_toArray, List.set_cons_succ, List.set_cons_zero]
      rw [World.setRow_alloc_new]
      obtain ⟨pb, hpb⟩ : ∃ pb, wr.heap.size = pb := ⟨_, rfl⟩
      have gb : (wr.alloc (.cells (scs o).toArray 136)).heap[pb]? = some (.cells (scs o).toArray 136) := hpb ▸ heap_alloc_new _ _
      have HO6 := Lib.hid (own_same (w' := wr.alloc (.cells (scs o).toArray 136)) HO.out fun b hb => by
        obtain ⟨cs, e⟩ := own_blk HO.out hb
        rw [e]
        exact blk_alloc e)
      have HW6 := Lib.hid (HW.out.alloc HW.out.size (.cells (scs o).toArray 136))
      have HNE := Lib.hid (show ∀ q, Value.ownBlock u10 = some q → q ≠ pb from fun q hq => by have := (World.ownsRow.lt HO.out q hq).2; omega)
      have HPB := Lib.hid (show w2.heap.size ≤ pb ∧ pb < (wr.alloc (.cells (scs o).toArray 136)).heap.size by have := HW.out.size; rw [← hpb]; exact ⟨this, by simp⟩)
      rw [hpb]
      generalize wr.alloc (.cells (scs o).toArray 136) = w6 at *
      clear p5 rx HO HW hpb
      obtain ⟨h, hh⟩ : ∃ h, setHit K dn o = h := ⟨_, rfl⟩
      have HH1 := Lib.hid hh
      obtain ⟨L1, hL1⟩ : ∃ L1, setPut K x h L = L1 := ⟨_, rfl⟩
      have HL1 := Lib.hid hL1
      have hL1l : L1.length ≤ L.length + 1 := by rw [← hL1]; exact setPut_len _ _ _ _
      clear hL1
      go_cut [31, 32, 33, 34, 35, 36, 37, 38, 39, 40, 41] from 42 to 59 (fun _ _ _ _ _ _ _ _ _ _ s41 wx => s41 = .bool h ∧ Hid (wx.ownsRow w2.heap.size 136 8 u10 L.length (L.flatMap scs)) ∧ Hid (Below w2.heap.size w2 wx) ∧ Hid (wx.heap[pb]? = some (.cells (scs o).toArray 136)) ∧ Hid (pb < wx.heap.size))
      case first =>
        cases dn
        · have rk : ∀ g : Ext w6, g.on.rangeAt (w.heap.size + 2) 0 (wa K).toList := fun g => (rng_block (cs := (wa K).toList) (by simpa using g.block (stay HW6.out G3.out))).at
          have ro : ∀ g : Ext w6, g.on.rangeAt pb 0 (wa o.1).toList := fun g => by
            have := (rng_block (cs := scs o) (g.block gb)).part 0 (wa o.1).toList (fun j v hj => by
              unfold scs
              rw [Nat.zero_add, List.getElem?_append_left (List.getElem?_eq_some_iff.1 hj).1]
              exact hj)
            exact this.at
          have K1 := Lib.hid (of_ref K)
          have K2 := Lib.hid (of_ref o.1)
          unfold wd at K1 K2
          have K3 := Lib.hid (compare_ref K o.1)
          obtain ⟨z, hz⟩ : ∃ z, cmpN (K % M) (o.1 % M) = z := ⟨_, rfl⟩
          rw [hz] at K3
          have hzle : (z ≤ 0 ↔ K ≤ o.1) := by
            rw [← hz, Nat.mod_eq_of_lt HKM.out, Nat.mod_eq_of_lt HOM.out.1]
            unfold cmpN
            split
            · omega
            · split <;> omega
          clear hz
          by_cases hle : K ≤ o.1
          · have hh0 : h = true := by rw [← hh]; simp [setHit]; omega
            subst hh0
            have hz0 : decide (z ≤ 0) = true := decide_eq_true (hzle.2 hle)
            clear hzle hh
            refine region_ext (by kernel_rfl) (by kernel_rfl) ?_
            repeat (first
              | (go_big_quiet_want; refine quiet_load_mid 44 _ rfl (w.heap.size + 2) 0 (wa K).toList rfl (fun w2 hw2 => by obtain ⟨g1, rfl⟩ := hw2; exact rk g1) Tryz.underlying44 rfl (infoW4 _) ?_; simp only [Act.put, List.setIfInBounds_toArray, List.set_cons_succ, List.set_cons_zero, Array.toArray_toList]; go_big_quiet_on)
              | (go_big_quiet_want; refine quiet_load_mid 44 _ rfl pb 0 (wa o.1).toList rfl (fun w2 hw2 => by obtain ⟨g1, rfl⟩ := hw2; exact ro g1) Tryz.underlying44 rfl (infoW4 _) ?_; simp only [Act.put, List.setIfInBounds_toArray, List.set_cons_succ, List.set_cons_zero, Array.toArray_toList]; go_big_quiet_on)
              | go_big_quiet_step (first | (go_at_call 86; first | with_reducible exact calls_ext (K1.out _) | with_reducible exact calls_ext (K2.out _)) | (go_at_call 85; with_reducible exact calls_ext (K3.out _))))
            refine wpQuiet_nil ?_
            rintro w' ⟨gg, rfl⟩
            have HWg := Lib.hid (HW6.out.trans (gg.below.mono HW6.out.size))
            have HOg := Lib.hid (own_same (w' := gg.on) HO6.out fun q hq => gg.below.block q (World.ownsRow.lt HO6.out q hq).2)
            have gbg := Lib.hid (gg.block gb)
            have HPg := Lib.hid (Nat.lt_of_lt_of_le HPB.out.2 gg.below.size)
            clear gb HW6 HO6 rk ro K1 K2 K3
            generalize gg.on = wg at *
            go_wp2_with fail
            go_meet
            exact ⟨rfl, HOg, HWg, gbg, HPg⟩
          · have hh0 : h = false := by rw [← hh]; simp [setHit]; omega
            subst hh0
            have hz0 : decide (z ≤ 0) = false := decide_eq_false (fun h => hle (hzle.1 h))
            clear hzle hh
            refine region_ext (by kernel_rfl) (by kernel_rfl) ?_
            repeat (first
              | (go_big_quiet_want; refine quiet_load_mid 44 _ rfl (w.heap.size + 2) 0 (wa K).toList rfl (fun w2 hw2 => by obtain ⟨g1, rfl⟩ := hw2; exact rk g1) Tryz.underlying44 rfl (infoW4 _) ?_; simp only [Act.put, List.setIfInBounds_toArray, List.set_cons_succ, List.set_cons_zero, Array.toArray_toList]; go_big_quiet_on)
              | (go_big_quiet_want; refine quiet_load_mid 44 _ rfl pb 0 (wa o.1).toList rfl (fun w2 hw2 => by obtain ⟨g1, rfl⟩ := hw2; exact ro g1) Tryz.underlying44 rfl (infoW4 _) ?_; simp only [Act.put, List.setIfInBounds_toArray, List.set_cons_succ, List.set_cons_zero, Array.toArray_toList]; go_big_quiet_on)
              | go_big_quiet_step (first | (go_at_call 86; first | with_reducible exact calls_ext (K1.out _) | with_reducible exact calls_ext (K2.out _)) | (go_at_call 85; with_reducible exact calls_ext (K3.out _))))
            refine wpQuiet_nil ?_
            rintro w' ⟨gg, rfl⟩
            have HWg := Lib.hid (HW6.out.trans (gg.below.mono HW6.out.size))
            have HOg := Lib.hid (own_same (w' := gg.on) HO6.out fun q hq => gg.below.block q (World.ownsRow.lt HO6.out q hq).2)
            have gbg := Lib.hid (gg.block gb)
            have HPg := Lib.hid (Nat.lt_of_lt_of_le HPB.out.2 gg.below.size)
            clear gb HW6 HO6 rk ro K1 K2 K3
            generalize gg.on = wg at *
            go_wp2_with fail
            go_meet
            exact ⟨rfl, HOg, HWg, gbg, HPg⟩
        · have hh0 : h = false := by rw [← hh]; rfl
          subst hh0
          refine region_ext (by kernel_rfl) (by kernel_rfl) ?_
          repeat (go_big_quiet_step (fail))
          refine wpQuiet_nil ?_
          rintro w' ⟨gg, rfl⟩
          have HWg := Lib.hid (HW6.out.trans (gg.below.mono HW6.out.size))
          have HOg := Lib.hid (own_same (w' := gg.on) HO6.out fun q hq => gg.below.block q (World.ownsRow.lt HO6.out q hq).2)
          have gbg := Lib.hid (gg.block gb)
          have HPg := Lib.hid (Nat.lt_of_lt_of_le HPB.out.2 gg.below.size)
          clear gb HW6 HO6 hh
          generalize gg.on = wg at *
          go_wp2_with fail
          go_meet
          exact ⟨rfl, HOg, HWg, gbg, HPg⟩
      case rest =>
        clear gb HW6 HO6
        obtain ⟨rfl, HOg, HWg, gbg, HPg⟩ := hcut
        generalize hwg : wc = wg at *
        clear hwg
        go_upto_if 41 with fail
        go_cut [10, 11] from 42 to 59 (fun l1 d1 wx => d1 = .bool (dn || h) ∧ Hid (wx.ownsRow w2.heap.size 136 8 l1 L1.length (L1.flatMap scs)) ∧ Hid (Below w2.heap.size w2 wx) ∧ Hid (wx.heap[pb]? = some (.cells (scs o).toArray 136)) ∧ Hid (pb < wx.heap.size))
        case first =>
          cases h
          · go_wp2_with fail
            have eL : L1 = L := by rw [← HL1.out]; rfl
            go_meet
            exact ⟨by simp, by rw [eL]; exact HOg, HWg, gbg, HPg⟩
          · have rx := (rng_block (cs := (wa x).toList) (by simpa using stay HWg.out G4.out)).at
            have rk := (rng_block (cs := (wa K).toList) (by simpa using stay HWg.out G3.out)).at
            have hzz : (#[.int .u64 0, .int .u64 0, .int .u64 0, .int .u64 0] : Array Value) = wa 0 := rfl
            have egW := Tryz.guardW
            have eqx := equal_wa x 0
            rw [show decide (x % M = 0 % M) = decide (x = 0) from by rw [Nat.mod_eq_of_lt HXM.out]; rfl] at eqx
            by_cases hx0 : x = 0
            · rw [decide_eq_true hx0] at eqx
              have HX0 := Lib.hid hx0
              clear hx0
              go_wp2_with (refine wpList_load_mid rfl 44 _ rfl (w.heap.size + 3) 0 rfl (wa x).toList _ rx Tryz.underlying44 rfl (infoW4 _) ?_; simp only [Array.toArray_toList])
              have eL : L1 = L := by rw [← HL1.out, setPut, HX0.out]; rfl
              go_meet
              exact ⟨by simp, by rw [eL]; exact HOg, HWg, gbg, HPg⟩
            · rw [decide_eq_false hx0] at eqx
              have HX0 := Lib.hid hx0
              clear hx0
              have HOa := Lib.hid (own_same (w' := wg.alloc (.cells (scs (K, x)).toArray 136)) HOg.out fun b hb => by
                obtain ⟨cs, e⟩ := own_blk HOg.out hb
                rw [e]
                exact blk_alloc e)
              have hgs := HWg.out.size
              go_upto_region 11 with (refine wpList_load_mid rfl 44 _ rfl (w.heap.size + 3) 0 rfl (wa x).toList _ rx Tryz.underlying44 rfl (infoW4 _) ?_; simp only [Array.toArray_toList])
              clear hzz
              go_wp2_with (first
                | (refine wpList_load_mid rfl 44 _ rfl (w.heap.size + 2) 0 rfl (wa K).toList _ rk Tryz.underlying44 rfl (infoW4 _) ?_; simp only [Array.toArray_toList])
                | (refine wpList_load_mid rfl 44 _ rfl (w.heap.size + 3) 0 rfl (wa x).toList _ rx Tryz.underlying44 rfl (infoW4 _) ?_; simp only [Array.toArray_toList])
                | (refine wpList_build_s rfl _ _ rfl (K, x) rfl rfl ?_)
                | (refine wpList_bslice_s rfl _ rfl (K, x) rfl ?_)
                | (refine append_row rfl _ _ 67 rfl 136 (.agg (wa 0 ++ wa 0)) 8 64 Tryz.underlying67 infoSlot (by simp [Value.cells, wa_size]) (by decide) (by decide) w2.heap.size u10 L.length (L.flatMap scs) rfl HOa.out (.slice (some ⟨wg.heap.size, 0, none⟩) 1 1) 1 (scs (K, x)) rfl (rowOneS (heap_alloc_new _ _)) (scs_mem (K, x)) (by omega) (by simp; omega) ?_
                   intro v7 w7 ho7 hg7 _
                   have HO7 := Lib.hid ho7
                   have HG7 := Lib.hid hg7
                   obtain ⟨A7, c7, rfl⟩ := own_slz ho7
                   clear ho7 hg7))
              have HWa := HWg.out.alloc HWg.out.size (.cells (scs (K, x)).toArray 136)
              have hlt7 : pb < (wg.alloc (.cells (scs (K, x)).toArray 136)).heap.size := by simp; have := HPg.out; omega
              have eL : L1 = L ++ [(K, x)] := by rw [← HL1.out, setPut]; simp [HX0.out]
              go_meet
              refine ⟨by simp, ?_, Lib.hid (HWa.grown HG7.out (by simp; omega) (fun k hk => (HOa.out.lt k hk).1)), Lib.hid ((HG7.out.block pb hlt7 (fun hq => HNE.out pb hq.symm rfl)).trans (blk_alloc gbg.out)), Lib.hid (Nat.lt_of_lt_of_le hlt7 HG7.out.size)⟩
              rw [eL, List.length_append, List.flatMap_append]
              simpa using HO7
        case rest =>
          clear HOg HWg gbg HPg
          obtain ⟨rfl, HOh, HWh, gbh, HPh⟩ := hcut
          generalize hwg : wc = wh at *
          clear hwg
          have HSV : Hid (setFold K x (so.take (k + 1)) = (dn || h, if o.1 = K then L1 else L1 ++ [o])) := Lib.hid (by
            rw [HSU.out]
            unfold setStep
            dsimp only
            rw [HH1.out, HL1.out])
          have rk := (rng_block (cs := (wa K).toList) (by simpa using stay HWh.out G3.out)).at
          have ro : wh.rangeAt pb 0 (wa o.1).toList := (by
            have := (rng_block (cs := scs o) gbh.out).part 0 (wa o.1).toList (fun j v hj => by
              unfold scs
              rw [Nat.zero_add, List.getElem?_append_left (List.getElem?_eq_some_iff.1 hj).1]
              exact hj)
            exact this.at)
          have rs := (rng_block (cs := scs o) gbh.out).at
          have egW := Tryz.guardW
          have eqk := equal_wa o.1 K
          rw [show decide (o.1 % M = K % M) = decide (o.1 = K) from by rw [Nat.mod_eq_of_lt HOM.out.1, Nat.mod_eq_of_lt HKM.out]] at eqk
          by_cases he : o.1 = K
          · rw [decide_eq_true he] at eqk
            have HEQ := Lib.hid he
            clear he
            go_wp2_with (first | (refine wpList_load_mid rfl 44 _ rfl (w.heap.size + 2) 0 rfl (wa K).toList _ rk Tryz.underlying44 rfl (infoW4 _) ?_; simp only [Array.toArray_toList]) | (refine wpList_load_mid rfl 44 _ rfl pb 0 rfl (wa o.1).toList _ ro Tryz.underlying44 rfl (infoW4 _) ?_; simp only [Array.toArray_toList]))
            exact ⟨⟨k + 1, by omega, by go_num, by rw [HSV.out], Lib.hid (by rw [HSV.out, if_pos HEQ.out]; exact HOh.out), HWh⟩, by simp [intOf]; omega⟩
          · rw [decide_eq_false he] at eqk
            have HEQ := Lib.hid he
            clear he
            have HOb := Lib.hid (own_same (w' := wh.alloc (.cells (scs o).toArray 136)) HOh.out fun b hb => by
              obtain ⟨cs, e⟩ := own_blk HOh.out hb
              rw [e]
              exact blk_alloc e)
            have hhs := HWh.out.size
            go_wp2_with (first
              | (refine wpList_load_mid rfl 44 _ rfl (w.heap.size + 2) 0 rfl (wa K).toList _ rk Tryz.underlying44 rfl (infoW4 _) ?_; simp only [Array.toArray_toList])
              | (refine wpList_load_mid rfl 44 _ rfl pb 0 rfl (wa o.1).toList _ ro Tryz.underlying44 rfl (infoW4 _) ?_; simp only [Array.toArray_toList])
              | (refine wpList_load_mid rfl 136 _ rfl pb 0 rfl (scs o) _ rs Tryz.underlying136 rfl (infoSl o) ?_)
              | (refine wpList_bslice_s rfl _ rfl o rfl ?_)
              | (refine append_row rfl _ _ 67 rfl 136 (.agg (wa 0 ++ wa 0)) 8 64 Tryz.underlying67 infoSlot (by simp [Value.cells, wa_size]) (by decide) (by decide) w2.heap.size u10 L1.length (L1.flatMap scs) rfl HOb.out (.slice (some ⟨wh.heap.size, 0, none⟩) 1 1) 1 (scs o) rfl (rowOneS (heap_alloc_new _ _)) (scs_mem o) (by omega) (by simp; omega) ?_
                 intro v8 w8 ho8 hg8 _
                 have HO8 := Lib.hid ho8
                 have HG8 := Lib.hid hg8
                 obtain ⟨A8, c8, rfl⟩ := own_slz ho8
                 clear ho8 hg8))
            have HWb := HWh.out.alloc HWh.out.size (.cells (scs o).toArray 136)
            exact ⟨⟨k + 1, by omega, by go_num, by rw [HSV.out], Lib.hid (by rw [HSV.out, if_neg HEQ.out, List.length_append, List.flatMap_append]; simpa using HO8.out), Lib.hid (HWb.grown HG8.out (by simp; omega) (fun k hk => (HOb.out.lt k hk).1))⟩, by simp [intOf]; omega⟩
    · obtain rfl : k = n := by omega
      have htk : so.take k = so := List.take_of_length_le (by rw [HN.out]; exact Nat.le_refl _)
      rw [htk] at hdn HO
      have hfl := setFold_len K x so
      have hSet : setD K x so = setPut K x (!(setFold K x so).1) (setFold K x so).2 := rfl
      have hDM := setD_M HKM.out HXM.out HSM.out
      have hDl := setD_len K x so
      rw [HLF.out] at hSet hDM hDl
      obtain ⟨⟨dn, L⟩, hst⟩ : ∃ st, setFold K x so = st := ⟨_, rfl⟩
      rw [hst] at hdn HO hSet hfl
      dsimp only at hdn HO hSet hfl
      subst hdn
      have HSE := Lib.hid hSet
      have HDM := Lib.hid hDM
      have hNk := HN.out
      have HDL := Lib.hid (show LF.length ≤ 1000000 by omega)
      have hLLl : L.length ≤ 800000 := by omega
      clear hst htk hfl hSet hDM hDl hNk
      have rk := (rng_block (cs := (wa K).toList) (by simpa using stay HW.out G3.out)).at
      have rx := (rng_block (cs := (wa x).toList) (by simpa using stay HW.out G4.out)).at
      have hzz : (#[.int .u64 0, .int .u64 0, .int .u64 0, .int .u64 0] : Array Value) = wa 0 := rfl
      have egW := Tryz.guardW
      have eqx := equal_wa x 0
      rw [show decide (x % M = 0 % M) = decide (x = 0) from by rw [Nat.mod_eq_of_lt HXM.out]; rfl] at eqx
      go_upto_region 15 with fail
      obtain ⟨q, hq⟩ : ∃ q, (!dn && decide (x ≠ 0)) = q := ⟨_, rfl⟩
      have HQQ := Lib.hid hq
      clear hq
      go_cut [60, 61, 62, 63, 64, 65, 66] from 67 to 78 (fun _ _ _ _ _ _ s66 wx => s66 = .bool q ∧ wx = wr)
      case first =>
        cases dn
        · by_cases hx0 : x = 0
          · rw [decide_eq_true hx0] at eqx
            have HX0 := Lib.hid hx0
            clear hx0
            go_wp2_with (refine load_midGS (by rfl) 44 _ rfl (w.heap.size + 3) 0 rfl (wa x).toList _ rx Tryz.underlying44 rfl (infoW4 _) ?_; simp only [Array.toArray_toList])
            go_meet
            exact ⟨by rw [← HQQ.out]; simp [HX0.out], rfl⟩
          · rw [decide_eq_false hx0] at eqx
            have HX0 := Lib.hid hx0
            clear hx0
            go_wp2_with (refine load_midGS (by rfl) 44 _ rfl (w.heap.size + 3) 0 rfl (wa x).toList _ rx Tryz.underlying44 rfl (infoW4 _) ?_; simp only [Array.toArray_toList])
            go_meet
            exact ⟨by rw [← HQQ.out]; simp [HX0.out], rfl⟩
        · clear eqx
          go_wp2_with fail
          go_meet
          exact ⟨by rw [← HQQ.out]; simp, rfl⟩
      case rest =>
        obtain ⟨rfl, hwr⟩ := hcut
        subst hwr
        go_upto_if 66 with fail
        go_cut [10] from 67 to 72 (fun l1 wx => Hid (wx.ownsRow w2.heap.size 136 8 l1 LF.length (LF.flatMap scs)) ∧ Hid (Below w2.heap.size w2 wx))
        case first =>
          cases q
          · have eL : LF = L := by
              rw [HSE.out]
              unfold setPut
              rw [HQQ.out]
              rfl
            go_wp2_with fail
            go_meet
            exact ⟨by rw [eL]; exact HO, HW⟩
          · have eL : LF = L ++ [(K, x)] := by
              rw [HSE.out]
              unfold setPut
              rw [HQQ.out]
              rfl
            have HOa := Lib.hid (own_same (w' := wc.alloc (.cells (scs (K, x)).toArray 136)) HO.out fun b hb => by
              obtain ⟨cs, e⟩ := own_blk HO.out hb
              rw [e]
              exact blk_alloc e)
            have hgs := HW.out.size
            clear hzz
            go_wp2_with (first
              | (refine wpList_load_mid rfl 44 _ rfl (w.heap.size + 2) 0 rfl (wa K).toList _ rk Tryz.underlying44 rfl (infoW4 _) ?_; simp only [Array.toArray_toList])
              | (refine wpList_load_mid rfl 44 _ rfl (w.heap.size + 3) 0 rfl (wa x).toList _ rx Tryz.underlying44 rfl (infoW4 _) ?_; simp only [Array.toArray_toList])
              | (refine wpList_build_s rfl _ _ rfl (K, x) rfl rfl ?_)
              | (refine wpList_bslice_s rfl _ rfl (K, x) rfl ?_)
              | (refine append_row rfl _ _ 67 rfl 136 (.agg (wa 0 ++ wa 0)) 8 64 Tryz.underlying67 infoSlot (by simp [Value.cells, wa_size]) (by decide) (by decide) w2.heap.size u10 L.length (L.flatMap scs) rfl HOa.out (.slice (some ⟨wc.heap.size, 0, none⟩) 1 1) 1 (scs (K, x)) rfl (rowOneS (heap_alloc_new _ _)) (scs_mem (K, x)) (by omega) (by simp; omega) ?_
                 intro v7 w7 ho7 hg7 _
                 have HO7 := Lib.hid ho7
                 have HG7 := Lib.hid hg7
                 obtain ⟨A7, c7, rfl⟩ := own_slz ho7
                 clear ho7 hg7))
            have HWa := HW.out.alloc HW.out.size (.cells (scs (K, x)).toArray 136)
            go_meet
            refine ⟨?_, Lib.hid (HWa.grown HG7.out (by simp; omega) (fun k hk => (HOa.out.lt k hk).1))⟩
            rw [eL, List.length_append, List.flatMap_append]
            simpa using HO7
        case rest =>
          obtain ⟨HOF, HWF⟩ := hcut
          generalize hw4 : wc = w4 at *
          clear hw4
          obtain ⟨A4, c4, hu⟩ := own_slz HOF.out
          subst hu
          have g4 : w4.heap[pe]? = some (.cells (enC e0).toArray 109) := stay HWF.out HE.out
          have s2 := S2.out
          have hf2 : w4.frozen? ⟨pe, 26, none⟩ = false := by simp only [World.frozen?, g4]; rfl
          obtain ⟨u3, hc2⟩ : ∃ u, w4.cell? ⟨pe, 26, none⟩ = some u := ⟨_, blk_cell (v := e0.x.q) g4 (by simp [enC_q])⟩
          have hsc := setCell_put g4 (by rw [enC_len]; decide : 26 < (enC e0).length) (.slice A4 LF.length c4)
          rw [enC_so e0 LF] at hsc
          obtain ⟨en, hen⟩ : ∃ en, enSo e0 LF (.slice A4 LF.length c4) = en := ⟨_, rfl⟩
          have HEN := Lib.hid hen
          rw [hen] at hsc
          have G3' := Lib.hid (blk_row (c' := (enC en).toArray) g4)
          have HW4 := HBW.out.trans (HWF.out.mono HBW.out.size)
          have B5 := Lib.hid (below_setRow HW4 (by omega : w.heap.size ≤ pe) (enC en).toArray)
          have F05 := Lib.hid ((setRow_other w4 pe w.heap.size (enC en).toArray (by omega)).trans (stay HWF.out G0.out))
          have F25 := Lib.hid ((setRow_other w4 pe (w.heap.size + 4) (enC en).toArray (by omega)).trans (stay HWF.out G2.out))
          have HRow : Hid (RowZ (fr (w.heap.size + 5) (w4.setRow pe (enC en).toArray)) (.slice A4 LF.length c4) LF.length 8 (LF.flatMap scs)) := Lib.hid (by
            have := RowZ.ownF (own_same (w' := w4.setRow pe (enC en).toArray) HOF.out fun b hb => by
              have := (World.ownsRow.lt HOF.out b hb).1
              rw [setRow_other _ _ _ _ (by omega)])
            exact this.sub (fr_mono (by omega) _))
          have HS4 := Lib.hid (show w.heap.size + 5 ≤ (w4.setRow pe (enC en).toArray).heap.size by rw [setRow_size]; have := HWF.out.size; omega)
          clear HOF HWF hen rk rx eqx hzz
          go_upto_region 18 with fail
          obtain ⟨w5', hw5⟩ : ∃ w5', w4.setRow pe (enC en).toArray = w5' := ⟨_, rfl⟩
          rw [hw5] at G3' B5 F05 F25 HRow HS4 ⊢
          clear hw5 hsc hc2 hf2 g4
          obtain ⟨Z5, hZ5⟩ : ∃ Z5, orH Z (fr (w.heap.size + 5) w5') = Z5 := ⟨_, rfl⟩
          have hz5 : Sub Z5 (hp w5') := hZ5 ▸ orH_sub (HZ.out.trans (hp_below B5.out)) (fr_sub _ _)
          have hZZ5 : Sub Z Z5 := hZ5 ▸ orH_left _ _
          have hzen : AccZ Z5 en.x := by
            rw [← HEN.out]
            have hr : RowZ Z5 (.slice A4 LF.length c4) LF.length 8 (LF.flatMap scs) := hZ5 ▸ HRow.out.sub (orH_in (HZ.out.trans (hp_below B5.out)) (fr_sub _ _))
            exact enC_so_z (HZE.out.sub hZZ5) hr HDM.out HDL.out
          have KW3 := Lib.hid (with_walk R d en w5' hd (HH.out.sub hZZ5) hzen hz5 HL.out (Lib.hid fun w6 b6 => HK.out w6 (B5.out.trans (b6.mono B5.out.size))))
          unfold eval' at KW3
          have HZ5 := Lib.hid hZ5
          have r3 := (rng_block (w := w5') (cs := (dC d).toList) (by simpa [dC] using F05.out)).at
          have r4 := (rng_block G3'.out).at
          have hHAD : Hid (en.x.a.ad = e0.x.a.ad) := Lib.hid (by rw [← HEN.out]; rfl)
          clear HK hzen hz5 hZZ5 hZ5 HRow HC HH
          go_wp2_with (first
            | (refine wpList_load_mid rfl 37 _ rfl w.heap.size 0 rfl (dC d).toList _ r3 Tryz.underlying37 rfl infoD ?_)
            | (refine wpList_load_mid rfl 109 _ rfl pe 0 rfl (enC en) _ r4 Tryz.underlying109 rfl (infoEn _) ?_)
            | (go_at_call 81; refine KW3.out.mono ?_; rintro e w6 ⟨v, l', Zk, rfl, hv, hE, hR, hZ, b6⟩; have hone : (dC { d with ps := v, l := l' }).all (·.oneCell') = true := Dst.One.arr ⟨hd.w, hE.row.oneCell, hd.wm, hd.sl, hd.lg, hv⟩; obtain ⟨d2, hd2⟩ : ∃ d2, ({ d with ps := v, l := l' } : Dst) = d2 := ⟨_, rfl⟩; rw [hd2] at hone ⊢)
            | (refine wpList_store_row rfl 37 _ _ rfl (w.heap.size + 4) _ (dC d2) rfl rfl (stay b6 F25.out) (by simpa using infoD (d := d2)) rfl hone ?_))
          have hs5 := HS4.out
          have BF := below_setRow (B5.out.trans (b6.mono (by omega))) (show w.heap.size ≤ w.heap.size + 4 by omega) (dC d2)
          have hfr : Sub (fr w5'.heap.size w6) (fr w.heap.size (w6.setRow (w.heap.size + 4) (dC d2))) := fun b o hb => by
            unfold fr at hb ⊢
            split at hb
            · rw [if_pos (by omega), setRow_other _ _ _ _ (by omega)]
              exact hb
            · cases hb
          have hf5 : Sub (fr (w.heap.size + 5) w5') (fr w.heap.size (w6.setRow (w.heap.size + 4) (dC d2))) := fun b o hb => by
            unfold fr at hb ⊢
            split at hb
            · rw [if_pos (by omega), setRow_other _ _ _ _ (by omega)]
              exact (b6.block b (Array.getElem?_eq_some_iff.1 hb).1).trans hb
            · cases hb
          have hzF := HZ.out.trans (hp_below BF)
          have hall : Sub (orH Z5 (fr w5'.heap.size w6)) (orH Z (fr w.heap.size (w6.setRow (w.heap.size + 4) (dC d2)))) := by
            rw [← HZ5.out]
            exact orH_sub (orH_sub (orH_left _ _) (hf5.trans (orH_in hzF (fr_sub _ _)))) (hfr.trans (orH_in hzF (fr_sub _ _)))
          have hEF := hE.sub hall
          rw [hHAD.out, ← HEN.out] at hEF
          exact bodyPost_ret (v := .agg (dC d2)) (results_cell_row rfl _ _ _ 37 _ (0, 0) _ rfl (blk_row (stay b6 F25.out)) Tryz.underlying37 rfl (by simpa using infoD (d := d2))) rfl ⟨v, l', Zk, _, by rw [hd2], hv, hEF, hR, hZ.trans hfr, BF⟩
end Go.Proofs.YtnjeoeekidnffaaGreat
