/- StorePlays: the store and the document's versions, side by side. -/
import Derived.Test.YtpkoiifidlnbeaaGf
import Derived.Test.YtpkoiifidlnbeaaGd
import Derived.Test.YtpkoiifidlnbeaaGc
import Derived.Test.YtpkoiifidlnbeaaG2
namespace Go.Proofs.Ytpkoiifidlnbeaa
open Go.RowKit SmWord
set_option maxRecDepth 100000

/-- New memory, too, is none of the store's own. -/
theorem StoreAt.grow {base : Nat} {Z : Hp} {w w' : World} {sb : Nat} {g : Gh} {L : Nat → List Acc} (h : StoreAt base Z w sb g L) (hb : Below w.heap.size w w') : StoreAt base (orH Z (fr w.heap.size w')) w' sb g L := by
  have h' := h.below hb
  refine h'.more (orH_left _ _) (orH_sub h'.sub (fr_sub _ _)) fun b hs => ?_
  unfold orH fr
  rw [h.zm b hs, if_neg (by have := h.softlt hs; omega)]
  rfl
/-- Behind some commits of both. -/
structure PlayAt (w W : World) (sb : Nat) (wr : World) (u : Value) (Z : Hp) (g : Gh) (L : Nat → List Acc) (ds : List CO) (k : Nat) : Prop where
  st : StoreAt W.heap.size Z wr sb g L
  gn : g.n ≤ k + 1
  ln : ∀ v, v < g.n → (L v).length ≤ 50 * k
  doc : DocZ Z u ds
  dn : ds.length = g.n
  eq : ∀ i d, ds[i]? = some d → d.l.map AV.a = L i
  par : ∀ i d, 1 ≤ i → ds[i]? = some d → d.par = (g.par i : Int)
  old : Sub (hp w) Z
  below : Below W.heap.size W wr
section
variable {w W wr w' : World} {sb : Nat} {u : Value} {Z : Hp} {g : Gh} {L : Nat → List Acc} {ds : List CO} {k : Nat}
theorem PlayAt.grow (h : PlayAt w W sb wr u Z g L ds k) (hb : Below wr.heap.size wr w') : PlayAt w W sb w' u (orH Z (fr wr.heap.size w')) g L ds k :=
  { h with
    st := h.st.grow hb
    doc := h.doc.sub (orH_left _ _)
    old := h.old.trans (orH_left _ _)
    below := h.below.trans (hb.mono h.below.size) }
theorem PlayAt.stay (h : PlayAt w W sb wr u Z g L ds k) (hb : Below wr.heap.size wr w') : PlayAt w W sb w' u Z g L ds k :=
  { h with
    st := h.st.below hb
    below := h.below.trans (hb.mono h.below.size) }
theorem PlayAt.next (h : PlayAt w W sb wr u Z g L ds k) : PlayAt w W sb wr u Z g L ds (k + 1) :=
  { h with
    gn := by have := h.gn; omega
    ln := fun v hv => by have := h.ln v hv; omega }
theorem PlayAt.ok {p : Nat} {d d' : CO} {l : List AV} {v' : Value} {w1 w2 : World} {Z1 : Hp} {g1 : Gh} (h : PlayAt w W sb wr u Z g L ds k) (hd : ds[p]? = some d) (hll : l.length ≤ 50)
    (h1 : StoreAt W.heap.size Z1 w1 sb g1 (fun v => if v = g.n then putAll (L p) (l.map AV.a) else L v)) (hn1 : g1.n = g.n + 1) (hp1 : ∀ v, g1.par v = if v = g.n then p else g.par v) (hz : Sub Z Z1) (hb1 : Below W.heap.size wr w1)
    (e1 : d'.par = (p : Int)) (e2 : d'.l.map AV.a = putAll (d.l.map AV.a) (l.map AV.a)) (hdoc : DocZ (orH Z1 (fr w1.heap.size w2)) v' (ds ++ [d'])) (hb2 : Below w1.heap.size w1 w2) :
    PlayAt w W sb w2 v' (orH Z1 (fr w1.heap.size w2)) g1 (fun v => if v = g.n then putAll (L p) (l.map AV.a) else L v) (ds ++ [d']) (k + 1) := by
  have hpl := (List.getElem?_eq_some_iff.1 hd).1
  have hbz := hb1.size
  refine { st := h1.grow hb2, gn := by have := h.gn; omega, ln := fun v hv => ?_, doc := hdoc, dn := by rw [List.length_append, hn1, h.dn]; rfl, eq := fun i d0 hi => ?_, par := fun i d0 h0 hi => ?_, old := (h.old.trans hz).trans (orH_left _ _), below := (h.below.trans hb1).trans (hb2.mono ?_) }
  · by_cases e : v = g.n
    · simp only [e, if_true]
      have a1 := putAll_len (l.map AV.a) (L p)
      have a2 := h.ln p (by rw [← h.dn]; exact hpl)
      rw [List.length_map] at a1
      omega
    · simp only [e, if_false]
      have := h.ln v (by omega)
      omega
  · by_cases e : i = g.n
    · simp only [e, if_true]
      rw [e, ← h.dn, List.getElem?_append_right (Nat.le_refl _), Nat.sub_self] at hi
      simp at hi
      subst hi
      rw [e2, h.eq p d hd]
    · simp only [e, if_false]
      have hlt : i < ds.length := by
        have := (List.getElem?_eq_some_iff.1 hi).1
        rw [List.length_append, h.dn] at this
        simp at this
        rw [h.dn]
        omega
      rw [List.getElem?_append_left hlt] at hi
      exact h.eq i d0 hi
  · by_cases e : i = g.n
    · rw [hp1, if_pos e]
      rw [e, ← h.dn, List.getElem?_append_right (Nat.le_refl _), Nat.sub_self] at hi
      simp at hi
      subst hi
      exact e1
    · rw [hp1, if_neg e]
      have hlt : i < ds.length := by
        have := (List.getElem?_eq_some_iff.1 hi).1
        rw [List.length_append, h.dn] at this
        simp at this
        rw [h.dn]
        omega
      rw [List.getElem?_append_left hlt] at hi
      exact h.par i d0 h0 hi
  · exact Nat.le_trans (h.below.size) (by have := h.st.baseLe; omega)
end
theorem own_oneV (w : World) (d : CO) : (w.alloc (.cells (ocs d).toArray 32)).ownsRow w.heap.size 32 2 (.slice (some ⟨w.heap.size, 0, none⟩) 1 1) 1 (ocs d) :=
  ⟨rfl, .inr ⟨w.heap.size, 1, _, rfl, Nat.le_refl _, heap_alloc_new _ _, Nat.le_refl _, by simp [maxLen], rfl, rfl⟩⟩
def d0V : CO := ⟨-1, .slice none 0 0, []⟩
theorem PlayAt.start {w W w1 : World} {sb : Nat} {g : Gh} (hwW : Below w.heap.size w W) (h1 : StoreAt W.heap.size (fun _ => none) w1 sb g (fun _ => [])) (hn1 : g.n = 1) (hs : ∀ b, soft g sb b → W.heap.size ≤ b) (b1 : Below W.heap.size W w1) :
    ∃ Z L, PlayAt w W sb (w1.alloc (.cells #[.int .i64 (-1), .slice none 0 0] 32)) (.slice (some ⟨w1.heap.size, 0, none⟩) 1 1) Z g L [d0V] 0 := by
  have bb : Below w1.heap.size w1 (w1.alloc (.cells #[.int .i64 (-1), .slice none 0 0] 32)) := (Below.refl _ _).alloc (Nat.le_refl _) _
  have hsub : Sub (hp w) (hp w1) := (hp_below hwW).trans (hp_below b1)
  have h2 : StoreAt W.heap.size (hp w) w1 sb g (fun _ => []) := h1.more (fun b o h => by cases h) hsub fun b hb => by
    have := hs b hb
    have := hwW.size
    exact Array.getElem?_eq_none (by omega)
  refine ⟨_, _, { st := h2.grow bb, gn := by omega, ln := fun v _ => by simp, doc := ⟨?_, fun d hd => ?_⟩, dn := by rw [hn1]; rfl, eq := fun i d hi => ?_, par := fun i d h0 hi => ?_, old := orH_left _ _, below := b1.trans (bb.mono b1.size) }⟩
  · have := RowZ.ownF (own_oneV w1 d0V)
    exact this.sub (orH_in (hsub.trans (hp_below bb)) (fr_sub _ _))
  · simp at hd
    subst hd
    exact AccsZ.nil _
  · have := (List.getElem?_eq_some_iff.1 hi).1
    obtain rfl : i = 0 := by simpa using this
    simp at hi
    subst hi
    rfl
  · have := (List.getElem?_eq_some_iff.1 hi).1
    simp at this
    omega
set_option maxHeartbeats 8000000 in
theorem plays_law (v : Value) (l : List CO) (A key : Nat) (w : World) (h : RowZ (hp w) v l.length 2 (l.flatMap ocs)) (ho : ∀ o ∈ l, OpB (hp w) o) (hA : A < 2 ^ 160) (hk : key < M) :
    Calls Try.prog 3 #[v, .agg (aN A), wd key] w fun e w' => e = .returned (.bool true) ∧ Below w.heap.size w w' := by
  unfold wd
  have hk0 := hk
  clear hk
  have HR := Lib.hid h
  obtain ⟨A0, c, rfl, hn, hc, hA0, hcells⟩ := h.one (fun x _ => rfl)
  have HX := Lib.hid ho
  have HC : Hid (0 < l.length → ∃ b off, A0 = some ⟨b, off, none⟩ ∧ ∀ i x, l[i]? = some x → rng (hp w) b (off + i * 2) (ocs x)) := Lib.hid fun hn => by
    obtain ⟨b, off, e, _, hi⟩ := hcells hn
    exact ⟨b, off, e, hi⟩
  have hs := aN_size A
  have hw := wa_size
  obtain ⟨f0, bV⟩ := boxAd w A
  obtain ⟨V, hV⟩ : ∃ V, w.alloc (.cells (aN A) 24) = V := ⟨_, rfl⟩
  rw [hV] at f0 bV
  obtain ⟨W, hW⟩ : ∃ W, V.alloc (.cells (wa key) 27) = W := ⟨_, rfl⟩
  have f1 : W.heap[V.heap.size]? = some (.cells (wa key) 27) := hW ▸ heap_alloc_new _ _
  have bW : Below V.heap.size V W := hW ▸ (Below.refl _ _).alloc (Nat.le_refl _) _
  have sV : V.heap.size = w.heap.size + 1 := by rw [← hV]; simp
  have sW : W.heap.size = w.heap.size + 2 := by rw [← hW]; simp [sV]
  have HB := Lib.hid (bV.trans (bW.mono bV.size))
  have F0 := Lib.hid (stay bW f0)
  have F1 := Lib.hid f1
  rw [sV] at F1
  clear hcells h ho f0 f1 bV bW
  generalize hN : l.length = n at *
  have HN := Lib.hid hN
  clear hN
  go_enter Try.func3, Try.ntmps3
  go_upto_region 1 with fail
  clear hW hV
  go_upto_region 2 with (go_at_call 8; refine (new_walk W.heap.size W (Nat.le_refl _)).mono ?_; rintro e w1 ⟨sb, g0, rfl, h1, hn1, hsf, b1⟩; have HS1 := Lib.hid h1; have HN1 := Lib.hid hn1; have HSf := Lib.hid hsf; have B1 := Lib.hid b1; clear h1 hn1 b1 hsf)
  have HP0 := Lib.hid (PlayAt.start HB.out HS1.out HN1.out HSf.out B1.out)
  obtain ⟨w1a, hw1a⟩ : ∃ w1a, w1.alloc (.cells #[.int .i64 (-1), .slice none 0 0] 32) = w1a := ⟨_, rfl⟩
  rw [hw1a] at HP0
  clear HS1 HN1 HSf B1
  go_upto_region 3 with fail
  clear hw1a
  have KF := Lib.hid fun g : Ext w1a => fixed_walk g.on
  refine region_seq ?_
  repeat (go_big_quiet_step (first | (go_at_call 9; with_reducible exact calls_ext (KF.out _))))
  refine wpQuiet_nil ?_
  rintro w' ⟨gg2, rfl⟩
  have B2 := Lib.hid gg2.below
  generalize gg2.on = w2 at *
  clear KF
  have bw2 : Below w.heap.size w w2 := by
    obtain ⟨Z, L, hP⟩ := HP0.out
    exact HB.out.trans ((hP.below.trans (B2.out.mono hP.below.size)).mono HB.out.size)
  have KC := Lib.hid (cut_walk (.slice A0 n c) l w2 (by rw [HN.out]; exact HR.out.sub (hp_below bw2)) (fun o ho => (HX.out o ho).sub (hp_below bw2)))
  rw [HN.out] at KC
  clear bw2
  go_wp2_with (go_at_call 10; refine KC.out.mono ?_; rintro e w3 ⟨⟨m, A9, c9, hm, hml, hgr, hv, rfl⟩, b3⟩; cases hv; have HGr := Lib.hid hgr; have B3 := Lib.hid b3; clear hgr b3)
  have HP3 : Hid (∃ Z g L ds, PlayAt w W sb w3 (.slice (some ⟨w1.heap.size, 0, none⟩) 1 1) Z g L ds 0) := Lib.hid (by
    obtain ⟨Z, L, hP⟩ := HP0.out
    exact ⟨_, _, _, _, (hP.stay B2.out).stay B3.out⟩)
  clear KC HP0 B2 B3
  go_loopw [8, 35] (fun u i wr => ∃ k : Nat, k ≤ m ∧ i = .int .i64 k ∧ Hid (∃ Z g L ds, PlayAt w W sb wr u Z g L ds k)) (fun _ i _ => m - (intOf i).toNat)
  case atStart => exact ⟨0, Nat.zero_le _, rfl, HP3⟩
  case round =>
    obtain ⟨k, hk, rfl, HS⟩ := hrel
    clear HP3
    obtain ⟨Z, g, L, ds, hS⟩ := HS.out
    have HSk := Lib.hid hS
    obtain ⟨UA, uc, hu, -⟩ := hS.doc.row.val
    rw [hS.dn] at hu
    clear HS hS
    subst hu
    by_cases hlt : k < m
    · skip
      --BEG
      obtain ⟨b, off, rfl, hi⟩ := HC.out (by omega)
      obtain ⟨o, hx⟩ : ∃ o, l[k]? = some o := ⟨l[k]'(by rw [HN.out]; omega), by simp⟩
      have bwr : Below w.heap.size w wr := HB.out.trans (HSk.out.below.mono HB.out.size)
      have r1 := ((hi k _ hx).sub (hp_below bwr)).at
      have HOo := Lib.hid (small_accs (HX.out o (List.mem_of_getElem? hx)) (HGr.out o (List.mem_of_getElem? (by rw [List.getElem?_take_of_lt hlt]; exact hx))))
      obtain ⟨A2, c2, hv2, -⟩ := HOo.out.1.row.val
      clear hx hi
      have d0 : wr.cell? ⟨b, off + k * 2, none⟩ = some (.int .i64 o.par) := r1 0 _ rfl
      have d1 : wr.cell? ⟨b, off + k * 2 + 1, none⟩ = some o.v := r1 1 _ rfl
      rw [hv2] at d1
      obtain ⟨W2, hW2⟩ : ∃ W2, wr.alloc (.cells #[.int .i64 o.par, .slice A2 o.l.length c2] 36) = W2 := ⟨_, rfl⟩
      have g0' : W2.heap[wr.heap.size]? = some (.cells #[.int .i64 o.par, .slice A2 o.l.length c2] 36) := hW2 ▸ heap_alloc_new _ _
      have bW2 : Below wr.heap.size wr W2 := hW2 ▸ (Below.refl _ _).alloc (Nat.le_refl _) _
      have d2 := blk_cell (j := 0) g0' rfl
      have d3 := blk_cell (j := 1) g0' rfl
      have HS2 := Lib.hid (HSk.out.grow bW2)
      have HG2 : Hid (orH Z (fr wr.heap.size W2) wr.heap.size = some (.cells #[.int .i64 o.par, .slice A2 o.l.length c2] 36)) := Lib.hid (by
        refine orH_in (HSk.out.st.sub.below bW2) (fr_sub _ _) _ _ ?_
        unfold fr
        rw [if_pos (Nat.le_refl _)]
        exact g0')
      have HAc := Lib.hid (HOo.out.1.sub HS2.out.old)
      have HV2 := Lib.hid hv2
      have hln := HOo.out.2
      have hgn := HSk.out.gn
      clear g0' bW2 r1 bwr HSk hv2
      generalize orH Z (fr wr.heap.size W2) = Z2 at *
      by_cases hp : 0 ≤ o.par ∧ o.par < g.n
      · obtain ⟨p, hpar⟩ : ∃ p : Nat, o.par = p := ⟨o.par.toNat, by omega⟩
        have hpn : p < g.n := by omega
        rw [hpar] at d0 d2 hW2
        rw [HV2.out] at HAc
        have HG3 := HG2
        rw [hpar] at HG3
        clear hp hpar HOo HV2 HG2
        cases hr : (o.l.all fun x => rightA x.a)
        · have KM := Lib.hid (commit_arg HS2.out.st p (.slice A2 o.l.length c2) o.l hpn (HAc.out.sub HS2.out.st.sub) (by omega) hr)
          have HRr := Lib.hid hr
          clear hr
          go_wp2_with (first
            | (go_at_call 11
               refine KM.out.mono ?_
               rintro e w6 ⟨rfl, b6⟩
               have HS6 := Lib.hid (HS2.out.stay b6)
               have KR := Lib.hid (rcommit_arg UA g.n uc p (.slice A2 o.l.length c2) o.l w6 (HAc.out.sub HS6.out.st.sub) hpn (by omega) HRr.out)
               have d2 := (b6.cell (p := ⟨wr.heap.size, 0, none⟩) (by simpa using World.block_lt_of_cell? W2 _ d2)).trans d2
               have d3 := (b6.cell (p := ⟨wr.heap.size, 1, none⟩) (by simpa using World.block_lt_of_cell? W2 _ d3)).trans d3
               clear b6)
            | (go_at_call 12
               refine KR.out.mono ?_
               rintro e w7 ⟨rfl, b7⟩
               have HS7 := Lib.hid (HS6.out.stay b7)
               have KL := Lib.hid (slen_walk HS7.out.st)
               clear b7)
            | (go_at_call 13; refine KL.out.mono ?_; rintro e w8 ⟨rfl, rfl⟩))
          exact ⟨⟨k + 1, by omega, by go_num, Lib.hid ⟨_, _, _, _, HS7.out.next⟩⟩, by simp [intOf]; omega⟩
        · have HRr : Hid (∀ x ∈ o.l, rightA x.a = true) := Lib.hid (List.all_eq_true.1 hr)
          clear hr
          have KM := Lib.hid (commit_ok HS2.out.st p (.slice A2 o.l.length c2) o.l hpn (HAc.out.sub HS2.out.st.sub) (by omega) HRr.out (by omega))
          obtain ⟨d, hd⟩ : ∃ d, ds[p]? = some d := ⟨ds[p]'(by rw [HS2.out.dn]; exact hpn), by simp⟩
          have HD := Lib.hid hd
          clear hd
          obtain ⟨N, hN⟩ : ∃ N : Int, (g.n : Int) = N := ⟨_, rfl⟩
          obtain ⟨q, hq⟩ : ∃ q : Nat, g.n + 1 = q := ⟨_, rfl⟩
          have HQ := Lib.hid hq
          have HNn := Lib.hid hN
          clear hq
          go_wp2_with (first
            | (go_at_call 11
               refine KM.out.mono ?_
               rintro e w6 ⟨rfl, Z6, g6, h6, hn6, hp6, hz6, -, -, -, b6⟩
               have HS6 := Lib.hid h6
               have HN6 := Lib.hid hn6
               have HP6 := Lib.hid hp6
               have HZ6 := Lib.hid hz6
               have B6 := Lib.hid b6
               have KR := Lib.hid (rcommit_ok Z6 (.slice UA g.n uc) (.slice A2 o.l.length c2) ds o.l p d w6 h6.sub (HS2.out.doc.sub hz6) (HAc.out.sub hz6) HD.out (by have := HS2.out.dn; omega) (by omega) HRr.out
                 (by rw [HS2.out.eq p d HD.out]; exact HS2.out.st.srt p hpn) (by
                   have a1 := congrArg List.length (HS2.out.eq p d HD.out)
                   rw [List.length_map] at a1
                   have a2 := HS2.out.ln p hpn
                   omega))
               rw [HS2.out.dn] at KR
               have gx := (h6.sub _ _ (hz6 _ _ HG3.out))
               have d2 : w6.cell? ⟨wr.heap.size, 0, none⟩ = some (.int .i64 (p : Int)) := blk_cell (j := 0) gx rfl
               have d3 : w6.cell? ⟨wr.heap.size, 1, none⟩ = some (.slice A2 o.l.length c2) := blk_cell (j := 1) gx rfl
               clear h6 hn6 hp6 hz6 b6 gx)
            | (go_at_call 12
               refine KR.out.mono ?_
               rintro e w7 ⟨v7, d7, rfl, e1, e2, hdoc, b7⟩
               have hS7 := HS2.out.ok HD.out hln HS6.out HN6.out HP6.out HZ6.out B6.out e1 e2 hdoc b7
               have HS7 := Lib.hid hS7
               obtain ⟨VA, vc, hv7, -⟩ := hS7.doc.row.val
               rw [hS7.dn, HN6.out, HQ.out] at hv7
               have KL := Lib.hid (slen_walk hS7.st)
               rw [HN6.out, HQ.out] at KL
               subst hv7
               clear e1 e2 hdoc b7 hS7)
            | (go_at_call 13; refine KL.out.mono ?_; rintro e w8 ⟨rfl, rfl⟩))
          exact ⟨⟨k + 1, by omega, by go_num, Lib.hid ⟨_, _, _, _, HS7.out⟩⟩, by simp [intOf]; omega⟩
      · have KM := Lib.hid (commit_none HS2.out.st o.par (.slice A2 o.l.length c2) hp)
        have KR := Lib.hid (rcommit_none UA g.n uc o.par (.slice A2 o.l.length c2) W2 hp)
        have KL := Lib.hid (slen_walk HS2.out.st)
        go_wp2_with (first
          | (go_at_call 11; refine KM.out.mono ?_; rintro e w6 ⟨rfl, rfl⟩)
          | (go_at_call 12; refine KR.out.mono ?_; rintro e w7 ⟨rfl, rfl⟩)
          | (go_at_call 13; refine KL.out.mono ?_; rintro e w8 ⟨rfl, rfl⟩))
        exact ⟨⟨k + 1, by omega, by go_num, Lib.hid ⟨_, _, _, _, HS2.out.next⟩⟩, by simp [intOf]; omega⟩
      --END
    · obtain rfl : k = m := by omega
      have hgn : g.n ≤ k + 1 := HSk.out.gn
      have hg1 := HSk.out.st.n1
      have hsA : ∀ x, (acs x).toArray.size = 27 := fun x => by simp [acs_len]
      have e0 := z4w
      have eg := Try.guardW
      go_wp2_with fail
      go_loopw [16] (fun i wr => ∃ j : Nat, j ≤ g.n + 2 ∧ i = .int .i64 ((j : Int) - 1) ∧ Hid (PlayAt w W sb wr (.slice UA g.n uc) Z g L ds k)) (fun i _ => g.n + 2 - (intOf i + 1).toNat)
      case atStart => exact ⟨0, Nat.zero_le _, rfl, HSk⟩
      case round =>
        obtain ⟨j, hj, rfl, HP⟩ := hrel
        clear HSk
        obtain ⟨v, hv⟩ : ∃ v : Int, (j : Int) - 1 = v := ⟨_, rfl⟩
        rw [hv]
        have r6 := adblk (stay HP.out.below F0.out)
        by_cases hin : 0 ≤ v ∧ v < g.n
        · --IN
          obtain ⟨i, hi⟩ : ∃ i : Nat, v = i := ⟨v.toNat, by omega⟩
          subst hi
          have HVj := Lib.hid hv
          have hil : i < g.n := by omega
          clear hv hin
          obtain ⟨d, hd⟩ : ∃ d, ds[i]? = some d := ⟨ds[i]'(by rw [HP.out.dn]; exact hil), by simp⟩
          have HD := Lib.hid hd
          obtain ⟨o, hoo⟩ : ∃ o, lookA (L i) A = o := ⟨_, rfl⟩
          obtain ⟨bb, hbb⟩ : ∃ bb, o.isSome = bb := ⟨_, rfl⟩
          have HOo := Lib.hid hoo
          have HBb := Lib.hid hbb
          have hd2 := HP.out.eq i d hd
          have HD2 := Lib.hid hd2
          obtain ⟨y, hy⟩ : ∃ y, findV d.l A = y := ⟨_, rfl⟩
          have HYa : Hid (y.a = o.getD noneAV.a) := Lib.hid (by rw [← hy, findV_a, hd2, hoo])
          have HDacc := Lib.hid (HP.out.doc.each d (List.mem_of_getElem? hd))
          have HYz : Hid (AccZ Z y) := Lib.hid (hy ▸ findV_z HDacc.out A)
          have HLl : Hid ((L i).length ≤ 100000) := Lib.hid (by have := HP.out.ln i hil; omega)
          have HDl : Hid (d.l.length ≤ 100000) := Lib.hid (by
            have := congrArg List.length hd2
            rw [List.length_map] at this
            have := HLl.out
            omega)
          have hfo : (findO d.l A).isSome = bb := by rw [findO_has, hd2, hoo, hbb]
          have KF1 := Lib.hid (sfind_walk HP.out.st i A hil hA)
          unfold FindIs at KF1
          rw [hoo, hbb] at KF1
          have HFo := Lib.hid hfo
          have HYy := Lib.hid hy
          obtain ⟨UB, uc2, hUA, -, -, -, hrows⟩ := HP.out.doc.row.one (fun x _ => rfl)
          obtain ⟨vb, off, rfl, -, hri⟩ := hrows (by rw [HP.out.dn]; exact hg1)
          rw [HP.out.dn] at hUA
          injection hUA with hU1 _ hU3
          subst hU1 hU3
          have HRi := Lib.hid (hri i d hd)
          clear hrows hri hoo hbb hd hd2 hfo hy
          have hin1 : (i : Int) ≤ (g.n : Int) := by omega
          have hin2 : ¬ i = g.n := by omega
          have hiM : i < 100 := by omega
          have hb1 : ((i : Int) == (g.n : Int)) = false := by simp; omega
          have hb2 : (i == g.n) = false := by simp; omega
          rcases Nat.eq_zero_or_pos i with hi0 | hi0
          · skip
            --BEG
            have HI0 := Lib.hid hi0
            have hpz : ¬ 0 < i := by omega
            clear hi0
            go_upto_region 18 with (first
              | (refine wpList_alloc_row rfl 46 rfl _ zeroAcc ?_)
              | (refine wpList_load_mid rfl 24 _ rfl w.heap.size 0 rfl (aN A).toList _ r6 Try.underlying24 rfl (infoAd A) ?_; simp only [Array.toArray_toList])
              | (go_at_call 14
                 refine KF1.out.mono ?_
                 rintro e w7 ⟨x7, rfl, hx7, hz7, b7⟩
                 have one7 := hz7.ones
                 have sn7 := fun w => store_newA w x7 one7
                 obtain ⟨W7, hW7⟩ : ∃ W7, w7.alloc (.cells (acs x7).toArray 46) = W7 := ⟨_, rfl⟩
                 have F7 : Hid (W7.heap[w7.heap.size]? = some (.cells (acs x7).toArray 46)) := Lib.hid (hW7 ▸ heap_alloc_new _ _)
                 have b77 : Below w7.heap.size w7 W7 := hW7 ▸ (Below.refl _ _).alloc (Nat.le_refl _) _
                 have HX7 := Lib.hid hx7
                 have HZ7 := Lib.hid (hz7.sub (hp_below b77))
                 have HS7 := Lib.hid (HP.out.stay (b7.trans (b77.mono b7.size)))
                 unfold aval
                 clear hx7 hz7 b7 b77))
            clear hW7 sn7 KF1 r6
            have HS7b := HS7
            have F17 := F7
            obtain ⟨B17, hB17⟩ : ∃ B17, w7.heap.size = B17 := ⟨_, rfl⟩
            rw [hB17] at F17 ⊢
            clear F7 hB17
            have KP : Hid (Calls Try.prog 15 #[.pointer (some ⟨sb, 0, none⟩), .int .i64 (i : Int)] W7 fun e w' => e = .returned (.tuple #[.int .i64 0, .bool false]) ∧ W7 = w') := Lib.hid (by rw [HI0.out]; exact parent_zero _ W7)
            go_upto_region 22 with (go_at_call 15; refine KP.out.mono ?_; rintro e w8 ⟨rfl, rfl⟩)
            clear KP
            have K22 := Lib.hid fun (w' : World) (hb : Below W7.heap.size W7 w') => rfind_walk d.v d.l A w' (HDacc.out.sub (HS7.out.st.sub.below hb)) (by have := HDl.out; omega) hA
            rw [HYy.out, HFo.out] at K22
            unfold aval at K22
            have c22 : W7.cell? ⟨vb, off + i * 2 + 1, none⟩ = some d.v := (HRi.out.sub HS7.out.st.sub).cell (j := 1) rfl
            have r22 := adblk (stay HS7.out.below F0.out)
            have OneY := (HYz.out).ones
            refine region_mkA (aQ := ?aQ) 10 ⟨10, 11, 46, 21, 130, (acs noneAV).toArray, (acs y).toArray⟩ (by kernel_rfl) (by kernel_rfl) (by kernel_rfl) (fun w1 => ?hq) ?hok ?hh
            case hq =>
              have hbx : Below W7.heap.size W7 w1.on := ((Below.refl W7.heap.size W7).drew).trans w1.below
              have c1 := fun g => ext2_cell w1 g c22
              have r1 : ∀ g : Ext w1.on, g.on.rangeAt w.heap.size 0 (aN A).toList := fun g => below_at (hbx.trans (g.below.mono hbx.size)) r22
              have K1 := fun g : Ext w1.on => K22.out g.on (hbx.trans (g.below.mono hbx.size))
              simp only [List.take_succ_cons, List.take_zero, List.drop_succ_cons, List.drop_zero, List.cons_append, List.nil_append]
              repeat (first
                | (go_big_quiet_want; refine quiet_load_mid 24 _ rfl w.heap.size 0 (aN A).toList rfl (fun w2 hw2 => by obtain ⟨g1, rfl⟩ := hw2; exact r1 g1) Try.underlying24 rfl (infoAd _) ?_; simp only [Act.put, List.setIfInBounds_toArray, List.set_cons_succ, List.set_cons_zero, Array.toArray_toList]; go_big_quiet_on)
                | go_big_quiet_step (first | (go_at_call 18; with_reducible exact calls_ext (K1 _))))
              refine wpQuiet_nil ?_
              rfl
            case hok => exact ⟨zeroAcc, by simpa using infoAcs y, by simp [acs_len], OneY, by simp, rfl⟩
            case hh =>
                intro b22 w22 b2 lb22 f22
                simp only [Act.put, List.setIfInBounds_toArray, List.set_cons_succ, List.set_cons_zero]
                have HS22 := Lib.hid (HS7.out.stay b2)
                have HF22 := Lib.hid f22
                have HF17 := Lib.hid (stay b2 F17.out)
                have HX22 := Lib.hid (HZ7.out.sub (hp_below b2))
                clear b2 f22 lb22 c22 r22 K22 OneY F17
                go_upto_region 23 with fail
                have R17 : Hid (∀ w', Below w22.heap.size w22 w' → w'.rangeAt B17 0 (acs x7)) := Lib.hid fun w' hb => (rng_block (stay hb HF17.out)).at
                have R22 : Hid (∀ w', Below w22.heap.size w22 w' → w'.rangeAt b22 0 (acs y)) := Lib.hid fun w' hb => (rng_block (stay hb HF22.out)).at
                have RAd : Hid (∀ w', Below w22.heap.size w22 w' → w'.rangeAt w.heap.size 0 (aN A).toList) := Lib.hid fun w' hb => adblk (stay hb (stay HS22.out.below F0.out))
                have RWd : Hid (∀ w', Below w22.heap.size w22 w' → w'.rangeAt (w.heap.size + 1) 0 (wa key).toList) := Lib.hid fun w' hb => (rng_block (cs := (wa key).toList) (by simpa using stay hb (stay HS22.out.below F1.out))).at
                have C1 : Hid (∀ w', Below w22.heap.size w22 w' → w'.cell? ⟨vb, off + i * 2 + 1, none⟩ = some d.v) := Lib.hid fun w' hb => (HRi.out.sub (HS22.out.st.sub.below hb)).cell (j := 1) rfl
                have C0 : Hid (∀ w', Below w22.heap.size w22 w' → w'.cell? ⟨vb, off + i * 2, none⟩ = some (.int .i64 d.par)) := Lib.hid fun w' hb => (HRi.out.sub (HS22.out.st.sub.below hb)).cell (j := 0) rfl
                have KSame := Lib.hid fun (w' : World) (hb : Below w22.heap.size w22 w') => same_walk x7 y w' (by rw [HYa.out, HX7.out]) (HX22.out.sub (hp_below hb)) (HYz.out.sub (HS22.out.st.sub.below hb))
                have KSlot := Lib.hid fun (w' : World) (hb : Below w22.heap.size w22 w') => sslot_walk (HS22.out.st.below hb) i A key hil hA hk0
                have KRSlot := Lib.hid fun (w' : World) (hb : Below w22.heap.size w22 w') => rslot_walk y key w' (HYz.out.sub (HS22.out.st.sub.below hb)) hk0
                rw [HOo.out] at KSlot
                rw [HYa.out] at KRSlot
                obtain ⟨sv, hsv⟩ : ∃ sv, slotV (o.getD noneAV.a).so key = sv := ⟨_, rfl⟩
                rw [hsv] at KSlot KRSlot
                have heq : ∀ w : World, (Op.equalIn 10000 27 (.agg (wa sv)) (.agg (wa sv))).run Try.prog w = .ok true w := fun w => by rw [equal_wa]; simp
                unfold aval at KSame KRSlot
                unfold wd at KSlot KRSlot
                have KAll := Lib.hid fun (w' : World) (hb : Below w22.heap.size w22 w') => all_walk (HS22.out.st.below hb) (by omega) i hil
                have KSome := Lib.hid fun (w' : World) (hb : Below w22.heap.size w22 w') => rsome_walk d.v d.l w' (HDacc.out.sub (HS22.out.st.sub.below hb)) (by have := HDl.out; omega)
                have HSomeEq : Hid ((someV d.l).map AV.a = (L i).filter fun x => !emptyA x) := Lib.hid (by
                  rw [← HD2.out, List.filter_map]
                  rfl)
                clear hsv
                refine wp_region_held_drew (S := fun w' => Below w22.heap.size w22 w') (by kernel_rfl) ((Below.refl _ _).drew) (fun hHeld => ?_)
                refine wpAnyH_take (i := 0) (oi := ⟨_, _, _, _, _, _⟩) (v := ?_) rfl (by kernel_rfl) (by kernel_rfl) (by kernel_rfl) (fun _ _ _ h => h) (Or.inl ⟨by rfl, ?_⟩) (by assumption) ?_
                rotate_left
                · (intro w hSw; first | (go_simp; done) | (go_simp; with_reducible rfl))
                try simp only [Act.put, List.setIfInBounds_toArray, List.set_cons_zero, List.set_cons_succ]
                refine wpAnyH_take (i := 1) (oi := ⟨_, _, _, _, _, _⟩) (v := ?_) rfl (by kernel_rfl) (by kernel_rfl) (by kernel_rfl) (fun _ _ _ h => h) (Or.inl ⟨by rfl, ?_⟩) (by assumption) ?_
                rotate_left
                · (intro w hSw; first | (go_simp; done) | (go_simp; with_reducible rfl))
                try simp only [Act.put, List.setIfInBounds_toArray, List.set_cons_zero, List.set_cons_succ]
                refine wpAnyH_take (i := 2) (oi := ⟨_, _, _, _, _, _⟩) (v := ?_) rfl (by kernel_rfl) (by kernel_rfl) (by kernel_rfl) (fun _ _ _ h => h) (Or.inl ⟨by rfl, ?_⟩) (by assumption) ?_
                rotate_left
                · (intro w hSw; first | (go_simp; done) | (go_simp; with_reducible rfl))
                try simp only [Act.put, List.setIfInBounds_toArray, List.set_cons_zero, List.set_cons_succ]
                refine wpAnyH_take (i := 3) (oi := ⟨_, _, _, _, _, _⟩) (v := ?_) rfl (by kernel_rfl) (by kernel_rfl) (by kernel_rfl) (fun _ _ _ h => h) (Or.inl ⟨by rfl, ?_⟩) (by assumption) ?_
                rotate_left
                · (intro w hSw; first | (go_simp; done) | (go_simp; with_reducible rfl))
                try simp only [Act.put, List.setIfInBounds_toArray, List.set_cons_zero, List.set_cons_succ]
                refine wpAnyH_take (i := 4) (oi := ⟨_, _, _, _, _, _⟩) rfl (by kernel_rfl) (by kernel_rfl) (by kernel_rfl) (fun _ _ _ h => h) (yieldsIf_load_mid (by rfl) 46 _ rfl B17 0 rfl (acs x7) _ (R17.out) Try.underlying46 rfl (infoAcs _)) (by assumption) ?_
                try simp only [Act.put, List.setIfInBounds_toArray, List.set_cons_zero, List.set_cons_succ]
                refine wpAnyH_take (i := 5) (oi := ⟨_, _, _, _, _, _⟩) rfl (by kernel_rfl) (by kernel_rfl) (by kernel_rfl) (fun _ _ _ h => h) (yieldsIf_load_mid (by rfl) 46 _ rfl b22 0 rfl (acs y) _ (R22.out) Try.underlying46 rfl (infoAcs _)) (by assumption) ?_
                try simp only [Act.put, List.setIfInBounds_toArray, List.set_cons_zero, List.set_cons_succ]
                refine wpAnyH_ready (rs := [6]) (by kernel_rfl) (by simp) ?_
                refine AllReadyH.cons (o := ⟨_, _, _, _, _, _⟩) rfl (fun K hK => ?_) AllReadyH.nil
                go_simp
                go_wp2_with (go_at_call 19; refine (KSame.out _ hHeld).mono ?_; rintro e w1 ⟨rfl, b1⟩)
                refine hK.out _ _ (Below.trans hHeld (b1.mono (Below.size hHeld))) (fun hHeld => ?_)
                clear hK K
                try simp only [Act.put, List.setIfInBounds_toArray, List.set_cons_zero, List.set_cons_succ]
                refine wpAnyH_take (i := 7) (oi := ⟨_, _, _, _, _, _⟩) (v := ?_) rfl (by kernel_rfl) (by kernel_rfl) (by kernel_rfl) (fun _ _ _ h => h) (Or.inl ⟨by rfl, ?_⟩) (by assumption) ?_
                rotate_left
                · (intro w hSw; first | (go_simp; done) | (go_simp; with_reducible rfl))
                try simp only [Act.put, List.setIfInBounds_toArray, List.set_cons_zero, List.set_cons_succ]
                refine wpAnyH_take (i := 8) (oi := ⟨_, _, _, _, _, _⟩) (v := ?_) rfl (by kernel_rfl) (by kernel_rfl) (by kernel_rfl) (fun _ _ _ h => h) (Or.inl ⟨by rfl, ?_⟩) (by assumption) ?_
                rotate_left
                · (intro w hSw; first | (go_simp; done) | (go_simp; with_reducible rfl))
                try simp only [Act.put, List.setIfInBounds_toArray, List.set_cons_zero, List.set_cons_succ]
                refine wpAnyH_take (i := 9) (oi := ⟨_, _, _, _, _, _⟩) (v := ?_) rfl (by kernel_rfl) (by kernel_rfl) (by kernel_rfl) (fun _ _ _ h => h) (Or.inl ⟨by rfl, ?_⟩) (by assumption) ?_
                rotate_left
                · (intro w hSw; first | (go_simp; done) | (go_simp; with_reducible rfl))
                try simp only [Act.put, List.setIfInBounds_toArray, List.set_cons_zero, List.set_cons_succ]
                refine wpAnyH_take (i := 10) (oi := ⟨_, _, _, _, _, _⟩) (v := ?_) rfl (by kernel_rfl) (by kernel_rfl) (by kernel_rfl) (fun _ _ _ h => h) (Or.inl ⟨by rfl, ?_⟩) (by assumption) ?_
                rotate_left
                · (intro w hSw; first | (go_simp; done) | (go_simp; with_reducible rfl))
                try simp only [Act.put, List.setIfInBounds_toArray, List.set_cons_zero, List.set_cons_succ]
                refine wpAnyH_take (i := 11) (oi := ⟨_, _, _, _, _, _⟩) (v := ?_) rfl (by kernel_rfl) (by kernel_rfl) (by kernel_rfl) (fun _ _ _ h => h) (Or.inl ⟨by rfl, ?_⟩) (by assumption) ?_
                rotate_left
                · (intro w hSw; first | (go_simp; done) | (go_simp; with_reducible rfl))
                try simp only [Act.put, List.setIfInBounds_toArray, List.set_cons_zero, List.set_cons_succ]
                refine wpAnyH_take (i := 12) (oi := ⟨_, _, _, _, _, _⟩) rfl (by kernel_rfl) (by kernel_rfl) (by kernel_rfl) (fun _ _ _ h => h) (yieldsIf_load_mid (by rfl) 24 _ rfl w.heap.size 0 rfl (aN A).toList _ (RAd.out) Try.underlying24 rfl (infoAd A)) (by assumption) ?_
                try simp only [Act.put, List.setIfInBounds_toArray, List.set_cons_zero, List.set_cons_succ, Array.toArray_toList]
                refine wpAnyH_take (i := 13) (oi := ⟨_, _, _, _, _, _⟩) rfl (by kernel_rfl) (by kernel_rfl) (by kernel_rfl) (fun _ _ _ h => h) (yieldsIf_load_mid (by rfl) 27 _ rfl (w.heap.size + 1) 0 rfl (wa key).toList _ (RWd.out) Try.underlying27 rfl (infoW4 _)) (by assumption) ?_
                try simp only [Act.put, List.setIfInBounds_toArray, List.set_cons_zero, List.set_cons_succ, Array.toArray_toList]
                refine wpAnyH_take (i := 15) (oi := ⟨_, _, _, _, _, _⟩) rfl (by kernel_rfl) (by kernel_rfl) (by kernel_rfl) (fun _ _ _ h => h) (yieldsIf_load_mid (by rfl) 46 _ rfl b22 0 rfl (acs y) _ (R22.out) Try.underlying46 rfl (infoAcs _)) (by assumption) ?_
                try simp only [Act.put, List.setIfInBounds_toArray, List.set_cons_zero, List.set_cons_succ]
                refine wpAnyH_take (i := 16) (oi := ⟨_, _, _, _, _, _⟩) rfl (by kernel_rfl) (by kernel_rfl) (by kernel_rfl) (fun _ _ _ h => h) (yieldsIf_load_mid (by rfl) 27 _ rfl (w.heap.size + 1) 0 rfl (wa key).toList _ (RWd.out) Try.underlying27 rfl (infoW4 _)) (by assumption) ?_
                try simp only [Act.put, List.setIfInBounds_toArray, List.set_cons_zero, List.set_cons_succ, Array.toArray_toList]
                refine wpAnyH_ready (rs := [14]) (by kernel_rfl) (by simp) ?_
                refine AllReadyH.cons (o := ⟨_, _, _, _, _, _⟩) rfl (fun K hK => ?_) AllReadyH.nil
                go_simp
                go_wp2_with (go_at_call 17; refine (KSlot.out _ hHeld).mono ?_; rintro e w1 ⟨rfl, b1⟩)
                refine hK.out _ _ (Below.trans hHeld (b1.mono (Below.size hHeld))) (fun hHeld => ?_)
                clear hK K
                try simp only [Act.put, List.setIfInBounds_toArray, List.set_cons_zero, List.set_cons_succ]
                refine wpAnyH_ready (rs := [17]) (by kernel_rfl) (by simp) ?_
                refine AllReadyH.cons (o := ⟨_, _, _, _, _, _⟩) rfl (fun K hK => ?_) AllReadyH.nil
                go_simp
                go_wp2_with (go_at_call 20; refine (KRSlot.out _ hHeld).mono ?_; rintro e w1 ⟨rfl, b1⟩)
                refine hK.out _ _ (Below.trans hHeld (b1.mono (Below.size hHeld))) (fun hHeld => ?_)
                clear hK K
                try simp only [Act.put, List.setIfInBounds_toArray, List.set_cons_zero, List.set_cons_succ]
                refine wpAnyH_take (i := 18) (oi := ⟨_, _, _, _, _, _⟩) (v := ?_) rfl (by kernel_rfl) (by kernel_rfl) (by kernel_rfl) (fun _ _ _ h => h) (Or.inl ⟨by rfl, ?_⟩) (by assumption) ?_
                rotate_left
                · (intro w hSw; first | (go_simp; done) | (go_simp; with_reducible rfl))
                try simp only [Act.put, List.setIfInBounds_toArray, List.set_cons_zero, List.set_cons_succ]
                refine wpAnyH_take (i := 19) (oi := ⟨_, _, _, _, _, _⟩) (v := ?_) rfl (by kernel_rfl) (by kernel_rfl) (by kernel_rfl) (fun _ _ _ h => h) (Or.inl ⟨by rfl, ?_⟩) (by assumption) ?_
                rotate_left
                · (intro w hSw; first | (go_simp; done) | (go_simp; with_reducible rfl))
                try simp only [Act.put, List.setIfInBounds_toArray, List.set_cons_zero, List.set_cons_succ]
                refine wpAnyH_take (i := 20) (oi := ⟨_, _, _, _, _, _⟩) (v := ?_) rfl (by kernel_rfl) (by kernel_rfl) (by kernel_rfl) (fun _ _ _ h => h) (Or.inl ⟨by rfl, ?_⟩) (by assumption) ?_
                rotate_left
                · (intro w hSw; first | (go_simp; done) | (go_simp; with_reducible rfl))
                try simp only [Act.put, List.setIfInBounds_toArray, List.set_cons_zero, List.set_cons_succ]
                refine wpAnyH_take (i := 21) (oi := ⟨_, _, _, _, _, _⟩) (v := ?_) rfl (by kernel_rfl) (by kernel_rfl) (by kernel_rfl) (fun _ _ _ h => h) (Or.inl ⟨by rfl, ?_⟩) (by assumption) ?_
                rotate_left
                · (intro w hSw; first | (go_simp; done) | (go_simp; with_reducible rfl))
                try simp only [Act.put, List.setIfInBounds_toArray, List.set_cons_zero, List.set_cons_succ]
                refine wpAnyH_take (i := 22) (oi := ⟨_, _, _, _, _, _⟩) (v := ?_) rfl (by kernel_rfl) (by kernel_rfl) (by kernel_rfl) (fun _ _ _ h => h) (Or.inl ⟨by rfl, ?_⟩) (by assumption) ?_
                rotate_left
                · (intro w hSw; first | (go_simp; done) | (go_simp; with_reducible rfl))
                try simp only [Act.put, List.setIfInBounds_toArray, List.set_cons_zero, List.set_cons_succ]
                refine wpAnyH_take (i := 24) (oi := ⟨_, _, _, _, _, _⟩) (v := ?_) rfl (by kernel_rfl) (by kernel_rfl) (by kernel_rfl) (fun _ _ _ h => h) (Or.inl ⟨by rfl, ?_⟩) (by assumption) ?_
                rotate_left
                · (intro w hSw; first | (go_simp; done) | (go_simp; with_reducible rfl))
                try simp only [Act.put, List.setIfInBounds_toArray, List.set_cons_zero, List.set_cons_succ]
                refine wpAnyH_take (i := 25) (oi := ⟨_, _, _, _, _, _⟩) (v := ?_) rfl (by kernel_rfl) (by kernel_rfl) (by kernel_rfl) (fun _ _ _ h => h) (Or.inl ⟨by rfl, ?_⟩) (by assumption) ?_
                rotate_left
                · (intro w hSw; first | (go_simp; done) | (go_simp; with_reducible rfl))
                try simp only [Act.put, List.setIfInBounds_toArray, List.set_cons_zero, List.set_cons_succ]
                refine wpAnyH_take (i := 26) (oi := ⟨_, _, _, _, _, _⟩) (v := ?_) rfl (by kernel_rfl) (by kernel_rfl) (by kernel_rfl) (fun _ _ _ h => h) (Or.inl ⟨by rfl, ?_⟩) (by assumption) ?_
                rotate_left
                · (intro w hSw; first | (go_simp; done) | (go_simp; with_reducible rfl))
                try simp only [Act.put, List.setIfInBounds_toArray, List.set_cons_zero, List.set_cons_succ]
                refine wpAnyH_take (i := 27) (oi := ⟨_, _, _, _, _, _⟩) (v := ?_) rfl (by kernel_rfl) (by kernel_rfl) (by kernel_rfl) (fun _ _ _ h => h) (Or.inl ⟨by rfl, ?_⟩) (by assumption) ?_
                rotate_left
                · (intro w hSw; first | (go_simp; done) | (go_simp; with_reducible rfl))
                try simp only [Act.put, List.setIfInBounds_toArray, List.set_cons_zero, List.set_cons_succ]
                refine wpAnyH_take (i := 28) (oi := ⟨_, _, _, _, _, _⟩) (v := ?_) rfl (by kernel_rfl) (by kernel_rfl) (by kernel_rfl) (fun _ _ _ h => h) (Or.inl ⟨by rfl, ?_⟩) (by assumption) ?_
                rotate_left
                · (intro w hSw; have hc := C1.out w hSw; first | (go_simp; done) | (go_simp; with_reducible rfl))
                try simp only [Act.put, List.setIfInBounds_toArray, List.set_cons_zero, List.set_cons_succ]
                refine wpAnyH_ready (rs := [23]) (by kernel_rfl) (by simp) ?_
                refine AllReadyH.cons (o := ⟨_, _, _, _, _, _⟩) rfl (fun K hK => ?_) AllReadyH.nil
                go_simp
                go_wp2_with (go_at_call 16; refine (KAll.out _ hHeld).mono ?_; rintro e w1 ⟨val, ys, Zp, rfl, hall⟩)
                have HAll := Lib.hid hall
                obtain ⟨AA, ac, eA⟩ := own_sl hall.own
                have b1 := hall.below
                subst eA
                clear hall
                refine hK.out _ _ (Below.trans hHeld (b1.mono (Below.size hHeld))) (fun hHeld => ?_)
                clear hK K
                try simp only [Act.put, List.setIfInBounds_toArray, List.set_cons_zero, List.set_cons_succ]
                refine wpAnyH_ready (rs := [29]) (by kernel_rfl) (by simp) ?_
                refine AllReadyH.cons (o := ⟨_, _, _, _, _, _⟩) rfl (fun K hK => ?_) AllReadyH.nil
                go_simp
                go_wp2_with (go_at_call 22; refine (KSome.out _ hHeld).mono ?_; rintro e w2 ⟨val2, rfl, ho2, b2⟩)
                obtain ⟨SA, sc, eS⟩ := own_sl ho2
                have HOwn2 := Lib.hid ho2
                have B2s := Lib.hid b2
                subst eS
                clear ho2
                have b1 := b2
                clear b2
                refine hK.out _ _ (Below.trans hHeld (b1.mono (Below.size hHeld))) (fun hHeld => ?_)
                clear hK K
                try simp only [Act.put, List.setIfInBounds_toArray, List.set_cons_zero, List.set_cons_succ]
                refine wpAnyH_ready (rs := [30]) (by kernel_rfl) (by simp) ?_
                refine AllReadyH.cons (o := ⟨_, _, _, _, _, _⟩) rfl (fun K hK => ?_) AllReadyH.nil
                go_simp
                have KSA := Lib.hid (sameAll_walk _ _ ys (someV d.l) _ (by rw [HAll.out.eq]; exact HSomeEq.out) (HAll.out.accs.sub (hp_below B2s.out)) ⟨RowZ.own HOwn2.out, fun q hq => (HDacc.out.each q (List.mem_filter.1 hq).1).sub (HS22.out.st.sub.below hHeld)⟩ (by have := HAll.out.len; have := HLl.out; omega))
                go_wp2_with (go_at_call 21; refine KSA.out.mono ?_; rintro e w1 ⟨rfl, b1⟩)
                refine hK.out _ _ (Below.trans hHeld (b1.mono (Below.size hHeld))) (fun hHeld => ?_)
                clear hK K
                try simp only [Act.put, List.setIfInBounds_toArray, List.set_cons_zero, List.set_cons_succ]
                refine wpAnyH_take (i := 31) (oi := ⟨_, _, _, _, _, _⟩) (v := ?_) rfl (by kernel_rfl) (by kernel_rfl) (by kernel_rfl) (fun _ _ _ h => h) (Or.inl ⟨by rfl, ?_⟩) (by assumption) ?_
                rotate_left
                · (intro w hSw; first | (go_simp; done) | (go_simp; with_reducible rfl))
                try simp only [Act.put, List.setIfInBounds_toArray, List.set_cons_zero, List.set_cons_succ]
                refine wpAnyH_take (i := 32) (oi := ⟨_, _, _, _, _, _⟩) (v := ?_) rfl (by kernel_rfl) (by kernel_rfl) (by kernel_rfl) (fun _ _ _ h => h) (Or.inl ⟨by rfl, ?_⟩) (by assumption) ?_
                rotate_left
                · (intro w hSw; first | (go_simp; done) | (go_simp; with_reducible rfl))
                try simp only [Act.put, List.setIfInBounds_toArray, List.set_cons_zero, List.set_cons_succ]
                refine wpAnyH_take (i := 33) (oi := ⟨_, _, _, _, _, _⟩) (v := ?_) rfl (by kernel_rfl) (by kernel_rfl) (by kernel_rfl) (fun _ _ _ h => h) (Or.inl ⟨by rfl, ?_⟩) (by assumption) ?_
                rotate_left
                · (intro w hSw; first | (go_simp; done) | (go_simp; with_reducible rfl))
                try simp only [Act.put, List.setIfInBounds_toArray, List.set_cons_zero, List.set_cons_succ]
                refine wpAnyH_take (i := 34) (oi := ⟨_, _, _, _, _, _⟩) (v := ?_) rfl (by kernel_rfl) (by kernel_rfl) (by kernel_rfl) (fun _ _ _ h => h) (Or.inl ⟨by rfl, ?_⟩) (by assumption) ?_
                rotate_left
                · (intro w hSw; first | (go_simp; done) | (go_simp; with_reducible rfl))
                try simp only [Act.put, List.setIfInBounds_toArray, List.set_cons_zero, List.set_cons_succ]
                refine wpAnyH_take (i := 35) (oi := ⟨_, _, _, _, _, _⟩) (v := ?_) rfl (by kernel_rfl) (by kernel_rfl) (by kernel_rfl) (fun _ _ _ h => h) (Or.inl ⟨by rfl, ?_⟩) (by assumption) ?_
                rotate_left
                · (intro w hSw; first | (go_simp; done) | (go_simp; with_reducible rfl))
                try simp only [Act.put, List.setIfInBounds_toArray, List.set_cons_zero, List.set_cons_succ]
                refine wpAnyH_take (i := 36) (oi := ⟨_, _, _, _, _, _⟩) (v := ?_) rfl (by kernel_rfl) (by kernel_rfl) (by kernel_rfl) (fun _ _ _ h => h) (Or.inl ⟨by rfl, ?_⟩) (by assumption) ?_
                rotate_left
                · (intro w hSw; first | (go_simp; done) | (go_simp; with_reducible rfl))
                try simp only [Act.put, List.setIfInBounds_toArray, List.set_cons_zero, List.set_cons_succ]
                refine wpAnyH_take (i := 37) (oi := ⟨_, _, _, _, _, _⟩) (v := ?_) rfl (by kernel_rfl) (by kernel_rfl) (by kernel_rfl) (fun _ _ _ h => h) (Or.inl ⟨by rfl, ?_⟩) (by assumption) ?_
                rotate_left
                · (intro w hSw; first | (go_simp; done) | (go_simp; with_reducible rfl))
                try simp only [Act.put, List.setIfInBounds_toArray, List.set_cons_zero, List.set_cons_succ]
                refine wpAnyH_take (i := 38) (oi := ⟨_, _, _, _, _, _⟩) (v := ?_) rfl (by kernel_rfl) (by kernel_rfl) (by kernel_rfl) (fun _ _ _ h => h) (Or.inl ⟨by rfl, ?_⟩) (by assumption) ?_
                rotate_left
                · (intro w hSw; first | (go_simp; done) | (go_simp; with_reducible rfl))
                try simp only [Act.put, List.setIfInBounds_toArray, List.set_cons_zero, List.set_cons_succ]
                refine wpAnyH_take (i := 39) (oi := ⟨_, _, _, _, _, _⟩) (v := ?_) rfl (by kernel_rfl) (by kernel_rfl) (by kernel_rfl) (fun _ _ _ h => h) (Or.inl ⟨by rfl, ?_⟩) (by assumption) ?_
                rotate_left
                · (intro w hSw; first | (go_simp; done) | (go_simp; with_reducible rfl))
                try simp only [Act.put, List.setIfInBounds_toArray, List.set_cons_zero, List.set_cons_succ]
                refine wpAnyH_take (i := 40) (oi := ⟨_, _, _, _, _, _⟩) (v := ?_) rfl (by kernel_rfl) (by kernel_rfl) (by kernel_rfl) (fun _ _ _ h => h) (Or.inl ⟨by rfl, ?_⟩) (by assumption) ?_
                rotate_left
                · (intro w hSw; first | (go_simp; done) | (go_simp; with_reducible rfl))
                try simp only [Act.put, List.setIfInBounds_toArray, List.set_cons_zero, List.set_cons_succ]
                refine wpAnyH_take (i := 41) (oi := ⟨_, _, _, _, _, _⟩) (v := ?_) rfl (by kernel_rfl) (by kernel_rfl) (by kernel_rfl) (fun _ _ _ h => h) (Or.inl ⟨by rfl, ?_⟩) (by assumption) ?_
                rotate_left
                · (intro w hSw; first | (go_simp; done) | (go_simp; with_reducible rfl))
                try simp only [Act.put, List.setIfInBounds_toArray, List.set_cons_zero, List.set_cons_succ]
                refine wpAnyH_take (i := 42) (oi := ⟨_, _, _, _, _, _⟩) (v := undef) rfl (by kernel_rfl) (by kernel_rfl) (by kernel_rfl) (fun _ _ _ h => h) (Or.inr ⟨by rfl, rfl⟩) (by assumption) ?_
                try simp only [Act.put, List.setIfInBounds_toArray, List.set_cons_zero, List.set_cons_succ]
                refine wpAnyH_take (i := 43) (oi := ⟨_, _, _, _, _, _⟩) (v := undef) rfl (by kernel_rfl) (by kernel_rfl) (by kernel_rfl) (fun _ _ _ h => h) (Or.inr ⟨by rfl, rfl⟩) (by assumption) ?_
                try simp only [Act.put, List.setIfInBounds_toArray, List.set_cons_zero, List.set_cons_succ]
                refine wpAnyH_take (i := 44) (oi := ⟨_, _, _, _, _, _⟩) (v := undef) rfl (by kernel_rfl) (by kernel_rfl) (by kernel_rfl) (fun _ _ _ h => h) (Or.inr ⟨by rfl, rfl⟩) (by assumption) ?_
                try simp only [Act.put, List.setIfInBounds_toArray, List.set_cons_zero, List.set_cons_succ]
                refine wpAnyH_take (i := 45) (oi := ⟨_, _, _, _, _, _⟩) (v := undef) rfl (by kernel_rfl) (by kernel_rfl) (by kernel_rfl) (fun _ _ _ h => h) (Or.inr ⟨by rfl, rfl⟩) (by assumption) ?_
                try simp only [Act.put, List.setIfInBounds_toArray, List.set_cons_zero, List.set_cons_succ]
                refine wpAnyH_take (i := 46) (oi := ⟨_, _, _, _, _, _⟩) (v := undef) rfl (by kernel_rfl) (by kernel_rfl) (by kernel_rfl) (fun _ _ _ h => h) (Or.inr ⟨by rfl, rfl⟩) (by assumption) ?_
                try simp only [Act.put, List.setIfInBounds_toArray, List.set_cons_zero, List.set_cons_succ]
                refine wpAnyH_take (i := 47) (oi := ⟨_, _, _, _, _, _⟩) (v := undef) rfl (by kernel_rfl) (by kernel_rfl) (by kernel_rfl) (fun _ _ _ h => h) (Or.inr ⟨by rfl, rfl⟩) (by assumption) ?_
                try simp only [Act.put, List.setIfInBounds_toArray, List.set_cons_zero, List.set_cons_succ]
                refine wpAnyH_take (i := 48) (oi := ⟨_, _, _, _, _, _⟩) (v := undef) rfl (by kernel_rfl) (by kernel_rfl) (by kernel_rfl) (fun _ _ _ h => h) (Or.inr ⟨by rfl, rfl⟩) (by assumption) ?_
                try simp only [Act.put, List.setIfInBounds_toArray, List.set_cons_zero, List.set_cons_succ]
                refine wpAnyH_take (i := 49) (oi := ⟨_, _, _, _, _, _⟩) (v := ?_) rfl (by kernel_rfl) (by kernel_rfl) (by kernel_rfl) (fun _ _ _ h => h) (Or.inl ⟨by rfl, ?_⟩) (by assumption) ?_
                rotate_left
                · (intro w hSw; first | (go_simp; done) | (go_simp; with_reducible rfl))
                try simp only [Act.put, List.setIfInBounds_toArray, List.set_cons_zero, List.set_cons_succ]
                refine wpAnyH_take (i := 50) (oi := ⟨_, _, _, _, _, _⟩) (v := ?_) rfl (by kernel_rfl) (by kernel_rfl) (by kernel_rfl) (fun _ _ _ h => h) (Or.inl ⟨by rfl, ?_⟩) (by assumption) ?_
                rotate_left
                · (intro w hSw; first | (go_simp; done) | (go_simp; with_reducible rfl))
                try simp only [Act.put, List.setIfInBounds_toArray, List.set_cons_zero, List.set_cons_succ]
                refine wpAnyH_done (by kernel_rfl) ?_ _
                replace HS22 := Lib.hid (HS22.out.stay hHeld)
                clear R17 R22 RAd RWd C1 C0 KSame KSlot KRSlot KAll KSome heq
                go_wp2_with fail
                have hj3 : j < g.n + 2 := by have := HVj.out; omega
                have hv' : (i : Int) + 1 = ((j + 1 : Nat) : Int) - 1 := by have := HVj.out; omega
                refine ⟨⟨j + 1, hj3, by rw [hv'], HS22⟩, ?_⟩
                have := HVj.out
                simp [intOf]
                omega
            --END
          · skip
            --BEG
            have HI0 := Lib.hid hi0
            go_upto_region 18 with (first
              | (refine wpList_alloc_row rfl 46 rfl _ zeroAcc ?_)
              | (refine wpList_load_mid rfl 24 _ rfl w.heap.size 0 rfl (aN A).toList _ r6 Try.underlying24 rfl (infoAd A) ?_; simp only [Array.toArray_toList])
              | (go_at_call 14
                 refine KF1.out.mono ?_
                 rintro e w7 ⟨x7, rfl, hx7, hz7, b7⟩
                 have one7 := hz7.ones
                 have sn7 := fun w => store_newA w x7 one7
                 obtain ⟨W7, hW7⟩ : ∃ W7, w7.alloc (.cells (acs x7).toArray 46) = W7 := ⟨_, rfl⟩
                 have F7 : Hid (W7.heap[w7.heap.size]? = some (.cells (acs x7).toArray 46)) := Lib.hid (hW7 ▸ heap_alloc_new _ _)
                 have b77 : Below w7.heap.size w7 W7 := hW7 ▸ (Below.refl _ _).alloc (Nat.le_refl _) _
                 have HX7 := Lib.hid hx7
                 have HZ7 := Lib.hid (hz7.sub (hp_below b77))
                 have HS7 := Lib.hid (HP.out.stay (b7.trans (b77.mono b7.size)))
                 unfold aval
                 clear hx7 hz7 b7 b77))
            clear hW7 sn7 KF1 r6
            have HS7b := HS7
            have F17 := F7
            obtain ⟨B17, hB17⟩ : ∃ B17, w7.heap.size = B17 := ⟨_, rfl⟩
            rw [hB17] at F17 ⊢
            clear F7 hB17
            have hpz : ¬ i = 0 := by omega
            have KP := Lib.hid (parent_some HS7.out.st i hi0 hil)
            obtain ⟨pv, hpv⟩ : ∃ pv : Int, (g.par i : Int) = pv := ⟨_, rfl⟩
            rw [hpv] at KP
            have HPv : Hid (d.par = pv) := Lib.hid (by rw [HP.out.par i d hi0 HD.out, hpv])
            clear hpv
            go_upto_region 22 with (go_at_call 15; refine KP.out.mono ?_; rintro e w8 ⟨rfl, rfl⟩)
            clear KP
            have K22 := Lib.hid fun (w' : World) (hb : Below W7.heap.size W7 w') => rfind_walk d.v d.l A w' (HDacc.out.sub (HS7.out.st.sub.below hb)) (by have := HDl.out; omega) hA
            rw [HYy.out, HFo.out] at K22
            unfold aval at K22
            have c22 : W7.cell? ⟨vb, off + i * 2 + 1, none⟩ = some d.v := (HRi.out.sub HS7.out.st.sub).cell (j := 1) rfl
            have r22 := adblk (stay HS7.out.below F0.out)
            have OneY := (HYz.out).ones
            refine region_mkA (aQ := ?aQ2) 10 ⟨10, 11, 46, 21, 130, (acs noneAV).toArray, (acs y).toArray⟩ (by kernel_rfl) (by kernel_rfl) (by kernel_rfl) (fun w1 => ?hq2) ?hok2 ?hh2
            case hq2 =>
              have hbx : Below W7.heap.size W7 w1.on := ((Below.refl W7.heap.size W7).drew).trans w1.below
              have c1 := fun g => ext2_cell w1 g c22
              have r1 : ∀ g : Ext w1.on, g.on.rangeAt w.heap.size 0 (aN A).toList := fun g => below_at (hbx.trans (g.below.mono hbx.size)) r22
              have K1 := fun g : Ext w1.on => K22.out g.on (hbx.trans (g.below.mono hbx.size))
              simp only [List.take_succ_cons, List.take_zero, List.drop_succ_cons, List.drop_zero, List.cons_append, List.nil_append]
              repeat (first
                | (go_big_quiet_want; refine quiet_load_mid 24 _ rfl w.heap.size 0 (aN A).toList rfl (fun w2 hw2 => by obtain ⟨g1, rfl⟩ := hw2; exact r1 g1) Try.underlying24 rfl (infoAd _) ?_; simp only [Act.put, List.setIfInBounds_toArray, List.set_cons_succ, List.set_cons_zero, Array.toArray_toList]; go_big_quiet_on)
                | go_big_quiet_step (first | (go_at_call 18; with_reducible exact calls_ext (K1 _))))
              refine wpQuiet_nil ?_
              rfl
            case hok2 => exact ⟨zeroAcc, by simpa using infoAcs y, by simp [acs_len], OneY, by simp, rfl⟩
            case hh2 =>
                intro b22 w22 b2 lb22 f22
                simp only [Act.put, List.setIfInBounds_toArray, List.set_cons_succ, List.set_cons_zero]
                have HS22 := Lib.hid (HS7.out.stay b2)
                have HF22 := Lib.hid f22
                have HF17 := Lib.hid (stay b2 F17.out)
                have HX22 := Lib.hid (HZ7.out.sub (hp_below b2))
                clear b2 f22 lb22 c22 r22 K22 OneY F17
                go_upto_region 23 with fail
                have R17 : Hid (∀ w', Below w22.heap.size w22 w' → w'.rangeAt B17 0 (acs x7)) := Lib.hid fun w' hb => (rng_block (stay hb HF17.out)).at
                have R22 : Hid (∀ w', Below w22.heap.size w22 w' → w'.rangeAt b22 0 (acs y)) := Lib.hid fun w' hb => (rng_block (stay hb HF22.out)).at
                have RAd : Hid (∀ w', Below w22.heap.size w22 w' → w'.rangeAt w.heap.size 0 (aN A).toList) := Lib.hid fun w' hb => adblk (stay hb (stay HS22.out.below F0.out))
                have RWd : Hid (∀ w', Below w22.heap.size w22 w' → w'.rangeAt (w.heap.size + 1) 0 (wa key).toList) := Lib.hid fun w' hb => (rng_block (cs := (wa key).toList) (by simpa using stay hb (stay HS22.out.below F1.out))).at
                have C1 : Hid (∀ w', Below w22.heap.size w22 w' → w'.cell? ⟨vb, off + i * 2 + 1, none⟩ = some d.v) := Lib.hid fun w' hb => (HRi.out.sub (HS22.out.st.sub.below hb)).cell (j := 1) rfl
                have C0 : Hid (∀ w', Below w22.heap.size w22 w' → w'.cell? ⟨vb, off + i * 2, none⟩ = some (.int .i64 pv)) := Lib.hid fun w' hb => HPv.out ▸ (HRi.out.sub (HS22.out.st.sub.below hb)).cell (j := 0) rfl
                have KSame := Lib.hid fun (w' : World) (hb : Below w22.heap.size w22 w') => same_walk x7 y w' (by rw [HYa.out, HX7.out]) (HX22.out.sub (hp_below hb)) (HYz.out.sub (HS22.out.st.sub.below hb))
                have KSlot := Lib.hid fun (w' : World) (hb : Below w22.heap.size w22 w') => sslot_walk (HS22.out.st.below hb) i A key hil hA hk0
                have KRSlot := Lib.hid fun (w' : World) (hb : Below w22.heap.size w22 w') => rslot_walk y key w' (HYz.out.sub (HS22.out.st.sub.below hb)) hk0
                rw [HOo.out] at KSlot
                rw [HYa.out] at KRSlot
                obtain ⟨sv, hsv⟩ : ∃ sv, slotV (o.getD noneAV.a).so key = sv := ⟨_, rfl⟩
                rw [hsv] at KSlot KRSlot
                have heq : ∀ w : World, (Op.equalIn 10000 27 (.agg (wa sv)) (.agg (wa sv))).run Try.prog w = .ok true w := fun w => by rw [equal_wa]; simp
                unfold aval at KSame KRSlot
                unfold wd at KSlot KRSlot
                have KAll := Lib.hid fun (w' : World) (hb : Below w22.heap.size w22 w') => all_walk (HS22.out.st.below hb) (by omega) i hil
                have KSome := Lib.hid fun (w' : World) (hb : Below w22.heap.size w22 w') => rsome_walk d.v d.l w' (HDacc.out.sub (HS22.out.st.sub.below hb)) (by have := HDl.out; omega)
                have HSomeEq : Hid ((someV d.l).map AV.a = (L i).filter fun x => !emptyA x) := Lib.hid (by
                  rw [← HD2.out, List.filter_map]
                  rfl)
                clear hsv
                refine wp_region_held_drew (S := fun w' => Below w22.heap.size w22 w') (by kernel_rfl) ((Below.refl _ _).drew) (fun hHeld => ?_)
                refine wpAnyH_take (i := 0) (oi := ⟨_, _, _, _, _, _⟩) (v := ?_) rfl (by kernel_rfl) (by kernel_rfl) (by kernel_rfl) (fun _ _ _ h => h) (Or.inl ⟨by rfl, ?_⟩) (by assumption) ?_
                rotate_left
                · (intro w hSw; first | (go_simp; done) | (go_simp; with_reducible rfl))
                try simp only [Act.put, List.setIfInBounds_toArray, List.set_cons_zero, List.set_cons_succ]
                refine wpAnyH_take (i := 1) (oi := ⟨_, _, _, _, _, _⟩) (v := ?_) rfl (by kernel_rfl) (by kernel_rfl) (by kernel_rfl) (fun _ _ _ h => h) (Or.inl ⟨by rfl, ?_⟩) (by assumption) ?_
                rotate_left
                · (intro w hSw; first | (go_simp; done) | (go_simp; with_reducible rfl))
                try simp only [Act.put, List.setIfInBounds_toArray, List.set_cons_zero, List.set_cons_succ]
                refine wpAnyH_take (i := 2) (oi := ⟨_, _, _, _, _, _⟩) (v := ?_) rfl (by kernel_rfl) (by kernel_rfl) (by kernel_rfl) (fun _ _ _ h => h) (Or.inl ⟨by rfl, ?_⟩) (by assumption) ?_
                rotate_left
                · (intro w hSw; first | (go_simp; done) | (go_simp; with_reducible rfl))
                try simp only [Act.put, List.setIfInBounds_toArray, List.set_cons_zero, List.set_cons_succ]
                refine wpAnyH_take (i := 3) (oi := ⟨_, _, _, _, _, _⟩) (v := ?_) rfl (by kernel_rfl) (by kernel_rfl) (by kernel_rfl) (fun _ _ _ h => h) (Or.inl ⟨by rfl, ?_⟩) (by assumption) ?_
                rotate_left
                · (intro w hSw; first | (go_simp; done) | (go_simp; with_reducible rfl))
                try simp only [Act.put, List.setIfInBounds_toArray, List.set_cons_zero, List.set_cons_succ]
                refine wpAnyH_take (i := 4) (oi := ⟨_, _, _, _, _, _⟩) rfl (by kernel_rfl) (by kernel_rfl) (by kernel_rfl) (fun _ _ _ h => h) (yieldsIf_load_mid (by rfl) 46 _ rfl B17 0 rfl (acs x7) _ (R17.out) Try.underlying46 rfl (infoAcs _)) (by assumption) ?_
                try simp only [Act.put, List.setIfInBounds_toArray, List.set_cons_zero, List.set_cons_succ]
                refine wpAnyH_take (i := 5) (oi := ⟨_, _, _, _, _, _⟩) rfl (by kernel_rfl) (by kernel_rfl) (by kernel_rfl) (fun _ _ _ h => h) (yieldsIf_load_mid (by rfl) 46 _ rfl b22 0 rfl (acs y) _ (R22.out) Try.underlying46 rfl (infoAcs _)) (by assumption) ?_
                try simp only [Act.put, List.setIfInBounds_toArray, List.set_cons_zero, List.set_cons_succ]
                refine wpAnyH_ready (rs := [6]) (by kernel_rfl) (by simp) ?_
                refine AllReadyH.cons (o := ⟨_, _, _, _, _, _⟩) rfl (fun K hK => ?_) AllReadyH.nil
                go_simp
                go_wp2_with (go_at_call 19; refine (KSame.out _ hHeld).mono ?_; rintro e w1 ⟨rfl, b1⟩)
                refine hK.out _ _ (Below.trans hHeld (b1.mono (Below.size hHeld))) (fun hHeld => ?_)
                clear hK K
                try simp only [Act.put, List.setIfInBounds_toArray, List.set_cons_zero, List.set_cons_succ]
                refine wpAnyH_take (i := 7) (oi := ⟨_, _, _, _, _, _⟩) (v := ?_) rfl (by kernel_rfl) (by kernel_rfl) (by kernel_rfl) (fun _ _ _ h => h) (Or.inl ⟨by rfl, ?_⟩) (by assumption) ?_
                rotate_left
                · (intro w hSw; first | (go_simp; done) | (go_simp; with_reducible rfl))
                try simp only [Act.put, List.setIfInBounds_toArray, List.set_cons_zero, List.set_cons_succ]
                refine wpAnyH_take (i := 8) (oi := ⟨_, _, _, _, _, _⟩) (v := ?_) rfl (by kernel_rfl) (by kernel_rfl) (by kernel_rfl) (fun _ _ _ h => h) (Or.inl ⟨by rfl, ?_⟩) (by assumption) ?_
                rotate_left
                · (intro w hSw; first | (go_simp; done) | (go_simp; with_reducible rfl))
                try simp only [Act.put, List.setIfInBounds_toArray, List.set_cons_zero, List.set_cons_succ]
                refine wpAnyH_take (i := 9) (oi := ⟨_, _, _, _, _, _⟩) (v := ?_) rfl (by kernel_rfl) (by kernel_rfl) (by kernel_rfl) (fun _ _ _ h => h) (Or.inl ⟨by rfl, ?_⟩) (by assumption) ?_
                rotate_left
                · (intro w hSw; first | (go_simp; done) | (go_simp; with_reducible rfl))
                try simp only [Act.put, List.setIfInBounds_toArray, List.set_cons_zero, List.set_cons_succ]
                refine wpAnyH_take (i := 10) (oi := ⟨_, _, _, _, _, _⟩) (v := ?_) rfl (by kernel_rfl) (by kernel_rfl) (by kernel_rfl) (fun _ _ _ h => h) (Or.inl ⟨by rfl, ?_⟩) (by assumption) ?_
                rotate_left
                · (intro w hSw; first | (go_simp; done) | (go_simp; with_reducible rfl))
                try simp only [Act.put, List.setIfInBounds_toArray, List.set_cons_zero, List.set_cons_succ]
                refine wpAnyH_take (i := 11) (oi := ⟨_, _, _, _, _, _⟩) (v := ?_) rfl (by kernel_rfl) (by kernel_rfl) (by kernel_rfl) (fun _ _ _ h => h) (Or.inl ⟨by rfl, ?_⟩) (by assumption) ?_
                rotate_left
                · (intro w hSw; first | (go_simp; done) | (go_simp; with_reducible rfl))
                try simp only [Act.put, List.setIfInBounds_toArray, List.set_cons_zero, List.set_cons_succ]
                refine wpAnyH_take (i := 12) (oi := ⟨_, _, _, _, _, _⟩) rfl (by kernel_rfl) (by kernel_rfl) (by kernel_rfl) (fun _ _ _ h => h) (yieldsIf_load_mid (by rfl) 24 _ rfl w.heap.size 0 rfl (aN A).toList _ (RAd.out) Try.underlying24 rfl (infoAd A)) (by assumption) ?_
                try simp only [Act.put, List.setIfInBounds_toArray, List.set_cons_zero, List.set_cons_succ, Array.toArray_toList]
                refine wpAnyH_take (i := 13) (oi := ⟨_, _, _, _, _, _⟩) rfl (by kernel_rfl) (by kernel_rfl) (by kernel_rfl) (fun _ _ _ h => h) (yieldsIf_load_mid (by rfl) 27 _ rfl (w.heap.size + 1) 0 rfl (wa key).toList _ (RWd.out) Try.underlying27 rfl (infoW4 _)) (by assumption) ?_
                try simp only [Act.put, List.setIfInBounds_toArray, List.set_cons_zero, List.set_cons_succ, Array.toArray_toList]
                refine wpAnyH_take (i := 15) (oi := ⟨_, _, _, _, _, _⟩) rfl (by kernel_rfl) (by kernel_rfl) (by kernel_rfl) (fun _ _ _ h => h) (yieldsIf_load_mid (by rfl) 46 _ rfl b22 0 rfl (acs y) _ (R22.out) Try.underlying46 rfl (infoAcs _)) (by assumption) ?_
                try simp only [Act.put, List.setIfInBounds_toArray, List.set_cons_zero, List.set_cons_succ]
                refine wpAnyH_take (i := 16) (oi := ⟨_, _, _, _, _, _⟩) rfl (by kernel_rfl) (by kernel_rfl) (by kernel_rfl) (fun _ _ _ h => h) (yieldsIf_load_mid (by rfl) 27 _ rfl (w.heap.size + 1) 0 rfl (wa key).toList _ (RWd.out) Try.underlying27 rfl (infoW4 _)) (by assumption) ?_
                try simp only [Act.put, List.setIfInBounds_toArray, List.set_cons_zero, List.set_cons_succ, Array.toArray_toList]
                refine wpAnyH_ready (rs := [14]) (by kernel_rfl) (by simp) ?_
                refine AllReadyH.cons (o := ⟨_, _, _, _, _, _⟩) rfl (fun K hK => ?_) AllReadyH.nil
                go_simp
                go_wp2_with (go_at_call 17; refine (KSlot.out _ hHeld).mono ?_; rintro e w1 ⟨rfl, b1⟩)
                refine hK.out _ _ (Below.trans hHeld (b1.mono (Below.size hHeld))) (fun hHeld => ?_)
                clear hK K
                try simp only [Act.put, List.setIfInBounds_toArray, List.set_cons_zero, List.set_cons_succ]
                refine wpAnyH_ready (rs := [17]) (by kernel_rfl) (by simp) ?_
                refine AllReadyH.cons (o := ⟨_, _, _, _, _, _⟩) rfl (fun K hK => ?_) AllReadyH.nil
                go_simp
                go_wp2_with (go_at_call 20; refine (KRSlot.out _ hHeld).mono ?_; rintro e w1 ⟨rfl, b1⟩)
                refine hK.out _ _ (Below.trans hHeld (b1.mono (Below.size hHeld))) (fun hHeld => ?_)
                clear hK K
                try simp only [Act.put, List.setIfInBounds_toArray, List.set_cons_zero, List.set_cons_succ]
                refine wpAnyH_take (i := 18) (oi := ⟨_, _, _, _, _, _⟩) (v := ?_) rfl (by kernel_rfl) (by kernel_rfl) (by kernel_rfl) (fun _ _ _ h => h) (Or.inl ⟨by rfl, ?_⟩) (by assumption) ?_
                rotate_left
                · (intro w hSw; first | (go_simp; done) | (go_simp; with_reducible rfl))
                try simp only [Act.put, List.setIfInBounds_toArray, List.set_cons_zero, List.set_cons_succ]
                refine wpAnyH_take (i := 19) (oi := ⟨_, _, _, _, _, _⟩) (v := ?_) rfl (by kernel_rfl) (by kernel_rfl) (by kernel_rfl) (fun _ _ _ h => h) (Or.inl ⟨by rfl, ?_⟩) (by assumption) ?_
                rotate_left
                · (intro w hSw; first | (go_simp; done) | (go_simp; with_reducible rfl))
                try simp only [Act.put, List.setIfInBounds_toArray, List.set_cons_zero, List.set_cons_succ]
                refine wpAnyH_take (i := 20) (oi := ⟨_, _, _, _, _, _⟩) (v := ?_) rfl (by kernel_rfl) (by kernel_rfl) (by kernel_rfl) (fun _ _ _ h => h) (Or.inl ⟨by rfl, ?_⟩) (by assumption) ?_
                rotate_left
                · (intro w hSw; first | (go_simp; done) | (go_simp; with_reducible rfl))
                try simp only [Act.put, List.setIfInBounds_toArray, List.set_cons_zero, List.set_cons_succ]
                refine wpAnyH_take (i := 21) (oi := ⟨_, _, _, _, _, _⟩) (v := ?_) rfl (by kernel_rfl) (by kernel_rfl) (by kernel_rfl) (fun _ _ _ h => h) (Or.inl ⟨by rfl, ?_⟩) (by assumption) ?_
                rotate_left
                · (intro w hSw; first | (go_simp; done) | (go_simp; with_reducible rfl))
                try simp only [Act.put, List.setIfInBounds_toArray, List.set_cons_zero, List.set_cons_succ]
                refine wpAnyH_take (i := 22) (oi := ⟨_, _, _, _, _, _⟩) (v := ?_) rfl (by kernel_rfl) (by kernel_rfl) (by kernel_rfl) (fun _ _ _ h => h) (Or.inl ⟨by rfl, ?_⟩) (by assumption) ?_
                rotate_left
                · (intro w hSw; first | (go_simp; done) | (go_simp; with_reducible rfl))
                try simp only [Act.put, List.setIfInBounds_toArray, List.set_cons_zero, List.set_cons_succ]
                refine wpAnyH_take (i := 24) (oi := ⟨_, _, _, _, _, _⟩) (v := ?_) rfl (by kernel_rfl) (by kernel_rfl) (by kernel_rfl) (fun _ _ _ h => h) (Or.inl ⟨by rfl, ?_⟩) (by assumption) ?_
                rotate_left
                · (intro w hSw; first | (go_simp; done) | (go_simp; with_reducible rfl))
                try simp only [Act.put, List.setIfInBounds_toArray, List.set_cons_zero, List.set_cons_succ]
                refine wpAnyH_take (i := 25) (oi := ⟨_, _, _, _, _, _⟩) (v := ?_) rfl (by kernel_rfl) (by kernel_rfl) (by kernel_rfl) (fun _ _ _ h => h) (Or.inl ⟨by rfl, ?_⟩) (by assumption) ?_
                rotate_left
                · (intro w hSw; first | (go_simp; done) | (go_simp; with_reducible rfl))
                try simp only [Act.put, List.setIfInBounds_toArray, List.set_cons_zero, List.set_cons_succ]
                refine wpAnyH_take (i := 26) (oi := ⟨_, _, _, _, _, _⟩) (v := ?_) rfl (by kernel_rfl) (by kernel_rfl) (by kernel_rfl) (fun _ _ _ h => h) (Or.inl ⟨by rfl, ?_⟩) (by assumption) ?_
                rotate_left
                · (intro w hSw; first | (go_simp; done) | (go_simp; with_reducible rfl))
                try simp only [Act.put, List.setIfInBounds_toArray, List.set_cons_zero, List.set_cons_succ]
                refine wpAnyH_take (i := 27) (oi := ⟨_, _, _, _, _, _⟩) (v := ?_) rfl (by kernel_rfl) (by kernel_rfl) (by kernel_rfl) (fun _ _ _ h => h) (Or.inl ⟨by rfl, ?_⟩) (by assumption) ?_
                rotate_left
                · (intro w hSw; first | (go_simp; done) | (go_simp; with_reducible rfl))
                try simp only [Act.put, List.setIfInBounds_toArray, List.set_cons_zero, List.set_cons_succ]
                refine wpAnyH_take (i := 28) (oi := ⟨_, _, _, _, _, _⟩) (v := ?_) rfl (by kernel_rfl) (by kernel_rfl) (by kernel_rfl) (fun _ _ _ h => h) (Or.inl ⟨by rfl, ?_⟩) (by assumption) ?_
                rotate_left
                · (intro w hSw; have hc := C1.out w hSw; first | (go_simp; done) | (go_simp; with_reducible rfl))
                try simp only [Act.put, List.setIfInBounds_toArray, List.set_cons_zero, List.set_cons_succ]
                refine wpAnyH_ready (rs := [23]) (by kernel_rfl) (by simp) ?_
                refine AllReadyH.cons (o := ⟨_, _, _, _, _, _⟩) rfl (fun K hK => ?_) AllReadyH.nil
                go_simp
                go_wp2_with (go_at_call 16; refine (KAll.out _ hHeld).mono ?_; rintro e w1 ⟨val, ys, Zp, rfl, hall⟩)
                have HAll := Lib.hid hall
                obtain ⟨AA, ac, eA⟩ := own_sl hall.own
                have b1 := hall.below
                subst eA
                clear hall
                refine hK.out _ _ (Below.trans hHeld (b1.mono (Below.size hHeld))) (fun hHeld => ?_)
                clear hK K
                try simp only [Act.put, List.setIfInBounds_toArray, List.set_cons_zero, List.set_cons_succ]
                refine wpAnyH_ready (rs := [29]) (by kernel_rfl) (by simp) ?_
                refine AllReadyH.cons (o := ⟨_, _, _, _, _, _⟩) rfl (fun K hK => ?_) AllReadyH.nil
                go_simp
                go_wp2_with (go_at_call 22; refine (KSome.out _ hHeld).mono ?_; rintro e w2 ⟨val2, rfl, ho2, b2⟩)
                obtain ⟨SA, sc, eS⟩ := own_sl ho2
                have HOwn2 := Lib.hid ho2
                have B2s := Lib.hid b2
                subst eS
                clear ho2
                have b1 := b2
                clear b2
                refine hK.out _ _ (Below.trans hHeld (b1.mono (Below.size hHeld))) (fun hHeld => ?_)
                clear hK K
                try simp only [Act.put, List.setIfInBounds_toArray, List.set_cons_zero, List.set_cons_succ]
                refine wpAnyH_ready (rs := [30]) (by kernel_rfl) (by simp) ?_
                refine AllReadyH.cons (o := ⟨_, _, _, _, _, _⟩) rfl (fun K hK => ?_) AllReadyH.nil
                go_simp
                have KSA := Lib.hid (sameAll_walk _ _ ys (someV d.l) _ (by rw [HAll.out.eq]; exact HSomeEq.out) (HAll.out.accs.sub (hp_below B2s.out)) ⟨RowZ.own HOwn2.out, fun q hq => (HDacc.out.each q (List.mem_filter.1 hq).1).sub (HS22.out.st.sub.below hHeld)⟩ (by have := HAll.out.len; have := HLl.out; omega))
                go_wp2_with (go_at_call 21; refine KSA.out.mono ?_; rintro e w1 ⟨rfl, b1⟩)
                refine hK.out _ _ (Below.trans hHeld (b1.mono (Below.size hHeld))) (fun hHeld => ?_)
                clear hK K
                try simp only [Act.put, List.setIfInBounds_toArray, List.set_cons_zero, List.set_cons_succ]
                refine wpAnyH_take (i := 31) (oi := ⟨_, _, _, _, _, _⟩) (v := ?_) rfl (by kernel_rfl) (by kernel_rfl) (by kernel_rfl) (fun _ _ _ h => h) (Or.inl ⟨by rfl, ?_⟩) (by assumption) ?_
                rotate_left
                · (intro w hSw; first | (go_simp; done) | (go_simp; with_reducible rfl))
                try simp only [Act.put, List.setIfInBounds_toArray, List.set_cons_zero, List.set_cons_succ]
                refine wpAnyH_take (i := 32) (oi := ⟨_, _, _, _, _, _⟩) (v := ?_) rfl (by kernel_rfl) (by kernel_rfl) (by kernel_rfl) (fun _ _ _ h => h) (Or.inl ⟨by rfl, ?_⟩) (by assumption) ?_
                rotate_left
                · (intro w hSw; first | (go_simp; done) | (go_simp; with_reducible rfl))
                try simp only [Act.put, List.setIfInBounds_toArray, List.set_cons_zero, List.set_cons_succ]
                refine wpAnyH_take (i := 33) (oi := ⟨_, _, _, _, _, _⟩) (v := ?_) rfl (by kernel_rfl) (by kernel_rfl) (by kernel_rfl) (fun _ _ _ h => h) (Or.inl ⟨by rfl, ?_⟩) (by assumption) ?_
                rotate_left
                · (intro w hSw; first | (go_simp; done) | (go_simp; with_reducible rfl))
                try simp only [Act.put, List.setIfInBounds_toArray, List.set_cons_zero, List.set_cons_succ]
                refine wpAnyH_take (i := 34) (oi := ⟨_, _, _, _, _, _⟩) (v := ?_) rfl (by kernel_rfl) (by kernel_rfl) (by kernel_rfl) (fun _ _ _ h => h) (Or.inl ⟨by rfl, ?_⟩) (by assumption) ?_
                rotate_left
                · (intro w hSw; first | (go_simp; done) | (go_simp; with_reducible rfl))
                try simp only [Act.put, List.setIfInBounds_toArray, List.set_cons_zero, List.set_cons_succ]
                refine wpAnyH_take (i := 35) (oi := ⟨_, _, _, _, _, _⟩) (v := ?_) rfl (by kernel_rfl) (by kernel_rfl) (by kernel_rfl) (fun _ _ _ h => h) (Or.inl ⟨by rfl, ?_⟩) (by assumption) ?_
                rotate_left
                · (intro w hSw; first | (go_simp; done) | (go_simp; with_reducible rfl))
                try simp only [Act.put, List.setIfInBounds_toArray, List.set_cons_zero, List.set_cons_succ]
                refine wpAnyH_take (i := 36) (oi := ⟨_, _, _, _, _, _⟩) (v := ?_) rfl (by kernel_rfl) (by kernel_rfl) (by kernel_rfl) (fun _ _ _ h => h) (Or.inl ⟨by rfl, ?_⟩) (by assumption) ?_
                rotate_left
                · (intro w hSw; first | (go_simp; done) | (go_simp; with_reducible rfl))
                try simp only [Act.put, List.setIfInBounds_toArray, List.set_cons_zero, List.set_cons_succ]
                refine wpAnyH_take (i := 37) (oi := ⟨_, _, _, _, _, _⟩) (v := ?_) rfl (by kernel_rfl) (by kernel_rfl) (by kernel_rfl) (fun _ _ _ h => h) (Or.inl ⟨by rfl, ?_⟩) (by assumption) ?_
                rotate_left
                · (intro w hSw; first | (go_simp; done) | (go_simp; with_reducible rfl))
                try simp only [Act.put, List.setIfInBounds_toArray, List.set_cons_zero, List.set_cons_succ]
                refine wpAnyH_take (i := 38) (oi := ⟨_, _, _, _, _, _⟩) (v := ?_) rfl (by kernel_rfl) (by kernel_rfl) (by kernel_rfl) (fun _ _ _ h => h) (Or.inl ⟨by rfl, ?_⟩) (by assumption) ?_
                rotate_left
                · (intro w hSw; first | (go_simp; done) | (go_simp; with_reducible rfl))
                try simp only [Act.put, List.setIfInBounds_toArray, List.set_cons_zero, List.set_cons_succ]
                refine wpAnyH_take (i := 39) (oi := ⟨_, _, _, _, _, _⟩) (v := ?_) rfl (by kernel_rfl) (by kernel_rfl) (by kernel_rfl) (fun _ _ _ h => h) (Or.inl ⟨by rfl, ?_⟩) (by assumption) ?_
                rotate_left
                · (intro w hSw; first | (go_simp; done) | (go_simp; with_reducible rfl))
                try simp only [Act.put, List.setIfInBounds_toArray, List.set_cons_zero, List.set_cons_succ]
                refine wpAnyH_take (i := 40) (oi := ⟨_, _, _, _, _, _⟩) (v := ?_) rfl (by kernel_rfl) (by kernel_rfl) (by kernel_rfl) (fun _ _ _ h => h) (Or.inl ⟨by rfl, ?_⟩) (by assumption) ?_
                rotate_left
                · (intro w hSw; first | (go_simp; done) | (go_simp; with_reducible rfl))
                try simp only [Act.put, List.setIfInBounds_toArray, List.set_cons_zero, List.set_cons_succ]
                refine wpAnyH_take (i := 41) (oi := ⟨_, _, _, _, _, _⟩) (v := ?_) rfl (by kernel_rfl) (by kernel_rfl) (by kernel_rfl) (fun _ _ _ h => h) (Or.inl ⟨by rfl, ?_⟩) (by assumption) ?_
                rotate_left
                · (intro w hSw; first | (go_simp; done) | (go_simp; with_reducible rfl))
                try simp only [Act.put, List.setIfInBounds_toArray, List.set_cons_zero, List.set_cons_succ]
                refine wpAnyH_take (i := 42) (oi := ⟨_, _, _, _, _, _⟩) (v := ?_) rfl (by kernel_rfl) (by kernel_rfl) (by kernel_rfl) (fun _ _ _ h => h) (Or.inl ⟨by rfl, ?_⟩) (by assumption) ?_
                rotate_left
                · (intro w hSw; first | (go_simp; done) | (go_simp; with_reducible rfl))
                try simp only [Act.put, List.setIfInBounds_toArray, List.set_cons_zero, List.set_cons_succ]
                refine wpAnyH_take (i := 43) (oi := ⟨_, _, _, _, _, _⟩) (v := ?_) rfl (by kernel_rfl) (by kernel_rfl) (by kernel_rfl) (fun _ _ _ h => h) (Or.inl ⟨by rfl, ?_⟩) (by assumption) ?_
                rotate_left
                · (intro w hSw; first | (go_simp; done) | (go_simp; with_reducible rfl))
                try simp only [Act.put, List.setIfInBounds_toArray, List.set_cons_zero, List.set_cons_succ]
                refine wpAnyH_take (i := 44) (oi := ⟨_, _, _, _, _, _⟩) (v := ?_) rfl (by kernel_rfl) (by kernel_rfl) (by kernel_rfl) (fun _ _ _ h => h) (Or.inl ⟨by rfl, ?_⟩) (by assumption) ?_
                rotate_left
                · (intro w hSw; first | (go_simp; done) | (go_simp; with_reducible rfl))
                try simp only [Act.put, List.setIfInBounds_toArray, List.set_cons_zero, List.set_cons_succ]
                refine wpAnyH_take (i := 45) (oi := ⟨_, _, _, _, _, _⟩) (v := ?_) rfl (by kernel_rfl) (by kernel_rfl) (by kernel_rfl) (fun _ _ _ h => h) (Or.inl ⟨by rfl, ?_⟩) (by assumption) ?_
                rotate_left
                · (intro w hSw; first | (go_simp; done) | (go_simp; with_reducible rfl))
                try simp only [Act.put, List.setIfInBounds_toArray, List.set_cons_zero, List.set_cons_succ]
                refine wpAnyH_take (i := 46) (oi := ⟨_, _, _, _, _, _⟩) (v := ?_) rfl (by kernel_rfl) (by kernel_rfl) (by kernel_rfl) (fun _ _ _ h => h) (Or.inl ⟨by rfl, ?_⟩) (by assumption) ?_
                rotate_left
                · (intro w hSw; first | (go_simp; done) | (go_simp; with_reducible rfl))
                try simp only [Act.put, List.setIfInBounds_toArray, List.set_cons_zero, List.set_cons_succ]
                refine wpAnyH_take (i := 47) (oi := ⟨_, _, _, _, _, _⟩) (v := ?_) rfl (by kernel_rfl) (by kernel_rfl) (by kernel_rfl) (fun _ _ _ h => h) (Or.inl ⟨by rfl, ?_⟩) (by assumption) ?_
                rotate_left
                · (intro w hSw; have hc := C0.out w hSw; first | (go_simp; done) | (go_simp; with_reducible rfl))
                try simp only [Act.put, List.setIfInBounds_toArray, List.set_cons_zero, List.set_cons_succ]
                refine wpAnyH_take (i := 48) (oi := ⟨_, _, _, _, _, _⟩) (v := ?_) rfl (by kernel_rfl) (by kernel_rfl) (by kernel_rfl) (fun _ _ _ h => h) (Or.inl ⟨by rfl, ?_⟩) (by assumption) ?_
                rotate_left
                · (intro w hSw; first | (go_simp; done) | (go_simp; with_reducible rfl))
                try simp only [Act.put, List.setIfInBounds_toArray, List.set_cons_zero, List.set_cons_succ]
                refine wpAnyH_take (i := 49) (oi := ⟨_, _, _, _, _, _⟩) (v := ?_) rfl (by kernel_rfl) (by kernel_rfl) (by kernel_rfl) (fun _ _ _ h => h) (Or.inl ⟨by rfl, ?_⟩) (by assumption) ?_
                rotate_left
                · (intro w hSw; first | (go_simp; done) | (go_simp; with_reducible rfl))
                try simp only [Act.put, List.setIfInBounds_toArray, List.set_cons_zero, List.set_cons_succ]
                refine wpAnyH_take (i := 50) (oi := ⟨_, _, _, _, _, _⟩) (v := ?_) rfl (by kernel_rfl) (by kernel_rfl) (by kernel_rfl) (fun _ _ _ h => h) (Or.inl ⟨by rfl, ?_⟩) (by assumption) ?_
                rotate_left
                · (intro w hSw; first | (go_simp; done) | (go_simp; with_reducible rfl))
                try simp only [Act.put, List.setIfInBounds_toArray, List.set_cons_zero, List.set_cons_succ]
                refine wpAnyH_done (by kernel_rfl) ?_ _
                replace HS22 := Lib.hid (HS22.out.stay hHeld)
                clear R17 R22 RAd RWd C1 C0 KSame KSlot KRSlot KAll KSome heq
                go_wp2_with fail
                have hj3 : j < g.n + 2 := by have := HVj.out; omega
                have hv' : (i : Int) + 1 = ((j + 1 : Nat) : Int) - 1 := by have := HVj.out; omega
                refine ⟨⟨j + 1, hj3, by rw [hv'], HS22⟩, ?_⟩
                have := HVj.out
                simp [intOf]
                omega
            --END
        · by_cases hex : j = g.n + 2
          · have hgt : (g.n : Int) < v := by omega
            go_wp2_with fail
            go_ret
            exact ⟨rfl, HB.out.trans (HP.out.below.mono HB.out.size)⟩
          · have hle : v ≤ (g.n : Int) := by omega
            by_cases hneg : v < 0
            · skip
              --BEG
              have hv1 : -1 ≤ v := by omega
              have hpar0 : v ≠ 0 := by omega
              have KF1 := Lib.hid (sfind_out HP.out.st v A (by omega))
              go_upto_region 18 with (first
                | (refine wpList_alloc_row rfl 46 rfl _ zeroAcc ?_)
                | (refine wpList_load_mid rfl 24 _ rfl w.heap.size 0 rfl (aN A).toList _ r6 Try.underlying24 rfl (infoAd A) ?_; simp only [Array.toArray_toList])
                | (go_at_call 14
                   refine KF1.out.mono ?_
                   rintro e w7 ⟨x7, rfl, hx7, hz7, b7⟩
                   have one7 := hz7.ones
                   have sn7 := fun w => store_newA w x7 one7
                   obtain ⟨W7, hW7⟩ : ∃ W7, w7.alloc (.cells (acs x7).toArray 46) = W7 := ⟨_, rfl⟩
                   have b77 : Below w7.heap.size w7 W7 := hW7 ▸ (Below.refl _ _).alloc (Nat.le_refl _) _
                   have HS7 := Lib.hid (HP.out.stay (b7.trans (b77.mono b7.size)))
                   unfold aval
                   clear hx7 hz7 b7 b77))
              clear hW7 sn7 KF1 r6
              have hfalse : (decide (0 ≤ v ∧ v < (g.n : Int))) = false := decide_eq_false (by omega)
              have KH := has_walk HS7.out.st v
              rw [hfalse] at KH
              have KP := Lib.hid (parent_none _ v W7 hpar0 (Lib.hid KH))
              have KA := Lib.hid (all_none _ v W7 (Lib.hid KH))
              have KS := Lib.hid (sslot_out HS7.out.st v A key (by omega))
              have r7 := adblk (stay HS7.out.below F0.out)
              have f7 := stay HS7.out.below F1.out
              have r8 : W7.rangeAt (w.heap.size + 1) 0 (wa key).toList := (rng_block (cs := (wa key).toList) (by simpa using f7)).at
              have eq0 := fun w => equal_wa 0 0 w
              unfold wd at KS
              clear KH hfalse f7
              go_wp2_with (first
                | (refine load_midG (by rfl) 24 _ rfl w.heap.size 0 rfl (aN A).toList _ r7 Try.underlying24 rfl (infoAd A) ?_; simp only [Array.toArray_toList])
                | (refine load_midG (by rfl) 27 _ rfl (w.heap.size + 1) 0 rfl (wa key).toList _ r8 Try.underlying27 rfl (infoW4 _) ?_; simp only [Array.toArray_toList])
                | (go_at_call 15; refine KP.out.mono ?_; rintro e w8 ⟨rfl, rfl⟩)
                | (go_at_call 16; refine KA.out.mono ?_; rintro e w9 ⟨rfl, rfl⟩)
                | (go_at_call 17; refine KS.out.mono ?_; rintro e wA ⟨rfl, bA⟩; have HSA := Lib.hid (HS7.out.stay bA); clear bA))
              have hj3 : j < g.n + 2 := by omega
              have hv' : v + 1 = ((j + 1 : Nat) : Int) - 1 := by omega
              refine ⟨⟨j + 1, hj3, by rw [hv'], HSA⟩, ?_⟩
              simp [intOf]
              omega
              --END
            · skip
              --BEG
              have HVj := Lib.hid hv
              obtain rfl : v = (g.n : Int) := by omega
              clear hv hle hin hex hneg
              have hj2 := hj
              have hpar0 : (g.n : Int) ≠ 0 := by omega
              have KF1 := Lib.hid (sfind_out HP.out.st (g.n : Int) A (by omega))
              go_upto_region 18 with (first
                | (refine wpList_alloc_row rfl 46 rfl _ zeroAcc ?_)
                | (refine wpList_load_mid rfl 24 _ rfl w.heap.size 0 rfl (aN A).toList _ r6 Try.underlying24 rfl (infoAd A) ?_; simp only [Array.toArray_toList])
                | (go_at_call 14
                   refine KF1.out.mono ?_
                   rintro e w7 ⟨x7, rfl, hx7, hz7, b7⟩
                   have one7 := hz7.ones
                   have sn7 := fun w => store_newA w x7 one7
                   obtain ⟨W7, hW7⟩ : ∃ W7, w7.alloc (.cells (acs x7).toArray 46) = W7 := ⟨_, rfl⟩
                   have b77 : Below w7.heap.size w7 W7 := hW7 ▸ (Below.refl _ _).alloc (Nat.le_refl _) _
                   have HS7 := Lib.hid (HP.out.stay (b7.trans (b77.mono b7.size)))
                   unfold aval
                   clear hx7 hz7 b7 b77))
              clear hW7 sn7 KF1 r6
              have hfalse : (decide (0 ≤ (g.n : Int) ∧ (g.n : Int) < (g.n : Int))) = false := decide_eq_false (by omega)
              have KH := has_walk HS7.out.st (g.n : Int)
              rw [hfalse] at KH
              have KP := Lib.hid (parent_none _ (g.n : Int) W7 hpar0 (Lib.hid KH))
              have KA := Lib.hid (all_none _ (g.n : Int) W7 (Lib.hid KH))
              have KS := Lib.hid (sslot_out HS7.out.st (g.n : Int) A key (by omega))
              have r7 := adblk (stay HS7.out.below F0.out)
              have f7 := stay HS7.out.below F1.out
              have r8 : W7.rangeAt (w.heap.size + 1) 0 (wa key).toList := (rng_block (cs := (wa key).toList) (by simpa using f7)).at
              have eq0 := fun w => equal_wa 0 0 w
              unfold wd at KS
              clear KH hfalse f7
              go_wp2_with (first
                | (refine load_midG (by rfl) 24 _ rfl w.heap.size 0 rfl (aN A).toList _ r7 Try.underlying24 rfl (infoAd A) ?_; simp only [Array.toArray_toList])
                | (refine load_midG (by rfl) 27 _ rfl (w.heap.size + 1) 0 rfl (wa key).toList _ r8 Try.underlying27 rfl (infoW4 _) ?_; simp only [Array.toArray_toList])
                | (go_at_call 15; refine KP.out.mono ?_; rintro e w8 ⟨rfl, rfl⟩)
                | (go_at_call 16; refine KA.out.mono ?_; rintro e w9 ⟨rfl, rfl⟩)
                | (go_at_call 17; refine KS.out.mono ?_; rintro e wA ⟨rfl, bA⟩; have HSA := Lib.hid (HS7.out.stay bA); clear bA))
              have hj3 : j < g.n + 2 := by have := HVj.out; omega
              have hv' : (g.n : Int) + 1 = ((j + 1 : Nat) : Int) - 1 := by have := HVj.out; omega
              refine ⟨⟨j + 1, hj3, by rw [hv'], HSA⟩, ?_⟩
              simp [intOf]
              have := HVj.out; omega
              --END
end Go.Proofs.Ytpkoiifidlnbeaa
