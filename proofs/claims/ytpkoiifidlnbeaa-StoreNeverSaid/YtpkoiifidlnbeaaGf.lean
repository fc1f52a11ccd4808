/- StorePlays, its parts: the document's versions in memory, beside a store; the document's Commit where all is right. -/
import Derived.Test.YtpkoiifidlnbeaaGb
import Derived.Test.YtpkoiifidlnbeaaGe
import Derived.Test.YtpkoiifidlnbeaaGd
namespace Go.Proofs.Ytpkoiifidlnbeaa
open Go.RowKit SmWord
set_option maxRecDepth 100000

/-- More of memory that a store leaves alone. -/
theorem StoreAt.more {base : Nat} {Z Z2 : Hp} {w : World} {sb : Nat} {g : Gh} {L : Nat → List Acc} (h : StoreAt base Z w sb g L) (hz : Sub Z Z2) (hs : Sub Z2 (hp w)) (hm : ∀ b, soft g sb b → Z2 b = none) : StoreAt base Z2 w sb g L :=
  { h with
    sub := hs
    maps := fun v h1 h2 => by
      obtain ⟨c, hc⟩ := h.maps v h1 h2
      exact ⟨c, fun w' hw => hc w' (hz.trans hw)⟩
    accs := fun v A b h1 h2 h3 => by
      obtain ⟨q1, q2, q3, q4⟩ := h.accs v A b h1 h2 h3
      exact ⟨hz _ _ q1, q2.sub hz, q3, q4⟩
    zm := hm }
theorem orH_sub {Z Z' Y : Hp} (h : Sub Z Y) (h' : Sub Z' Y) : Sub (orH Z Z') Y := fun b o hb => by
  rcases orH_some hb with h1 | h1
  · exact h _ _ h1
  · exact h' _ _ h1
theorem orH_in {Z Z' Y : Hp} (h : Sub Z Y) (h' : Sub Z' Y) : Sub Z' (orH Z Z') := orH_right fun b o o' h1 h2 => by
  have a1 := h _ _ h1
  have a2 := h' _ _ h2
  rw [a1] at a2
  injection a2
/-- Versions as the document has them: each version's parent and its row of accounts. -/
structure DocZ (Z : Hp) (v : Value) (ds : List CO) : Prop where
  row : RowZ Z v ds.length 2 (ds.flatMap ocs)
  each : ∀ d ∈ ds, AccsZ Z d.v d.l
theorem DocZ.sub {Z Z' : Hp} {v : Value} {ds : List CO} (h : DocZ Z v ds) (hs : Sub Z Z') : DocZ Z' v ds := ⟨h.row.sub hs, fun d hd => (h.each d hd).sub hs⟩
theorem infoV2 : (Try.prog.info? 32).map (fun i => (i.zero, i.size, i.bytes)) = some (some (.agg #[.int .i64 0, .slice none 0 0]), 2, 32) := by kernel_rfl
theorem ocs_one (d : CO) (h : d.v.oneCell' = true) : ∀ u ∈ ocs d, u.oneCell' = true := fun u hu => by
  simp [ocs] at hu
  rcases hu with rfl | rfl
  · rfl
  · exact h
theorem docs_one {Z : Hp} {v : Value} {ds : List CO} (h : DocZ Z v ds) : ∀ u ∈ ds.flatMap ocs, u.oneCell' = true := fun u hu => by
  obtain ⟨d, hd, hu⟩ := List.mem_flatMap.1 hu
  exact ocs_one d (h.each d hd).row.oneCell u hu
theorem own_emptyV (w : World) (base : Nat) (hb : base ≤ w.heap.size) : (w.alloc (.cells #[] 32)).ownsRow base 32 2 (.slice (some ⟨w.heap.size, 0, none⟩) 0 0) 0 [] :=
  ⟨rfl, .inr ⟨w.heap.size, 0, #[], rfl, hb, heap_alloc_new _ _, Nat.le_refl _, by simp [maxLen], rfl, rfl⟩⟩
theorem rowVer {w : World} {d : CO} {b : Nat} (h : w.heap[b]? = some (.cells (ocs d).toArray 32)) : RowZ (hp w) (.slice (some ⟨b, 0, none⟩) 1 1) 1 2 (ocs d) :=
  ⟨by simp [ocs], some ⟨b, 0, none⟩, 1, rfl, Nat.le_refl _, by simp [maxLen], fun h => by simp at h, fun _ => ⟨b, 0, rfl, by simpa using rng_block h⟩⟩
/-- Accounts put into a row, one behind the other. -/
def putsV (L l : List AV) : List AV := l.foldl (fun L x => putV x L) L
theorem putsV_map (l : List AV) : ∀ L : List AV, (putsV L l).map AV.a = putAll (L.map AV.a) (l.map AV.a) := by
  induction l with
  | nil => intro L; rfl
  | cons x l ih =>
    intro L
    show (putsV (putV x L) l).map AV.a = _
    rw [ih, putV_map]
    rfl
theorem putsV_snoc (L : List AV) (l : List AV) (x : AV) : putsV L (l ++ [x]) = putV x (putsV L l) := by
  unfold putsV
  rw [List.foldl_append]
  rfl
theorem putV_mem {x : AV} : ∀ {l : List AV} {y : AV}, y ∈ putV x l → y = x ∨ y ∈ l
  | [], y, h => by simp [putV] at h; exact .inl h
  | z :: l, y, h => by
    unfold putV at h
    split at h
    · simp at h; rcases h with rfl | rfl | h <;> simp [*]
    · split at h
      · simp at h; rcases h with rfl | h <;> simp [*]
      · simp at h
        rcases h with rfl | h
        · simp
        · rcases putV_mem h with rfl | h' <;> simp [*]
theorem putV_len (x : AV) (l : List AV) : (putV x l).length ≤ l.length + 1 := by
  have h1 := congrArg List.length (putV_map x l)
  rw [List.length_map] at h1
  have h2 := putA_len (a := x.a) (l.map AV.a)
  rw [List.length_map] at h2
  omega
theorem putsV_len (l : List AV) : ∀ L : List AV, (putsV L l).length ≤ L.length + l.length := by
  induction l with
  | nil => intro L; simp [putsV]
  | cons x l ih =>
    intro L
    have h1 := ih (putV x L)
    have h2 := putV_len x L
    show (putsV (putV x L) l).length ≤ _
    simp
    omega
theorem putsV_srt {L : List AV} (h : Srt (L.map AV.a)) (l : List AV) : Srt ((putsV L l).map AV.a) := by
  rw [putsV_map]
  exact putAll_srt h
set_option maxHeartbeats 4000000 in
theorem rcommit_ok (Z : Hp) (v lv : Value) (ds : List CO) (l : List AV) (p : Nat) (d : CO) (w : World) (hz : Sub Z (hp w)) (h : DocZ Z v ds) (hl : AccsZ Z lv l) (hd : ds[p]? = some d) (hn : ds.length ≤ 1000) (hll : l.length ≤ 1000) (hr : ∀ x ∈ l, rightA x.a = true)
    (hs : Srt (d.l.map AV.a)) (hdl : d.l.length ≤ 100000) : Calls Try.prog 12 #[v, .int .i64 (p : Int), lv] w fun e w' => ∃ (v' : Value) (d' : CO), e = .returned (.tuple #[.int .i64 (ds.length : Int), .int .i64 0, v']) ∧ d'.par = (p : Int) ∧ d'.l.map AV.a = putAll (d.l.map AV.a) (l.map AV.a) ∧ DocZ (orH Z (fr w.heap.size w')) v' (ds ++ [d']) ∧ Below w.heap.size w w' := by
  have HDoc := Lib.hid h
  have HLac := Lib.hid hl
  have HZ := Lib.hid hz
  have hp' : p < ds.length := (List.getElem?_eq_some_iff.1 hd).1
  obtain ⟨P, c, rfl, hn1, hc1, hP, hcells⟩ := h.row.one (fun x _ => rfl)
  obtain ⟨vb, off, rfl, -, hi⟩ := hcells (by omega)
  have HV := Lib.hid (hi p d hd)
  obtain ⟨A, c2, rfl, hn2, hc2, hA2, hcells2⟩ := hl.row.one (fun x _ => acs_len x)
  have HX := Lib.hid hl.each
  have HXr := Lib.hid hr
  have HDd := Lib.hid (h.each d (List.mem_of_getElem? hd))
  have HS := Lib.hid hs
  have HDl := Lib.hid hdl
  have HC : Hid (0 < l.length → ∃ b off, A = some ⟨b, off, none⟩ ∧ ∀ i x, l[i]? = some x → rng Z b (off + i * 27) (acs x)) := Lib.hid fun hn => by
    obtain ⟨b, off, e, _, hi⟩ := hcells2 hn
    exact ⟨b, off, e, hi⟩
  have hs27 : ∀ x, (acs x).toArray.size = 27 := fun x => by simp [acs_len]
  clear hcells hcells2 h hl hz hi hr hd hs hdl
  generalize hN : l.length = n at *
  have HN := Lib.hid hN
  clear hN
  generalize hM : ds.length = m at *
  have HM := Lib.hid hM
  clear hM
  have hd1 : decide (m ≤ p) = false := decide_eq_false (by omega)
  have hd2 : decide ((p : Int) < 0) = false := decide_eq_false (by omega)
  go_enter Try.func12, Try.ntmps12
  go_wp2_with fail
  go_loopw [24] (fun i wr => ∃ k : Nat, k ≤ n ∧ i = .int .i64 k ∧ Hid (Below w.heap.size w wr)) (fun i _ => n - (intOf i).toNat)
  case atStart => exact ⟨0, Nat.zero_le _, rfl, Lib.hid (Below.refl _ _)⟩
  case round =>
    obtain ⟨k, hk, rfl, HW⟩ := hrel
    by_cases hlt : k < n
    · obtain ⟨b, off2, rfl, hi⟩ := HC.out (by omega)
      obtain ⟨x, hx⟩ : ∃ x, l[k]? = some x := ⟨l[k]'(by rw [HN.out]; exact hlt), by simp⟩
      have r1 := (((hi k _ hx).sub HZ.out).sub (hp_below HW.out)).at
      have KR := Lib.hid (rright_walk x wr (((HX.out x (List.mem_of_getElem? hx)).sub HZ.out).sub (hp_below HW.out)))
      rw [HXr.out x (List.mem_of_getElem? hx)] at KR
      unfold aval at KR
      clear hi hx
      go_wp2_with (first
        | (refine wpList_load_mid rfl 46 _ rfl b _ rfl (acs x) _ r1 Try.underlying46 rfl (infoAcs _) ?_)
        | (go_at_call 25; refine KR.out.mono ?_; rintro e w3 ⟨rfl, b3⟩; have HB3 := Lib.hid (HW.out.trans (b3.mono HW.out.size)); clear b3))
      exact ⟨⟨k + 1, by omega, by go_num, HB3⟩, by simp [intOf]; omega⟩
    · obtain rfl : k = n := by omega
      have c1 : wr.cell? ⟨vb, off + p * 2 + 1, none⟩ = some d.v := ((HV.out.sub HZ.out).sub (hp_below HW.out)).cell (j := 1) rfl
      have HA0 : Hid (AccsZ (orH Z (fr w.heap.size wr)) d.v (putsV d.l (l.take 0))) := Lib.hid (HDd.out.sub (orH_left _ _))
      go_wp2_with fail
      clear c1
      go_loopw [10, 42] (fun u i wr => ∃ j : Nat, j ≤ k ∧ i = .int .i64 j ∧ Hid (AccsZ (orH Z (fr w.heap.size wr)) u (putsV d.l (l.take j))) ∧ Hid (Below w.heap.size w wr)) (fun _ i _ => k - (intOf i).toNat)
      case atStart => exact ⟨0, Nat.zero_le _, rfl, HA0, HW⟩
      case round =>
        obtain ⟨j, hj, rfl, HU, HS2⟩ := hrel
        clear HA0
        have hzs : Sub Z (hp wr) := HZ.out.trans (hp_below HS2.out)
        have HZs := Lib.hid hzs
        have hus := HU.out.sub (orH_sub hzs (fr_sub _ _))
        have hput : (putsV d.l (l.take j)).length ≤ 200000 := by
          have h1 := putsV_len (l.take j) d.l
          have h2 := HDl.out
          have h3 := List.length_take_le j l

          omega
        have HSrt := Lib.hid (putsV_srt HS.out (l.take j))
        by_cases hlt2 : j < k
        · obtain ⟨b, off2, rfl, hi⟩ := HC.out (by omega)
          obtain ⟨x, hx⟩ : ∃ x, l[j]? = some x := ⟨l[j]'(by rw [HN.out]; exact hlt2), by simp⟩
          have r1 := (((hi j _ hx).sub HZ.out).sub (hp_below HS2.out)).at
          have HXx := Lib.hid (HX.out x (List.mem_of_getElem? hx))
          have KP := Lib.hid (rput_walk u10 (putsV d.l (l.take j)) x wr hus ((HXx.out.sub HZ.out).sub (hp_below HS2.out)) (by omega))
          have hpd : pdone x (pfold x (putsV d.l (l.take j))) = putV x (putsV d.l (l.take j)) := by
            have := pfold_put x (putsV d.l (l.take j)) [] HSrt.out
            simpa [pfold] using this
          rw [hpd] at KP
          unfold aval at KP
          have hsn : putsV d.l (l.take (j + 1)) = putV x (putsV d.l (l.take j)) := by
            rw [List.take_add_one, hx]
            exact putsV_snoc _ _ _
          have HSn := Lib.hid hsn
          obtain ⟨UA, uc, hu1, -⟩ := hus.row.val
          have HU1 := Lib.hid hu1
          clear hi hx hpd hsn hus hzs hput hu1
          go_wp2_with (first
            | (refine wpList_load_mid rfl 46 _ rfl b _ rfl (acs x) _ r1 Try.underlying46 rfl (infoAcs _) ?_)
            | (go_at_call 31; refine KP.out.mono ?_; rintro e w3 ⟨val, rfl, ho, b3⟩; have HO3 := Lib.hid ho; have B3 := Lib.hid b3; clear b3 ho))
          refine ⟨⟨j + 1, by omega, by go_num, Lib.hid ?_, Lib.hid (HS2.out.trans (B3.out.mono HS2.out.size))⟩, by simp [intOf]; omega⟩
          have hz3 : Sub Z (hp w3) := HZs.out.trans (hp_below B3.out)
          have hin : Sub (fr w.heap.size w3) (orH Z (fr w.heap.size w3)) := orH_in hz3 (fr_sub _ _)
          rw [HSn.out]
          refine ⟨((RowZ.ownF HO3.out).sub (fr_mono HS2.out.size w3)).sub hin, fun y hy => ?_⟩
          rcases putV_mem hy with rfl | hy
          · exact HXx.out.sub (orH_left _ _)
          · refine (HU.out.each y hy).sub fun b o h => ?_
            rcases orH_some h with h1 | h1
            · exact orH_left _ _ _ _ h1
            · exact hin _ _ (fr_below B3.out _ _ h1)
        · obtain rfl : j = k := by omega
          have heq : l.take j = l := List.take_of_length_le (by rw [HN.out]; exact Nat.le_refl _)
          rw [heq] at HU
          obtain ⟨UA, uc, hu1, hu2, hu3, hu4, -⟩ := hus.row.val
          rw [heq] at hu1 hu2 hu4
          have hub : (putsV d.l l).length ≤ 200000 := by rw [heq] at hput; exact hput
          have HPL := Lib.hid (putsV_map l d.l)
          clear hus hzs hput HSrt heq
          subst hu1
          obtain ⟨X, hX⟩ : ∃ X, putsV d.l l = X := ⟨_, rfl⟩
          rw [hX] at HU HPL hub hu2 hu4 ⊢
          clear hX
          go_upto_region 16 with fail
          have bw1 : Below wr.heap.size wr (wr.alloc (.cells #[] 32)) := (Below.refl _ _).alloc (Nat.le_refl _) _
          have HO0 := Lib.hid (own_emptyV wr w.heap.size HS2.out.size)
          have HDh := Lib.hid (HDoc.out.row.sub (HZs.out.trans (hp_below bw1)))
          rw [HM.out] at HDh
          have HB1 : Hid (Below w.heap.size w (wr.alloc (.cells #[] 32))) := Lib.hid (HS2.out.trans (bw1.mono HS2.out.size))
          have hz1 := HS2.out.size
          clear bw1
          go_upto_region 17 with (first
            | (refine append_row rfl _ _ 33 rfl 32 (.agg #[.int .i64 0, .slice none 0 0]) 2 32 Try.underlying33 infoV2 rfl (by decide) (by decide) w.heap.size (.slice (some ⟨wr.heap.size, 0, none⟩) 0 0) 0 [] rfl HO0.out (.slice (some ⟨vb, off, none⟩) m c) m (ds.flatMap ocs) rfl HDh.out (docs_one HDoc.out) (by omega) (by simp; omega) ?_
               intro v1 w1 ho1 hg1 hl1
               simp only [Nat.zero_add, List.nil_append] at ho1
               have HO1 := Lib.hid ho1
               have HL1 : Hid (∀ b, v1.ownBlock = some b → wr.heap.size ≤ b) := Lib.hid (fun b hb => by
                 rcases hl1 with h | h
                 · rw [h] at hb; simp [Value.ownBlock] at hb; omega
                 · rw [h] at hb; simp at hb; omega)
               have HB2 : Hid (Below w.heap.size w w1) := Lib.hid (HB1.out.grown hg1 (by simp; omega) (fun k hk => (HO0.out.lt k hk).1))
               have hkeep : Sub (fr w.heap.size wr) (fr w.heap.size w1) := fun b o hb => by
                 unfold fr at hb ⊢
                 split at hb
                 · rename_i hn
                   rw [if_pos hn]
                   have hlt := (Array.getElem?_eq_some_iff.1 hb).1
                   refine (hg1.block b (by simp; omega) (by simp [Value.ownBlock]; omega)).trans ((Below.heap_alloc _ _ _ hlt).trans hb)
                 · cases hb
               have HK1 := Lib.hid hkeep
               obtain ⟨A1, c1, rfl⟩ := own_sl ho1
               clear ho1 hg1 hkeep))
          have hz2 := HB2.out.size
          have HO2 : Hid ((w1.alloc (.cells #[.int .i64 (p : Int), .slice UA X.length uc] 32)).ownsRow w.heap.size 32 2 (.slice A1 m c1) m (ds.flatMap ocs)) := Lib.hid (own_same HO1.out (fun b hb => Below.heap_alloc _ _ _ (HO1.out.lt b hb).2))
          have HR2 : Hid (RowZ (hp (w1.alloc (.cells #[.int .i64 (p : Int), .slice UA X.length uc] 32))) (.slice (some ⟨w1.heap.size, 0, none⟩) 1 1) 1 2 (ocs ⟨p, .slice UA X.length uc, X⟩)) := Lib.hid (rowVer (d := ⟨p, .slice UA X.length uc, X⟩) (heap_alloc_new _ _))
          have HB3 : Hid (Below w.heap.size w (w1.alloc (.cells #[.int .i64 (p : Int), .slice UA X.length uc] 32))) := Lib.hid (HB2.out.alloc hz2 _)
          go_wp2_with (first
            | (refine append_row rfl _ _ 33 rfl 32 (.agg #[.int .i64 0, .slice none 0 0]) 2 32 Try.underlying33 infoV2 rfl (by decide) (by decide) w.heap.size (.slice A1 m c1) m (ds.flatMap ocs) rfl HO2.out (.slice (some ⟨w1.heap.size, 0, none⟩) 1 1) 1 (ocs ⟨p, .slice UA X.length uc, X⟩) rfl HR2.out (ocs_one _ rfl) (by omega) (by simp; omega) ?_
               intro v2 w2 ho2 hg2 _
               have HO3 := Lib.hid ho2
               have HB4 : Hid (Below w.heap.size w w2) := Lib.hid (HB3.out.grown hg2 (by simp; omega) (fun k hk => (HO2.out.lt k hk).1))
               have hkeep : Sub (fr w.heap.size wr) (fr w.heap.size w2) := fun b o hb => by
                 have hb1 := HK1.out b o hb
                 unfold fr at hb hb1 ⊢
                 split at hb
                 · rename_i hn
                   rw [if_pos hn] at hb1 ⊢
                   have hlt := (Array.getElem?_eq_some_iff.1 hb).1
                   have hlt1 := (Array.getElem?_eq_some_iff.1 hb1).1
                   exact (hg2.block b (by simp; omega) (fun e => by have := HL1.out b e.symm; omega)).trans ((Below.heap_alloc _ _ _ hlt1).trans hb1)
                 · cases hb
               have HK2 := Lib.hid hkeep
               obtain ⟨A2, c2', rfl⟩ := own_sl ho2
               clear ho2 hg2 hkeep))
          exact bodyPost_ret (v := .tuple #[.int .i64 (m : Int), .int .i64 0, .slice A2 (m + 1) c2']) (by simp [results, Try.results12, go_sem]) rfl ⟨_, ⟨p, .slice UA X.length uc, X⟩, rfl, rfl, HPL.out, by
            have hzw : Sub Z (hp w2) := HZ.out.trans (hp_below HB4.out)
            have hin : Sub (fr w.heap.size w2) (orH Z (fr w.heap.size w2)) := orH_in hzw (fr_sub _ _)
            have hmo : Sub (orH Z (fr w.heap.size wr)) (orH Z (fr w.heap.size w2)) := fun b o h => by
              rcases orH_some h with h1 | h1
              · exact orH_left _ _ _ _ h1
              · exact hin _ _ (HK2.out _ _ h1)
            refine ⟨?_, fun d hd => ?_⟩
            · have := RowZ.ownF HO3.out
              have h2 : ds.flatMap ocs ++ ocs ⟨p, .slice UA X.length uc, X⟩ = (ds ++ [(⟨p, .slice UA X.length uc, X⟩ : CO)]).flatMap ocs := by simp
              rw [h2] at this
              have h3 : (ds ++ [(⟨p, .slice UA X.length uc, X⟩ : CO)]).length = m + 1 := by simp [HM.out]
              rw [h3]
              exact this.sub hin
            · rcases List.mem_append.1 hd with hd | hd
              · exact (HDoc.out.each d hd).sub (orH_left _ _)
              · simp at hd
                subst hd
                exact HU.out.sub hmo, HB4.out⟩
theorem rcommit_none (A : Option Addr) (m c : Nat) (par : Int) (lv : Value) (w : World) (hp : ¬ (0 ≤ par ∧ par < m)) : Calls Try.prog 12 #[.slice A m c, .int .i64 par, lv] w fun e w' => e = .returned (.tuple #[.int .i64 0, .int .i64 12, .slice A m c]) ∧ w = w' := by
  by_cases h1 : par < 0
  · go_enter Try.func12, Try.ntmps12
    go_wp2_with fail
    exact bodyPost_ret (v := .tuple #[.int .i64 0, .int .i64 12, .slice A m c]) (by simp [results, Try.results12, go_sem]) rfl ⟨rfl, rfl⟩
  · have h2 : (m : Int) ≤ par := by omega
    go_enter Try.func12, Try.ntmps12
    go_wp2_with fail
    exact bodyPost_ret (v := .tuple #[.int .i64 0, .int .i64 12, .slice A m c]) (by simp [results, Try.results12, go_sem]) rfl ⟨rfl, rfl⟩
set_option maxHeartbeats 2000000 in
theorem rcommit_arg (B : Option Addr) (m c p : Nat) (lv : Value) (l : List AV) (w : World) (hl : AccsZ (hp w) lv l) (hp' : p < m) (hll : l.length ≤ 1000) (hr : (l.all fun x => rightA x.a) = false) :
    Calls Try.prog 12 #[.slice B m c, .int .i64 (p : Int), lv] w fun e w' => e = .returned (.tuple #[.int .i64 0, .int .i64 1, .slice B m c]) ∧ Below w.heap.size w w' := by
  obtain ⟨A, c2, rfl, hn2, hc2, hA2, hcells2⟩ := hl.row.one (fun x _ => acs_len x)
  have HX := Lib.hid hl.each
  have HXr := Lib.hid hr
  have HC : Hid (0 < l.length → ∃ b off, A = some ⟨b, off, none⟩ ∧ ∀ i x, l[i]? = some x → rng (hp w) b (off + i * 27) (acs x)) := Lib.hid fun hn => by
    obtain ⟨b, off, e, _, hi⟩ := hcells2 hn
    exact ⟨b, off, e, hi⟩
  have hs27 : ∀ x, (acs x).toArray.size = 27 := fun x => by simp [acs_len]
  clear hcells2 hl hr
  generalize hN : l.length = n at *
  have HN := Lib.hid hN
  clear hN
  have hd1 : decide (m ≤ p) = false := decide_eq_false (by omega)
  have hd2 : decide ((p : Int) < 0) = false := decide_eq_false (by omega)
  go_enter Try.func12, Try.ntmps12
  go_wp2_with fail
  go_loopw [24] (fun i wr => ∃ k : Nat, k ≤ n ∧ i = .int .i64 k ∧ Hid ((l.take k).all (fun x => rightA x.a) = true) ∧ Hid (Below w.heap.size w wr)) (fun i _ => n - (intOf i).toNat)
  case atStart => exact ⟨0, Nat.zero_le _, rfl, Lib.hid rfl, Lib.hid (Below.refl _ _)⟩
  case round =>
    obtain ⟨k, hk, rfl, HO, HW⟩ := hrel
    by_cases hlt : k < n
    · obtain ⟨b, off2, rfl, hi⟩ := HC.out (by omega)
      obtain ⟨x, hx⟩ : ∃ x, l[k]? = some x := ⟨l[k]'(by rw [HN.out]; exact hlt), by simp⟩
      have r1 := ((hi k _ hx).sub (hp_below HW.out)).at
      have KR := Lib.hid (rright_walk x wr ((HX.out x (List.mem_of_getElem? hx)).sub (hp_below HW.out)))
      unfold aval at KR
      have HQ : Hid (((l.take (k + 1)).all fun x => rightA x.a) = rightA x.a) := Lib.hid (by
        rw [List.take_add_one, hx, List.all_append, HO.out]
        simp)
      clear hi hx
      cases hr : rightA x.a <;> rw [hr] at KR HQ
      · go_wp2_with (first
          | (refine wpList_load_mid rfl 46 _ rfl b _ rfl (acs x) _ r1 Try.underlying46 rfl (infoAcs _) ?_)
          | (go_at_call 25; refine KR.out.mono ?_; rintro e w3 ⟨rfl, b3⟩; have HB3 := Lib.hid (HW.out.trans (b3.mono HW.out.size)); clear b3))
        exact bodyPost_ret (v := .tuple #[.int .i64 0, .int .i64 1, .slice B m c]) (by simp [results, Try.results12, go_sem]) rfl ⟨rfl, HB3.out⟩
      · go_wp2_with (first
          | (refine wpList_load_mid rfl 46 _ rfl b _ rfl (acs x) _ r1 Try.underlying46 rfl (infoAcs _) ?_)
          | (go_at_call 25; refine KR.out.mono ?_; rintro e w3 ⟨rfl, b3⟩; have HB3 := Lib.hid (HW.out.trans (b3.mono HW.out.size)); clear b3))
        exact ⟨⟨k + 1, by omega, by go_num, HQ, HB3⟩, by simp [intOf]; omega⟩
    · obtain rfl : k = n := by omega
      exfalso
      have := HO.out
      rw [List.take_of_length_le (by rw [HN.out]; exact Nat.le_refl _), HXr.out] at this
      cases this
end Go.Proofs.Ytpkoiifidlnbeaa
