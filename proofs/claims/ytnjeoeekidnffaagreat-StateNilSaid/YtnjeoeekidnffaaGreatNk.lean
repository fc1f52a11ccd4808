/- Stage 14: Set. -/
import Derived.Test.YtnjeoeekidnffaaGreatNj
namespace Go.Proofs.YtnjeoeekidnffaaGreat
open Go.RowKit SmWord Go.Maps
set_option maxRecDepth 100000

theorem StAt.below {Z : Hp} {base K : Nat} {w w' : World} {G : Gs} {U : List (UOp × Array Value)} (h : StAt Z base w G U K) (hb : Below w.heap.size w w') : StAt Z base w' G U K :=
  { h with
    core := h.core.below hb
    und := owns_same h.und fun b e => hb.block b (h.core.lt (h.unb b e))
    base_le := Nat.le_trans h.base_le hb.size }
theorem StAt.up {Z : Hp} {base K K' : Nat} {w : World} {G : Gs} {U : List (UOp × Array Value)} (h : StAt Z base w G U K) (hK : K ≤ K') : StAt Z base w G U K' :=
  { h with
    few := fun p s e => Nat.le_trans (h.few p s e) hK
    few2 := fun A b e => Nat.le_trans (h.few2 A b e) hK
    fewU := Nat.le_trans h.fewU hK
    fewA := Nat.le_trans h.fewA hK }
/-- Blocks of a world. -/
def pick (w : World) (l : List Nat) : Hp := fun b => if b ∈ l then w.heap[b]? else none
theorem pick_sub (w : World) (l : List Nat) : Sub (pick w l) (hp w) := fun b o h => by
  unfold pick at h
  split at h
  · exact h
  · cases h
theorem pick_at {w : World} {l : List Nat} {b : Nat} (h : b ∈ l) : pick w l b = w.heap[b]? := if_pos h
theorem pick_no {w : World} {l : List Nat} {b : Nat} (h : b ∉ l) : pick w l b = none := if_neg h
theorem sboxes (w : World) (A k v : Nat) : ∃ W, ((w.alloc (.cells (aN A) 41)).alloc (.cells (wa k) 44)).alloc (.cells (wa v) 44) = W ∧ W.heap[w.heap.size]? = some (.cells (aN A) 41) ∧ W.heap[w.heap.size + 1]? = some (.cells (wa k) 44) ∧ W.heap[w.heap.size + 2]? = some (.cells (wa v) 44) ∧ Below w.heap.size w W ∧ W.heap.size = w.heap.size + 3 := by
  obtain ⟨w1, h1⟩ : ∃ w1, w.alloc (.cells (aN A) 41) = w1 := ⟨_, rfl⟩
  have s1 : w1.heap.size = w.heap.size + 1 := h1 ▸ by simp
  have g1 : w1.heap[w.heap.size]? = some (.cells (aN A) 41) := h1 ▸ heap_alloc_new _ _
  have b1 : Below w.heap.size w w1 := h1 ▸ (Below.refl _ _).alloc (Nat.le_refl _) _
  obtain ⟨W, hW, f0, f1, bW, sW⟩ := wboxes2 w1 k v
  rw [s1] at f0 f1
  exact ⟨W, by rw [h1]; exact hW, stay bW g1, f0, f1, b1.trans (bW.mono b1.size), by omega⟩
/-- What has been set. -/
inductive SetIs (fa : Nat → Acc) (fk : Nat → Bool) (G : Gs) (U : List (UOp × Array Value)) (A k v : Nat) : Gs → List (UOp × Array Value) → Prop where
  | same {G1 : Gs} {ap : Nat} {s : Sto} (h : Ahead fa fk G G1) (hab : G1.ab A = some ap) (hs : G1.st (G1.en A).sp = some s) (he : stoV s.so s.g k = v) : SetIs fa fk G U A k v G1 U
  | set {G1 : Gs} {ap : Nat} {s : Sto} {uv : Value} {cap : Array Value} (h : Ahead fa fk G G1) (hab : G1.ab A = some ap) (hs : G1.st (G1.en A).sp = some s) (he : stoV s.so s.g k ≠ v) :
      SetIs fa fk G U A k v (undG (setP G1 (G1.en A).sp fun s => { s with g := setS s.so s.g k v, n := s.n + 1 }) uv) ((.slot (G1.en A).sp k (stoV s.so s.g k), cap) :: U)
theorem stoV_M {so : List (Nat × Nat)} {g : Nat → Option Nat} (hs : ∀ s ∈ so, s.1 < M ∧ s.2 < M) (hg : ∀ k v, g k = some v → v < M) (k : Nat) : stoV so g k < M := by
  unfold stoV
  cases e : g k with
  | some v => exact hg k v e
  | none =>
    show slotV so k < M
    unfold slotV
    cases e2 : so.find? fun s => s.1 == k with
    | none => show 0 < M; decide
    | some s => exact (hs s (List.mem_of_find?_eq_some e2)).2
theorem ahead_slot {fa : Nat → Acc} {fk : Nat → Bool} {G : Gs} {p k v : Nat} {s : Sto} (hs : G.st p = some s) : Ahead fa fk G (act (setP G p fun s => { s with g := setS s.so s.g k v, n := s.n + 1 }) (.slot p k (stoV s.so s.g k))) := by
  obtain ⟨s1, h1⟩ : ∃ s1 : Sto, ({ s with g := setS s.so s.g k v, n := s.n + 1 } : Sto) = s1 := ⟨_, rfl⟩
  have e1 : (setP G p fun s => { s with g := setS s.so s.g k v, n := s.n + 1 }).st p = some s1 := by
    show (if p = p then (G.st p).map _ else G.st p) = some s1
    rw [if_pos rfl, hs, ← h1]
    rfl
  have e2 : act (setP G p fun s => { s with g := setS s.so s.g k v, n := s.n + 1 }) (.slot p k (stoV s.so s.g k)) = setP (setP G p fun s => { s with g := setS s.so s.g k v, n := s.n + 1 }) p fun _ => { s1 with g := setS s1.so s1.g k (stoV s.so s.g k), n := s1.n + 1 } := by
    unfold act
    simp only [e1]
  rw [e2]
  refine ⟨fun A b h => ⟨h, rfl⟩, fun q t hq => ?_, (fun A b h k => by rw [show (setP (setP G p _) p _).ab A = G.ab A from rfl, h] at k; cases k), rfl, rfl⟩
  by_cases e : q = p
  · subst e
    rw [hs] at hq
    injection hq with hq
    subst hq
    refine ⟨_, (if_pos rfl).trans (by rw [e1]; rfl), ?_, fun j => ?_⟩
    · rw [← h1]
    · rw [← h1]
      show stoV s.so (setS s.so (setS s.so s.g k v) k (stoV s.so s.g k)) j = stoV s.so s.g j
      rw [setS_val, setS_val]
      by_cases e : j = k
      · rw [if_pos e, e]
      · rw [if_neg e, if_neg e]
  · exact ⟨t, (if_neg e).trans ((if_neg e).trans hq), .refl t⟩
/-- One change behind another: what the second may touch of what lay at first. -/
theorem Tch.andThen {s s' : Nat → Prop} {a b c : World} (h : Tch s' a b) (k : Tch s b c) (hs : ∀ i, i < a.heap.size → s i → s' i) : Tch s' a c :=
  ⟨k.os.trans h.os, k.tape.trans h.tape, k.output.trans h.output, Nat.le_trans h.size k.size, fun i hi hn => (k.block i (Nat.lt_of_lt_of_le hi h.size) (fun e => hn (hs i hi e))).trans (h.block i hi hn)⟩
/-- What has been set is noted. -/
theorem set_note {fa : Nat → Acc} {fk : Nat → Bool} {Z : Hp} {base K : Nat} {w w' : World} {G : Gs} {U : List (UOp × Array Value)} {A ap p k v bv c0 c1 c2 : Nat} {s : Sto} (h : StAt Z base w G U (K + 1)) (_hab : G.ab A = some ap) (_hp : (G.en A).sp = p) (hs : G.st p = some s) (hbv : stoV s.so s.g k = bv) (hk : k < M) (hbM : bv < M)
    (hm : mapIsW w' s.m (s.n + 1) (fun k' => (setS s.so s.g k v k').map wd)) (hg : w.grownBy w' (some s.m)) (hM : ∀ k' v', setS s.so s.g k v k' = some v' → v' < M) (f0 : w.heap[c0]? = some (.cells #[.pointer (some ⟨p, 0, none⟩)] 117)) (f1 : w.heap[c1]? = some (.cells (wa k) 44)) (f2 : w.heap[c2]? = some (.cells (wa bv) 44))
    (n0 : ∀ r, G.own c0 ≠ some r) (n1 : ∀ r, G.own c1 ≠ some r) (n2 : ∀ r, G.own c2 ≠ some r) (hK : K + 3 ≤ 1000000) :
    Calls Tryz.prog 65 #[ptr G.sb, .func (.func (ufn (.slot p k bv))) #[] #[ptr c0, ptr c1, ptr c2]] w' fun e w6 => e = .returned (.tuple #[]) ∧ ∃ Z2 uv, StAt Z2 base w6 (undG (setP G p fun s => { s with g := setS s.so s.g k v, n := s.n + 1 }) uv) ((.slot p k bv, #[ptr c0, ptr c1, ptr c2]) :: U) (K + 3) ∧ Sub Z Z2 ∧ Tch (fun b => (G.own b).isSome = true) w w6 := by
  obtain ⟨hop, hom, hok⟩ := h.core.sto p s hs
  obtain ⟨hc1, ht1⟩ := h.core.stored hs hm hg hM
  have eG : setP G p (fun s' => { s' with g := setS s.so s.g k v, n := s.n + 1 }) = setP G p fun s => { s with g := setS s.so s.g k v, n := s.n + 1 } := by
    unfold setP
    congr 1
    funext q
    by_cases e : q = p
    · subst e
      rw [if_pos rfl, if_pos rfl, hs]
      rfl
    · rw [if_neg e, if_neg e]
  rw [eG] at hc1
  have stay5 : ∀ c o, (∀ r, G.own c ≠ some r) → w.heap[c]? = some o → w'.heap[c]? = some o := fun c o hn ho => (ht1.block c (Array.getElem?_eq_some_iff.1 ho).1 fun e => hn _ (e ▸ hom)).trans ho
  have f0' := stay5 c0 _ n0 f0
  have f1' := stay5 c1 _ n1 f1
  have f2' := stay5 c2 _ n2 f2
  have hsub := hc1.sub
  have hpz : Sub (pick w' [c0, c1, c2]) (hp w') := pick_sub _ _
  have hzz : Sub (orH Z (pick w' [c0, c1, c2])) (hp w') := orH_sub hsub hpz
  have hin : Sub (pick w' [c0, c1, c2]) (orH Z (pick w' [c0, c1, c2])) := orH_in hsub hpz
  have hc2 := hc1.more (orH_left Z (pick w' [c0, c1, c2])) hzz fun b r hb => orH_none (hc1.zs b r hb) (pick_no fun hm => by
    have hb' : G.own b = some r := hb
    simp only [List.mem_cons, List.not_mem_nil, or_false] at hm
    rcases hm with e | e | e
    · exact n0 r (e ▸ hb')
    · exact n1 r (e ▸ hb')
    · exact n2 r (e ▸ hb'))
  have hu : w'.ownsRow base 1 1 G.uv U.length (U.reverse.map fun x => .func (.func (ufn x.1)) #[] x.2) := owns_same h.und fun b hb => ht1.block b (h.core.lt (h.unb b hb)) fun e => by
    have := h.unb b hb
    rw [e, hom] at this
    cases this
  refine (note_walk fa fk (G0 := G) (K := K + 3) (op := .slot p k bv) hc2 hu h.unb ⟨?_, hk, hbM, c0, c1, c2, rfl, hin _ _ ((pick_at (by simp)).trans f0'), hin _ _ ((pick_at (by simp)).trans f1'), hin _ _ ((pick_at (by simp)).trans f2')⟩ (h.hist.sub (orH_left _ _)) (hbv ▸ ahead_slot hs) (Nat.le_trans h.base_le ht1.size) hK (fun q t hq => ?_) (fun B b hb => ?_) ?_ ?_).mono ?_
  · show ((if p = p then (G.st p).map _ else G.st p) : Option Sto).isSome = true
    rw [if_pos rfl, hs]
    rfl
  · have hq' : (if q = p then (G.st q).map _ else G.st q) = some t := hq
    by_cases e : q = p
    · subst e
      rw [if_pos rfl, hs] at hq'
      injection hq' with hq'
      have := h.few q s hs
      rw [← hq']
      show s.n + 1 + U.length + 1 ≤ K + 3
      omega
    · rw [if_neg e] at hq'
      have := h.few q t hq'
      omega
  · have := h.few2 B b hb
    show (G.en B).wn + U.length + 1 ≤ K + 3
    omega
  · have := h.fewU
    omega
  · have := h.fewA
    show G.na ≤ K + 3
    omega
  · rintro e w6 ⟨rfl, uv, h6, ht6⟩
    refine ⟨rfl, _, uv, h6, orH_left _ _, (ht1.up (Nat.le_refl 0) fun b e => ?_).trans (ht6.up (Nat.le_refl 0) fun b e => ?_)⟩
    · rw [e, hom]
      rfl
    · rcases e with e | e
      · have h1 : b = G.sb := e
        rw [h1, h.core.osb]
        rfl
      · have h1 : G.own b = some .und := e
        rw [h1]
        rfl
set_option maxHeartbeats 4000000 in
theorem set_state {fa : Nat → Acc} {fk : Nat → Bool} {Z : Hp} {base K : Nat} {w : World} {G : Gs} {U : List (UOp × Array Value)} (h : StAt Z base w G U K) (hw : WorldOk Z G.wv fa fk) (hr : WorldR fa fk) (A k v : Nat) (hA : A < 2 ^ 160) (hk : k < M) (hv : v < M) (hK : K + 3 ≤ 1000000) :
    Calls Tryz.prog 22 #[ptr G.sb, .agg (aN A), wd k, wd v] w fun e w' => e = .returned (.tuple #[]) ∧ ∃ Z' G' U', StAt Z' base w' G' U' (K + 3) ∧ Sub Z Z' ∧ SetIs fa fk G U A k v G' U' ∧ G'.sb = G.sb ∧ G'.wv = G.wv ∧ Tch (fun b => (G.own b).isSome = true) w w' := by
  have hwz := wa_size
  have e0 := z4w
  obtain ⟨W, hW, f0, f1, f2, bW, sW⟩ := sboxes w A k v
  have HS := (h.below bW).up (show K ≤ K + 1 by omega)
  have KA := Lib.hid (at_state HS hw hr A hA (by have := h.fewA; omega) (by omega))
  have HH := Lib.hid h
  have HST := Lib.hid HS
  have HB := Lib.hid bW
  have F0 := Lib.hid f0
  have F1 := Lib.hid f1
  have F2 := Lib.hid f2
  have SW := Lib.hid sW
  have HK := Lib.hid hK
  have HKM := Lib.hid hk
  have HVM := Lib.hid hv
  have r0 := adblk f0
  clear h hw hr hA hk hv HS bW f0 f1 f2 sW hK
  have hsN := aN_size A
  unfold wd ptr
  go_enter Tryz.func22, Tryz.ntmps22
  go_upto_region 2 with fail
  unfold ptr at KA
  go_upto_region 3 with (first
    | (refine wpList_load_mid rfl 41 _ rfl w.heap.size 0 rfl (aN A).toList _ r0 Tryz.underlying41 rfl (infoAd _) ?_; simp only [Array.toArray_toList])
    | (go_at_call 63; refine KA.out.mono ?_; rintro e w1 ⟨Z1, G1, ap, rfl, h1⟩; obtain ⟨-, -, -, -, c33, -, -, -⟩ := ent_cells (h1.st.core.acb h1.ab)))
  have LT := Lib.hid fun b r (hb : G.own b = some r) => HH.out.core.lt hb
  have sW1 : W.heap.size ≤ w1.heap.size := h1.tch.size
  have KEEP := Lib.hid fun b o (hb : w.heap.size ≤ b) (ho : W.heap[b]? = some o) => show w1.heap[b]? = some o from (h1.tch.block b (Array.getElem?_eq_some_iff.1 ho).1 fun hs => by
    obtain ⟨r, hr⟩ := Option.isSome_iff_exists.1 hs
    have := LT.out b r hr
    omega).trans ho
  obtain ⟨w2, hw2⟩ : ∃ w2, w1.alloc (.cells #[.pointer (some ⟨(G1.en A).sp, 0, none⟩)] 117) = w2 := ⟨_, rfl⟩
  have b2 : Below w1.heap.size w1 w2 := hw2 ▸ (Below.refl _ _).alloc (Nat.le_refl _) _
  have f8 : w2.heap[w1.heap.size]? = some (.cells #[.pointer (some ⟨(G1.en A).sp, 0, none⟩)] 117) := hw2 ▸ heap_alloc_new _ _
  have s2 : w2.heap.size = w1.heap.size + 1 := hw2 ▸ by simp
  rw [hw2]
  have H2 := Lib.hid (h1.st.below b2)
  have HT2 := Lib.hid (((Tch.of_below (s := fun b => (G.own b).isSome = true) HB.out).trans ⟨h1.tch.os, h1.tch.tape, h1.tch.output, h1.tch.size, h1.tch.block⟩).trans (Tch.of_below b2))
  obtain ⟨s, hs⟩ := Option.isSome_iff_exists.1 (h1.st.core.acc A ap h1.ab).2.2.sp
  obtain ⟨p, hp⟩ : ∃ p, (G1.en A).sp = p := ⟨_, rfl⟩
  rw [hp] at f8 hs ⊢
  have HP := Lib.hid hp
  have HSS := Lib.hid hs
  obtain ⟨bv, hbv⟩ : ∃ bv, stoV s.so s.g k = bv := ⟨_, rfl⟩
  have HBV := Lib.hid hbv
  have KL := load_walk k w2 (H2.out.core.stoAt hs) HKM.out
  unfold wd at KL
  rw [hbv] at KL
  have hbM : bv < M := hbv ▸ stoV_M (H2.out.core.stoAt hs).sM (H2.out.core.stoAt hs).gM k
  have g1 := stay b2 (KEEP.out _ _ (by omega) F1.out)
  have g2 := stay b2 (KEEP.out _ _ (by omega) F2.out)
  have KLL := Lib.hid KL
  have r1 := (rng_block (cs := (wa k).toList) (by simpa using g1)).at
  have c8 : w2.cell? ⟨w1.heap.size, 0, none⟩ = some (.pointer (some ⟨p, 0, none⟩)) := blk_cell f8 rfl
  have H1 := Lib.hid h1
  have F8 := Lib.hid f8
  have G11 := Lib.hid g1
  have G22 := Lib.hid g2
  have S2 := Lib.hid (And.intro sW1 s2)
  clear hw2 hbv hp hs KL h1 b2 f8 s2 g1 g2 c33 KA hW
  go_upto_region 4 with (first
    | (refine wpList_load_mid rfl 44 _ rfl (w.heap.size + 1) 0 rfl (wa k).toList _ r1 Tryz.underlying44 rfl (infoW4 _) ?_; simp only [Array.toArray_toList])
    | (refine wpList_alloc_row rfl 44 rfl _ zeroWa_run ?_)
    | (go_at_call 71; refine KLL.out.mono ?_; rintro e w3 ⟨rfl, b3⟩; have sn := store_newW w3 bv))
  obtain ⟨w4, hw4⟩ : ∃ w4, w3.alloc (.cells (wa bv) 44) = w4 := ⟨_, rfl⟩
  have b4 : Below w2.heap.size w2 w4 := hw4 ▸ b3.alloc b3.size _
  have f9 : w4.heap[w3.heap.size]? = some (.cells (wa bv) 44) := hw4 ▸ heap_alloc_new _ _
  have s4 : w4.heap.size = w3.heap.size + 1 := hw4 ▸ by simp
  rw [hw4]
  have s3 := b3.size
  have H4 := Lib.hid (H2.out.below b4)
  have HT4 := Lib.hid (HT2.out.trans (Tch.of_below b4))
  have f8 := stay b4 F8.out
  have g1 := stay b4 G11.out
  have g2 := stay b4 G22.out
  have c8' : w4.cell? ⟨w1.heap.size, 0, none⟩ = some (.pointer (some ⟨p, 0, none⟩)) := blk_cell f8 rfl
  have r1' := (rng_block (cs := (wa k).toList) (by simpa using g1)).at
  have r2' : w4.rangeAt (w.heap.size + 1 + 1) 0 (wa v).toList := (rng_block (cs := (wa v).toList) (by simpa using g2)).at
  have r9 := (rng_block (cs := (wa bv).toList) (by simpa using f9)).at
  have eq := run_eq_wa hbM HVM.out w4
  have F8' := Lib.hid f8
  have G1' := Lib.hid g1
  have F9 := Lib.hid f9
  have S4 := Lib.hid (And.intro s3 s4)
  clear hw4 sn b3 b4 f9 s4 s3 f8 g1 g2 r1 c8 r0 KLL
  by_cases hxv : bv = v
  · subst hxv
    rw [beq_self_eq_true] at eq
    go_wp2_with (first
      | (refine wpList_load_mid rfl 44 _ rfl w3.heap.size 0 rfl (wa bv).toList _ r9 Tryz.underlying44 rfl (infoW4 _) ?_; simp only [Array.toArray_toList])
      | (refine wpList_load_mid rfl 44 _ rfl (w.heap.size + 1 + 1) 0 rfl (wa bv).toList _ r2' Tryz.underlying44 rfl (infoW4 _) ?_; simp only [Array.toArray_toList]))
    exact bodyPost_ret (results_none rfl _ _ _) rfl ⟨rfl, Z1, G1, U, H4.out.up (by omega), H1.out.sub, .same H1.out.ah H1.out.ab (by rw [HP.out]; exact HSS.out) HBV.out, H1.out.sb, H1.out.wv, HT4.out⟩
  · have hd : (bv == v) = false := by simp [hxv]
    rw [hd] at eq
    have hsn : s.n + U.length ≤ K + 1 := H4.out.few p s HSS.out
    have hK := HK.out
    have KS := Lib.hid (sset_walk k v w4 (H4.out.core.stoAt HSS.out) HKM.out HVM.out (by unfold maxLen; omega))
    unfold wd at KS
    go_upto_region 6 with (first
      | (refine wpList_load_mid rfl 44 _ rfl w3.heap.size 0 rfl (wa bv).toList _ r9 Tryz.underlying44 rfl (infoW4 _) ?_; simp only [Array.toArray_toList])
      | (refine wpList_load_mid rfl 44 _ rfl (w.heap.size + 1 + 1) 0 rfl (wa v).toList _ r2' Tryz.underlying44 rfl (infoW4 _) ?_; simp only [Array.toArray_toList])
      | (refine wpList_load_mid rfl 44 _ rfl (w.heap.size + 1) 0 rfl (wa k).toList _ r1' Tryz.underlying44 rfl (infoW4 _) ?_; simp only [Array.toArray_toList])
      | (go_at_call 72; refine KS.out.mono ?_; rintro e w5 ⟨rfl, hm5, hg5⟩))
    have HM5 := Lib.hid hm5
    have HG5 := Lib.hid hg5
    clear hm5 hg5 KS r9 r2' r1' c8' eq
    have KN := set_note (fa := fa) (fk := fk) (c0 := w1.heap.size) (c1 := w.heap.size + 1) (c2 := w3.heap.size) (v := v) H4.out H1.out.ab HP.out HSS.out HBV.out HKM.out hbM HM5.out HG5.out (setS_M ((H4.out.core.sto p s HSS.out).2.2).gM HVM.out) F8'.out G1'.out F9.out (fun r hr => ?_) (fun r hr => ?_) (fun r hr => ?_) hK
    have KNN := Lib.hid KN
    clear KN
    rw [H1.out.sb] at KNN
    unfold ptr ufn at KNN
    go_wp2_with (go_at_call 65; refine KNN.out.mono ?_; rintro e w6 ⟨rfl, Z2, uv, h6, hz6, ht6⟩)
    refine bodyPost_end (results_none rfl _ _ _) rfl ⟨rfl, Z2, _, _, h6, H1.out.sub.trans hz6, ?_, H1.out.sb, H1.out.wv, HT4.out.andThen ht6 fun i hi hs => ?_⟩
    · have := SetIs.set (fa := fa) (fk := fk) (G := G) (U := U) (v := v) (uv := uv) (cap := #[ptr w1.heap.size, ptr (w.heap.size + 1), ptr w3.heap.size]) H1.out.ah H1.out.ab (by rw [HP.out]; exact HSS.out) (by rw [HBV.out]; exact hxv)
      rw [HP.out, HBV.out] at this
      exact this
    · obtain ⟨r, hr⟩ := Option.isSome_iff_exists.1 hs
      have := SW.out
      rcases H1.out.new _ r hr with h | h
      · rw [h]
        rfl
      · omega
    · have := H1.out.st.core.lt hr
      omega
    · have := SW.out
      rcases H1.out.new _ r hr with h | h
      · have := LT.out _ _ h
        omega
      · omega
    · have := H1.out.st.core.lt hr
      have := S2.out
      have := S4.out
      omega
end Go.Proofs.YtnjeoeekidnffaaGreat
/- Stage 14: New of no world; Load. -/
namespace Go.Proofs.YtnjeoeekidnffaaGreat
open Go.RowKit SmWord Go.Maps
set_option maxRecDepth 100000

theorem run_makeL (w : World) : (Instr.makeMap 90 (some (.int .i64 0))).run Tryz.prog w = .ok (.map (some w.heap.size)) (w.alloc (.map #[] 0)) := by
  kernel_rfl
theorem run_makeA (w : World) : (Instr.makeMap 85 none).run Tryz.prog w = .ok (.map (some w.heap.size)) (w.alloc (.map #[] 0)) := by
  simp [Instr.makeMap, Result.andThen]
theorem list_nil (w : World) : Calls Tryz.prog 11 #[.slice none 0 0] w fun e w' => e = .returned (.iface 90 (.map (some w.heap.size))) ∧ w' = w.alloc (.map #[] 0) := by
  have hmk := run_makeL w
  obtain ⟨W, hW⟩ : ∃ W, w.alloc (.map #[] 0) = W := ⟨_, rfl⟩
  rw [hW] at hmk
  go_enter Tryz.func11, Tryz.ntmps11
  go_wp2_with fail
  go_loopw [13] (fun i wr => i = .int .i64 0 ∧ wr = W) (fun _ _ => 0)
  case atStart => exact ⟨rfl, rfl⟩
  case round =>
    obtain ⟨rfl, rfl⟩ := hrel
    go_wp2_with fail
    go_ret
    exact ⟨rfl, hW.symm⟩
/-- A state of which nothing was asked. -/
def gs0 (sb am : Nat) (wv : Value) : Gs where
  sb := sb
  am := am
  na := 0
  wv := wv
  mi := 0
  ms := false
  rf := 0
  lv := .slice none 0 0
  uv := .slice none 0 0
  ab := fun _ => none
  en := fun _ => ent0 (bareAV 0) 0 0
  st := fun _ => none
  own := fun b => if b = sb then some .stb else if b = am then some .amap else none
theorem aN0 : (#[.int .u8 0, .int .u8 0, .int .u8 0, .int .u8 0, .int .u8 0, .int .u8 0, .int .u8 0, .int .u8 0, .int .u8 0, .int .u8 0, .int .u8 0, .int .u8 0, .int .u8 0, .int .u8 0, .int .u8 0, .int .u8 0, .int .u8 0, .int .u8 0, .int .u8 0, .int .u8 0] : Array Value) = aN 0 := by kernel_rfl
theorem stc_gs0 (sb am : Nat) (T : TypeId) (v : Value) : (stC (gs0 sb am (.iface T v))).toArray = #[.iface T v, .map (some am), .int .u8 0, .int .u8 0, .int .u8 0, .int .u8 0, .int .u8 0, .int .u8 0, .int .u8 0, .int .u8 0, .int .u8 0, .int .u8 0, .int .u8 0, .int .u8 0, .int .u8 0, .int .u8 0, .int .u8 0, .int .u8 0, .int .u8 0, .int .u8 0, .int .u8 0, .int .u8 0, .bool false, .int .i64 0, .slice none 0 0, .slice none 0 0] := by
  have h : stC (gs0 sb am (.iface T v)) = .iface T v :: .map (some am) :: (aN 0).toList ++ [.bool false, .int .i64 0, .slice none 0 0, .slice none 0 0] := rfl
  rw [h, ← aN0]
  rfl
theorem new_core {w' : World} {sb am base : Nat} {T : TypeId} {v : Value} {Z : Hp} (hz : Sub Z (hp w')) (hs : w'.heap[sb]? = some (.cells (stC (gs0 sb am (.iface T v))).toArray 88)) (hm : mapIs w' am 0 (fun _ => none)) (h1 : base ≤ sb) (h2 : base ≤ am) (n1 : Z sb = none) (n2 : Z am = none) (K : Nat) (hb : base ≤ w'.heap.size) : StAt Z base w' (gs0 sb am (.iface T v)) [] K := by
  have hne : am ≠ sb := fun e => by
    obtain ⟨es, c, hm'⟩ := map_blkA hm
    rw [e, hs] at hm'
    cases hm'
  have o1 : (gs0 sb am (.iface T v)).own sb = some .stb := if_pos rfl
  have o2 : (gs0 sb am (.iface T v)).own am = some .amap := (if_neg hne).trans (if_pos rfl)
  have two : ∀ b r, (gs0 sb am (.iface T v)).own b = some r → (b = sb ∧ r = .stb) ∨ (b = am ∧ r = .amap) := fun b r h => by
    by_cases e : b = sb
    · rw [e, o1] at h; injection h with h; exact .inl ⟨e, h.symm⟩
    · by_cases e2 : b = am
      · rw [e2, o2] at h; injection h with h; exact .inr ⟨e2, h.symm⟩
      · have : (gs0 sb am (.iface T v)).own b = none := (if_neg e).trans (if_neg e2)
        rw [this] at h
        cases h
  refine ⟨?_, ⟨rfl, .inl ⟨rfl, rfl⟩⟩, (fun b hb => by cases hb), trivial, (fun p s hs => by cases hs), (fun A b hb => by cases hb), Nat.zero_le _, Nat.zero_le _, hb⟩
  exact
  { sub := hz
    zs := fun b r h => by rcases two b r h with ⟨rfl, _⟩ | ⟨rfl, _⟩ <;> assumption
    ge := fun b r h => by rcases two b r h with ⟨rfl, _⟩ | ⟨rfl, _⟩ <;> assumption
    hold := fun b r h => by
      rcases two b r h with ⟨rfl, rfl⟩ | ⟨rfl, rfl⟩
      · exact hs
      · exact hm
    osb := o1
    oam := o2
    mi := by show 0 < 2 ^ 160; decide
    uniq := fun b b' r h h' hu => by
      rcases two b r h with ⟨rfl, rfl⟩ | ⟨rfl, rfl⟩ <;> rcases two b' _ h' with ⟨rfl, e⟩ | ⟨rfl, e⟩ <;> first | rfl | cases e
    accs := fun b A h => by rcases two b _ h with ⟨_, e⟩ | ⟨_, e⟩ <;> cases e
    warms := fun b A h => by rcases two b _ h with ⟨_, e⟩ | ⟨_, e⟩ <;> cases e
    acc := fun A b h => by cases h
    sto := fun p s h => by cases h }
theorem new_nil (w : World) : Calls Tryz.prog 10 #[.nilIface] w fun e w' => ∃ (Z : Hp) (sb am mb : Nat), e = .returned (ptr sb) ∧ w.heap.size ≤ mb ∧ StAt Z w.heap.size w' (gs0 sb am (.iface 90 (.map (some mb)))) [] 0 ∧ (∀ u, Sub Z (hp u) → ListAt Z u mb 0 (fun _ => none)) ∧ Below w.heap.size w w' := by
  obtain ⟨w1, h1⟩ : ∃ w1, w.alloc (.map #[] 0) = w1 := ⟨_, rfl⟩
  obtain ⟨w2, h2⟩ : ∃ w2, w1.alloc (.map #[] 0) = w2 := ⟨_, rfl⟩
  have s1 : w1.heap.size = w.heap.size + 1 := h1 ▸ by simp
  have s2 : w2.heap.size = w1.heap.size + 1 := h2 ▸ by simp
  have b1 : Below w.heap.size w w1 := h1 ▸ (Below.refl _ _).alloc (Nat.le_refl _) _
  have b2 : Below w1.heap.size w1 w2 := h2 ▸ (Below.refl _ _).alloc (Nat.le_refl _) _
  have m1 : mapIs w1 w.heap.size 0 (fun _ => none) := h1 ▸ mapIs_made w
  have m2 : mapIs w2 w1.heap.size 0 (fun _ => none) := h2 ▸ mapIs_made w1
  have hmk := run_makeA w1
  rw [h2] at hmk
  have KL := list_nil w
  rw [h1] at KL
  clear h2 h1
  go_enter Tryz.func10, Tryz.ntmps10
  go_wp2_with (go_at_call 11; refine KL.mono ?_; rintro e w3 ⟨rfl, rfl⟩)
  go_ret
  obtain ⟨w4, h4⟩ : ∃ w4, w2.alloc (.cells (stC (gs0 (w.heap.size + 1 + 1) (w.heap.size + 1) (.iface 90 (.map (some w.heap.size))))).toArray 88) = w4 := ⟨_, rfl⟩
  have f4 : w4.heap[w2.heap.size]? = _ := h4 ▸ heap_alloc_new w2 _
  have b4 : Below w2.heap.size w2 w4 := h4 ▸ (Below.refl _ _).alloc (Nat.le_refl _) _
  have s4 : w4.heap.size = w2.heap.size + 1 := h4 ▸ by simp
  rw [stc_gs0] at h4
  rw [h4]
  rw [show w2.heap.size = w.heap.size + 1 + 1 by omega] at f4
  have m4 : mapIs w4 w.heap.size 0 (fun _ => none) := (m1.same (b2.block _ (by omega))).same (b4.block _ (by omega))
  have m5 : mapIs w4 (w.heap.size + 1) 0 (fun _ => none) := s1 ▸ m2.same (b4.block _ (by omega))
  exact ⟨pick w4 [w.heap.size], w.heap.size + 1 + 1, w.heap.size + 1, w.heap.size, rfl, Nat.le_refl _, new_core (pick_sub _ _) f4 m5 (by omega) (by omega) (pick_no (by simp; omega)) (pick_no (by simp)) 0 (by omega), (fun u hu => ⟨m4.same (by obtain ⟨es, c, e⟩ := map_blkA m4; exact (hu _ _ ((pick_at (by simp)).trans e)).trans e.symm), (fun A x h => by cases h), hu⟩), b1.trans ((b2.trans (b4.mono b2.size)).mono b1.size)⟩
set_option maxHeartbeats 4000000 in
theorem load_state {fa : Nat → Acc} {fk : Nat → Bool} {Z : Hp} {base K : Nat} {w : World} {G : Gs} {U : List (UOp × Array Value)} (h : StAt Z base w G U K) (hw : WorldOk Z G.wv fa fk) (hr : WorldR fa fk) (A k : Nat) (hA : A < 2 ^ 160) (hk : k < M) (hK : K + 1 ≤ 1000000) :
    Calls Tryz.prog 28 #[ptr G.sb, .agg (aN A), wd k] w fun e w' => ∃ Z' G' ap s, e = .returned (wd (stoV s.so s.g k)) ∧ G'.st (G'.en A).sp = some s ∧ AtSt fa fk Z base w G U (K + 1) A w' Z' G' ap := by
  have hwz := wa_size
  have e0 := z4w
  obtain ⟨W, hW, f0, f1, f2, bW, sW⟩ := sboxes w A k 0
  have HS := (h.below bW).up (show K ≤ K + 1 by omega)
  have KA := Lib.hid (at_state (w := W.drew) (HS.below (Below.refl _ _).drew) hw hr A hA (by have := h.fewA; omega) (by omega))
  have LT := Lib.hid fun b r (hb : G.own b = some r) => h.core.lt hb
  have ZLT := Lib.hid fun b o (hb : Z b = some o) => show b < w.heap.size from (Array.getElem?_eq_some_iff.1 (h.core.sub b o hb)).1
  have F0 := Lib.hid f0
  have F1 := Lib.hid f1
  have F2 := Lib.hid f2
  have SW := Lib.hid sW
  have BW := Lib.hid bW
  have HKM := Lib.hid hk
  have RA : Hid (∀ w' : World, (fun w' : World => w'.rangeAt w.heap.size 0 (aN A).toList ∧ w'.rangeAt (w.heap.size + 1) 0 (wa k).toList) w' → w'.rangeAt w.heap.size 0 (aN A).toList) := Lib.hid fun w' h => h.1
  have RK : Hid (∀ w' : World, (fun w' : World => w'.rangeAt w.heap.size 0 (aN A).toList ∧ w'.rangeAt (w.heap.size + 1) 0 (wa k).toList) w' → w'.rangeAt (w.heap.size + 1) 0 (wa k).toList) := Lib.hid fun w' h => h.2
  have D0 : Hid ((fun w' : World => w'.rangeAt w.heap.size 0 (aN A).toList ∧ w'.rangeAt (w.heap.size + 1) 0 (wa k).toList) W.drew) := Lib.hid ⟨adblk f0, (rng_block (w := W) (cs := (wa k).toList) (by simpa using f1)).at⟩
  clear h hw hr hA hk HS bW f0 f1 f2 sW hK
  have hsN := aN_size A
  unfold wd ptr at *
  have zw := zeroWa_run
  go_enter Tryz.func28, Tryz.ntmps28
  go_upto_region 3 with (refine wpList_alloc_row rfl 44 rfl _ zeroWa_run ?_)
  clear hW
  refine wp_region_held_drew (S := (fun w' : World => w'.rangeAt w.heap.size 0 (aN A).toList ∧ w'.rangeAt (w.heap.size + 1) 0 (wa k).toList)) (by kernel_rfl) D0.out (fun hHeld => ?_)
  refine wpAnyH_take (i := 0) (oi := ⟨_, _, _, _, _, _⟩) (v := ?_) rfl (by kernel_rfl) (by kernel_rfl) (by kernel_rfl) (fun _ _ _ h => h) (Or.inl ⟨by rfl, ?_⟩) (by assumption) ?_
  rotate_left
  · (intro w hSw; first | (go_simp; done) | (go_simp; with_reducible rfl))
  try simp only [Act.put, List.setIfInBounds_toArray, List.set_cons_zero, List.set_cons_succ]
  refine wpAnyH_take (i := 1) (oi := ⟨_, _, _, _, _, _⟩) rfl (by kernel_rfl) (by kernel_rfl) (by kernel_rfl) (fun _ _ _ h => h) (yieldsIf_load_mid (by rfl) 41 _ rfl w.heap.size 0 rfl (aN A).toList _ (RA.out) Tryz.underlying41 rfl (infoAd _)) (by assumption) ?_
  try simp only [Act.put, List.setIfInBounds_toArray, List.set_cons_zero, List.set_cons_succ, Array.toArray_toList]
  refine wpAnyH_take (i := 6) (oi := ⟨_, _, _, _, _, _⟩) rfl (by kernel_rfl) (by kernel_rfl) (by kernel_rfl) (fun _ _ _ h => h) (yieldsIf_load_mid (by rfl) 44 _ rfl (w.heap.size + 1) 0 rfl (wa k).toList _ (RK.out) Tryz.underlying44 rfl (infoW4 _)) (by assumption) ?_
  try simp only [Act.put, List.setIfInBounds_toArray, List.set_cons_zero, List.set_cons_succ, Array.toArray_toList]
  refine wpAnyH_ready (rs := [2]) (by kernel_rfl) (by simp) ?_
  refine AllReadyH.cons (o := ⟨_, _, _, _, _, _⟩) rfl (fun K' hK' => ?_) AllReadyH.nil
  go_simp
  go_wp2_with (go_at_call 63; refine KA.out.mono ?_; rintro e w1 ⟨Z1, G1, ap, rfl, h1⟩)
  have sW1 : W.heap.size ≤ w1.heap.size := h1.tch.size
  have KEEP := Lib.hid fun b o (hb : w.heap.size ≤ b) (ho : W.heap[b]? = some o) => show w1.heap[b]? = some o from (h1.tch.block b (Array.getElem?_eq_some_iff.1 ho).1 fun hs => by
    obtain ⟨r, hr⟩ := Option.isSome_iff_exists.1 hs
    have := LT.out b r hr
    omega).trans ho
  obtain ⟨-, -, -, -, c33, -, -, -⟩ := ent_cells (h1.st.core.acb h1.ab)
  obtain ⟨s, hs⟩ := Option.isSome_iff_exists.1 (h1.st.core.acc A ap h1.ab).2.2.sp
  obtain ⟨p, hp⟩ : ∃ p, (G1.en A).sp = p := ⟨_, rfl⟩
  rw [hp] at hs c33
  have HP := Lib.hid hp
  have HSS := Lib.hid hs
  obtain ⟨bv, hbv⟩ : ∃ bv, stoV s.so s.g k = bv := ⟨_, rfl⟩
  have HBV := Lib.hid hbv
  have KL := load_walk k w1 (h1.st.core.stoAt hs) HKM.out
  unfold wd at KL
  rw [hbv] at KL
  have KLL := Lib.hid KL
  have H1 := Lib.hid h1
  have g0 := KEEP.out _ _ (by omega) F0.out
  have g1 := KEEP.out _ _ (by omega) F1.out
  have g2 := KEEP.out _ _ (by omega) F2.out
  have D1 : Hid ((fun w' : World => w'.rangeAt w.heap.size 0 (aN A).toList ∧ w'.rangeAt (w.heap.size + 1) 0 (wa k).toList) w1) := Lib.hid ⟨adblk g0, (rng_block (cs := (wa k).toList) (by simpa using g1)).at⟩
  have G0 := Lib.hid g0
  have G1' := Lib.hid g1
  have G2 := Lib.hid g2
  have C33 := Lib.hid c33
  have SW1 := Lib.hid sW1
  clear h1 hs hp hbv KL g0 g1 g2 c33 KA sW1
  refine hK'.out _ _ D1.out (fun hHeld => ?_)
  clear hK' K'
  refine wpAnyH_take (i := 3) (oi := ⟨_, _, _, _, _, _⟩) (v := ?_) rfl (by kernel_rfl) (by kernel_rfl) (by kernel_rfl) (fun _ _ _ h => h) (Or.inl ⟨by rfl, ?_⟩) (by assumption) ?_
  rotate_left
  · (intro w hSw; first | (go_simp; done) | (go_simp; with_reducible rfl))
  try simp only [Act.put, List.setIfInBounds_toArray, List.set_cons_zero, List.set_cons_succ]
  refine wpAnyH_take (i := 4) (oi := ⟨_, _, _, _, _, _⟩) (v := ?_) rfl (by kernel_rfl) (by kernel_rfl) (by kernel_rfl) (fun _ _ _ h => h) (Or.inl ⟨by rfl, ?_⟩) (by assumption) ?_
  rotate_left
  · (intro w hSw; first | (go_simp; done) | (go_simp; with_reducible rfl))
  try simp only [Act.put, List.setIfInBounds_toArray, List.set_cons_zero, List.set_cons_succ]
  try simp only [Act.put, List.setIfInBounds_toArray, List.set_cons_zero, List.set_cons_succ]
  refine wpAnyH_ready (rs := [5]) (by kernel_rfl) (by simp) ?_
  refine AllReadyH.cons (o := ⟨_, _, _, _, _, _⟩) rfl (fun K2' hK2' => ?_) AllReadyH.nil
  have c33 := C33.out
  go_simp
  clear c33
  refine hK2'.out _ _ D1.out (fun hHeld => ?_)
  clear hK2' K2'
  try simp only [Act.put, List.setIfInBounds_toArray, List.set_cons_zero, List.set_cons_succ]
  refine wpAnyH_ready (rs := [7]) (by kernel_rfl) (by simp) ?_
  refine AllReadyH.cons (o := ⟨_, _, _, _, _, _⟩) rfl (fun K3' hK3' => ?_) AllReadyH.nil
  go_simp
  go_wp2_with (go_at_call 71; refine KLL.out.mono ?_; rintro e w3 ⟨rfl, b3⟩)
  have D3 : Hid ((fun w' : World => w'.rangeAt w.heap.size 0 (aN A).toList ∧ w'.rangeAt (w.heap.size + 1) 0 (wa k).toList) w3) := Lib.hid ⟨adblk (stay b3 G0.out), (rng_block (cs := (wa k).toList) (by simpa using stay b3 G1'.out)).at⟩
  have G23 := Lib.hid (stay b3 G2.out)
  have B3 := Lib.hid b3
  clear b3
  refine hK3'.out _ _ D3.out (fun hHeld => ?_)
  clear hK3' K3'
  try simp only [Act.put, List.setIfInBounds_toArray, List.set_cons_zero, List.set_cons_succ]
  refine wpAnyH_ready (rs := [8]) (by kernel_rfl) (by simp) ?_
  refine AllReadyH.cons (o := ⟨_, _, _, _, _, _⟩) rfl (fun K4' hK4' => ?_) AllReadyH.nil
  have hst := store_put (o := 0) (cs := (wa 0).toList) (by simpa using G23.out) bv (by simp [wa_size])
  rw [show putAt (wa 0).toList 0 (wa bv).toList = (wa bv).toList by unfold putAt; rw [List.take_zero, List.drop_of_length_le (by simp [wa_size])]; simp, Array.toArray_toList] at hst
  go_simp
  clear hst
  have D4 : Hid ((fun w' : World => w'.rangeAt w.heap.size 0 (aN A).toList ∧ w'.rangeAt (w.heap.size + 1) 0 (wa k).toList) (w3.setRow (w.heap.size + 2) (wa bv))) := Lib.hid ⟨adblk ((setRow_other _ _ _ _ (by omega)).trans (stay B3.out G0.out)), (rng_block (cs := (wa k).toList) (by simpa using (setRow_other _ _ _ _ (by omega)).trans (stay B3.out G1'.out))).at⟩
  refine hK4'.out _ _ D4.out (fun hHeld => ?_)
  clear hK4' K4'
  try simp only [Act.put, List.setIfInBounds_toArray, List.set_cons_zero, List.set_cons_succ]
  refine wpAnyH_done (by kernel_rfl) ?_ _
  clear hHeld D4 D3 D1 D0 RA RK
  go_wp2_with fail
  refine bodyPost_ret (v := .agg (wa bv)) (results_cell_row rfl _ _ _ 44 (wa bv) (0, 0) _ rfl (blk_row G23.out) Tryz.underlying44 rfl Tryz.infoWa) rfl ⟨Z1, G1, ap, s, by rw [HBV.out], by rw [HP.out]; exact HSS.out, ?_⟩
  have h1 := H1.out
  have h3 := h1.st.below B3.out
  have s3 := B3.out.size
  have sW := SW.out
  have sW1 := SW1.out
  have own2 : ∀ r, G1.own (w.heap.size + 2) ≠ some r := fun r hr => by
    rcases h1.new _ r hr with h | h
    · have := LT.out _ _ h
      omega
    · have : W.heap.size ≤ w.heap.size + 2 := h
      omega
  have z2 : Z1 (w.heap.size + 2) = none := by
    cases hz : Z1 (w.heap.size + 2) with
    | none => rfl
    | some o =>
      rcases h1.zn _ o hz with h | h
      · have := ZLT.out _ _ h
        omega
      · have : W.heap.size ≤ w.heap.size + 2 := h
        omega
  have hsub : Sub Z1 (hp (w3.setRow (w.heap.size + 2) (wa bv))) := fun b o ho => by
    have hne : b ≠ w.heap.size + 2 := fun e => by rw [e, z2] at ho; cases ho
    unfold hp
    rw [setRow_other _ _ _ _ hne]
    exact h3.core.sub b o ho
  have keep : ∀ b r, G1.own b = some r → (w3.setRow (w.heap.size + 2) (wa bv)).heap[b]? = w3.heap[b]? := fun b r hr => setRow_other _ _ _ _ fun e => own2 r (e ▸ hr)
  have hB4 : Below w.heap.size w W := BW.out
  refine ⟨{ h3 with core := h3.core.frame hsub keep, und := owns_same h3.und fun b hb => keep b _ (h3.unb b hb), base_le := by rw [setRow_size]; exact h3.base_le }, h1.sub, h1.ah, h1.ab, h1.wv, h1.sb, h1.na, ⟨?_, ?_, ?_, ?_, fun b hb hs => ?_⟩, fun b r hr => (h1.new b r hr).imp id fun h => Nat.le_trans hB4.size h, fun b o hz => (h1.zn b o hz).imp id fun h => Nat.le_trans hB4.size h⟩
  · exact B3.out.os.trans (h1.tch.os.trans hB4.os)
  · exact B3.out.tape.trans (h1.tch.tape.trans hB4.tape)
  · exact B3.out.output.trans (h1.tch.output.trans hB4.output)
  · rw [setRow_size]
    omega
  · rw [setRow_other _ _ _ _ (by omega), B3.out.block b (by omega)]
    exact (h1.tch.block b (show b < W.heap.size by omega) hs).trans (hB4.block b hb)
end Go.Proofs.YtnjeoeekidnffaaGreat
