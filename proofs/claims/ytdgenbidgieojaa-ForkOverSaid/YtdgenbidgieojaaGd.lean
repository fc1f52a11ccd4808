/- Rows of calls: as many as are gone through; do addresses rise? -/
import Derived.Test.YtdgenbidgieojaaGc
import Derived.Test.YtdgenbidgieojaaGb
namespace Go.Proofs.Ytdgenbidgieojaa
open Go.RowKit SmWord Go.Maps
set_option maxRecDepth 100000

theorem zeroFO (w : World) : (zeroValue 41).run Try.prog w = .ok (.agg (fcs ⟨0, noneAV⟩).toArray) w := by kernel_rfl
theorem infoFO : (Try.prog.info? 41).map (·.size) = some 28 := by kernel_rfl
theorem infoFcs (o : FO) : (Try.prog.info? 41).map (·.size) = some (fcs o).length := by rw [fcs_len]; exact infoFO
theorem fcs_x (o : FO) (j : Nat) (v : Value) (h : (acs o.x)[j]? = some v) : (fcs o)[1 + j]? = some v := by
  unfold fcs
  rw [Nat.add_comm, List.getElem?_cons_succ]
  exact h
theorem fcs_rng {Z : Hp} {b o : Nat} {f : FO} (h : rng Z b o (fcs f)) : rng Z b (o + 1) (acs f.x) := h.part 1 (acs f.x) (fcs_x f)
theorem FO.ones {Z : Hp} {o : FO} (h : AccB Z o.x) : (fcs o).toArray.all (·.oneCell') = true := all_oneCell_toArray (fun u hu => by
  unfold fcs at hu
  rcases List.mem_cons.1 hu with rfl | hu
  · rfl
  · exact oneA o.x h.cod.oneCell h.sto.oneCell u hu)
set_option maxHeartbeats 2000000 in
theorem cut_walk (v : Value) (l : List FO) (w : World) (h : RowZ (hp w) v l.length 28 (l.flatMap fcs)) (ho : ∀ o ∈ l, AccB (hp w) o.x) :
    Calls Try.prog 9 #[v] w fun e w' => (∃ m A c, m ≤ 101 ∧ m ≤ l.length ∧ (∀ o ∈ l.take m, greatL [o.x] = false) ∧ v = .slice A l.length c ∧ e = .returned (.slice A m c)) ∧ Below w.heap.size w w' := by
  obtain ⟨A, c, rfl, hn, hc, hA, hcells⟩ := h.one (fun x _ => fcs_len x)
  have HX := Lib.hid ho
  generalize hN : l.length = n at *
  have HN := Lib.hid hN
  have HC : Hid (0 < n → ∃ b off, A = some ⟨b, off, none⟩ ∧ ∀ i x, l[i]? = some x → rng (hp w) b (off + i * 28) (fcs x)) := Lib.hid fun hn => by
    obtain ⟨b, off, e, _, hi⟩ := hcells hn
    exact ⟨b, off, e, hi⟩
  clear hcells h hN ho
  have hfs : ∀ o, (fcs o).toArray.size = 28 := fun o => by simp [fcs_len]
  go_enter Try.func9, Try.ntmps9
  go_wp2_with fail
  go_loopw [7] (fun i wr => ∃ k : Nat, k ≤ n ∧ k ≤ 101 ∧ i = .int .i64 k ∧ Hid (∀ o ∈ l.take k, greatL [o.x] = false) ∧ Hid (Below w.heap.size w wr)) (fun i _ => n - (intOf i).toNat)
  case atStart => exact ⟨0, Nat.zero_le _, by omega, rfl, Lib.hid (fun o ho => by simp at ho), Lib.hid (Below.refl _ _)⟩
  case round =>
    obtain ⟨k, hk, hk31, rfl, HO, HW⟩ := hrel
    by_cases hlt : k < n
    · obtain ⟨b, off, rfl, hi⟩ := HC.out (by omega)
      obtain ⟨o, hx⟩ : ∃ o, l[k]? = some o := ⟨l[k]'(by rw [HN.out]; exact hlt), by simp⟩
      have r1 := ((hi k _ hx).sub (hp_below HW.out)).at
      have hxo := HX.out o (List.mem_of_getElem? hx)
      have HXo := Lib.hid hxo
      have one := FO.ones hxo
      have HXg := Lib.hid hx
      have FN := Lib.hid (heap_alloc_new wr (.cells (fcs ⟨0, noneAV⟩).toArray 41))
      clear hx hi hxo
      go_upto_region 4 with (first
        | (refine wpList_load_mid rfl 41 _ rfl b _ rfl (fcs o) _ r1 Try.underlying41 rfl (infoFcs _) ?_)
        | (refine wpList_alloc_row rfl 41 rfl _ zeroFO ?_)
        | (refine wpList_store_row rfl 41 _ _ rfl wr.heap.size _ (fcs o).toArray rfl rfl FN.out (by simpa using infoFcs _) (by simp [fcs_len]) one ?_))
      have b4 : Below wr.heap.size wr ((wr.alloc (.cells (fcs ⟨0, noneAV⟩).toArray 41)).setRow wr.heap.size (fcs o).toArray) := below_setRow ((Below.refl _ _).alloc (Nat.le_refl _) _) (Nat.le_refl _) _
      have F4 := Lib.hid (blk_row FN.out (c' := (fcs o).toArray))
      have HB4 := Lib.hid (HW.out.trans (b4.mono HW.out.size))
      clear b4 FN
      generalize (wr.alloc (.cells (fcs ⟨0, noneAV⟩).toArray 41)).setRow wr.heap.size (fcs o).toArray = W4 at *
      have HX4 := Lib.hid (HXo.out.sub (hp_below HB4.out))
      have r4 := (fcs_rng (rng_block F4.out)).at
      have KG := Lib.hid (great_walk _ [o.x] _ (oneB HX4.out))
      by_cases h30 : 100 < k
      · obtain rfl : k = 101 := by omega
        go_wp2_with fail
        go_ret
        exact ⟨⟨101, _, _, by omega, hk, HO.out, rfl, rfl⟩, HB4.out⟩
      · have hd : decide ((100 : Int) < (k : Int)) = false := decide_eq_false (by omega)
        cases hg : greatL [o.x]
        · have HGr := Lib.hid hg
          rw [hg] at KG
          clear hg
          go_wp2_with (first
            | (refine load_midG (by rfl) 39 _ rfl wr.heap.size 1 rfl (acs o.x) _ r4 Try.underlying39 rfl (infoAcs _) ?_)
            | (refine wpList_bslice_acc (by rfl) _ rfl o.x rfl ?_)
            | (go_at_call 24; refine KG.out.mono ?_; rintro e w6 ⟨rfl, rfl⟩))
          exact ⟨⟨k + 1, by omega, by omega, by go_num, Lib.hid (fun o' ho' => by
            rw [List.take_add_one, HXg.out] at ho'
            rcases List.mem_append.1 ho' with ho' | ho'
            · exact HO.out o' ho'
            · simp at ho'
              subst ho'
              exact HGr.out), Lib.hid (HB4.out.alloc HB4.out.size _)⟩, by simp [intOf]; omega⟩
        · rw [hg] at KG
          clear hg
          go_wp2_with (first
            | (refine load_midG (by rfl) 39 _ rfl wr.heap.size 1 rfl (acs o.x) _ r4 Try.underlying39 rfl (infoAcs _) ?_)
            | (refine wpList_bslice_acc (by rfl) _ rfl o.x rfl ?_)
            | (go_at_call 24; refine KG.out.mono ?_; rintro e w6 ⟨rfl, rfl⟩))
          go_ret
          exact ⟨⟨k, _, _, hk31, hk, HO.out, rfl, rfl⟩, HB4.out.alloc HB4.out.size _⟩
    · obtain rfl : k = n := by omega
      go_wp2_with fail
      go_ret
      exact ⟨⟨k, A, c, hk31, Nat.le_refl _, HO.out, rfl, rfl⟩, HW.out⟩
theorem grow_below (w : World) (os : Array Obj) : Below w.heap.size w (Sort.grow w.drew os) := ⟨rfl, rfl, rfl, by simp, fun k hk => by rw [Sort.heap_grow_old _ _ (by simpa using hk)]; rfl⟩
set_option maxHeartbeats 2000000 in
theorem rising_walk (v : Value) (l : List Nat) (w : World) (h : RowZ (hp w) v l.length 20 (l.flatMap ecs)) (hl : l.length ≤ 4000000) (hp' : l.Pairwise (· < ·)) (hlt : ∀ A ∈ l, A < 2 ^ 160) :
    Calls Try.prog 23 #[v] w fun e w' => e = .returned (.bool true) ∧ Below w.heap.size w w' := by
  obtain ⟨A, c, rfl, hn, hc, hA, hcells⟩ := h.one (fun x _ => ecs_len x)
  have HP := Lib.hid hp'
  have HL := Lib.hid hlt
  generalize hN : l.length = n at *
  have HN := Lib.hid hN
  have HC : Hid (0 < n → ∃ b off, A = some ⟨b, off, none⟩ ∧ ∀ i x, l[i]? = some x → rng (hp w) b (off + i * 20) (ecs x)) := Lib.hid fun hn => by
    obtain ⟨b, off, e, _, hi⟩ := hcells hn
    exact ⟨b, off, e, hi⟩
  clear hcells h hN hp' hlt
  have hsN := aN_size
  go_enter Try.func23, Try.ntmps23
  go_wp2_with fail
  go_loopw [3] (fun i wr => ∃ k : Nat, 1 ≤ k ∧ (k ≤ n ∨ k = 1) ∧ i = .int .i64 k ∧ Hid (Below w.heap.size w wr)) (fun i _ => n + 1 - (intOf i).toNat)
  case atStart => exact ⟨1, by omega, .inr rfl, rfl, Lib.hid (Below.refl _ _)⟩
  case round =>
    obtain ⟨k, hk1, hk, rfl, HW⟩ := hrel
    by_cases hlt : k < n
    · obtain ⟨b, off, rfl, hi⟩ := HC.out (by omega)
      obtain ⟨x, hx⟩ : ∃ x, l[k - 1]? = some x := ⟨l[k - 1]'(by rw [HN.out]; omega), by simp⟩
      obtain ⟨y, hy⟩ : ∃ y, l[k]? = some y := ⟨l[k]'(by rw [HN.out]; exact hlt), by simp⟩
      have HRx := Lib.hid (hi _ _ hx)
      have HRy := Lib.hid (hi _ _ hy)
      have hxy : x < y := by
        obtain ⟨h1, e1⟩ := List.getElem?_eq_some_iff.1 hx
        obtain ⟨h2, e2⟩ := List.getElem?_eq_some_iff.1 hy
        have := List.pairwise_iff_getElem.1 HP.out (k - 1) k h1 h2 (by omega)
        rw [e1, e2] at this
        exact this
      have hx2 := HL.out x (List.mem_of_getElem? hx)
      have hy2 := HL.out y (List.mem_of_getElem? hy)
      have hcm : cmpN (x % 256 ^ 20) (y % 256 ^ 20) = -1 := by
        rw [Nat.mod_eq_of_lt (by simpa using hx2), Nat.mod_eq_of_lt (by simpa using hy2)]
        unfold cmpN
        rw [if_pos hxy]
      have KC : Hid (∀ w1, Calls Try.prog 37 #[.agg (aN x), .agg (aN y)] w1 fun e w' => e = .returned (.int .i64 (-1)) ∧ Below w1.heap.size w1 w') := Lib.hid fun w1 => (acompare_walk x y w1).mono fun e w' ⟨he, os, hw⟩ => ⟨by rw [he, hcm], by rw [hw]; exact grow_below w1 os⟩
      have i1 : (k : Int) - 1 = ((k - 1 : Nat) : Int) := by omega
      clear hi hx hy hxy hx2 hy2 hcm
      go_upto_region 4 with fail
      have r0 : ∀ g : Ext wr, g.on.rangeAt b (off + (k - 1) * 20) (aN x).toList := fun g => (HRx.out.sub (hp_below (HW.out.trans (g.below.mono HW.out.size)))).at
      have r1 : ∀ g : Ext wr, g.on.rangeAt b (off + k * 20) (aN y).toList := fun g => (HRy.out.sub (hp_below (HW.out.trans (g.below.mono HW.out.size)))).at
      refine region_ext (by kernel_rfl) (by kernel_rfl) ?_
      repeat (first
        | (go_big_quiet_want; refine quiet_load_mid 32 _ rfl b (off + (k - 1) * 20) (aN x).toList rfl (fun w2 hw2 => by obtain ⟨g1, rfl⟩ := hw2; exact r0 g1) Try.underlying32 rfl (infoAd _) ?_; simp only [Act.put, List.setIfInBounds_toArray, List.set_cons_succ, List.set_cons_zero, Array.toArray_toList]; go_big_quiet_on)
        | (go_big_quiet_want; refine quiet_load_mid 32 _ rfl b (off + k * 20) (aN y).toList rfl (fun w2 hw2 => by obtain ⟨g1, rfl⟩ := hw2; exact r1 g1) Try.underlying32 rfl (infoAd _) ?_; simp only [Act.put, List.setIfInBounds_toArray, List.set_cons_succ, List.set_cons_zero, Array.toArray_toList]; go_big_quiet_on)
        | go_big_quiet_step (first | (go_at_call 37; with_reducible exact calls_ext (KC.out _))))
      refine wpQuiet_nil ?_
      rintro w' ⟨gg, rfl⟩
      have HWg := Lib.hid (HW.out.trans (gg.below.mono HW.out.size))
      clear r0 r1 KC
      generalize gg.on = wg at *
      go_wp2_with fail
      exact ⟨⟨k + 1, by omega, by omega, by go_num, HWg⟩, by simp [intOf]; omega⟩
    · go_wp2_with fail
      go_ret
      exact ⟨rfl, HW.out⟩
end Go.Proofs.Ytdgenbidgieojaa
/- What ties a cache in memory to the document's. -/
namespace Go.Proofs.Ytdgenbidgieojaa
open Go.RowKit SmWord Go.Maps
set_option maxRecDepth 100000

def lookT (al : List (Nat × Nat)) (A : Nat) : Option Nat := (al.find? fun t => t.1 == A).map Prod.snd
structure Tied (kf : Nat → Option AV) (tf : Nat → Option Nat) (kn : List AV) (al : List (Nat × Nat)) : Prop where
  k : ∀ A, A < 2 ^ 160 → (kf A).map AV.a = (findO kn A).map AV.a
  t : ∀ A, A < 2 ^ 160 → tf A = lookT al A
  nod : (al.map Prod.fst).Nodup
  srt : Srt (kn.map AV.a)
theorem Tied.start : Tied (fun _ => none) (fun _ => none) [] [] := ⟨fun _ _ => rfl, fun _ _ => rfl, by simp, .nil⟩
theorem lookT_none {al : List (Nat × Nat)} {A : Nat} (h : ¬ 0 ≤ atI al A) : lookT al A = none := by
  unfold lookT
  cases hf : al.find? (fun t => t.1 == A) with
  | none => rfl
  | some t =>
    exfalso
    apply h
    obtain ⟨hk, i, hi, e, _⟩ := List.find?_eq_some_iff_getElem.1 hf
    have : atI al A = ((al.findIdx? fun t => t.1 == A).elim (-1) fun i => (i : Int)) := by
      unfold atI
      cases al.findIdx? fun t => t.1 == A <;> rfl
    rw [this]
    cases hg : al.findIdx? (fun t => t.1 == A) with
    | none =>
      rw [List.findIdx?_eq_none_iff] at hg
      have := hg t (List.mem_of_find?_eq_some hf)
      rw [hk] at this
      cases this
    | some j => exact Int.natCast_nonneg j
theorem lookT_cons (t : Nat × Nat) (al : List (Nat × Nat)) (A : Nat) : lookT (t :: al) A = if t.1 = A then some t.2 else lookT al A := by
  unfold lookT
  by_cases h : t.1 = A
  · rw [List.find?_cons_of_pos (by simpa using h), if_pos h]; rfl
  · rw [List.find?_cons_of_neg (by simpa using h), if_neg h]
theorem lookT_out {A : Nat} : ∀ {al : List (Nat × Nat)}, A ∉ al.map Prod.fst → lookT al A = none
  | [], _ => rfl
  | t :: al, h => by
    rw [List.map_cons, List.mem_cons, not_or] at h
    rw [lookT_cons, if_neg (fun e => h.1 e.symm), lookT_out h.2]
theorem lookT_get {A : Nat} : ∀ {al : List (Nat × Nat)} {k : Nat} {t : Nat × Nat}, (al.map Prod.fst).Nodup → al[k]? = some t → t.1 = A → lookT al A = some t.2
  | [], k, t, _, h, _ => by simp at h
  | u :: al, 0, t, _, h, e => by
    simp at h
    subst h
    rw [lookT_cons, if_pos e]
  | u :: al, k + 1, t, hn, h, e => by
    have h' : al[k]? = some t := by simpa using h
    rw [List.map_cons, List.nodup_cons] at hn
    rw [lookT_cons, if_neg (fun e' => hn.1 (by rw [e', ← e]; exact List.mem_map.2 ⟨t, List.mem_of_getElem? h', rfl⟩))]
    exact lookT_get hn.2 h' e
theorem lookT_snoc (t : Nat × Nat) (A : Nat) : ∀ (al : List (Nat × Nat)), t.1 ∉ al.map Prod.fst → lookT (al ++ [t]) A = if A = t.1 then some t.2 else lookT al A
  | [], _ => by
    rw [List.nil_append, lookT_cons]
    by_cases e : A = t.1
    · simp [e]
    · rw [if_neg (fun e' => e e'.symm), if_neg e]
  | u :: al, h => by
    rw [List.map_cons, List.mem_cons, not_or] at h
    rw [List.cons_append, lookT_cons, lookT_snoc t A al h.2, lookT_cons]
    by_cases e : A = t.1
    · rw [if_pos e, if_pos e, if_neg (by rw [e]; exact fun e' => h.1 e'.symm)]
    · rw [if_neg e, if_neg e]
theorem lookT_set (A n : Nat) : ∀ {al : List (Nat × Nat)} {k : Nat} {t : Nat × Nat}, (al.map Prod.fst).Nodup → al[k]? = some t → lookT (al.set k (t.1, n)) A = if A = t.1 then some n else lookT al A
  | [], k, t, _, h => by simp at h
  | u :: al, 0, t, hn, h => by
    simp at h
    subst h
    rw [List.set_cons_zero, lookT_cons, lookT_cons]
    by_cases e : A = u.1
    · simp [e]
    · rw [if_neg (fun e' => e e'.symm), if_neg e, if_neg (fun e' => e e'.symm)]
  | u :: al, k + 1, t, hn, h => by
    have h' : al[k]? = some t := by simpa using h
    rw [List.map_cons, List.nodup_cons] at hn
    rw [List.set_cons_succ, lookT_cons, lookT_set A n hn.2 h', lookT_cons]
    have hne : u.1 ≠ t.1 := fun e' => hn.1 (by rw [e']; exact List.mem_map.2 ⟨t, List.mem_of_getElem? h', rfl⟩)
    by_cases e : A = t.1
    · rw [if_pos e, if_pos e, if_neg (by rw [e]; exact hne)]
    · rw [if_neg e, if_neg e]
theorem lookT_erase (A : Nat) : ∀ {al : List (Nat × Nat)} {k : Nat} {t : Nat × Nat}, (al.map Prod.fst).Nodup → al[k]? = some t → lookT (al.eraseIdx k) A = if A = t.1 then none else lookT al A
  | [], k, t, _, h => by simp at h
  | u :: al, 0, t, hn, h => by
    simp at h
    subst h
    rw [List.map_cons, List.nodup_cons] at hn
    rw [List.eraseIdx_cons_zero, lookT_cons]
    by_cases e : A = u.1
    · rw [if_pos e, e, lookT_out hn.1]
    · rw [if_neg e, if_neg (fun e' => e e'.symm)]
  | u :: al, k + 1, t, hn, h => by
    have h' : al[k]? = some t := by simpa using h
    rw [List.map_cons, List.nodup_cons] at hn
    rw [List.eraseIdx_cons_succ, lookT_cons, lookT_erase A hn.2 h', lookT_cons]
    have hne : u.1 ≠ t.1 := fun e' => hn.1 (by rw [e']; exact List.mem_map.2 ⟨t, List.mem_of_getElem? h', rfl⟩)
    by_cases e : A = t.1
    · rw [if_pos e, if_pos e, if_neg (by rw [e]; exact hne)]
    · rw [if_neg e, if_neg e]
theorem atI_mem {al : List (Nat × Nat)} {A : Nat} (h : ¬ 0 ≤ atI al A) : A ∉ al.map Prod.fst := fun hm => by
  obtain ⟨t, ht, e⟩ := List.mem_map.1 hm
  apply h
  unfold atI
  cases hg : al.findIdx? (fun t => t.1 == A) with
  | none =>
    rw [List.findIdx?_eq_none_iff] at hg
    have := hg t ht
    rw [e] at this
    simp at this
  | some j => exact Int.natCast_nonneg j
section
variable {kf : Nat → Option AV} {tf : Nat → Option Nat} {kn : List AV} {al : List (Nat × Nat)} {A : Nat}
theorem Tied.has (h : Tied kf tf kn al) (hA : A < 2 ^ 160) : (kf A).isSome = (findO kn A).isSome := by
  have := congrArg Option.isSome (h.k A hA)
  simpa using this
theorem Tied.at' (h : Tied kf tf kn al) (hA : A < 2 ^ 160) : (tf A).isSome = decide (0 ≤ atI al A) := by
  rw [h.t A hA]
  by_cases ha : 0 ≤ atI al A
  · obtain ⟨k, t, hk, ht, e⟩ := atI_pos ha
    rw [lookT_get h.nod ht e, decide_eq_true ha]
    rfl
  · rw [lookT_none ha, decide_eq_false ha]
    rfl
theorem Tied.wantN (h : Tied kf tf kn al) (hA : A < 2 ^ 160) : wantN kf tf A = rwN kn al A := by
  unfold Proofs.Ytdgenbidgieojaa.wantN rwN
  rw [h.has hA, h.at' hA]
  simp only [decide_eq_true_eq]
theorem Tied.wantT (h : Tied kf tf kn al) (hA : A < 2 ^ 160) : Tied kf (wantT kf tf A) kn (rwL kn al A) := by
  unfold Proofs.Ytdgenbidgieojaa.wantT rwL
  rw [h.has hA, h.at' hA]
  cases (findO kn A).isSome with
  | true => exact h
  | false =>
    simp only [Bool.false_eq_true, if_false, decide_eq_true_eq]
    by_cases ha : 0 ≤ atI al A
    · rw [if_pos ha, if_pos ha]; exact h
    · rw [if_neg ha, if_neg ha]
      have hm := atI_mem ha
      refine ⟨h.k, fun B hB => ?_, ?_, h.srt⟩
      · rw [lookT_snoc (A, 0) B al hm]
        unfold at1
        by_cases e : B = A
        · rw [if_pos e, if_pos e]
        · rw [if_neg e, if_neg e, h.t B hB]
      · rw [List.map_append, List.nodup_append]
        refine ⟨h.nod, by simp, fun a ha1 b hb e => ?_⟩
        simp at hb
        rw [e, hb] at ha1
        exact hm ha1
theorem Tied.lt (h : Tied kf tf kn al) (hA : A < 2 ^ 160) (hl : ∀ t ∈ al, t.1 < 2 ^ 160 ∧ t.2 < 8) : ∀ k, tf A = some k → k < 8 := fun k hk => by
  rw [h.t A hA] at hk
  unfold lookT at hk
  cases hf : al.find? (fun t => t.1 == A) with
  | none => rw [hf] at hk; cases hk
  | some t =>
    rw [hf] at hk
    cases hk
    exact (hl t (List.mem_of_find?_eq_some hf)).2
theorem Tied.failN (h : Tied kf tf kn al) (hA : A < 2 ^ 160) : failN (tf A) = rfN al A := by
  unfold Proofs.Ytdgenbidgieojaa.failN rfN
  by_cases ha : 0 ≤ atI al A
  · obtain ⟨k, t, hk, ht, e⟩ := atI_pos ha
    have e2 : al.getD (atI al A).toNat (0, 0) = t := by rw [hk]; simp [List.getD, ht]
    rw [h.t A hA, lookT_get h.nod ht e, if_pos ha, e2]
  · rw [h.t A hA, lookT_none ha, if_neg ha]
theorem Tied.failT (h : Tied kf tf kn al) (hA : A < 2 ^ 160) : Tied kf (failT tf A) kn (rfL al A) := by
  unfold Proofs.Ytdgenbidgieojaa.failT rfL
  by_cases ha : 0 ≤ atI al A
  · obtain ⟨k, t, hk, ht, e⟩ := atI_pos ha
    have e2 : al.getD (atI al A).toNat (0, 0) = t := by rw [hk]; simp [List.getD, ht]
    have e3 : (atI al A).toNat = k := by rw [hk]; rfl
    rw [h.t A hA, lookT_get h.nod ht e, if_pos ha, e2, e3]
    simp only
    by_cases h8 : t.2 + 1 < 8
    · rw [if_pos h8, if_pos h8]
      refine ⟨h.k, fun B hB => ?_, ?_, h.srt⟩
      · rw [← e, lookT_set B (t.2 + 1) h.nod ht]
        unfold at1
        by_cases e' : B = t.1
        · rw [if_pos e', if_pos e']
        · rw [if_neg e', if_neg e', h.t B hB]
      · have : (al.set k (A, t.2 + 1)).map Prod.fst = al.map Prod.fst := by
          rw [List.map_set]
          apply List.ext_getElem?
          intro j
          rw [List.getElem?_set]
          by_cases ej : k = j
          · subst ej
            have hkl := (List.getElem?_eq_some_iff.1 ht).1
            simp only [if_true, List.length_map, hkl, List.getElem?_map, ht, Option.map_some, e]
          · simp [ej]
        rw [this]
        exact h.nod
    · rw [if_neg h8, if_neg h8]
      refine ⟨h.k, fun B hB => ?_, ?_, h.srt⟩
      · rw [lookT_erase B h.nod ht]
        unfold at1
        by_cases e' : B = A
        · rw [if_pos e', if_pos (by rw [e', e])]
        · rw [if_neg e', if_neg (by rw [e]; exact e'), h.t B hB]
      · exact h.nod.sublist ((List.eraseIdx_sublist _ _).map _)
  · rw [h.t A hA, lookT_none ha, if_neg ha]
    exact h
theorem Tied.fill (h : Tied kf tf kn al) {x x' : AV} (hx : x'.a = x.a) (ha : 0 ≤ atI al x.a.ad) : Tied (at1 kf x.a.ad (some x')) (at1 tf x.a.ad none) (putV x kn) (al.eraseIdx (atI al x.a.ad).toNat) := by
  obtain ⟨k, t, hk, ht, e⟩ := atI_pos ha
  have e3 : (atI al x.a.ad).toNat = k := by rw [hk]; rfl
  rw [e3]
  refine ⟨fun B hB => ?_, fun B hB => ?_, ?_, ?_⟩
  · rw [← findO_look, putV_map, putA_look B h.srt]
    unfold at1
    by_cases e' : B = x.a.ad
    · rw [if_pos e', if_pos e', Option.map_some, hx]
    · rw [if_neg e', if_neg e', h.k B hB, findO_look]
  · rw [lookT_erase B h.nod ht]
    unfold at1
    by_cases e' : B = x.a.ad
    · rw [if_pos e', if_pos (by rw [e', e])]
    · rw [if_neg e', if_neg (by rw [e]; exact e'), h.t B hB]
  · exact h.nod.sublist ((List.eraseIdx_sublist _ _).map _)
  · rw [putV_map]
    exact putA_srt h.srt
end
end Go.Proofs.Ytdgenbidgieojaa
/- A cache and the document's side by side, while a row of calls is gone through. -/
namespace Go.Proofs.Ytdgenbidgieojaa
open Go.RowKit SmWord Go.Maps
set_option maxRecDepth 100000

structure PlayAt (w0 w : World) (c : Cb) (mb k : Nat) (Z Z2 : Hp) (kf : Nat → Option AV) (tf : Nat → Option Nat) (n : Nat) (vk va : Value) (kn : List AV) (al : List (Nat × Nat)) : Prop where
  at' : CacheAt Z w c kf tf n
  doc : DocAt Z2 vk va kn al
  sub2 : Sub Z2 (hp w)
  zs : ∀ b, c.soft b → Z2 b = none
  zm : Z2 mb = none
  z1m : Z mb = none
  box : w.heap[mb]? = some (.cells #[vk, va] 28)
  mbs : ¬ c.soft mb
  below : Below w0.heap.size w0 w
  sge : ∀ b, c.soft b → w0.heap.size ≤ b
  mge : w0.heap.size ≤ mb
  arg : Sub (hp w0) Z2
  kl : kn.length ≤ k
  all : al.length ≤ k
  nl : n ≤ k
section
variable {w0 w : World} {c : Cb} {mb k : Nat} {Z Z2 : Hp} {kf : Nat → Option AV} {tf : Nat → Option Nat} {n : Nat} {vk va : Value} {kn : List AV} {al : List (Nat × Nat)}
theorem PlayAt.boxlt (h : PlayAt w0 w c mb k Z Z2 kf tf n vk va kn al) : mb < w.heap.size := (Array.getElem?_eq_some_iff.1 h.box).1
theorem PlayAt.low {w' : World} (h : PlayAt w0 w c mb k Z Z2 kf tf n vk va kn al) (hb : Below w.heap.size w w') : PlayAt w0 w' c mb k Z Z2 kf tf n vk va kn al :=
  { h with
    at' := h.at'.below hb
    sub2 := h.sub2.trans (hp_below hb)
    box := stay hb h.box
    below := h.below.trans (hb.mono h.below.size) }
theorem PlayAt.drew (h : PlayAt w0 w c mb k Z Z2 kf tf n vk va kn al) : PlayAt w0 w.drew c mb k Z Z2 kf tf n vk va kn al := h.low ((Below.refl _ _).drew)
/-- The document's cache is turned. -/
theorem PlayAt.turn {w1 : World} {vk' va' : Value} {kn' : List AV} {al' : List (Nat × Nat)} {k' : Nat} (h : PlayAt w0 w c mb k Z Z2 kf tf n vk va kn al) (hb : Below w.heap.size w w1) (hd : DocAt (orH Z2 (fr w.heap.size w1)) vk' va' kn' al') (hk : k ≤ k') (h1 : kn'.length ≤ k') (h2 : al'.length ≤ k') :
    PlayAt w0 (w1.setRow mb #[vk', va']) c mb k' Z (orH Z2 (fr w.heap.size w1)) kf tf n vk' va' kn' al' := by
  have hlt := h.boxlt
  have hs1 : Sub (orH Z2 (fr w.heap.size w1)) (hp w1) := orH_sub (h.sub2.trans (hp_below hb)) (fr_sub _ _)
  have hm : orH Z2 (fr w.heap.size w1) mb = none := by
    unfold orH
    rw [h.zm]
    unfold fr
    rw [if_neg (by omega)]
    rfl
  have hne : ∀ b o, orH Z2 (fr w.heap.size w1) b = some o → b ≠ mb := fun b o ho e => by rw [e, hm] at ho; cases ho
  refine { at' := ?_, doc := hd, sub2 := fun b o ho => ?_, zs := fun b hs => ?_, zm := hm, z1m := h.z1m, box := blk_row (stay hb h.box), mbs := h.mbs, below := below_setRow (h.below.trans (hb.mono h.below.size)) h.mge _, sge := h.sge, mge := h.mge, arg := h.arg.trans (orH_left _ _), kl := h1, all := h2, nl := Nat.le_trans h.nl hk }
  · have h3 := h.at'.below hb
    refine h3.frame (fun b o ho => ?_) fun b hs => setRow_other _ _ _ _ (fun e => h.mbs (e ▸ hs))
    have : b ≠ mb := fun e => by rw [e, h.z1m] at ho; cases ho
    exact (setRow_other _ _ _ _ this).trans (h3.sub b o ho)
  · exact (setRow_other _ _ _ _ (hne b o ho)).trans (hs1 b o ho)
  · unfold orH
    rw [h.zs b hs]
    unfold fr
    rw [if_neg (by have := h.at'.softlt hs; omega)]
    rfl
/-- The cache in memory is turned. -/
theorem PlayAt.go {w' : World} {Z' : Hp} {kf' : Nat → Option AV} {tf' : Nat → Option Nat} {n' k' : Nat} (h : PlayAt w0 w c mb k Z Z2 kf tf n vk va kn al) (ht : Tch c.soft w w') (hc : CacheAt Z' w' c kf' tf' n') (hz : ∀ b o, Z' b = some o → Z b = some o ∨ w.heap.size ≤ b) (hk : k ≤ k') (hn : n' ≤ k') :
    PlayAt w0 w' c mb k' Z' Z2 kf' tf' n' vk va kn al := by
  have hlt := h.boxlt
  refine { h with at' := hc, sub2 := ht.sub h.sub2 h.zs, z1m := ?_, box := h.at'.stay ht h.box h.mbs, below := h.below.trans (ht.below h.below.size h.sge), kl := Nat.le_trans h.kl hk, all := Nat.le_trans h.all hk, nl := hn }
  cases hz' : Z' mb with
  | none => rfl
  | some o =>
    rcases hz mb o hz' with e | e
    · rw [h.z1m] at e; cases e
    · omega
theorem ne_of_types {w : World} {a b : Nat} {c c' : Array Value} {t t' : TypeId} (ha : w.heap[a]? = some (.cells c t)) (hb : w.heap[b]? = some (.cells c' t')) (h : t ≠ t') : a ≠ b := fun e => by
  rw [e, hb] at ha
  cases ha
  exact h rfl
theorem CacheAt.nosoft {Z : Hp} {w : World} {c : Cb} {kf : Nat → Option AV} {tf : Nat → Option Nat} {n b : Nat} {cs : Array Value} {t : TypeId} (h : CacheAt Z w c kf tf n) (hb : w.heap[b]? = some (.cells cs t)) (ht : t ≠ 73) : ¬ c.soft b := fun hs => by
  rcases hs with e | e | e
  · exact ne_of_types hb h.blk ht e
  · obtain ⟨es, clock, hm⟩ := map_blk h.km
    rw [← e, hb] at hm
    cases hm
  · obtain ⟨es, clock, hm⟩ := map_blk h.tm
    rw [← e, hb] at hm
    cases hm
theorem rwL_len (kn : List AV) (al : List (Nat × Nat)) (A : Nat) : (rwL kn al A).length ≤ al.length + 1 := by
  unfold rwL
  split
  · omega
  · split <;> simp
theorem rfL_len (al : List (Nat × Nat)) (A : Nat) : (rfL al A).length ≤ al.length := by
  unfold rfL
  split
  · split
    · simp
    · exact List.length_eraseIdx_le _ _
  · exact Nat.le_refl _
theorem pair_one {vk va : Value} (h : vk.oneCell' = true) (h' : va.oneCell' = true) : (#[vk, va] : Array Value).all (·.oneCell') = true := all_oneCell_toArray (cs := [vk, va]) (fun u hu => by
  rcases List.mem_cons.1 hu with rfl | hu
  · exact h
  · rw [List.mem_singleton] at hu; rw [hu]; exact h')
theorem Tied.filled {Z : Hp} {w w' : World} {c : Cb} {kf kf' : Nat → Option AV} {tf tf' : Nat → Option Nat} {n : Nat} {x : AV} {e : Ending} {Z' : Hp} {kn : List AV} {al : List (Nat × Nat)} (h : Tied kf tf kn al) (hA : x.a.ad < 2 ^ 160) (hf : FillIs Z w c kf tf n x e w' Z' kf' tf') :
    Tied kf' tf' (if decide (0 ≤ atI al x.a.ad) && rightA x.a then putV x kn else kn) (if decide (0 ≤ atI al x.a.ad) && rightA x.a then al.eraseIdx (atI al x.a.ad).toNat else al) := by
  have e := h.at' hA
  cases hq : (decide (0 ≤ atI al x.a.ad) && rightA x.a) with
  | true =>
    obtain ⟨x', hx, h1, h2⟩ := hf.yes (by rw [e]; exact hq)
    simp only [if_true]
    rw [h1, h2]
    rw [Bool.and_eq_true, decide_eq_true_eq] at hq
    exact h.fill hx hq.1
  | false =>
    obtain ⟨h1, h2⟩ := hf.no (by rw [e]; exact hq)
    simp only [Bool.false_eq_true, if_false]
    rw [h1, h2]
    exact h
theorem PlayAt.start {w w1 : World} {c : Cb} (h : CacheAt (fun _ => none) w1 c (fun _ => none) (fun _ => none) 0) (hs : ∀ b, c.soft b → w.heap.size ≤ b) (hb : Below w.heap.size w w1) :
    PlayAt w (w1.alloc (.cells #[.slice none 0 0, .slice none 0 0] 28)) c w1.heap.size 0 (fun _ => none) (hp w) (fun _ => none) (fun _ => none) 0 (.slice none 0 0) (.slice none 0 0) [] [] := by
  have hz := hb.size
  have ba : Below w1.heap.size w1 (w1.alloc (.cells #[.slice none 0 0, .slice none 0 0] 28)) := (Below.refl _ _).alloc (Nat.le_refl _) _
  have hnone : ∀ b, w.heap.size ≤ b → hp w b = none := fun b hb => by unfold hp; exact Array.getElem?_eq_none hb
  exact { at' := h.below ba, doc := ⟨AccsZ.nil _, RowZ.nil _ _, fun t ht => by simp at ht, by simp, by simp⟩, sub2 := hp_below (hb.trans (ba.mono hz)), zs := fun b hb => hnone b (hs b hb), zm := hnone _ hz, z1m := rfl, box := heap_alloc_new _ _, mbs := fun hm => by have := h.softlt hm; omega, below := hb.trans (ba.mono hz), sge := hs, mge := hz, arg := Sub.refl _, kl := by simp, all := by simp, nl := Nat.le_refl _ }
end
/-- Strictly rising, the same members: the same list. -/
theorem nat_ext : ∀ {l l' : List Nat}, l.Pairwise (· < ·) → l'.Pairwise (· < ·) → (∀ x, x ∈ l ↔ x ∈ l') → l = l'
  | [], [], _, _, _ => rfl
  | [], y :: l', _, _, h => by have := (h y).2 (by simp); simp at this
  | x :: l, [], _, _, h => by have := (h x).1 (by simp); simp at this
  | x :: l, y :: l', h1, h2, h => by
    obtain ⟨a1, a2⟩ := List.pairwise_cons.1 h1
    obtain ⟨b1, b2⟩ := List.pairwise_cons.1 h2
    have e : x = y := by
      have hx := (h x).1 (by simp)
      have hy := (h y).2 (by simp)
      rcases List.mem_cons.1 hx with e | hx
      · exact e
      · rcases List.mem_cons.1 hy with e | hy
        · exact e.symm
        · have := b1 x hx; have := a1 y hy; omega
    subst e
    rw [nat_ext a2 b2 fun z => ⟨fun hz => ?_, fun hz => ?_⟩]
    · rcases List.mem_cons.1 ((h z).1 (by simp [hz])) with e | h'
      · have := a1 z hz; omega
      · exact h'
    · rcases List.mem_cons.1 ((h z).2 (by simp [hz])) with e | h'
      · have := b1 z hz; omega
      · exact h'
theorem findO_mem (kn : List AV) (A : Nat) : (findO kn A).isSome = true ↔ A ∈ kn.map fun x => x.a.ad := by
  unfold findO
  rw [List.find?_isSome]
  simp
theorem lookT_mem (al : List (Nat × Nat)) (A : Nat) : (lookT al A).isSome = true ↔ A ∈ al.map Prod.fst := by
  unfold lookT
  rw [Option.isSome_map, List.find?_isSome]
  simp
theorem known_eq {kf : Nat → Option AV} {tf : Nat → Option Nat} {kn : List AV} {al : List (Nat × Nat)} {ys : List Nat} (h : Tied kf tf kn al) (hx : ∀ x ∈ kn, x.a.ad < 2 ^ 160) (hs : ys.Pairwise (· < ·)) (hm : ∀ A, A < 2 ^ 160 → (A ∈ ys ↔ (kF kf A).isSome = true)) (hl : ∀ A ∈ ys, A < 2 ^ 160) : ys = kn.map fun x => x.a.ad := by
  refine nat_ext hs ?_ fun A => ⟨fun hA => ?_, fun hA => ?_⟩
  · have := h.srt
    rw [Srt, List.pairwise_map] at this
    rw [List.pairwise_map]
    exact this
  · have h1 := (hm A (hl A hA)).1 hA
    rw [isSomeK, h.has (hl A hA)] at h1
    exact (findO_mem kn A).1 h1
  · obtain ⟨x, hx1, e⟩ := List.mem_map.1 hA
    have hA' : A < 2 ^ 160 := e ▸ hx x hx1
    rw [hm A hA', isSomeK, h.has hA']
    exact (findO_mem kn A).2 hA
theorem asked_mem {kf : Nat → Option AV} {tf : Nat → Option Nat} {kn : List AV} {al : List (Nat × Nat)} {zs : List Nat} (h : Tied kf tf kn al) (hm : ∀ A, A < 2 ^ 160 → (A ∈ zs ↔ (tF tf A).isSome = true)) (hl : ∀ A ∈ zs, A < 2 ^ 160) {A : Nat} (hA : A ∈ zs) : 0 ≤ atI al A := by
  have h1 := (hm A (hl A hA)).1 hA
  rw [isSomeT, h.at' (hl A hA), decide_eq_true_eq] at h1
  exact h1
theorem asked_len {kf : Nat → Option AV} {tf : Nat → Option Nat} {kn : List AV} {al : List (Nat × Nat)} {zs : List Nat} (h : Tied kf tf kn al) (hx : ∀ t ∈ al, t.1 < 2 ^ 160) (hs : zs.Pairwise (· < ·)) (hm : ∀ A, A < 2 ^ 160 → (A ∈ zs ↔ (tF tf A).isSome = true)) (hl : ∀ A ∈ zs, A < 2 ^ 160) : zs.length = al.length := by
  have hp : zs.Perm (al.map Prod.fst) := by
    rw [List.perm_ext_iff_of_nodup (hs.imp fun hlt => Nat.ne_of_lt hlt) h.nod]
    intro A
    refine ⟨fun hA => ?_, fun hA => ?_⟩
    · have h1 := (hm A (hl A hA)).1 hA
      rw [isSomeT, h.t A (hl A hA)] at h1
      exact (lookT_mem al A).1 h1
    · obtain ⟨t, ht, e⟩ := List.mem_map.1 hA
      have hA' : A < 2 ^ 160 := e ▸ hx t ht
      rw [hm A hA', isSomeT, h.t A hA']
      exact (lookT_mem al A).2 hA
  rw [hp.length_eq, List.length_map]
set_option maxHeartbeats 20000000 in
theorem fplays_law (v : Value) (l : List FO) (w : World) (h : RowZ (hp w) v l.length 28 (l.flatMap fcs)) (ho : ∀ o ∈ l, AccB (hp w) o.x) :
    Calls Try.prog 3 #[v] w fun e w' => e = .returned (.bool true) ∧ Below w.heap.size w w' := by
  have KC := Lib.hid fun w1 (hb : Below w.heap.size w w1) => cut_walk v l w1 (h.sub (hp_below hb)) fun o hm => (ho o hm).sub (hp_below hb)
  obtain ⟨A0, c0, rfl, hn, hc, hA0, hcells⟩ := h.one (fun x _ => fcs_len x)
  have HX := Lib.hid ho
  generalize hN : l.length = n at *
  have HN := Lib.hid hN
  have HCe := Lib.hid (fun hn => by
    obtain ⟨b, off, e, _, hi⟩ := hcells hn
    exact ⟨b, off, e, hi⟩ : 0 < n → ∃ b off, A0 = some ⟨b, off, none⟩ ∧ ∀ i x, l[i]? = some x → rng (hp w) b (off + i * 28) (fcs x))
  have KN := Lib.hid (fnew_walk w)
  have KFx := Lib.hid fixed_walk
  clear hcells h hN ho
  go_enter Try.func3, Try.ntmps3
  go_upto_region 2 with (go_at_call 7; refine KN.out.mono ?_; rintro e w1 ⟨c, rfl, hc1, hcs, hb⟩; have HC := Lib.hid hc1; have HS := Lib.hid hcs; have HB := Lib.hid hb; clear hc1 hcs hb)
  clear KN
  go_upto_region 3 with fail
  have HP0 := Lib.hid (PlayAt.start HC.out HS.out HB.out)
  have H12 := Lib.hid (HB.out.size)
  generalize hW2 : w1.alloc (.cells #[.slice none 0 0, .slice none 0 0] 28) = W2 at *
  clear hW2 HC HS HB
  generalize hmb : w1.heap.size = mb at *
  clear hmb H12
  go_upto_region 5 with (go_at_call 8; refine (KFx.out _).mono ?_; rintro e w3 ⟨rfl, b3⟩; have HP3 := Lib.hid (HP0.out.low b3); clear b3)
  clear HP0
  have KC3 := Lib.hid (KC.out _ HP3.out.below)
  clear KC KFx
  go_wp2_with (go_at_call 9; refine KC3.out.mono ?_; rintro e w4 ⟨⟨m, A, cc, hm1, hm2, hm3, hv, rfl⟩, b4⟩; have HP4 := Lib.hid (HP3.out.low b4); have HM := Lib.hid hm3; obtain ⟨rfl, rfl⟩ : A = A0 ∧ cc = c0 := (by simp at hv; exact ⟨hv.1.symm, hv.2.symm⟩); clear b4 hm3 hv)
  clear KC3 HP3
  have hfs : ∀ o, (fcs o).toArray.size = 28 := fun o => by simp [fcs_len]
  have hsN := aN_size
  go_loopw [34] (fun i wr => ∃ (k : Nat) (Z Z2 : Hp) (kf : Nat → Option AV) (tf : Nat → Option Nat) (n' : Nat) (vk va : Value) (kn : List AV) (al : List (Nat × Nat)), k ≤ m ∧ i = .int .i64 k ∧ Hid (PlayAt w wr c mb k Z Z2 kf tf n' vk va kn al) ∧ Hid (Tied kf tf kn al)) (fun i _ => m - (intOf i).toNat)
  case atStart => exact ⟨0, _, _, _, _, _, _, _, _, _, Nat.zero_le _, rfl, HP4, Lib.hid Tied.start⟩
  case round =>
    obtain ⟨k, Z, Z2, kf, tf, n', vk, va, kn, al, hk, rfl, HP, HT⟩ := hrel
    clear HP4
    by_cases hlt : k < m
    · obtain ⟨b, off, rfl, hi⟩ := HCe.out (by omega)
      obtain ⟨o, hx⟩ : ∃ o, l[k]? = some o := ⟨l[k]'(by rw [HN.out]; omega), by simp⟩
      have hxo := HX.out o (List.mem_of_getElem? hx)
      have hgo : greatL [o.x] = false := HM.out o (List.mem_iff_getElem?.2 ⟨k, by rw [List.getElem?_take, if_pos hlt]; exact hx⟩)
      have hxz : AccZ (hp w) o.x := by
        unfold greatL at hgo
        rw [Bool.or_eq_false_iff, decide_eq_false_iff_not, List.any_eq_false] at hgo
        have := hgo.2 o.x (by simp)
        unfold greatA at this
        simp at this
        exact hxo.small (by omega) (by omega)
      have HXz := Lib.hid hxz
      have one := FO.ones hxo
      have r1 := ((hi k _ hx).sub (hp_below HP.out.below)).at
      have FN := Lib.hid (heap_alloc_new wr (.cells (fcs ⟨0, noneAV⟩).toArray 41))
      clear hx hi hxo hxz hgo
      go_upto_region 8 with (first
        | (refine wpList_load_mid rfl 41 _ rfl b _ rfl (fcs o) _ r1 Try.underlying41 rfl (infoFcs _) ?_)
        | (refine wpList_alloc_row rfl 41 rfl _ zeroFO ?_)
        | (refine wpList_store_row rfl 41 _ _ rfl wr.heap.size _ (fcs o).toArray rfl rfl FN.out (by simpa using infoFcs _) (by simp [fcs_len]) one ?_))
      have b7 : Below wr.heap.size wr ((wr.alloc (.cells (fcs ⟨0, noneAV⟩).toArray 41)).setRow wr.heap.size (fcs o).toArray) := below_setRow ((Below.refl _ _).alloc (Nat.le_refl _) _) (Nat.le_refl _) _
      have F7 := Lib.hid (blk_row FN.out (c' := (fcs o).toArray))
      have HP7 := Lib.hid (HP.out.low b7)
      clear b7 FN r1 HP one
      generalize (wr.alloc (.cells (fcs ⟨0, noneAV⟩).toArray 41)).setRow wr.heap.size (fcs o).toArray = w7 at *
      generalize wr.heap.size = bo at *
      have r7 := (acs_rng (fcs_rng (rng_block F7.out))).at
      have FN := Lib.hid (heap_alloc_new w7 (.cells (aN 0) 32))
      have one := aN_one o.x.a.ad
      go_upto_region 9 with (first
        | (refine wpList_load_mid rfl 32 _ rfl bo _ rfl (aN o.x.a.ad).toList _ r7 Try.underlying32 rfl (infoAd _) ?_; simp only [Array.toArray_toList])
        | (refine wpList_alloc_row rfl 32 rfl _ zeroAd_run ?_)
        | (refine wpList_store_row rfl 32 _ _ rfl w7.heap.size _ (aN o.x.a.ad) rfl rfl FN.out Try.infoAd20 rfl one ?_))
      have b8 : Below w7.heap.size w7 ((w7.alloc (.cells (aN 0) 32)).setRow w7.heap.size (aN o.x.a.ad)) := below_setRow ((Below.refl _ _).alloc (Nat.le_refl _) _) (Nat.le_refl _) _
      have F8 := Lib.hid (stay b8 F7.out)
      have FA := Lib.hid (blk_row FN.out (c' := aN o.x.a.ad))
      have HP8 := Lib.hid (HP7.out.low b8)
      clear b8 FN r7 HP7 one F7
      generalize (w7.alloc (.cells (aN 0) 32)).setRow w7.heap.size (aN o.x.a.ad) = w8 at *
      generalize w7.heap.size = ba at *
      have k8 : w8.cell? ⟨bo, 0, none⟩ = some (.int .i64 o.kind) := blk_cell F8.out rfl
      go_upto_block 2 with fail
      go_cut [34] from 35 to 126 (fun s34 wx => s34 = .int .i64 (k : Int) ∧ ∃ (Z Z2 : Hp) (kf : Nat → Option AV) (tf : Nat → Option Nat) (n' : Nat) (vk va : Value) (kn : List AV) (al : List (Nat × Nat)), Hid (PlayAt w wx c mb (k + 1) Z Z2 kf tf n' vk va kn al) ∧ Hid (Tied kf tf kn al) ∧ Hid (wx.heap[ba]? = some (.cells (aN o.x.a.ad) 32)))
      case first =>
        have g0 : w8.cell? ⟨mb, 0, none⟩ = some vk := blk_cell HP8.out.box rfl
        have g1 : w8.cell? ⟨mb, 1, none⟩ = some va := blk_cell HP8.out.box rfl
        have ra := adblk FA.out
        have HAd := Lib.hid HXz.out.ad
        have hall := HP8.out.all
        have hnl := HP8.out.nl
        have hkl := HP8.out.kl
        by_cases h0 : o.kind = 0
        · have KW := Lib.hid (rwant_walk o.x.a.ad w8 HP8.out.doc HP8.out.sub2 HAd.out (by omega))
          obtain ⟨q, hq⟩ : ∃ q, rwN kn al o.x.a.ad = q := ⟨_, rfl⟩
          rw [hq] at KW
          have HQ := Lib.hid ((HT.out.wantN HAd.out).trans hq)
          clear hq
          go_upto_region 17 with (first
            | (refine wpList_load_mid rfl 32 _ rfl ba 0 rfl (aN o.x.a.ad).toList _ ra Try.underlying32 rfl (infoAd _) ?_; simp only [Array.toArray_toList])
            | (go_at_call 10
               refine KW.out.mono ?_
               rintro e w9 ⟨va', rfl, hd, b9⟩
               have HPt := Lib.hid (HP8.out.turn b9 hd (Nat.le_succ k) (by omega) (by have := rwL_len kn al o.x.a.ad; omega))
               have one2 := pair_one hd.kz.row.oneCell hd.az.oneCell
               have FB := Lib.hid (stay b9 HP8.out.box)
               have FA9 := Lib.hid (stay b9 FA.out)
               have F89 := Lib.hid (stay b9 F8.out)
               clear hd b9)
            | (refine wpList_store_row rfl 28 _ _ rfl mb _ #[vk, va'] rfl rfl FB.out infoC2 rfl one2 ?_))
          have FAt : Hid ((w9.setRow mb #[vk, va']).heap[ba]? = _) := Lib.hid ((setRow_other _ _ _ _ (ne_of_types FA9.out FB.out (by decide))).trans FA9.out)
          have F8t : Hid ((w9.setRow mb #[vk, va']).heap[bo]? = _) := Lib.hid ((setRow_other _ _ _ _ (ne_of_types F89.out FB.out (by decide))).trans F89.out)
          clear g0 g1 ra one2 FB FA9 F89 KW
          generalize w9.setRow mb #[vk, va'] = w10 at *
          have ra := adblk FAt.out
          have rx := (fcs_rng (rng_block F8t.out)).at
          have KC := Lib.hid (want_walk HPt.out.at' o.x.a.ad HAd.out (by omega))
          unfold WantIs at KC
          rw [HQ.out] at KC
          go_wp2_with (first
            | (refine wpList_load_mid rfl 32 _ rfl ba 0 rfl (aN o.x.a.ad).toList _ ra Try.underlying32 rfl (infoAd _) ?_; simp only [Array.toArray_toList])
            | (go_at_call 11
               refine KC.out.mono ?_
               rintro e w11 ⟨rfl, h11, t11⟩
               have HPe := Lib.hid (HPt.out.go t11 h11 (fun b o h => .inl h) (Nat.le_refl _) (by omega))
               have FAe := Lib.hid (HPt.out.at'.stay t11 FAt.out (HPt.out.at'.nosoft FAt.out (by decide)))
               clear h11 t11))
          go_meet
          exact ⟨rfl, _, _, _, _, _, _, _, _, _, HPe, Lib.hid (HT.out.wantT HAd.out), FAe⟩
        · by_cases h1 : o.kind = 1
          --BEG1
          · skip
            have KW := Lib.hid (rfill_walk o.x w8 HP8.out.doc HP8.out.sub2 (HXz.out.sub HP8.out.arg) HT.out.srt (by omega))
            have HTf := Lib.hid fun (Z0 : Hp) w0 w1 e Z1 kf1 tf1 (hf : FillIs Z0 w0 c kf tf n' o.x e w1 Z1 kf1 tf1) => HT.out.filled HAd.out hf
            have HQ := Lib.hid (show ((tf o.x.a.ad).isSome && rightA o.x.a) = (decide (0 ≤ atI al o.x.a.ad) && rightA o.x.a) by rw [HT.out.at' HAd.out])
            have hl1 : (if decide (0 ≤ atI al o.x.a.ad) && rightA o.x.a then putV o.x kn else kn).length ≤ kn.length + 1 := by
              have := putV_len o.x kn
              split <;> omega
            have hl2 : (if decide (0 ≤ atI al o.x.a.ad) && rightA o.x.a then al.eraseIdx (atI al o.x.a.ad).toNat else al).length ≤ al.length := by
              have := List.length_eraseIdx_le al (atI al o.x.a.ad).toNat
              split <;> omega
            have HL1 := Lib.hid hl1
            have HL2 := Lib.hid hl2
            clear hl1 hl2
            generalize (if decide (0 ≤ atI al o.x.a.ad) && rightA o.x.a then putV o.x kn else kn) = kn2 at *
            generalize (if decide (0 ≤ atI al o.x.a.ad) && rightA o.x.a then al.eraseIdx (atI al o.x.a.ad).toNat else al) = al2 at *
            generalize (decide (0 ≤ atI al o.x.a.ad) && rightA o.x.a) = q at *
            unfold aval at KW
            have rx0 := (fcs_rng (rng_block F8.out)).at
            go_upto_region 22 with (first
              | (refine wpList_load_mid rfl 39 _ rfl bo _ rfl (acs o.x) _ rx0 Try.underlying39 rfl (infoAcs _) ?_)
              | (go_at_call 12
                 refine KW.out.mono ?_
                 rintro e w9 ⟨vk', va', rfl, hd, b9⟩
                 have HPt := Lib.hid (HP8.out.turn b9 hd (Nat.le_succ k) (by have := HL1.out; omega) (by have := HL2.out; omega))
                 have one2 := pair_one hd.kz.row.oneCell hd.az.oneCell
                 have FB := Lib.hid (stay b9 HP8.out.box)
                 have FA9 := Lib.hid (stay b9 FA.out)
                 have F89 := Lib.hid (stay b9 F8.out)
                 clear hd b9)
              | (refine wpList_store_row rfl 28 _ _ rfl mb _ #[vk', va'] rfl rfl FB.out infoC2 rfl one2 ?_))
            have FAt : Hid ((w9.setRow mb #[vk', va']).heap[ba]? = _) := Lib.hid ((setRow_other _ _ _ _ (ne_of_types FA9.out FB.out (by decide))).trans FA9.out)
            have F8t : Hid ((w9.setRow mb #[vk', va']).heap[bo]? = _) := Lib.hid ((setRow_other _ _ _ _ (ne_of_types F89.out FB.out (by decide))).trans F89.out)
            clear g0 g1 ra rx0 one2 FB FA9 F89 KW
            generalize w9.setRow mb #[vk', va'] = w10 at *
            have ra := adblk FAt.out
            have rx := (fcs_rng (rng_block F8t.out)).at
            have KC := Lib.hid (fill_walk HPt.out.at' o.x (HXz.out.sub (HP8.out.arg.trans (orH_left _ _) |>.trans HPt.out.sub2)) (by omega))
            unfold aval at KC
            go_wp2_with (first
              | (refine wpList_load_mid rfl 39 _ rfl bo _ rfl (acs o.x) _ rx Try.underlying39 rfl (infoAcs _) ?_)
              | (go_at_call 13
                 refine KC.out.mono ?_
                 rintro e w11 ⟨Z1, kf1, tf1, hf⟩
                 have he := hf.ans
                 rw [HQ.out] at he
                 subst he
                 have HPe := Lib.hid (HPt.out.go hf.tch hf.at' hf.new (Nat.le_refl _) (by omega))
                 have FAe := Lib.hid (HPt.out.at'.stay hf.tch FAt.out (HPt.out.at'.nosoft FAt.out (by decide)))
                 have HTe := Lib.hid (HTf.out _ _ _ _ _ _ _ hf)
                 clear hf))
            go_meet
            exact ⟨rfl, _, _, _, _, _, _, _, _, _, HPe, HTe, FAe⟩
          --END1
          --BEG2
          · skip
            have KW := Lib.hid (rfail_walk o.x.a.ad w8 HP8.out.doc HP8.out.sub2 HAd.out)
            obtain ⟨q, hq⟩ : ∃ q, rfN al o.x.a.ad = q := ⟨_, rfl⟩
            rw [hq] at KW
            have HQ := Lib.hid ((HT.out.failN HAd.out).trans hq)
            clear hq
            have rx0 := (fcs_rng (rng_block F8.out)).at
            go_upto_region 12 with (first
              | (refine wpList_load_mid rfl 32 _ rfl ba 0 rfl (aN o.x.a.ad).toList _ ra Try.underlying32 rfl (infoAd _) ?_; simp only [Array.toArray_toList])
              | (go_at_call 14
                 refine KW.out.mono ?_
                 rintro e w9 ⟨va', rfl, hd, b9⟩
                 have HPt := Lib.hid (HP8.out.turn b9 hd (Nat.le_succ k) (by omega) (by have := rfL_len al o.x.a.ad; omega))
                 have one2 := pair_one hd.kz.row.oneCell hd.az.oneCell
                 have FB := Lib.hid (stay b9 HP8.out.box)
                 have FA9 := Lib.hid (stay b9 FA.out)
                 have F89 := Lib.hid (stay b9 F8.out)
                 clear hd b9)
              | (refine wpList_store_row rfl 28 _ _ rfl mb _ #[vk, va'] rfl rfl FB.out infoC2 rfl one2 ?_))
            have FAt : Hid ((w9.setRow mb #[vk, va']).heap[ba]? = _) := Lib.hid ((setRow_other _ _ _ _ (ne_of_types FA9.out FB.out (by decide))).trans FA9.out)
            have F8t : Hid ((w9.setRow mb #[vk, va']).heap[bo]? = _) := Lib.hid ((setRow_other _ _ _ _ (ne_of_types F89.out FB.out (by decide))).trans F89.out)
            clear g0 g1 ra rx0 one2 FB FA9 F89 KW
            generalize w9.setRow mb #[vk, va'] = w10 at *
            have ra := adblk FAt.out
            have rx := (fcs_rng (rng_block F8t.out)).at
            have KC := Lib.hid (fail_walk HPt.out.at' o.x.a.ad HAd.out (HT.out.lt HAd.out HP8.out.doc.lt) (by omega))
            rw [HQ.out] at KC
            go_wp2_with (first
              | (refine wpList_load_mid rfl 32 _ rfl ba 0 rfl (aN o.x.a.ad).toList _ ra Try.underlying32 rfl (infoAd _) ?_; simp only [Array.toArray_toList])
              | (go_at_call 15
                 refine KC.out.mono ?_
                 rintro e w11 ⟨rfl, h11, t11⟩
                 have HPe := Lib.hid (HPt.out.go t11 h11 (fun b o h => .inl h) (Nat.le_refl _) (by omega))
                 have FAe := Lib.hid (HPt.out.at'.stay t11 FAt.out (HPt.out.at'.nosoft FAt.out (by decide)))
                 clear h11 t11))
            go_meet
            exact ⟨rfl, _, _, _, _, _, _, _, _, _, HPe, Lib.hid (HT.out.failT HAd.out), FAe⟩
          --END2
      case rest =>
        obtain ⟨rfl, Z', Z2', kf', tf', n2, vk', va', kn', al', HP1, HT1, FA1⟩ := hcut
        clear HP8 HT F8 FA k8
        have HAd := Lib.hid HXz.out.ad
        have hall := HP1.out.all
        have hnl := HP1.out.nl
        have hkl := HP1.out.kl
        have ra := adblk FA1.out
        have KA := Lib.hid (account_walk HP1.out.at' o.x.a.ad HAd.out)
        have hsx : ∀ x, (acs x).toArray.size = 27 := fun x => by simp [acs_len]
        go_upto_region 25 with (first
          | (refine wpList_load_mid rfl 32 _ rfl ba 0 rfl (aN o.x.a.ad).toList _ ra Try.underlying32 rfl (infoAd _) ?_; simp only [Array.toArray_toList])
          | (go_at_call 16
             refine KA.out.mono ?_
             rintro e w9 ⟨x, rfl, hxa, hxz, b9⟩
             have HXa := Lib.hid hxa
             have HX9 := Lib.hid (hxz.sub (fr_sub _ _))
             have one := hxz.ones
             have HP9 := Lib.hid (HP1.out.low b9)
             have FA9 := Lib.hid (stay b9 FA1.out)
             have FN := Lib.hid (heap_alloc_new w9 (.cells (acs noneAV).toArray 39))
             unfold aval
             clear hxa hxz b9)
          | (refine wpList_alloc_row rfl 39 rfl _ zeroAcc ?_)
          | (refine wpList_store_row rfl 39 _ _ rfl w9.heap.size _ (acs x).toArray rfl rfl FN.out (by simpa using infoAcs _) (by simp [acs_len]) one ?_))
        have b10 : Below w9.heap.size w9 ((w9.alloc (.cells (acs noneAV).toArray 39)).setRow w9.heap.size (acs x).toArray) := below_setRow ((Below.refl _ _).alloc (Nat.le_refl _) _) (Nat.le_refl _) _
        have FX := Lib.hid (blk_row FN.out (c' := (acs x).toArray))
        have HP10 := Lib.hid (HP9.out.low b10)
        have HX10 := Lib.hid (HX9.out.sub (hp_below b10))
        have FA10 := Lib.hid (stay b10 FA9.out)
        clear b10 FN HP9 HX9 FA9 one ra KA
        generalize (w9.alloc (.cells (acs noneAV).toArray 39)).setRow w9.heap.size (acs x).toArray = w10 at *
        generalize w9.heap.size = xb at *
        have ra := adblk FA10.out
        have g0 : w10.cell? ⟨mb, 0, none⟩ = some vk' := blk_cell HP10.out.box rfl
        have KF := Lib.hid (rfind_walk vk' kn' o.x.a.ad w10 (HP10.out.doc.kz.sub HP10.out.sub2) (by omega) HAd.out)
        have one := (findV_z HP10.out.doc.kz o.x.a.ad).ones
        have HYz := Lib.hid ((findV_z HP10.out.doc.kz o.x.a.ad).sub HP10.out.sub2)
        have HYa := Lib.hid (HT1.out.k _ HAd.out)
        have HIs := Lib.hid (HT1.out.has HAd.out)
        have HVd := Lib.hid (show findV kn' o.x.a.ad = (findO kn' o.x.a.ad).getD noneAV from rfl)
        unfold aval at KF
        generalize findV kn' o.x.a.ad = y at *
        go_upto_region 26 with (first
          | (refine wpList_load_mid rfl 32 _ rfl ba 0 rfl (aN o.x.a.ad).toList _ ra Try.underlying32 rfl (infoAd _) ?_; simp only [Array.toArray_toList])
          | (go_at_call 17
             refine KF.out.mono ?_
             rintro e w11 ⟨rfl, b11⟩
             have HP11 := Lib.hid (HP10.out.low b11)
             have HX11 := Lib.hid (HX10.out.sub (hp_below b11))
             have HY11 := Lib.hid (HYz.out.sub (hp_below b11))
             have FA11 := Lib.hid (stay b11 FA10.out)
             have FX11 := Lib.hid (stay b11 FX.out)
             have FN := Lib.hid (heap_alloc_new w11 (.cells (acs noneAV).toArray 39))
             clear b11)
          | (refine wpList_alloc_row rfl 39 rfl _ zeroAcc ?_)
          | (refine wpList_store_row rfl 39 _ _ rfl w11.heap.size _ (acs y).toArray rfl rfl FN.out (by simpa using infoAcs _) (by simp [acs_len]) one ?_))
        have b12 : Below w11.heap.size w11 ((w11.alloc (.cells (acs noneAV).toArray 39)).setRow w11.heap.size (acs y).toArray) := below_setRow ((Below.refl _ _).alloc (Nat.le_refl _) _) (Nat.le_refl _) _
        have FY := Lib.hid (blk_row FN.out (c' := (acs y).toArray))
        have HB12 := Lib.hid b12
        clear b12 FN HP10 HX10 HYz FA10 FX ra KF g0
        generalize (w11.alloc (.cells (acs noneAV).toArray 39)).setRow w11.heap.size (acs y).toArray = w12 at *
        go_upto_if 96 with fail
        go_cut [14] from 35 to 126 (fun s14 wx => s14 = .bool (findO kn' o.x.a.ad).isSome ∧ ∃ y', Hid (wx.heap[w11.heap.size]? = some (.cells (acs y').toArray 39)) ∧ Hid (y'.a = x.a) ∧ Hid (AccZ (hp wx) y') ∧ Hid (Below w11.heap.size w11 wx))
        case first =>
          cases hq : (findO kn' o.x.a.ad).isSome
          · have hrow : Hid (Below w11.heap.size w11 (w12.setRow w11.heap.size (acs (bareAV o.x.a.ad)).toArray)) := Lib.hid (below_setRow HB12.out (Nat.le_refl _) _)
            have ra := adblk (stay HB12.out FA11.out)
            have one' := (bareZ (fun _ => none) HAd.out).ones
            have HE : Hid ((bareAV o.x.a.ad).a = x.a) := Lib.hid (by
              rw [HXa.out]
              have := HIs.out
              rw [hq] at this
              cases hk : kf' o.x.a.ad with
              | none => rfl
              | some z => rw [hk] at this; cases this)
            have hn' : (findO kn' o.x.a.ad).isNone = true := by rw [← Option.not_isSome, hq]; rfl
            rw [hn']
            clear hn'
            go_wp2_with (first
              | (refine wpList_load_mid rfl 32 _ rfl ba 0 rfl (aN o.x.a.ad).toList _ ra Try.underlying32 rfl (infoAd _) ?_; simp only [Array.toArray_toList])
              | (refine wpList_buildAd rfl _ rfl o.x.a.ad rfl ?_)
              | (refine wpList_store_row rfl 39 _ _ rfl w11.heap.size _ (acs (bareAV o.x.a.ad)).toArray rfl rfl FY.out (by simpa using infoAcs _) (by simp [acs_len]) one' ?_))
            go_meet
            exact ⟨by rw [hq], bareAV o.x.a.ad, Lib.hid (blk_row FY.out), HE, Lib.hid (bareZ _ HAd.out), hrow⟩
          · have HE : Hid (y.a = x.a) := Lib.hid (by
              rw [HXa.out, HVd.out]
              have h1 := HYa.out
              cases hk : kf' o.x.a.ad with
              | none =>
                have := HIs.out
                rw [hq, hk] at this
                cases this
              | some z =>
                rw [hk] at h1
                cases hf : findO kn' o.x.a.ad with
                | none => rw [hf] at hq; cases hq
                | some z' =>
                  rw [hf] at h1
                  simpa using h1.symm)
            have hn' : (findO kn' o.x.a.ad).isNone = false := by rw [← Option.not_isSome, hq]; rfl
            rw [hn']
            clear hn'
            go_wp2_with fail
            go_meet
            exact ⟨by rw [hq], y, FY, HE, Lib.hid (HY11.out.sub (hp_below HB12.out)), HB12⟩
        case rest =>
          obtain ⟨rfl, y', FY', HE, HY', HB13⟩ := hcut
          have HP13 := Lib.hid (HP11.out.low HB13.out)
          have HX13 := Lib.hid (HX11.out.sub (hp_below HB13.out))
          have FA13 := Lib.hid (stay HB13.out FA11.out)
          have FX13 := Lib.hid (stay HB13.out FX11.out)
          clear HP11 HX11 HY11 FA11 FX11 HB12 FY one HVd HYa HXa
          obtain ⟨Pa, ca, hva, hn13, hc13, -, hcells⟩ := HP13.out.doc.az.one (fun x _ => tcs_len x)
          subst hva
          have HCl := Lib.hid hcells
          have ra := adblk FA13.out
          have g0 : wc.cell? ⟨mb, 0, none⟩ = some vk' := blk_cell HP13.out.box rfl
          have g1 : wc.cell? ⟨mb, 1, none⟩ = some (.slice Pa al'.length ca) := blk_cell HP13.out.box rfl
          have KAt := Lib.hid (at_walk o.x.a.ad wc HP13.out.doc HP13.out.sub2 HAd.out)
          have HTt := Lib.hid (HT1.out.t _ HAd.out)
          clear hcells
          go_upto_if 103 with (first
            | (refine wpList_load_mid rfl 32 _ rfl ba 0 rfl (aN o.x.a.ad).toList _ ra Try.underlying32 rfl (infoAd _) ?_; simp only [Array.toArray_toList])
            | (go_at_call 18
               refine KAt.out.mono ?_
               rintro e w14 ⟨rfl, b14⟩
               have HP14 := Lib.hid (HP13.out.low b14)
               have HX14 := Lib.hid (HX13.out.sub (hp_below b14))
               have HY14 := Lib.hid (HY'.out.sub (hp_below b14))
               have FA14 := Lib.hid (stay b14 FA13.out)
               have FX14 := Lib.hid (stay b14 FX13.out)
               have FY14 := Lib.hid (stay b14 FY'.out)
               clear b14))
          clear g0 g1 ra KAt HP13 HX13 HY' FA13 FX13 FY' HB13
          go_cut [15, 16] from 35 to 126 (fun s15 s16 wx => s15 = .int .i64 (((tf' o.x.a.ad).getD 0 : Nat) : Int) ∧ s16 = .int .i64 (atI al' o.x.a.ad) ∧ w14 = wx)
          case first =>
            by_cases hat : 0 ≤ atI al' o.x.a.ad
            · obtain ⟨kk, t, hk1, ht1, he1⟩ := atI_pos hat
              have hgd := lookT_get HT1.out.nod ht1 he1
              have HG : Hid ((tf' o.x.a.ad).getD 0 = t.2) := Lib.hid (by rw [HTt.out, hgd]; rfl)
              have hkl' : kk < al'.length := (List.getElem?_eq_some_iff.1 ht1).1
              obtain ⟨b1, off1, rfl, -, hi1⟩ := HCl.out (by omega)
              have g1 : w14.cell? ⟨mb, 1, none⟩ = some (.slice (some ⟨b1, off1, none⟩) al'.length ca) := blk_cell HP14.out.box rfl
              have g2 : w14.cell? ⟨b1, off1 + kk * 21 + 20, none⟩ = some (.int .i64 (t.2 : Int)) := ((hi1 kk t ht1).sub HP14.out.sub2).at 20 _ (tcs_n t)
              have HK1 := Lib.hid hk1
              rw [hk1]
              have hd : decide ((0 : Int) ≤ (kk : Int)) = true := decide_eq_true (by omega)
              rw [hd]
              clear hd hi1 ht1 hgd hk1 hat
              go_wp2_with fail
              go_meet
              exact ⟨by rw [HG.out], by rw [HK1.out], rfl⟩
            · have HG : Hid ((tf' o.x.a.ad).getD 0 = 0) := Lib.hid (by rw [HTt.out, lookT_none hat]; rfl)
              rw [decide_eq_false hat]
              clear hat
              go_wp2_with fail
              go_meet
              exact ⟨by rw [HG.out]; rfl, rfl, rfl⟩
          case rest =>
            obtain ⟨rfl, rfl, rfl⟩ := hcut
            have rx := (rng_block FX14.out).at
            have ry := (rng_block FY14.out).at
            have ra := adblk FA14.out
            have KS := Lib.hid (same_walk x y' w14 HE.out HX14.out HY14.out)
            unfold aval at KS
            have KT := Lib.hid fun w' (hb : Below w14.heap.size w14 w') => tries_walk (HP14.out.at'.below hb) o.x.a.ad HAd.out
            obtain ⟨tv, htv⟩ : ∃ tv, (tf' o.x.a.ad).getD 0 = tv := ⟨_, rfl⟩
            rw [htv] at KT
            rw [htv, HIs.out]
            clear htv
            generalize (findO kn' o.x.a.ad).isSome = q0 at *
            go_upto_region 32 with fail
            clear rx ry ra KS
            have rx := fun g : Ext w14 => (rng_block (g.block FX14.out)).at
            have ry := fun g : Ext w14 => (rng_block (g.block FY14.out)).at
            have ra := fun g : Ext w14 => adblk (g.block FA14.out)
            have KS := Lib.hid fun g : Ext w14 => same_walk x y' g.on HE.out (HX14.out.sub (hp_below g.below)) (HY14.out.sub (hp_below g.below))
            unfold aval at KS
            refine region_seq ?_
            repeat (first
              | (go_big_quiet_want; refine quiet_load_mid 39 _ rfl xb 0 (acs x) rfl (fun w2 hw2 => by obtain ⟨g1, rfl⟩ := hw2; exact rx g1) Try.underlying39 rfl (infoAcs _) ?_; simp only [Act.put, List.setIfInBounds_toArray, List.set_cons_succ, List.set_cons_zero]; go_big_quiet_on)
              | (go_big_quiet_want; refine quiet_load_mid 39 _ rfl w11.heap.size 0 (acs y') rfl (fun w2 hw2 => by obtain ⟨g1, rfl⟩ := hw2; exact ry g1) Try.underlying39 rfl (infoAcs _) ?_; simp only [Act.put, List.setIfInBounds_toArray, List.set_cons_succ, List.set_cons_zero]; go_big_quiet_on)
              | (go_big_quiet_want; refine quiet_load_mid 32 _ rfl ba 0 (aN o.x.a.ad).toList rfl (fun w2 hw2 => by obtain ⟨g1, rfl⟩ := hw2; exact ra g1) Try.underlying32 rfl (infoAd _) ?_; simp only [Act.put, List.setIfInBounds_toArray, List.set_cons_succ, List.set_cons_zero, Array.toArray_toList]; go_big_quiet_on)
              | go_big_quiet_step (first
                | (go_at_call 19; with_reducible exact calls_ext (KS.out _))
                | (go_at_call 20; with_reducible exact calls_ext (KT.out _ (Ext.below _)))))
            refine wpQuiet_nil ?_
            rintro w' ⟨gg, rfl⟩
            have HPend := Lib.hid (HP14.out.low gg.below)
            clear rx ry ra KS KT
            generalize gg.on = wg at *
            go_wp2_with fail
            exact ⟨⟨k + 1, _, _, _, _, _, _, _, _, _, by omega, by go_num, HPend, HT1⟩, by simp [intOf]; omega⟩
    · obtain rfl : k = m := by omega
      have hnl := HP.out.nl
      have KK := Lib.hid (known_walk HP.out.at' (by omega))
      go_upto_region 36 with (first
        | (go_at_call 21
           refine KK.out.mono ?_
           rintro e w5 ⟨val, ys, rfl, ho, hs, hm, hl, hlen, b5⟩
           obtain ⟨A5, c5, e5⟩ := own_sl ho
           subst e5
           have HO5 := Lib.hid ho
           have HS5 := Lib.hid hs
           have HM5 := Lib.hid hm
           have HL5 := Lib.hid hl
           have HE5 := Lib.hid hlen
           have HP5 := Lib.hid (HP.out.low b5)
           have KFe := Lib.hid (fetched_walk HP5.out.at' (by omega))
           clear ho hs hm hl hlen b5)
        | (go_at_call 22
           refine KFe.out.mono ?_
           rintro e w6 ⟨val, zs, rfl, ho, hs, hm, hl, hlen, b6⟩
           obtain ⟨A6, c6, e6⟩ := own_sl ho
           subst e6
           have HO6 := Lib.hid ho
           have HS6 := Lib.hid hs
           have HM6 := Lib.hid hm
           have HL6 := Lib.hid hl
           have HE6 := Lib.hid hlen
           have HP6 := Lib.hid (HP5.out.low b6)
           have HO56 := Lib.hid (own_same HO5.out fun b hb => b6.block b (HO5.out.lt b hb).2)
           clear ho hs hm hl hlen b6))
      clear KK KFe HO5 HP5 HP
      have HYs : Hid (ys = kn.map fun x => x.a.ad) := Lib.hid (known_eq HT.out (fun x hx => (HP6.out.doc.kz.each x hx).ad) HS5.out HM5.out HL5.out)
      have hl1 : ys.length = kn.length := by rw [HYs.out]; simp
      have hl2 : zs.length = al.length := asked_len HT.out (fun t ht => (HP6.out.doc.lt t ht).1) HS6.out HM6.out HL6.out
      have hkl := HP6.out.kl
      have hall := HP6.out.all
      obtain ⟨Pk, ck, ek, hnk, hck, -, hck2⟩ := HP6.out.doc.kz.row.one (fun x _ => acs_len x)
      obtain ⟨Pa, ca, ea, -⟩ := HP6.out.doc.az.val
      subst ek
      subst ea
      have HKc := Lib.hid hck2
      rw [hl1] at HO56
      rw [hl2] at HO6
      have HR5 := Lib.hid (RowZ.own HO56.out)
      have HR6 := Lib.hid (RowZ.own HO6.out)
      rw [hl1, hl2]
      clear hck2
      have KR1 := Lib.hid (fun w' (hb : Below w6.heap.size w6 w') => rising_walk (.slice A5 kn.length c5) ys w' (by rw [hl1]; exact HR5.out.sub (hp_below hb)) (by omega) HS5.out HL5.out)
      have KR2 := Lib.hid (fun w' (hb : Below w6.heap.size w6 w') => rising_walk (.slice A6 al.length c6) zs w' (by rw [hl2]; exact HR6.out.sub (hp_below hb)) (by omega) HS6.out HL6.out)
      go_upto_region 36 with fail
      have g0 : ∀ g : Ext w6, g.on.cell? ⟨mb, 0, none⟩ = some (.slice Pk kn.length ck) := fun g => blk_cell (g.block HP6.out.box) rfl
      have g1 : ∀ g : Ext w6, g.on.cell? ⟨mb, 1, none⟩ = some (.slice Pa al.length ca) := fun g => blk_cell (g.block HP6.out.box) rfl
      refine region_seq ?_
      repeat (go_big_quiet_step (first
        | (go_at_call 23; with_reducible exact calls_ext (KR1.out _ (Ext.below _)))
        | (go_at_call 23; with_reducible exact calls_ext (KR2.out _ (Ext.below _)))))
      refine wpQuiet_nil ?_
      rintro w' ⟨gg, rfl⟩
      have HB8 := Lib.hid gg.below
      have HP8 := Lib.hid (HP6.out.low gg.below)
      clear g0 g1 KR1 KR2
      generalize gg.on = w8 at *
      have HC5 : Hid (0 < kn.length → ∃ b off, A5 = some ⟨b, off, none⟩ ∧ ∀ i x, ys[i]? = some x → rng (hp w6) b (off + i * 20) (ecs x)) := Lib.hid fun hn => by
        have h1 := HR5.out
        rw [← hl1] at h1
        obtain ⟨Ax, cx, ex, -, -, -, hx⟩ := h1.one (fun x _ => ecs_len x)
        obtain ⟨b, off, e, -, hi⟩ := hx (by omega)
        simp at ex
        exact ⟨b, off, by rw [ex.1, e], hi⟩
      have HC6 : Hid (0 < al.length → ∃ b off, A6 = some ⟨b, off, none⟩ ∧ ∀ i x, zs[i]? = some x → rng (hp w6) b (off + i * 20) (ecs x)) := Lib.hid fun hn => by
        have h1 := HR6.out
        rw [← hl2] at h1
        obtain ⟨Ax, cx, ex, -, -, -, hx⟩ := h1.one (fun x _ => ecs_len x)
        obtain ⟨b, off, e, -, hi⟩ := hx (by omega)
        simp at ex
        exact ⟨b, off, by rw [ex.1, e], hi⟩
      clear HR5 HR6
      go_wp2_with fail
      go_loopw [157] (fun i wx => ∃ j : Nat, j ≤ kn.length ∧ i = .int .i64 j ∧ Hid (Below w8.heap.size w8 wx)) (fun i _ => kn.length - (intOf i).toNat)
      case atStart => exact ⟨0, Nat.zero_le _, rfl, Lib.hid (Below.refl _ _)⟩
      case round =>
        obtain ⟨j, hj, rfl, HB9⟩ := hrel
        by_cases hlt2 : j < kn.length
        · obtain ⟨x, hx⟩ : ∃ x, kn[j]? = some x := ⟨kn[j]'hlt2, by simp⟩
          have hy : ys[j]? = some x.a.ad := by rw [HYs.out, List.getElem?_map, hx]; rfl
          obtain ⟨b5, off5, rfl, h5⟩ := HC5.out (by omega)
          obtain ⟨bk, offk, rfl, -, hk5⟩ := HKc.out (by omega)
          have HBw := Lib.hid (HB8.out.trans (HB9.out.mono HB8.out.size))
          have r5 : wr.rangeAt b5 (off5 + j * 20) (aN x.a.ad).toList := ((h5 j _ hy).sub (hp_below HBw.out)).at
          have HRk := Lib.hid (acs_rng (hk5 j x hx))
          have HP9 := Lib.hid (HP8.out.low HB9.out)
          have HAx := Lib.hid (HP8.out.doc.kz.each x (List.mem_of_getElem? hx)).ad
          have FN := Lib.hid (heap_alloc_new wr (.cells (aN 0) 32))
          have one := aN_one x.a.ad
          clear h5 hk5 hx hy
          go_upto_region 41 with (first
            | (refine wpList_load_mid rfl 32 _ rfl b5 _ rfl (aN x.a.ad).toList _ r5 Try.underlying32 rfl (infoAd _) ?_; simp only [Array.toArray_toList])
            | (refine wpList_alloc_row rfl 32 rfl _ zeroAd_run ?_)
            | (refine wpList_store_row rfl 32 _ _ rfl wr.heap.size _ (aN x.a.ad) rfl rfl FN.out Try.infoAd20 rfl one ?_))
          have b10 : Below wr.heap.size wr ((wr.alloc (.cells (aN 0) 32)).setRow wr.heap.size (aN x.a.ad)) := below_setRow ((Below.refl _ _).alloc (Nat.le_refl _) _) (Nat.le_refl _) _
          have FA := Lib.hid (blk_row FN.out (c' := aN x.a.ad))
          have HP10 := Lib.hid (HP9.out.low b10)
          have HB10 := Lib.hid (HB9.out.trans (b10.mono HB9.out.size))
          clear b10 FN r5 one HP9 HBw
          generalize (wr.alloc (.cells (aN 0) 32)).setRow wr.heap.size (aN x.a.ad) = w10 at *
          generalize wr.heap.size = ba at *
          simp only [Act.put]
          have r0 : ∀ g : Ext w10, g.on.rangeAt bk (offk + j * 27) (aN x.a.ad).toList := fun g => ((HRk.out.sub HP10.out.sub2).sub (hp_below g.below)).at
          have r1 := fun g : Ext w10 => adblk (g.block FA.out)
          have q1 := fun g : Ext w10 => (show g.on.cell? ⟨mb, 0, none⟩ = some (.slice (some ⟨bk, offk, none⟩) kn.length ck) from blk_cell (g.block HP10.out.box) rfl)
          have eq := fun w => (eq_ad x.a.ad x.a.ad HAx.out HAx.out w).trans (by rw [decide_eq_true rfl])
          refine region_ext (by kernel_rfl) (by kernel_rfl) ?_
          repeat (first
            | (go_big_quiet_want; refine quiet_load_mid 32 _ rfl bk (offk + j * 27) (aN x.a.ad).toList rfl (fun w2 hw2 => by obtain ⟨g1, rfl⟩ := hw2; exact r0 g1) Try.underlying32 rfl (infoAd _) ?_; simp only [Act.put, List.setIfInBounds_toArray, List.set_cons_succ, List.set_cons_zero, Array.toArray_toList]; go_big_quiet_on)
            | (go_big_quiet_want; refine quiet_load_mid 32 _ rfl ba 0 (aN x.a.ad).toList rfl (fun w2 hw2 => by obtain ⟨g1, rfl⟩ := hw2; exact r1 g1) Try.underlying32 rfl (infoAd _) ?_; simp only [Act.put, List.setIfInBounds_toArray, List.set_cons_succ, List.set_cons_zero, Array.toArray_toList]; go_big_quiet_on)
            | go_big_quiet_step (fail))
          refine wpQuiet_nil ?_
          rintro w' ⟨gg2, rfl⟩
          have HBe := Lib.hid (HB10.out.trans (gg2.below.mono HB10.out.size))
          clear r0 r1 q1 eq
          generalize gg2.on = wg at *
          go_wp2_with fail
          exact ⟨⟨j + 1, by omega, by go_num, HBe⟩, by simp [intOf]; omega⟩
        · obtain rfl : j = kn.length := by omega
          have HP9 := Lib.hid (HP8.out.low HB9.out)
          have HB69 := Lib.hid (HB8.out.trans (HB9.out.mono HB8.out.size))
          clear HP8 HB8 HB9
          go_wp2_with fail
          go_loopw [173] (fun i wx => ∃ j : Nat, j ≤ al.length ∧ i = .int .i64 j ∧ Hid (Below wr.heap.size wr wx)) (fun i _ => al.length - (intOf i).toNat)
          case atStart => exact ⟨0, Nat.zero_le _, rfl, Lib.hid (Below.refl _ _)⟩
          case round =>
            obtain ⟨j, hj, rfl, HB9⟩ := hrel
            by_cases hlt2 : j < al.length
            · obtain ⟨z, hz⟩ : ∃ z, zs[j]? = some z := ⟨zs[j]'(by rw [hl2]; exact hlt2), by simp⟩
              obtain ⟨b6, off6, rfl, h6⟩ := HC6.out (by omega)
              have hzm := List.mem_of_getElem? hz
              have r5 := ((h6 j z hz).sub (hp_below (HB69.out.trans (HB9.out.mono HB69.out.size)))).at
              replace r5 : wr.rangeAt b6 (off6 + j * 20) (aN z).toList := r5
              have HZl := Lib.hid (HL6.out z hzm)
              have HZa := Lib.hid (asked_mem HT.out HM6.out HL6.out hzm)
              have HP11 := Lib.hid (HP9.out.low HB9.out)
              have FN := Lib.hid (heap_alloc_new wr (.cells (aN 0) 32))
              have one := aN_one z
              clear h6 hz hzm
              go_upto_region 47 with (first
                | (refine wpList_load_mid rfl 32 _ rfl b6 _ rfl (aN z).toList _ r5 Try.underlying32 rfl (infoAd _) ?_; simp only [Array.toArray_toList])
                | (refine wpList_alloc_row rfl 32 rfl _ zeroAd_run ?_)
                | (refine wpList_store_row rfl 32 _ _ rfl wr.heap.size _ (aN z) rfl rfl FN.out Try.infoAd20 rfl one ?_))
              have b10 : Below wr.heap.size wr ((wr.alloc (.cells (aN 0) 32)).setRow wr.heap.size (aN z)) := below_setRow ((Below.refl _ _).alloc (Nat.le_refl _) _) (Nat.le_refl _) _
              have FA := Lib.hid (blk_row FN.out (c' := aN z))
              have HP10 := Lib.hid (HP11.out.low b10)
              have HB10 := Lib.hid (HB9.out.trans (b10.mono HB9.out.size))
              clear b10 FN r5 one HP11
              generalize (wr.alloc (.cells (aN 0) 32)).setRow wr.heap.size (aN z) = w10 at *
              generalize wr.heap.size = ba at *
              simp only [Act.put]
              have ra := adblk FA.out
              have g0 : w10.cell? ⟨mb, 0, none⟩ = some (.slice Pk kn.length ck) := blk_cell HP10.out.box rfl
              have g1 : w10.cell? ⟨mb, 1, none⟩ = some (.slice Pa al.length ca) := blk_cell HP10.out.box rfl
              have KA := Lib.hid (at_walk z w10 HP10.out.doc HP10.out.sub2 HZl.out)
              have hza := HZa.out
              generalize atI al z = q at *
              go_wp2_with (first
                | (refine wpList_load_mid rfl 32 _ rfl ba 0 rfl (aN z).toList _ ra Try.underlying32 rfl (infoAd _) ?_; simp only [Array.toArray_toList])
                | (go_at_call 18; refine KA.out.mono ?_; rintro e w11 ⟨rfl, b11⟩; have HBe := Lib.hid (HB10.out.trans (b11.mono HB10.out.size)); clear b11))
              exact ⟨⟨j + 1, by omega, by go_num, HBe⟩, by simp [intOf]; omega⟩
            · obtain rfl : j = al.length := by omega
              have HPe := Lib.hid (HP9.out.low HB9.out)
              go_wp2_with fail
              go_ret
              exact ⟨rfl, HPe.out.below⟩
end Go.Proofs.Ytdgenbidgieojaa
