/- The document's cache: where an account stands among those that are being fetched. -/
import Derived.Test.YtdgenbidgieojaaGa
import Derived.Test.YtdgenbidgieojaaG8
import Derived.Test.YtdgenbidgieojaaG6
import Derived.Test.YtdgenbidgieojaaG2
import Derived.Test.YtdgenbidgieojaaG4
namespace Go.Proofs.Ytdgenbidgieojaa
open Go.RowKit SmWord Go.Maps
set_option maxRecDepth 100000

/-- The cells of one that is being fetched: its address, how many tries have failed. -/
def tcs (t : Nat × Nat) : List Value := ecs t.1 ++ [i64v t.2]
theorem tcs_len (t : Nat × Nat) : (tcs t).length = 21 := by simp [tcs, ecs_len]
theorem tcs_ad (t : Nat × Nat) (j : Nat) (v : Value) (h : (ecs t.1)[j]? = some v) : (tcs t)[0 + j]? = some v := by
  unfold tcs
  rw [Nat.zero_add, List.getElem?_append_left (List.getElem?_eq_some_iff.1 h).1]
  exact h
theorem tcs_n (t : Nat × Nat) : (tcs t)[20]? = some (i64v t.2) := by
  unfold tcs
  rw [List.getElem?_append_right (by rw [ecs_len]; exact Nat.le_refl _), ecs_len]
  rfl
theorem tcs_one (t : Nat × Nat) : ∀ u ∈ tcs t, u.oneCell' = true := fun u hu => by
  unfold tcs at hu
  rcases List.mem_append.1 hu with h | h
  · exact ecs_one _ u h
  · rw [List.mem_singleton] at h; rw [h]; rfl
theorem infoTry : (Try.prog.info? 53).map (·.size) = some 21 := by kernel_rfl
theorem infoTcs (t : Nat × Nat) : (Try.prog.info? 53).map (·.size) = some (tcs t).length := by rw [tcs_len]; exact infoTry
/-- The document's cache: two rows. -/
structure DocAt (Z : Hp) (vk va : Value) (kn : List AV) (al : List (Nat × Nat)) : Prop where
  kz : AccsZ Z vk kn
  az : RowZ Z va al.length 21 (al.flatMap tcs)
  lt : ∀ t ∈ al, t.1 < 2 ^ 160 ∧ t.2 < 8
  kl : kn.length ≤ 100000
  all : al.length ≤ 100000
theorem DocAt.sub {Z Z' : Hp} {vk va : Value} {kn : List AV} {al : List (Nat × Nat)} (h : DocAt Z vk va kn al) (hs : Sub Z Z') : DocAt Z' vk va kn al := { h with kz := h.kz.sub hs, az := h.az.sub hs }
/-- Its place; -1. -/
def atI (al : List (Nat × Nat)) (A : Nat) : Int := match al.findIdx? (fun t => t.1 == A) with
  | some i => (i : Int)
  | none => -1
theorem atI_at {al : List (Nat × Nat)} {A k : Nat} {t : Nat × Nat} (ho : ∀ t ∈ al.take k, t.1 ≠ A) (ht : al[k]? = some t) (hA : t.1 = A) : atI al A = (k : Int) := by
  unfold atI
  have : al.findIdx? (fun t => t.1 == A) = some k := by
    rw [List.findIdx?_eq_some_iff_getElem]
    obtain ⟨hk, e⟩ := List.getElem?_eq_some_iff.1 ht
    refine ⟨hk, by rw [e, hA]; simp, fun j hj => ?_⟩
    have := ho al[j] (List.mem_iff_getElem.2 ⟨j, by simp; omega, by simp⟩)
    simpa using this
  rw [this]
theorem atI_none {al : List (Nat × Nat)} {A : Nat} (ho : ∀ t ∈ al, t.1 ≠ A) : atI al A = -1 := by
  unfold atI
  have : al.findIdx? (fun t => t.1 == A) = none := by
    rw [List.findIdx?_eq_none_iff]
    intro t ht
    simpa using ho t ht
  rw [this]
/-- The boxes. -/
theorem rboxes (w : World) (vk va : Value) (A : Nat) : ∃ W, (w.alloc (.cells #[vk, va] 28)).alloc (.cells (aN A) 32) = W ∧ W.heap[w.heap.size]? = some (.cells #[vk, va] 28) ∧ W.heap[w.heap.size + 1]? = some (.cells (aN A) 32) ∧ Below w.heap.size w W ∧ W.heap.size = w.heap.size + 2 :=
  ⟨_, rfl, blk_alloc (heap_alloc_new _ _), heap_alloc2_new _ _ _, ((Below.refl _ _).alloc (Nat.le_refl _) _).alloc (by simp) _, by simp⟩
theorem tcs_rng {Z : Hp} {b o : Nat} {t : Nat × Nat} (h : rng Z b o (tcs t)) : rng Z b o (ecs t.1) := by
  have := h.part 0 (ecs t.1) (tcs_ad t)
  rwa [Nat.add_zero] at this
set_option maxHeartbeats 2000000 in
theorem at_walk {Z : Hp} {vk va : Value} {kn : List AV} {al : List (Nat × Nat)} (A : Nat) (w : World) (h : DocAt Z vk va kn al) (hz : Sub Z (hp w)) (hA : A < 2 ^ 160) :
    Calls Try.prog 18 #[.agg #[vk, va], .agg (aN A)] w fun e w' => e = .returned (.int .i64 (atI al A)) ∧ Below w.heap.size w w' := by
  obtain ⟨P, c, rfl, hn, hc, hP, hcells⟩ := h.az.one (fun x _ => tcs_len x)
  have HX := Lib.hid h.lt
  have hl := h.all
  have HAd := Lib.hid hA
  clear hA
  generalize hN : al.length = n at *
  have HN := Lib.hid hN
  have HC : Hid (0 < n → ∃ b off, P = some ⟨b, off, none⟩ ∧ ∀ i x, al[i]? = some x → rng (hp w) b (off + i * 21) (tcs x)) := Lib.hid fun hn => by
    obtain ⟨b, off, e, _, hi⟩ := hcells hn
    exact ⟨b, off, e, fun i x hx => (hi i x hx).sub hz⟩
  have hvk : vk.oneCell' = true := h.kz.row.oneCell
  clear hcells h hN hz
  have hs := aN_size A
  obtain ⟨W, hW, f0, f1, bW, sW⟩ := rboxes w vk (.slice P n c) A
  have HB := Lib.hid bW
  have F1 := Lib.hid f1
  have p1 : W.cell? ⟨w.heap.size, 1, none⟩ = some (.slice P n c) := blk_cell f0 rfl
  have F0 := Lib.hid f0
  clear f0 f1 bW
  go_enter Try.func18, Try.ntmps18
  go_upto_region 1 with fail
  clear hW
  go_wp2_with fail
  go_loopw [9] (fun i wr => ∃ k : Nat, k ≤ n ∧ i = .int .i64 k ∧ Hid (∀ x ∈ al.take k, x.1 ≠ A) ∧ Hid (Below W.heap.size W wr)) (fun i _ => n - (intOf i).toNat)
  case atStart => exact ⟨0, Nat.zero_le _, rfl, Lib.hid (fun x hx => by simp at hx), Lib.hid (Below.refl _ _)⟩
  case round =>
    obtain ⟨k, hk, rfl, HO, HW⟩ := hrel
    have bwr : Below w.heap.size w wr := HB.out.trans (HW.out.mono HB.out.size)
    have BW := Lib.hid bwr
    by_cases hlt : k < n
    · obtain ⟨b, off, rfl, hi⟩ := HC.out (by omega)
      obtain ⟨t, ht⟩ : ∃ t, al[k]? = some t := ⟨al[k]'(by rw [HN.out]; exact hlt), by simp⟩
      have HXx := Lib.hid (HX.out t (List.mem_of_getElem? ht))
      have HRg := Lib.hid (hi k _ ht)
      have HXg := Lib.hid ht
      have r0 : ∀ g : Ext wr, g.on.rangeAt b (off + k * 21) (aN t.1).toList := fun g => (tcs_rng (HRg.out.sub (hp_below (bwr.trans (g.below.mono bwr.size))))).at
      have r1 := fun g : Ext wr => adblk (g.block (stay HW.out F1.out))
      have q1 := fun g : Ext wr => (show g.on.cell? ⟨w.heap.size, 1, none⟩ = some (.slice (some ⟨b, off, none⟩) n c) from blk_cell (g.block (stay HW.out F0.out)) rfl)
      have eq := eq_ad t.1 A HXx.out.1 HAd.out
      clear hi ht bwr
      go_upto_region 4 with fail
      refine region_ext (by kernel_rfl) (by kernel_rfl) ?_
      repeat (first
        | (go_big_quiet_want; refine quiet_load_mid 32 _ rfl b (off + k * 21) (aN t.1).toList rfl (fun w2 hw2 => by obtain ⟨g1, rfl⟩ := hw2; exact r0 g1) Try.underlying32 rfl (infoAd _) ?_; simp only [Act.put, List.setIfInBounds_toArray, List.set_cons_succ, List.set_cons_zero, Array.toArray_toList]; go_big_quiet_on)
        | (go_big_quiet_want; refine quiet_load_mid 32 _ rfl (w.heap.size + 1) 0 (aN A).toList rfl (fun w2 hw2 => by obtain ⟨g1, rfl⟩ := hw2; exact r1 g1) Try.underlying32 rfl (infoAd _) ?_; simp only [Act.put, List.setIfInBounds_toArray, List.set_cons_succ, List.set_cons_zero, Array.toArray_toList]; go_big_quiet_on)
        | go_big_quiet_step (fail))
      refine wpQuiet_nil ?_
      rintro w' ⟨gg, rfl⟩
      have HWg := Lib.hid (HW.out.trans (gg.below.mono HW.out.size))
      have HBg := Lib.hid (BW.out.trans (gg.below.mono BW.out.size))
      clear r0 r1 eq q1
      generalize gg.on = wg at *
      by_cases e : t.1 = A
      · rw [decide_eq_true e]
        have HE := Lib.hid e
        clear e
        go_wp2_with fail
        go_ret
        exact ⟨by rw [atI_at HO.out HXg.out HE.out]; rfl, HBg.out⟩
      · rw [decide_eq_false e]
        have HE := Lib.hid e
        clear e
        go_wp2_with fail
        exact ⟨⟨k + 1, by omega, by go_num, Lib.hid (fun y hy => by
          rw [List.take_add_one, HXg.out] at hy
          rcases List.mem_append.1 hy with hy | hy
          · exact HO.out y hy
          · simp at hy
            subst hy
            exact HE.out), HWg⟩, by simp [intOf]; omega⟩
    · obtain rfl : k = n := by omega
      go_wp2_with fail
      go_ret
      exact ⟨by rw [atI_none fun t ht => HO.out t (by rw [List.take_of_length_le (by rw [HN.out]; exact Nat.le_refl _)]; exact ht)]; rfl, BW.out⟩
end Go.Proofs.Ytdgenbidgieojaa
/- The document's cache: one that is being fetched taken out of the row. -/
namespace Go.Proofs.Ytdgenbidgieojaa
open Go.RowKit SmWord Go.Maps
set_option maxRecDepth 100000

theorem list21 {l : Array Value} (h : l.size = 21) : ∃ x0 x1 x2 x3 x4 x5 x6 x7 x8 x9 x10 x11 x12 x13 x14 x15 x16 x17 x18 x19 x20, l = #[x0, x1, x2, x3, x4, x5, x6, x7, x8, x9, x10, x11, x12, x13, x14, x15, x16, x17, x18, x19, x20] := by
  obtain ⟨l⟩ := l
  simp at h
  obtain _ | ⟨x0, l⟩ := l; · simp at h
  obtain _ | ⟨x1, l⟩ := l; · simp at h
  obtain _ | ⟨x2, l⟩ := l; · simp at h
  obtain _ | ⟨x3, l⟩ := l; · simp at h
  obtain _ | ⟨x4, l⟩ := l; · simp at h
  obtain _ | ⟨x5, l⟩ := l; · simp at h
  obtain _ | ⟨x6, l⟩ := l; · simp at h
  obtain _ | ⟨x7, l⟩ := l; · simp at h
  obtain _ | ⟨x8, l⟩ := l; · simp at h
  obtain _ | ⟨x9, l⟩ := l; · simp at h
  obtain _ | ⟨x10, l⟩ := l; · simp at h
  obtain _ | ⟨x11, l⟩ := l; · simp at h
  obtain _ | ⟨x12, l⟩ := l; · simp at h
  obtain _ | ⟨x13, l⟩ := l; · simp at h
  obtain _ | ⟨x14, l⟩ := l; · simp at h
  obtain _ | ⟨x15, l⟩ := l; · simp at h
  obtain _ | ⟨x16, l⟩ := l; · simp at h
  obtain _ | ⟨x17, l⟩ := l; · simp at h
  obtain _ | ⟨x18, l⟩ := l; · simp at h
  obtain _ | ⟨x19, l⟩ := l; · simp at h
  obtain _ | ⟨x20, l⟩ := l; · simp at h
  obtain rfl : l = [] := by simpa using h
  exact ⟨_, _, _, _, _, _, _, _, _, _, _, _, _, _, _, _, _, _, _, _, _, rfl⟩
theorem run_bslice21 (x0 x1 x2 x3 x4 x5 x6 x7 x8 x9 x10 x11 x12 x13 x14 x15 x16 x17 x18 x19 x20 : Value) (w : World) : (Instr.buildSlice 26 1 #[(0, .agg #[x0, x1, x2, x3, x4, x5, x6, x7, x8, x9, x10, x11, x12, x13, x14, x15, x16, x17, x18, x19, x20])]).run Try.prog w = .ok (.slice (some ⟨w.heap.size, 0, none⟩) 1 1) (w.alloc (.cells #[x0, x1, x2, x3, x4, x5, x6, x7, x8, x9, x10, x11, x12, x13, x14, x15, x16, x17, x18, x19, x20] 53)) := by kernel_rfl
theorem run_bslice_t (t : Nat × Nat) (w : World) : (Instr.buildSlice 26 1 #[(0, .agg (tcs t).toArray)]).run Try.prog w = .ok (.slice (some ⟨w.heap.size, 0, none⟩) 1 1) (w.alloc (.cells (tcs t).toArray 53)) := by
  obtain ⟨x0, x1, x2, x3, x4, x5, x6, x7, x8, x9, x10, x11, x12, x13, x14, x15, x16, x17, x18, x19, x20, e⟩ := list21 (l := (tcs t).toArray) (by simp [tcs_len])
  rw [e]
  exact run_bslice21 x0 x1 x2 x3 x4 x5 x6 x7 x8 x9 x10 x11 x12 x13 x14 x15 x16 x17 x18 x19 x20 w
theorem wpList_bslice_t {ops : Array Oper} {rest : List Oper} {o : Oper} {a : Act} {w : World} {Q : Exit → Act → World → Prop} (hg : o.guard = none) (x : Operand) (ho : o.op = .buildSlice 26 1 #[(0, x)]) (t : Nat × Nat) (hx : a.eval x = .agg (tcs t).toArray) (h : wpList Try.prog ops Q rest (a.put o.dst (.slice (some ⟨w.heap.size, 0, none⟩) 1 1)) (w.alloc (.cells (tcs t).toArray 53))) : wpList Try.prog ops Q (o :: rest) a w := by
  refine wpList_plain hg fun K hK => ?_
  have hr := run_bslice_t t w
  unfold Oper.wp
  simp [execOp, ho, hx, hr, Result.andThen]
  exact hK _ _ h
theorem run_build_try20 (x0 x1 x2 x3 x4 x5 x6 x7 x8 x9 x10 x11 x12 x13 x14 x15 x16 x17 x18 x19 : Value) (w : World) : (Instr.build 53 #[(0, .agg #[x0, x1, x2, x3, x4, x5, x6, x7, x8, x9, x10, x11, x12, x13, x14, x15, x16, x17, x18, x19])]).run Try.prog w = .ok (.agg #[x0, x1, x2, x3, x4, x5, x6, x7, x8, x9, x10, x11, x12, x13, x14, x15, x16, x17, x18, x19, .int .i64 0]) w := by kernel_rfl
theorem run_build_try (A : Nat) (w : World) : (Instr.build 53 #[(0, .agg (aN A))]).run Try.prog w = .ok (.agg (tcs (A, 0)).toArray) w := by
  have h : (tcs (A, 0)).toArray = aN A ++ #[.int .i64 0] := by
    unfold tcs ecs i64v
    apply Array.ext'
    simp
  rw [h]
  obtain ⟨x0, x1, x2, x3, x4, x5, x6, x7, x8, x9, x10, x11, x12, x13, x14, x15, x16, x17, x18, x19, e⟩ := list20 (aN_size A)
  rw [e, run_build_try20]
  rfl
theorem wpList_build_try {ops : Array Oper} {rest : List Oper} {o : Oper} {a : Act} {w : World} {Q : Exit → Act → World → Prop} (hg : o.guard = none) (x : Operand) (ho : o.op = .build 53 #[(0, x)]) (A : Nat) (hx : a.eval x = .agg (aN A)) (h : wpList Try.prog ops Q rest (a.put o.dst (.agg (tcs (A, 0)).toArray)) w) : wpList Try.prog ops Q (o :: rest) a w := by
  refine wpList_plain hg fun K hK => ?_
  have hr := run_build_try A w
  unfold Oper.wp
  simp [execOp, ho, hx, hr, Result.andThen]
  exact hK _ _ h
theorem own_emptyT (w : World) (base : Nat) (hb : base ≤ w.heap.size) : (w.alloc (.cells #[] 53)).ownsRow base 53 21 (.slice (some ⟨w.heap.size, 0, none⟩) 0 0) 0 [] :=
  ⟨rfl, .inr ⟨w.heap.size, 0, #[], rfl, hb, heap_alloc_new _ _, Nat.le_refl _, by simp [maxLen], rfl, rfl⟩⟩
theorem infoT21 : (Try.prog.info? 53).map (fun i => (i.zero, i.size, i.bytes)) = some (some (.agg (tcs (0, 0)).toArray), 21, 32) := by kernel_rfl
theorem rowOneT {w : World} {t : Nat × Nat} {b : Nat} (h : w.heap[b]? = some (.cells (tcs t).toArray 53)) : RowZ (hp w) (.slice (some ⟨b, 0, none⟩) 1 1) 1 21 (tcs t) :=
  ⟨by simp [tcs_len], some ⟨b, 0, none⟩, 1, rfl, Nat.le_refl _, by simp [maxLen], fun h => by simp at h, fun _ => ⟨b, 0, rfl, rng_block h⟩⟩
/-- The first j of a row, without the one at k. -/
def er (al : List (Nat × Nat)) (k j : Nat) : List (Nat × Nat) := (al.take j).eraseIdx k
theorem er_same {al : List (Nat × Nat)} {k : Nat} {t : Nat × Nat} (h : al[k]? = some t) : er al k (k + 1) = er al k k := by
  unfold er
  have hk := (List.getElem?_eq_some_iff.1 h).1
  rw [List.take_add_one, h, List.eraseIdx_append_of_length_le (by simp; omega)]
  have : k - (al.take k).length = 0 := by simp; omega
  rw [this, List.eraseIdx_of_length_le (l := al.take k) (by simp; omega)]
  simp
theorem er_other {al : List (Nat × Nat)} {k j : Nat} {t : Nat × Nat} (h : al[j]? = some t) (hn : j ≠ k) : er al k (j + 1) = er al k j ++ [t] := by
  unfold er
  have hj := (List.getElem?_eq_some_iff.1 h).1
  rw [List.take_add_one, h]
  by_cases hjk : j < k
  · rw [List.eraseIdx_of_length_le (by simp; omega), List.eraseIdx_of_length_le (by simp; omega)]
    rfl
  · rw [List.eraseIdx_append_of_lt_length (by simp; omega)]
    rfl
theorem er_len (al : List (Nat × Nat)) (k j : Nat) : (er al k j).length ≤ al.length := by
  unfold er
  exact Nat.le_trans (List.length_eraseIdx_le _ _) (List.length_take_le' _ _)
theorem infoC2 : (Try.prog.info? 28).map (·.size) = some 2 := by kernel_rfl
set_option maxHeartbeats 2000000 in
theorem without_walk {Z : Hp} {vk va : Value} {kn : List AV} {al : List (Nat × Nat)} (m : Nat) (w : World) (h : DocAt Z vk va kn al) (hz : Sub Z (hp w)) :
    Calls Try.prog 31 #[.agg #[vk, va], .int .i64 (m : Int)] w fun e w' => ∃ va', e = .returned (.agg #[vk, va']) ∧ w'.ownsRow w.heap.size 53 21 va' (al.eraseIdx m).length ((al.eraseIdx m).flatMap tcs) ∧ Below w.heap.size w w' := by
  obtain ⟨P, c, rfl, hn, hc, hP, hcells⟩ := h.az.one (fun x _ => tcs_len x)
  have hl := h.all
  generalize hN : al.length = n at *
  have HN := Lib.hid hN
  have HC : Hid (0 < n → ∃ b off, P = some ⟨b, off, none⟩ ∧ ∀ i x, al[i]? = some x → rng (hp w) b (off + i * 21) (tcs x)) := Lib.hid fun hn => by
    obtain ⟨b, off, e, _, hi⟩ := hcells hn
    exact ⟨b, off, e, fun i x hx => (hi i x hx).sub hz⟩
  have hvk : vk.oneCell' = true := h.kz.row.oneCell
  clear hcells h hN hz
  obtain ⟨W, hW⟩ : ∃ W, (w.alloc (.cells #[vk, .slice P n c] 28)).alloc (.cells #[.slice none 0 0, .slice none 0 0] 28) = W := ⟨_, rfl⟩
  have f0 : W.heap[w.heap.size]? = some (.cells #[vk, .slice P n c] 28) := hW ▸ blk_alloc (heap_alloc_new _ _)
  have f1 : W.heap[w.heap.size + 1]? = some (.cells #[.slice none 0 0, .slice none 0 0] 28) := hW ▸ heap_alloc2_new _ _ _
  have bW : Below w.heap.size w W := hW ▸ ((Below.refl _ _).alloc (Nat.le_refl _) _).alloc (by simp) _
  have SW : Hid (W.heap.size = w.heap.size + 2) := Lib.hid (by rw [← hW]; simp)
  have HB := Lib.hid bW
  have F1 := Lib.hid f1
  have p1 : W.cell? ⟨w.heap.size, 1, none⟩ = some (.slice P n c) := blk_cell f0 rfl
  have F0 := Lib.hid f0
  clear f0 f1 bW
  go_enter Try.func31, Try.ntmps31
  go_upto_region 1 with fail
  clear hW
  obtain ⟨W2, hW2⟩ : ∃ W2, W.alloc (.cells #[] 53) = W2 := ⟨_, rfl⟩
  have HO0 := Lib.hid (hW2 ▸ own_emptyT W W.heap.size (Nat.le_refl _))
  have HV0 : Hid (Below W.heap.size W W2) := Lib.hid (hW2 ▸ (Below.refl _ _).alloc (Nat.le_refl _) _)
  go_upto_region 2 with fail
  clear hW2
  have p2 : W2.cell? ⟨w.heap.size, 1, none⟩ = some (.slice P n c) := (HV0.out.cell (p := ⟨w.heap.size, 1, none⟩) (World.block_lt_of_cell? W _ p1)).trans p1
  go_wp2_with fail
  go_loopw [5, 11] (fun v5 i wr => ∃ j : Nat, j ≤ n ∧ i = .int .i64 j ∧ Hid (wr.ownsRow W.heap.size 53 21 v5 (er al m j).length ((er al m j).flatMap tcs)) ∧ Hid (Below W.heap.size W wr)) (fun _ i _ => n - (intOf i).toNat)
  case atStart => exact ⟨0, Nat.zero_le _, rfl, by simpa [er] using HO0, HV0⟩
  case round =>
    obtain ⟨j, hj, rfl, HO, HW⟩ := hrel
    obtain ⟨A1, c1, e1⟩ := own_sl HO.out
    subst e1
    have q1 : wr.cell? ⟨w.heap.size, 1, none⟩ = some (.slice P n c) := (HW.out.cell (p := ⟨w.heap.size, 1, none⟩) (World.block_lt_of_cell? W _ p1)).trans p1
    have bwr : Below w.heap.size w wr := HB.out.trans (HW.out.mono HB.out.size)
    have BW := Lib.hid bwr
    by_cases hlt : j < n
    · obtain ⟨b, off, rfl, hi⟩ := HC.out (by omega)
      obtain ⟨t, ht⟩ : ∃ t, al[j]? = some t := ⟨al[j]'(by rw [HN.out]; exact hlt), by simp⟩
      have HXg := Lib.hid ht
      have HRg := Lib.hid (hi j _ ht)
      clear hi ht
      by_cases hjm : j = m
      · have e1 : ((j : Int) = (m : Int)) := by omega
        have HE : Hid (er al m (j + 1) = er al m j) := Lib.hid (by subst hjm; exact er_same HXg.out)
        clear hjm
        go_wp2_with fail
        exact ⟨⟨j + 1, by omega, by rw [show ((m : Int) + 1) = ((j + 1 : Nat) : Int) by omega], by rw [HE.out]; exact HO, HW⟩, by simp [intOf]; omega⟩
      · have e1 : ¬ ((j : Int) = (m : Int)) := by omega
        have HE : Hid (er al m (j + 1) = er al m j ++ [t]) := Lib.hid (er_other HXg.out hjm)
        clear hjm
        have rl := (HRg.out.sub (hp_below bwr)).at
        have ba : Below wr.heap.size wr (wr.alloc (.cells (tcs t).toArray 53)) := (Below.refl _ _).alloc (Nat.le_refl _) _
        have HA := Lib.hid (own_same HO.out (fun b hb => ba.block b (HO.out.lt b hb).2))
        have HQ := Lib.hid (rowOneT (heap_alloc_new wr (.cells (tcs t).toArray 53)))
        have HCc := Lib.hid (HW.out.trans (ba.mono HW.out.size))
        have hz := HW.out.size
        have hle : (er al m j).length ≤ 100000 := by have := er_len al m j; have := HN.out; omega
        clear ba
        go_wp2_with (first
          | (refine wpList_load_mid rfl 53 _ rfl b _ rfl (tcs t) _ rl Try.underlying53 rfl (infoTcs _) ?_)
          | (refine wpList_bslice_t rfl _ rfl t rfl ?_)
          | (refine append_row rfl _ _ 26 rfl 53 (.agg (tcs (0, 0)).toArray) 21 32 Try.underlying26 infoT21 (by simp [Value.cells, tcs_len]) (by decide) (by decide) W.heap.size _ (er al m j).length ((er al m j).flatMap tcs) rfl HA.out (.slice (some ⟨wr.heap.size, 0, none⟩) 1 1) 1 (tcs t) rfl HQ.out (tcs_one t) (by omega) (by simp; omega) ?_
             intro v7 w7 ho7 hg7 hl7
             have HO7 := Lib.hid ho7
             have HW7 : Hid (Below W.heap.size W w7) := Lib.hid (HCc.out.grown hg7 (by simp; omega) (fun k hk => (HA.out.lt k hk).1))
             obtain ⟨A7, c7, rfl⟩ := own_sl ho7
             clear ho7 hg7 hl7 rl))
        exact ⟨⟨j + 1, by omega, by go_num, by rw [HE.out]; simpa using HO7, HW7⟩, by simp [intOf]; omega⟩
    · obtain rfl : j = n := by omega
      have fwr := stay HW.out F0.out
      have F1r := Lib.hid (stay HW.out F1.out)
      have fz := blk_frozen (j := 1) fwr
      have q0 : wr.cell? ⟨w.heap.size, 0, none⟩ = some vk := blk_cell fwr rfl
      have F1s := Lib.hid (blk_other F1r.out (show w.heap.size + 1 ≠ w.heap.size by omega) (j := 1) (.slice A1 (er al m j).length c1))
      have one : (#[vk, .slice A1 (er al m j).length c1] : Array Value).all (·.oneCell') = true := all_oneCell_toArray (cs := [vk, .slice A1 (er al m j).length c1]) (fun u hu => by
        rcases List.mem_cons.1 hu with rfl | hu
        · exact hvk
        · rw [List.mem_singleton] at hu; rw [hu]; rfl)
      clear fwr
      go_wp2_with (first
        | (refine wpList_store_row rfl 28 _ _ rfl (w.heap.size + 1) _ #[vk, .slice A1 (er al m j).length c1] rfl rfl F1s.out infoC2 rfl one ?_))
      refine bodyPost_ret (v := .agg #[vk, .slice A1 (er al m j).length c1]) (results_cell_row rfl _ _ _ 28 _ (0, 0) _ rfl (blk_row F1s.out) Try.underlying28 rfl infoC2) rfl ⟨_, rfl, ?_, below_setRow (BW.out.setCell (Nat.le_refl _) _) (by omega) _⟩
      have he : er al m j = al.eraseIdx m := by
        unfold er
        rw [List.take_of_length_le (by rw [HN.out]; exact Nat.le_refl _)]
      rw [← he]
      have ho := HO.out
      have h1 : ∀ b, (Value.slice A1 (er al m j).length c1).ownBlock = some b → ((wr.setCell ⟨w.heap.size, 1, none⟩ (.slice A1 (er al m j).length c1)).setRow (w.heap.size + 1) #[vk, .slice A1 (er al m j).length c1]).heap[b]? = wr.heap[b]? := fun b hb => by
        have := (ho.lt b hb).1
        have := SW.out
        rw [setRow_other _ _ _ _ (by omega), Below.heap_setCell _ _ _ _ (by simp; omega)]
      exact own_base (own_same ho h1) (by have := SW.out; omega)
end Go.Proofs.Ytdgenbidgieojaa
/- The document's cache: Want. -/
namespace Go.Proofs.Ytdgenbidgieojaa
open Go.RowKit SmWord Go.Maps
set_option maxRecDepth 100000

def rwN (kn : List AV) (al : List (Nat × Nat)) (A : Nat) : Nat := if (findO kn A).isSome then 1 else if 0 ≤ atI al A then 2 else 3
def rwL (kn : List AV) (al : List (Nat × Nat)) (A : Nat) : List (Nat × Nat) := if (findO kn A).isSome then al else if 0 ≤ atI al A then al else al ++ [(A, 0)]
def RWantIs (Z : Hp) (w : World) (vk : Value) (kn : List AV) (k : Nat) (l : List (Nat × Nat)) (e : Ending) (w' : World) : Prop :=
  ∃ va', e = .returned (.tuple #[.int .u8 (k : Int), .agg #[vk, va']]) ∧ DocAt (orH Z (fr w.heap.size w')) vk va' kn l ∧ Below w.heap.size w w'
/-- The boxes. -/
theorem wboxes3 (w : World) (vk va : Value) (A : Nat) : ∃ W, ((w.alloc (.cells #[vk, va] 28)).alloc (.cells (aN A) 32)).alloc (.cells #[.slice none 0 0, .slice none 0 0] 28) = W ∧ W.heap[w.heap.size]? = some (.cells #[vk, va] 28) ∧ W.heap[w.heap.size + 1]? = some (.cells (aN A) 32) ∧ W.heap[w.heap.size + 2]? = some (.cells #[.slice none 0 0, .slice none 0 0] 28) ∧ Below w.heap.size w W ∧ W.heap.size = w.heap.size + 3 := by
  refine ⟨_, rfl, blk_alloc (blk_alloc (heap_alloc_new _ _)), blk_alloc (heap_alloc2_new _ _ _), ?_, (((Below.refl _ _).alloc (Nat.le_refl _) _).alloc (by simp) _).alloc (by simp; omega) _, by simp⟩
  have := heap_alloc_new ((w.alloc (.cells #[vk, va] 28)).alloc (.cells (aN A) 32)) (.cells #[.slice none 0 0, .slice none 0 0] 28)
  simpa using this
theorem results_tc {P : Program} {fn : Func} {p u : Tmp} {ty : TypeId} (h : fn.results = #[.tmp u, .cell p ty]) (tmps : Array Value) (w : World) (g : Nat) (t : TypeId) (cs : Array Value) (fr : Nat × Nat) (d : TypeDesc) (v : Value)
    (hp : tmps.getD p undef = .pointer (some ⟨g, 0, none⟩)) (hg : w.heap[g]? = some (.cells cs t fr))
    (hu : P.underlying ty = some d) (hd : (match d with | .struct _ | .array _ _ => true | _ => false) = true) (hi : (P.info? ty).map (·.size) = some cs.size) (hv : tmps.getD u undef = v) :
    (results fn tmps).run P w = .ok (.tuple #[v, .agg cs]) w := by
  have hp' : tmps[p]?.getD undef = .pointer (some ⟨g, 0, none⟩) := by simpa using hp
  have hv' : tmps[u]?.getD undef = v := by simpa using hv
  simp [results, h, hp', hv', asAddr, run_loadVar_row w g t ty cs fr d hg hu hd hi]
theorem set2 {w : World} {b : Nat} {t : TypeId} {u v x y : Value} (h : w.heap[b]? = some (.cells #[u, v] t)) : ((w.setCell ⟨b, 0, none⟩ x).setCell ⟨b, 1, none⟩ y).heap[b]? = some (.cells #[x, y] t) := by
  have h1 := blk_set h (j := 0) x
  have h2 := blk_set h1 (j := 1) y
  simpa using h2
theorem DocAt.orL {Z Z' : Hp} {vk va : Value} {kn : List AV} {al : List (Nat × Nat)} (h : DocAt Z vk va kn al) : DocAt (orH Z Z') vk va kn al := h.sub (orH_left _ _)
theorem doc_new {Z : Hp} {vk va v : Value} {kn : List AV} {al : List (Nat × Nat)} {A B B0 : Nat} {w' : World} (h : DocAt Z vk va kn al) (hz : Sub Z (hp w')) (hA : A < 2 ^ 160) (hl : al.length < 100000) (hB : B0 ≤ B)
    (ho : w'.ownsRow B 53 21 v (al.length + 1) (al.flatMap tcs ++ tcs (A, 0))) : DocAt (orH Z (fr B0 w')) vk v kn (al ++ [(A, 0)]) := by
  have hs : Sub (fr B w') (orH Z (fr B0 w')) := (fr_mono hB w').trans (orH_in hz (fr_sub _ _))
  refine ⟨h.kz.sub (orH_left _ _), ?_, fun t ht => ?_, h.kl, by simp; omega⟩
  · have := (RowZ.ownF ho).sub hs
    simpa using this
  · rcases List.mem_append.1 ht with ht | ht
    · exact h.lt t ht
    · rw [List.mem_singleton] at ht
      subst ht
      exact ⟨hA, (by decide : (0 : Nat) < 8)⟩
set_option maxHeartbeats 2000000 in
theorem rwant_known {Z : Hp} {vk va : Value} {kn : List AV} {al : List (Nat × Nat)} (A : Nat) (w : World) (h : DocAt Z vk va kn al) (hz : Sub Z (hp w)) (hA : A < 2 ^ 160) (hk : (findO kn A).isSome = true) :
    Calls Try.prog 10 #[.agg #[vk, va], .agg (aN A)] w (RWantIs Z w vk kn 1 al) := by
  have hs := aN_size A
  have hnn : (acs noneAV).toArray.size = 27 := by simp [acs_len]
  obtain ⟨W, hW, f0, f1, f2, bW, sW⟩ := wboxes3 w vk va A
  have HD := Lib.hid h
  have HZ := Lib.hid (hz.trans (hp_below bW))
  have KF := Lib.hid (rfind_walk vk kn A W (h.kz.sub HZ.out) (Nat.le_trans h.kl (by decide)) hA)
  have p0 : W.cell? ⟨w.heap.size, 0, none⟩ = some vk := blk_cell f0 rfl
  have r1 := adblk f1
  have HB := Lib.hid bW
  have F0 := Lib.hid f0
  have F1 := Lib.hid f1
  have F2 := Lib.hid f2
  have HA := Lib.hid hA
  have HZ0 := Lib.hid hz
  obtain ⟨Pk, ck, ek, -⟩ := h.kz.row.val
  obtain ⟨Pa, ca, ea, -⟩ := h.az.val
  subst ek
  subst ea
  have one := (findV_z HD.out.kz A).ones
  have f27 : (acs (findV kn A)).toArray.size = 27 := by simp [acs_len]
  unfold aval at KF
  rw [hk] at KF
  clear f0 f1 f2 bW hk h hz sW hA
  go_enter Try.func10, Try.ntmps10
  go_upto_region 1 with fail
  clear hW
  go_upto_region 2 with (first
    | (refine wpList_load_mid rfl 32 _ rfl (w.heap.size + 1) 0 rfl (aN A).toList _ r1 Try.underlying32 rfl (infoAd A) ?_; simp only [Array.toArray_toList])
    | (go_at_call 17
       refine KF.out.mono ?_
       rintro e w1 ⟨rfl, b1⟩
       have HB1 := Lib.hid (HB.out.trans (b1.mono HB.out.size))
       have F01 := Lib.hid (stay b1 F0.out)
       have F11 := Lib.hid (stay b1 F1.out)
       have F21 := Lib.hid (stay b1 F2.out)
       have FN := Lib.hid (heap_alloc_new w1 (.cells (acs noneAV).toArray 39))
       clear b1)
    | (refine wpList_alloc_row rfl 39 rfl _ zeroAcc ?_)
    | (refine wpList_store_row rfl 39 _ _ rfl w1.heap.size _ (acs (findV kn A)).toArray rfl rfl FN.out (by simpa using infoAcs _) (by simp [acs_len]) one ?_))
  have HB3 : Hid (Below w.heap.size w ((w1.alloc (.cells (acs noneAV).toArray 39)).setRow w1.heap.size (acs (findV kn A)).toArray)) := Lib.hid (below_setRow (HB1.out.alloc HB1.out.size _) HB1.out.size _)
  have hw1 : w.heap.size + 2 < w1.heap.size := (Array.getElem?_eq_some_iff.1 F21.out).1
  have F03 : Hid (((w1.alloc (.cells (acs noneAV).toArray 39)).setRow w1.heap.size (acs (findV kn A)).toArray).heap[w.heap.size]? = _) := Lib.hid ((setRow_other _ _ _ _ (by omega)).trans (blk_alloc F01.out))
  have F13 : Hid (((w1.alloc (.cells (acs noneAV).toArray 39)).setRow w1.heap.size (acs (findV kn A)).toArray).heap[w.heap.size + 1]? = _) := Lib.hid ((setRow_other _ _ _ _ (by omega)).trans (blk_alloc F11.out))
  have F23 : Hid (((w1.alloc (.cells (acs noneAV).toArray 39)).setRow w1.heap.size (acs (findV kn A)).toArray).heap[w.heap.size + 2]? = _) := Lib.hid ((setRow_other _ _ _ _ (by omega)).trans (blk_alloc F21.out))
  generalize (w1.alloc (.cells (acs noneAV).toArray 39)).setRow w1.heap.size (acs (findV kn A)).toArray = W3 at *
  clear FN F01 F11 F21 hw1 HB1 F0 F1 F2 r1 p0 HB KF HZ
  have g0 : W3.drew.cell? ⟨w.heap.size, 0, none⟩ = some (.slice Pk kn.length ck) := blk_cell (w := W3.drew) F03.out rfl
  have g1 : W3.drew.cell? ⟨w.heap.size, 1, none⟩ = some (.slice Pa al.length ca) := blk_cell (w := W3.drew) F03.out rfl
  have g2 : W3.drew.cell? ⟨w.heap.size + 1 + 1, 0, none⟩ = some (.slice none 0 0) := blk_cell (w := W3.drew) F23.out rfl
  have g3 : W3.drew.cell? ⟨w.heap.size + 1 + 1, 1, none⟩ = some (.slice none 0 0) := blk_cell (w := W3.drew) F23.out rfl
  have z2 : W3.drew.frozen? ⟨w.heap.size + 1 + 1, 0, none⟩ = false := blk_frozen (w := W3.drew) (j := 0) F23.out
  have z3 : W3.drew.frozen? ⟨w.heap.size + 1 + 1, 1, none⟩ = false := blk_frozen (w := W3.drew) (j := 1) F23.out
  have k2 : W3.cell? ⟨w.heap.size + 1 + 1, 0, none⟩ = some (.slice none 0 0) := g2
  have k3 : W3.cell? ⟨w.heap.size + 1 + 1, 1, none⟩ = some (.slice none 0 0) := g3
  have y2 : W3.frozen? ⟨w.heap.size + 1 + 1, 0, none⟩ = false := z2
  have y3 : W3.frozen? ⟨w.heap.size + 1 + 1, 1, none⟩ = false := z3
  go_upto_region 3 with fail
  go_region
  have G := set2 (x := .slice Pk kn.length ck) (y := .slice Pa al.length ca) F23.out
  have HG := Lib.hid (show ((W3.setCell ⟨w.heap.size + 1 + 1, 0, none⟩ (.slice Pk kn.length ck)).setCell ⟨w.heap.size + 1 + 1, 1, none⟩ (.slice Pa al.length ca)).drew.heap[w.heap.size + 1 + 1]? = _ from G)
  have HBe : Hid (Below w.heap.size w ((W3.setCell ⟨w.heap.size + 1 + 1, 0, none⟩ (.slice Pk kn.length ck)).setCell ⟨w.heap.size + 1 + 1, 1, none⟩ (.slice Pa al.length ca)).drew) := Lib.hid ((HB3.out.setCell (show w.heap.size ≤ w.heap.size + 1 + 1 by omega) _).setCell (show w.heap.size ≤ w.heap.size + 1 + 1 by omega) _).drew
  clear G g0 g1 g2 g3 z2 z3 k2 k3 y2 y3
  go_wp2_with fail
  exact bodyPost_ret (v := .tuple #[.int .u8 1, .agg #[.slice Pk kn.length ck, .slice Pa al.length ca]]) (results_tc rfl _ _ _ 28 _ (0, 0) _ _ rfl HG.out Try.underlying28 rfl infoC2 rfl) rfl ⟨_, rfl, HD.out.orL, HBe.out⟩
set_option maxHeartbeats 2000000 in
theorem rwant_asked {Z : Hp} {vk va : Value} {kn : List AV} {al : List (Nat × Nat)} (A : Nat) (w : World) (h : DocAt Z vk va kn al) (hz : Sub Z (hp w)) (hA : A < 2 ^ 160) (hk : (findO kn A).isSome = false) (ha : 0 ≤ atI al A) :
    Calls Try.prog 10 #[.agg #[vk, va], .agg (aN A)] w (RWantIs Z w vk kn 2 al) := by
  have hs := aN_size A
  have hnn : (acs noneAV).toArray.size = 27 := by simp [acs_len]
  obtain ⟨W, hW, f0, f1, f2, bW, sW⟩ := wboxes3 w vk va A
  have HD := Lib.hid h
  have HZ := Lib.hid (hz.trans (hp_below bW))
  have KF := Lib.hid (rfind_walk vk kn A W (h.kz.sub HZ.out) (Nat.le_trans h.kl (by decide)) hA)
  have p0 : W.cell? ⟨w.heap.size, 0, none⟩ = some vk := blk_cell f0 rfl
  have r1 := adblk f1
  have HB := Lib.hid bW
  have F0 := Lib.hid f0
  have F1 := Lib.hid f1
  have F2 := Lib.hid f2
  have HA := Lib.hid hA
  have HZ0 := Lib.hid hz
  obtain ⟨Pk, ck, ek, -⟩ := h.kz.row.val
  obtain ⟨Pa, ca, ea, -⟩ := h.az.val
  subst ek
  subst ea
  have one := (findV_z HD.out.kz A).ones
  have f27 : (acs (findV kn A)).toArray.size = 27 := by simp [acs_len]
  unfold aval at KF
  rw [hk] at KF
  clear f0 f1 f2 bW hk h hz sW hA
  go_enter Try.func10, Try.ntmps10
  go_upto_region 1 with fail
  clear hW
  go_upto_region 2 with (first
    | (refine wpList_load_mid rfl 32 _ rfl (w.heap.size + 1) 0 rfl (aN A).toList _ r1 Try.underlying32 rfl (infoAd A) ?_; simp only [Array.toArray_toList])
    | (go_at_call 17
       refine KF.out.mono ?_
       rintro e w1 ⟨rfl, b1⟩
       have HB1 := Lib.hid (HB.out.trans (b1.mono HB.out.size))
       have F01 := Lib.hid (stay b1 F0.out)
       have F11 := Lib.hid (stay b1 F1.out)
       have F21 := Lib.hid (stay b1 F2.out)
       have FN := Lib.hid (heap_alloc_new w1 (.cells (acs noneAV).toArray 39))
       clear b1)
    | (refine wpList_alloc_row rfl 39 rfl _ zeroAcc ?_)
    | (refine wpList_store_row rfl 39 _ _ rfl w1.heap.size _ (acs (findV kn A)).toArray rfl rfl FN.out (by simpa using infoAcs _) (by simp [acs_len]) one ?_))
  have HB3 : Hid (Below w.heap.size w ((w1.alloc (.cells (acs noneAV).toArray 39)).setRow w1.heap.size (acs (findV kn A)).toArray)) := Lib.hid (below_setRow (HB1.out.alloc HB1.out.size _) HB1.out.size _)
  have hw1 : w.heap.size + 2 < w1.heap.size := (Array.getElem?_eq_some_iff.1 F21.out).1
  have F03 : Hid (((w1.alloc (.cells (acs noneAV).toArray 39)).setRow w1.heap.size (acs (findV kn A)).toArray).heap[w.heap.size]? = _) := Lib.hid ((setRow_other _ _ _ _ (by omega)).trans (blk_alloc F01.out))
  have F13 : Hid (((w1.alloc (.cells (acs noneAV).toArray 39)).setRow w1.heap.size (acs (findV kn A)).toArray).heap[w.heap.size + 1]? = _) := Lib.hid ((setRow_other _ _ _ _ (by omega)).trans (blk_alloc F11.out))
  have F23 : Hid (((w1.alloc (.cells (acs noneAV).toArray 39)).setRow w1.heap.size (acs (findV kn A)).toArray).heap[w.heap.size + 2]? = _) := Lib.hid ((setRow_other _ _ _ _ (by omega)).trans (blk_alloc F21.out))
  generalize (w1.alloc (.cells (acs noneAV).toArray 39)).setRow w1.heap.size (acs (findV kn A)).toArray = W3 at *
  clear FN F01 F11 F21 hw1 HB1 F0 F1 F2 r1 p0 HB KF HZ
  have g0 : W3.cell? ⟨w.heap.size, 0, none⟩ = some (.slice Pk kn.length ck) := blk_cell F03.out rfl
  have g1 : W3.cell? ⟨w.heap.size, 1, none⟩ = some (.slice Pa al.length ca) := blk_cell F03.out rfl
  have r3 := adblk F13.out
  have KA := Lib.hid (at_walk A W3 HD.out (HZ0.out.trans (hp_below HB3.out)) HA.out)
  generalize atI al A = q at *
  go_upto_region 5 with (first
    | (refine wpList_load_mid rfl 32 _ rfl (w.heap.size + 1) 0 rfl (aN A).toList _ r3 Try.underlying32 rfl (infoAd A) ?_; simp only [Array.toArray_toList])
    | (go_at_call 18
       refine KA.out.mono ?_
       rintro e w4 ⟨rfl, b4⟩
       have HB4 := Lib.hid (HB3.out.trans (b4.mono HB3.out.size))
       have F04 := Lib.hid (stay b4 F03.out)
       have F14 := Lib.hid (stay b4 F13.out)
       have F24 := Lib.hid (stay b4 F23.out)
       clear b4))
  clear g0 g1 r3 KA

  have g0 : w4.drew.cell? ⟨w.heap.size, 0, none⟩ = some (.slice Pk kn.length ck) := blk_cell (w := w4.drew) F04.out rfl
  have g1 : w4.drew.cell? ⟨w.heap.size, 1, none⟩ = some (.slice Pa al.length ca) := blk_cell (w := w4.drew) F04.out rfl
  have g2 : w4.drew.cell? ⟨w.heap.size + 1 + 1, 0, none⟩ = some (.slice none 0 0) := blk_cell (w := w4.drew) F24.out rfl
  have g3 : w4.drew.cell? ⟨w.heap.size + 1 + 1, 1, none⟩ = some (.slice none 0 0) := blk_cell (w := w4.drew) F24.out rfl
  have z2 : w4.drew.frozen? ⟨w.heap.size + 1 + 1, 0, none⟩ = false := blk_frozen (w := w4.drew) (j := 0) F24.out
  have z3 : w4.drew.frozen? ⟨w.heap.size + 1 + 1, 1, none⟩ = false := blk_frozen (w := w4.drew) (j := 1) F24.out
  have k2 : w4.cell? ⟨w.heap.size + 1 + 1, 0, none⟩ = some (.slice none 0 0) := g2
  have k3 : w4.cell? ⟨w.heap.size + 1 + 1, 1, none⟩ = some (.slice none 0 0) := g3
  have y2 : w4.frozen? ⟨w.heap.size + 1 + 1, 0, none⟩ = false := z2
  have y3 : w4.frozen? ⟨w.heap.size + 1 + 1, 1, none⟩ = false := z3
  go_upto_region 5 with fail
  go_region
  have G := set2 (x := .slice Pk kn.length ck) (y := .slice Pa al.length ca) F24.out
  have HG := Lib.hid (show ((w4.setCell ⟨w.heap.size + 1 + 1, 0, none⟩ (.slice Pk kn.length ck)).setCell ⟨w.heap.size + 1 + 1, 1, none⟩ (.slice Pa al.length ca)).drew.heap[w.heap.size + 1 + 1]? = _ from G)
  have HBe : Hid (Below w.heap.size w ((w4.setCell ⟨w.heap.size + 1 + 1, 0, none⟩ (.slice Pk kn.length ck)).setCell ⟨w.heap.size + 1 + 1, 1, none⟩ (.slice Pa al.length ca)).drew) := Lib.hid ((HB4.out.setCell (show w.heap.size ≤ w.heap.size + 1 + 1 by omega) _).setCell (show w.heap.size ≤ w.heap.size + 1 + 1 by omega) _).drew
  clear G g0 g1 g2 g3 z2 z3 k2 k3 y2 y3
  go_wp2_with fail
  exact bodyPost_ret (v := .tuple #[.int .u8 2, .agg #[.slice Pk kn.length ck, .slice Pa al.length ca]]) (results_tc rfl _ _ _ 28 _ (0, 0) _ _ rfl HG.out Try.underlying28 rfl infoC2 rfl) rfl ⟨_, rfl, HD.out.orL, HBe.out⟩
set_option maxHeartbeats 2000000 in
theorem rwant_new {Z : Hp} {vk va : Value} {kn : List AV} {al : List (Nat × Nat)} (A : Nat) (w : World) (h : DocAt Z vk va kn al) (hz : Sub Z (hp w)) (hA : A < 2 ^ 160) (hk : (findO kn A).isSome = false) (ha : ¬ 0 ≤ atI al A) (hl : al.length < 100000) :
    Calls Try.prog 10 #[.agg #[vk, va], .agg (aN A)] w (RWantIs Z w vk kn 3 (al ++ [(A, 0)])) := by
  have hs := aN_size A
  have hnn : (acs noneAV).toArray.size = 27 := by simp [acs_len]
  obtain ⟨W, hW, f0, f1, f2, bW, sW⟩ := wboxes3 w vk va A
  have HD := Lib.hid h
  have HZ := Lib.hid (hz.trans (hp_below bW))
  have KF := Lib.hid (rfind_walk vk kn A W (h.kz.sub HZ.out) (Nat.le_trans h.kl (by decide)) hA)
  have p0 : W.cell? ⟨w.heap.size, 0, none⟩ = some vk := blk_cell f0 rfl
  have r1 := adblk f1
  have HB := Lib.hid bW
  have F0 := Lib.hid f0
  have F1 := Lib.hid f1
  have F2 := Lib.hid f2
  have HA := Lib.hid hA
  have HZ0 := Lib.hid hz
  obtain ⟨Pk, ck, ek, -⟩ := h.kz.row.val
  obtain ⟨Pa, ca, ea, -⟩ := h.az.val
  subst ek
  subst ea
  have one := (findV_z HD.out.kz A).ones
  have f27 : (acs (findV kn A)).toArray.size = 27 := by simp [acs_len]
  unfold aval at KF
  rw [hk] at KF
  clear f0 f1 f2 bW hk h hz sW hA
  go_enter Try.func10, Try.ntmps10
  go_upto_region 1 with fail
  clear hW
  go_upto_region 2 with (first
    | (refine wpList_load_mid rfl 32 _ rfl (w.heap.size + 1) 0 rfl (aN A).toList _ r1 Try.underlying32 rfl (infoAd A) ?_; simp only [Array.toArray_toList])
    | (go_at_call 17
       refine KF.out.mono ?_
       rintro e w1 ⟨rfl, b1⟩
       have HB1 := Lib.hid (HB.out.trans (b1.mono HB.out.size))
       have F01 := Lib.hid (stay b1 F0.out)
       have F11 := Lib.hid (stay b1 F1.out)
       have F21 := Lib.hid (stay b1 F2.out)
       have FN := Lib.hid (heap_alloc_new w1 (.cells (acs noneAV).toArray 39))
       clear b1)
    | (refine wpList_alloc_row rfl 39 rfl _ zeroAcc ?_)
    | (refine wpList_store_row rfl 39 _ _ rfl w1.heap.size _ (acs (findV kn A)).toArray rfl rfl FN.out (by simpa using infoAcs _) (by simp [acs_len]) one ?_))
  have HB3 : Hid (Below w.heap.size w ((w1.alloc (.cells (acs noneAV).toArray 39)).setRow w1.heap.size (acs (findV kn A)).toArray)) := Lib.hid (below_setRow (HB1.out.alloc HB1.out.size _) HB1.out.size _)
  have hw1 : w.heap.size + 2 < w1.heap.size := (Array.getElem?_eq_some_iff.1 F21.out).1
  have F03 : Hid (((w1.alloc (.cells (acs noneAV).toArray 39)).setRow w1.heap.size (acs (findV kn A)).toArray).heap[w.heap.size]? = _) := Lib.hid ((setRow_other _ _ _ _ (by omega)).trans (blk_alloc F01.out))
  have F13 : Hid (((w1.alloc (.cells (acs noneAV).toArray 39)).setRow w1.heap.size (acs (findV kn A)).toArray).heap[w.heap.size + 1]? = _) := Lib.hid ((setRow_other _ _ _ _ (by omega)).trans (blk_alloc F11.out))
  have F23 : Hid (((w1.alloc (.cells (acs noneAV).toArray 39)).setRow w1.heap.size (acs (findV kn A)).toArray).heap[w.heap.size + 2]? = _) := Lib.hid ((setRow_other _ _ _ _ (by omega)).trans (blk_alloc F21.out))
  generalize (w1.alloc (.cells (acs noneAV).toArray 39)).setRow w1.heap.size (acs (findV kn A)).toArray = W3 at *
  clear FN F01 F11 F21 hw1 HB1 F0 F1 F2 r1 p0 HB KF HZ
  have g0 : W3.cell? ⟨w.heap.size, 0, none⟩ = some (.slice Pk kn.length ck) := blk_cell F03.out rfl
  have g1 : W3.cell? ⟨w.heap.size, 1, none⟩ = some (.slice Pa al.length ca) := blk_cell F03.out rfl
  have r3 := adblk F13.out
  have KA := Lib.hid (at_walk A W3 HD.out (HZ0.out.trans (hp_below HB3.out)) HA.out)
  generalize atI al A = q at *
  go_upto_region 7 with (first
    | (refine wpList_load_mid rfl 32 _ rfl (w.heap.size + 1) 0 rfl (aN A).toList _ r3 Try.underlying32 rfl (infoAd A) ?_; simp only [Array.toArray_toList])
    | (go_at_call 18
       refine KA.out.mono ?_
       rintro e w4 ⟨rfl, b4⟩
       have HB4 := Lib.hid (HB3.out.trans (b4.mono HB3.out.size))
       have F04 := Lib.hid (stay b4 F03.out)
       have F14 := Lib.hid (stay b4 F13.out)
       have F24 := Lib.hid (stay b4 F23.out)
       clear b4))
  clear g0 g1 r3 KA

  have HO5 := Lib.hid (own_emptyT w4 w4.heap.size (Nat.le_refl _))
  have HB5 : Hid (Below w4.heap.size w4 (w4.alloc (.cells #[] 53))) := Lib.hid ((Below.refl _ _).alloc (Nat.le_refl _) _)
  generalize w4.alloc (.cells #[] 53) = W5 at *
  have F05 := Lib.hid (stay HB5.out F04.out)
  have g1 : W5.cell? ⟨w.heap.size, 1, none⟩ = some (.slice Pa al.length ca) := blk_cell F05.out rfl
  have HR5 := Lib.hid (HD.out.az.sub (HZ0.out.trans ((hp_below HB4.out).trans (hp_below HB5.out))))
  have hz5 := HB5.out.size
  have T1 := Lib.hid (fun u hu => by obtain ⟨t, _, h2⟩ := List.mem_flatMap.1 hu; exact tcs_one t u h2 : ∀ u ∈ al.flatMap tcs, u.oneCell' = true)
  go_upto_region 8 with (first
    | (refine append_row rfl _ _ 26 rfl 53 (.agg (tcs (0, 0)).toArray) 21 32 Try.underlying26 infoT21 (by simp [Value.cells, tcs_len]) (by decide) (by decide) w4.heap.size _ 0 [] rfl HO5.out (.slice Pa al.length ca) al.length (al.flatMap tcs) rfl HR5.out T1.out (by omega) (by omega) ?_
       intro v6 w6 ho6 hg6 hl6
       simp only [Nat.zero_add, List.nil_append] at ho6
       have HO6 := Lib.hid ho6
       have HB6 : Hid (Below w4.heap.size w4 w6) := Lib.hid (HB5.out.grown hg6 (by omega) (fun k hk => (HO5.out.lt k hk).1))
       obtain ⟨A6, c6, rfl⟩ := own_sl ho6
       clear ho6 hg6 hl6))
  clear g1 hz5
  have F06 := Lib.hid (stay HB6.out F04.out)
  have r6 := adblk (stay HB6.out F14.out)
  have ba : Below w6.heap.size w6 (w6.alloc (.cells (tcs (A, 0)).toArray 53)) := (Below.refl _ _).alloc (Nat.le_refl _) _
  have HA7 := Lib.hid (own_same HO6.out (fun b hb => ba.block b (HO6.out.lt b hb).2))
  have HQ7 := Lib.hid (rowOneT (heap_alloc_new w6 (.cells (tcs (A, 0)).toArray 53)))
  have HC7 := Lib.hid (HB6.out.trans (ba.mono HB6.out.size))
  have hz6 := HB6.out.size
  clear ba
  go_upto_region 9 with (first
    | (refine wpList_load_mid rfl 32 _ rfl (w.heap.size + 1) 0 rfl (aN A).toList _ r6 Try.underlying32 rfl (infoAd A) ?_; simp only [Array.toArray_toList])
    | (refine wpList_build_try rfl _ rfl A rfl ?_)
    | (refine wpList_bslice_t rfl _ rfl (A, 0) rfl ?_)
    | (refine append_row rfl _ _ 26 rfl 53 (.agg (tcs (0, 0)).toArray) 21 32 Try.underlying26 infoT21 (by simp [Value.cells, tcs_len]) (by decide) (by decide) w4.heap.size _ al.length (al.flatMap tcs) rfl HA7.out (.slice (some ⟨w6.heap.size, 0, none⟩) 1 1) 1 (tcs (A, 0)) rfl HQ7.out (tcs_one _) (by omega) (by simp; omega) ?_
       intro v8 w8 ho8 hg8 hl8
       have HO8 := Lib.hid ho8
       have HB8 : Hid (Below w4.heap.size w4 w8) := Lib.hid (HC7.out.grown hg8 (by simp; omega) (fun k hk => (HA7.out.lt k hk).1))
       obtain ⟨A8, c8, rfl⟩ := own_sl ho8
       clear ho8 hg8 hl8))
  clear r6
  have F08 := Lib.hid (stay HB8.out F04.out)
  have F28 := Lib.hid (stay HB8.out F24.out)
  have h04 : w.heap.size < w4.heap.size := (Array.getElem?_eq_some_iff.1 F04.out).1
  have h24 : w.heap.size + 2 < w4.heap.size := (Array.getElem?_eq_some_iff.1 F24.out).1
  have H04 := Lib.hid h04
  have H24 := Lib.hid h24
  have c8' : w8.cell? ⟨w.heap.size, 1, none⟩ = some (.slice Pa al.length ca) := blk_cell F08.out rfl
  have z8 := blk_frozen (j := 1) F08.out
  clear h04 h24
  go_upto_region 10 with fail
  clear c8' z8
  have HB9 : Hid (Below w.heap.size w (w8.setCell ⟨w.heap.size, 1, none⟩ (.slice A8 (al.length + 1) c8))) := Lib.hid ((HB4.out.trans (HB8.out.mono HB4.out.size)).setCell (Nat.le_refl _) _)
  have F09 : Hid ((w8.setCell ⟨w.heap.size, 1, none⟩ (.slice A8 (al.length + 1) c8)).heap[w.heap.size]? = some (.cells #[.slice Pk kn.length ck, .slice A8 (al.length + 1) c8] 28)) := Lib.hid (by have := blk_set F08.out (j := 1) (.slice A8 (al.length + 1) c8); simpa using this)
  have F29 : Hid ((w8.setCell ⟨w.heap.size, 1, none⟩ (.slice A8 (al.length + 1) c8)).heap[w.heap.size + 2]? = _) := Lib.hid (blk_other F28.out (by omega) (j := 1) _)
  have HO9 : Hid ((w8.setCell ⟨w.heap.size, 1, none⟩ (.slice A8 (al.length + 1) c8)).ownsRow w4.heap.size 53 21 (.slice A8 (al.length + 1) c8) (al.length + 1) (al.flatMap tcs ++ tcs (A, 0))) := Lib.hid (own_same HO8.out fun b hb => Below.heap_setCell _ _ _ _ (by have := (HO8.out.lt b hb).1; have := H04.out; simp; omega))
  generalize w8.setCell ⟨w.heap.size, 1, none⟩ (.slice A8 (al.length + 1) c8) = W9 at *
  clear F08 F28 HO8 HB8 HC7 HQ7 HA7 hz6 F06 HB6 HO6 HB5 HO5 HR5 F05
  have g0 : W9.drew.cell? ⟨w.heap.size, 0, none⟩ = some (.slice Pk kn.length ck) := blk_cell (w := W9.drew) F09.out rfl
  have g1 : W9.drew.cell? ⟨w.heap.size, 1, none⟩ = some (.slice A8 (al.length + 1) c8) := blk_cell (w := W9.drew) F09.out rfl
  have g2 : W9.drew.cell? ⟨w.heap.size + 1 + 1, 0, none⟩ = some (.slice none 0 0) := blk_cell (w := W9.drew) F29.out rfl
  have g3 : W9.drew.cell? ⟨w.heap.size + 1 + 1, 1, none⟩ = some (.slice none 0 0) := blk_cell (w := W9.drew) F29.out rfl
  have z2 : W9.drew.frozen? ⟨w.heap.size + 1 + 1, 0, none⟩ = false := blk_frozen (w := W9.drew) (j := 0) F29.out
  have z3 : W9.drew.frozen? ⟨w.heap.size + 1 + 1, 1, none⟩ = false := blk_frozen (w := W9.drew) (j := 1) F29.out
  have k2 : W9.cell? ⟨w.heap.size + 1 + 1, 0, none⟩ = some (.slice none 0 0) := g2
  have k3 : W9.cell? ⟨w.heap.size + 1 + 1, 1, none⟩ = some (.slice none 0 0) := g3
  have y2 : W9.frozen? ⟨w.heap.size + 1 + 1, 0, none⟩ = false := z2
  have y3 : W9.frozen? ⟨w.heap.size + 1 + 1, 1, none⟩ = false := z3
  go_upto_region 10 with fail
  go_region
  have G := set2 (x := .slice Pk kn.length ck) (y := .slice A8 (al.length + 1) c8) F29.out
  have HG := Lib.hid (show ((W9.setCell ⟨w.heap.size + 1 + 1, 0, none⟩ (.slice Pk kn.length ck)).setCell ⟨w.heap.size + 1 + 1, 1, none⟩ (.slice A8 (al.length + 1) c8)).drew.heap[w.heap.size + 1 + 1]? = _ from G)
  have HBe : Hid (Below w.heap.size w ((W9.setCell ⟨w.heap.size + 1 + 1, 0, none⟩ (.slice Pk kn.length ck)).setCell ⟨w.heap.size + 1 + 1, 1, none⟩ (.slice A8 (al.length + 1) c8)).drew) := Lib.hid ((HB9.out.setCell (show w.heap.size ≤ w.heap.size + 1 + 1 by omega) _).setCell (show w.heap.size ≤ w.heap.size + 1 + 1 by omega) _).drew
  clear G g0 g1 g2 g3 z2 z3 k2 k3 y2 y3
  go_wp2_with fail
  exact bodyPost_ret (v := .tuple #[.int .u8 3, .agg #[.slice Pk kn.length ck, .slice A8 (al.length + 1) c8]]) (results_tc rfl _ _ _ 28 _ (0, 0) _ _ rfl HG.out Try.underlying28 rfl infoC2 rfl) rfl ⟨_, rfl, doc_new HD.out (HZ0.out.trans (hp_below HBe.out)) HA.out hl (Nat.le_of_lt H04.out) (own_same HO9.out fun b hb => by have := (HO9.out.lt b hb).1; have := H24.out; show ((W9.setCell _ _).setCell _ _).heap[b]? = _; rw [Below.heap_setCell _ _ _ _ (by simp; omega), Below.heap_setCell _ _ _ _ (by simp; omega)]), HBe.out⟩
theorem rwant_walk {Z : Hp} {vk va : Value} {kn : List AV} {al : List (Nat × Nat)} (A : Nat) (w : World) (h : DocAt Z vk va kn al) (hz : Sub Z (hp w)) (hA : A < 2 ^ 160) (hl : al.length < 100000) :
    Calls Try.prog 10 #[.agg #[vk, va], .agg (aN A)] w (RWantIs Z w vk kn (rwN kn al A) (rwL kn al A)) := by
  unfold rwN rwL
  cases hk : (findO kn A).isSome with
  | true => exact rwant_known A w h hz hA hk
  | false =>
    by_cases ha : 0 ≤ atI al A
    · simp only [ha, if_true]
      exact rwant_asked A w h hz hA hk ha
    · simp only [ha, if_false]
      exact rwant_new A w h hz hA hk ha hl
end Go.Proofs.Ytdgenbidgieojaa
/- The document's cache: Fail. -/
namespace Go.Proofs.Ytdgenbidgieojaa
open Go.RowKit SmWord Go.Maps
set_option maxRecDepth 100000

theorem atI_pos {al : List (Nat × Nat)} {A : Nat} (h : 0 ≤ atI al A) : ∃ (k : Nat) (t : Nat × Nat), atI al A = (k : Int) ∧ al[k]? = some t ∧ t.1 = A := by
  unfold atI at h ⊢
  cases hf : al.findIdx? (fun t => t.1 == A) with
  | none => rw [hf] at h; simp at h
  | some k =>
    obtain ⟨hk, h1, h2⟩ := List.findIdx?_eq_some_iff_getElem.1 hf
    exact ⟨k, al[k], rfl, by simp, by simpa using h1⟩
theorem set_flat : ∀ (al : List (Nat × Nat)) (k : Nat) (t : Nat × Nat) (n : Nat), al[k]? = some t → (al.flatMap tcs).set (k * 21 + 20) (i64v n) = (al.set k (t.1, n)).flatMap tcs
  | [], k, t, n, h => by simp at h
  | x :: l, 0, t, n, h => by
    simp at h
    subst h
    rw [List.flatMap_cons, List.set_cons_zero, List.flatMap_cons, List.set_append_left _ _ (by rw [tcs_len]; omega)]
    have e : (tcs x).set (0 * 21 + 20) (i64v n) = tcs (x.1, n) := by
      unfold tcs
      rw [List.set_append_right _ _ (by rw [ecs_len]; omega), ecs_len]
      rfl
    rw [e]
  | x :: l, k + 1, t, n, h => by
    rw [List.flatMap_cons, List.set_cons_succ, List.flatMap_cons, List.set_append_right _ _ (by rw [tcs_len]; omega), tcs_len, show (k + 1) * 21 + 20 - 21 = k * 21 + 20 by omega, set_flat l k t n (by simpa using h)]
theorem set_lt {al : List (Nat × Nat)} {p : Nat × Nat → Prop} {k : Nat} {u : Nat × Nat} (h : ∀ t ∈ al, p t) (hp : p u) : ∀ t ∈ al.set k u, p t := fun t ht => by
  rcases List.mem_or_eq_of_mem_set ht with ht | ht
  · exact h t ht
  · rw [ht]; exact hp
theorem doc_set {Z : Hp} {vk va v : Value} {kn : List AV} {al al' : List (Nat × Nat)} {B B0 : Nat} {w' : World} (h : DocAt Z vk va kn al) (hz : Sub Z (hp w')) (hB : B0 ≤ B) (hlt : ∀ t ∈ al', t.1 < 2 ^ 160 ∧ t.2 < 8) (hlen : al'.length ≤ al.length)
    (ho : w'.ownsRow B 53 21 v al'.length (al'.flatMap tcs)) : DocAt (orH Z (fr B0 w')) vk v kn al' := by
  have hs : Sub (fr B w') (orH Z (fr B0 w')) := (fr_mono hB w').trans (orH_in hz (fr_sub _ _))
  exact ⟨h.kz.sub (orH_left _ _), (RowZ.ownF ho).sub hs, hlt, h.kl, Nat.le_trans hlen h.all⟩
set_option maxHeartbeats 2000000 in
theorem rfail_none {Z : Hp} {vk va : Value} {kn : List AV} {al : List (Nat × Nat)} (A : Nat) (w : World) (h : DocAt Z vk va kn al) (hz : Sub Z (hp w)) (hA : A < 2 ^ 160) (ha : ¬ 0 ≤ atI al A) :
    Calls Try.prog 14 #[.agg #[vk, va], .agg (aN A)] w (RWantIs Z w vk kn 0 al) := by
  have hs := aN_size A
  obtain ⟨W3, hW, f0, f1, f2, bW, sW⟩ := wboxes3 w vk va A
  have HD := Lib.hid h
  have KA := Lib.hid (at_walk A W3 h (hz.trans (hp_below bW)) hA)
  have HB3 := Lib.hid bW
  have F03 := Lib.hid f0
  have F23 := Lib.hid f2
  have r3 := adblk f1
  have HA := Lib.hid hA
  have HZ0 := Lib.hid hz
  obtain ⟨Pk, ck, ek, -⟩ := h.kz.row.val
  obtain ⟨Pa, ca, ea, -⟩ := h.az.val
  subst ek
  subst ea
  have g0 : W3.cell? ⟨w.heap.size, 0, none⟩ = some (.slice Pk kn.length ck) := blk_cell F03.out rfl
  have g1 : W3.cell? ⟨w.heap.size, 1, none⟩ = some (.slice Pa al.length ca) := blk_cell F03.out rfl
  clear f0 f1 f2 bW h hz sW hA
  generalize atI al A = q at *
  go_enter Try.func14, Try.ntmps14
  go_upto_region 1 with fail
  clear hW
  go_upto_region 3 with (first
    | (refine wpList_load_mid rfl 32 _ rfl (w.heap.size + 1) 0 rfl (aN A).toList _ r3 Try.underlying32 rfl (infoAd A) ?_; simp only [Array.toArray_toList])
    | (go_at_call 18
       refine KA.out.mono ?_
       rintro e w4 ⟨rfl, b4⟩
       have HB4 := Lib.hid (HB3.out.trans (b4.mono HB3.out.size))
       have F04 := Lib.hid (stay b4 F03.out)
       have F24 := Lib.hid (stay b4 F23.out)
       have HW4 := Lib.hid b4
       clear b4))
  clear g0 g1 r3 KA
  have g0 : w4.drew.cell? ⟨w.heap.size, 0, none⟩ = some (.slice Pk kn.length ck) := blk_cell (w := w4.drew) F04.out rfl
  have g1 : w4.drew.cell? ⟨w.heap.size, 1, none⟩ = some (.slice Pa al.length ca) := blk_cell (w := w4.drew) F04.out rfl
  have g2 : w4.drew.cell? ⟨w.heap.size + 1 + 1, 0, none⟩ = some (.slice none 0 0) := blk_cell (w := w4.drew) F24.out rfl
  have g3 : w4.drew.cell? ⟨w.heap.size + 1 + 1, 1, none⟩ = some (.slice none 0 0) := blk_cell (w := w4.drew) F24.out rfl
  have z2 : w4.drew.frozen? ⟨w.heap.size + 1 + 1, 0, none⟩ = false := blk_frozen (w := w4.drew) (j := 0) F24.out
  have z3 : w4.drew.frozen? ⟨w.heap.size + 1 + 1, 1, none⟩ = false := blk_frozen (w := w4.drew) (j := 1) F24.out
  have k2 : w4.cell? ⟨w.heap.size + 1 + 1, 0, none⟩ = some (.slice none 0 0) := g2
  have k3 : w4.cell? ⟨w.heap.size + 1 + 1, 1, none⟩ = some (.slice none 0 0) := g3
  have y2 : w4.frozen? ⟨w.heap.size + 1 + 1, 0, none⟩ = false := z2
  have y3 : w4.frozen? ⟨w.heap.size + 1 + 1, 1, none⟩ = false := z3
  go_upto_region 3 with fail
  go_region
  have G := set2 (x := .slice Pk kn.length ck) (y := .slice Pa al.length ca) F24.out
  have HG := Lib.hid (show ((w4.setCell ⟨w.heap.size + 1 + 1, 0, none⟩ (.slice Pk kn.length ck)).setCell ⟨w.heap.size + 1 + 1, 1, none⟩ (.slice Pa al.length ca)).drew.heap[w.heap.size + 1 + 1]? = _ from G)
  have HBe : Hid (Below w.heap.size w ((w4.setCell ⟨w.heap.size + 1 + 1, 0, none⟩ (.slice Pk kn.length ck)).setCell ⟨w.heap.size + 1 + 1, 1, none⟩ (.slice Pa al.length ca)).drew) := Lib.hid ((HB4.out.setCell (show w.heap.size ≤ w.heap.size + 1 + 1 by omega) _).setCell (show w.heap.size ≤ w.heap.size + 1 + 1 by omega) _).drew
  clear G g0 g1 g2 g3 z2 z3 k2 k3 y2 y3
  go_wp2_with fail
  exact bodyPost_ret (v := .tuple #[.int .u8 0, .agg #[.slice Pk kn.length ck, .slice Pa al.length ca]]) (results_tc rfl _ _ _ 28 _ (0, 0) _ _ rfl HG.out Try.underlying28 rfl infoC2 rfl) rfl ⟨_, rfl, HD.out.orL, HBe.out⟩
set_option maxHeartbeats 2000000 in
theorem rfail_lost {Z : Hp} {vk va : Value} {kn : List AV} {al : List (Nat × Nat)} (A : Nat) (w : World) (h : DocAt Z vk va kn al) (hz : Sub Z (hp w)) (hA : A < 2 ^ 160) (k : Nat) (t : Nat × Nat) (hk : atI al A = (k : Int)) (ht : al[k]? = some t) (h8 : ¬ t.2 + 1 < 8) (h9 : t.2 < 8) :
    Calls Try.prog 14 #[.agg #[vk, va], .agg (aN A)] w (RWantIs Z w vk kn 5 (al.eraseIdx k)) := by
  have hs := aN_size A
  obtain ⟨W3, hW, f0, f1, f2, bW, sW⟩ := wboxes3 w vk va A
  have HD := Lib.hid h
  have KA := Lib.hid (at_walk A W3 h (hz.trans (hp_below bW)) hA)
  have HB3 := Lib.hid bW
  have F03 := Lib.hid f0
  have F23 := Lib.hid f2
  have r3 := adblk f1
  have HA := Lib.hid hA
  have HZ0 := Lib.hid hz
  obtain ⟨Pk, ck, ek, -⟩ := h.kz.row.val
  obtain ⟨Pa, ca, ea, -⟩ := h.az.val
  subst ek
  subst ea
  have g0 : W3.cell? ⟨w.heap.size, 0, none⟩ = some (.slice Pk kn.length ck) := blk_cell F03.out rfl
  have g1 : W3.cell? ⟨w.heap.size, 1, none⟩ = some (.slice Pa al.length ca) := blk_cell F03.out rfl
  rw [hk] at KA
  obtain ⟨Px, cx, ex, hn, hc, hP, hcells⟩ := h.az.one (fun x _ => tcs_len x)
  have hkl : k < al.length := (List.getElem?_eq_some_iff.1 ht).1
  obtain ⟨b, off, eb, -, hi⟩ := hcells (by omega)
  subst eb
  have HRt := Lib.hid ((hi k t ht).sub hz)
  obtain ⟨rfl, rfl⟩ : Pa = some ⟨b, off, none⟩ ∧ ca = cx := by simpa using ex
  have hll := h.all
  have hHt := Lib.hid ht
  clear hi hcells hP ex f0 f1 f2 bW h hz sW hA ht hk
  have h21 := t.2
  go_enter Try.func14, Try.ntmps14
  go_upto_region 1 with fail
  clear hW
  go_upto_region 4 with (first
    | (refine wpList_load_mid rfl 32 _ rfl (w.heap.size + 1) 0 rfl (aN A).toList _ r3 Try.underlying32 rfl (infoAd A) ?_; simp only [Array.toArray_toList])
    | (go_at_call 18
       refine KA.out.mono ?_
       rintro e w4 ⟨rfl, b4⟩
       have HB4 := Lib.hid (HB3.out.trans (b4.mono HB3.out.size))
       have F04 := Lib.hid (stay b4 F03.out)
       have F24 := Lib.hid (stay b4 F23.out)
       have HW4 := Lib.hid b4
       clear b4))
  clear g0 g1 r3 KA
  have g0 : w4.cell? ⟨w.heap.size, 0, none⟩ = some (.slice Pk kn.length ck) := blk_cell F04.out rfl
  have g1 : w4.cell? ⟨w.heap.size, 1, none⟩ = some (.slice (some ⟨b, off, none⟩) al.length ca) := blk_cell F04.out rfl
  have g2 : w4.cell? ⟨b, off + k * 21 + 20, none⟩ = some (.int .i64 (t.2 : Int)) := ((HRt.out.sub (hp_below HB4.out)).at) 20 _ (tcs_n t)
  have hvk : (Value.slice Pk kn.length ck).oneCell' = true := rfl
  have KW := Lib.hid (without_walk k w4 HD.out (HZ0.out.trans (hp_below HB4.out)))
  go_upto_region 5 with fail
  clear g2
  go_wp2_with (first
    | (go_at_call 31
       refine KW.out.mono ?_
       rintro e w5 ⟨va', rfl, ho, b5⟩
       obtain ⟨A5, c5, e5⟩ := own_sl ho
       subst e5
       have HO5 := Lib.hid ho
       have HB5 := Lib.hid (HB4.out.trans (b5.mono HB4.out.size))
       have F25 := Lib.hid (stay b5 F24.out)
       have one2 : (#[.slice Pk kn.length ck, .slice A5 (al.eraseIdx k).length c5] : Array Value).all (·.oneCell') = true := by simp [Value.oneCell']
       clear ho b5)
    | (refine wpList_store_row rfl 28 _ _ rfl (w.heap.size + 1 + 1) _ #[.slice Pk kn.length ck, .slice A5 (al.eraseIdx k).length c5] rfl rfl F25.out infoC2 rfl one2 ?_))
  have h24 : w.heap.size + 2 < w4.heap.size := (Array.getElem?_eq_some_iff.1 F24.out).1
  have HBe := below_setRow HB5.out (show w.heap.size ≤ w.heap.size + 1 + 1 by omega) #[.slice Pk kn.length ck, .slice A5 (al.eraseIdx k).length c5]
  exact bodyPost_ret (v := .tuple #[.int .u8 5, .agg #[.slice Pk kn.length ck, .slice A5 (al.eraseIdx k).length c5]]) (results_tc rfl _ _ _ 28 _ (0, 0) _ _ rfl (blk_row F25.out) Try.underlying28 rfl infoC2 rfl) rfl
    ⟨_, rfl, doc_set HD.out (HZ0.out.trans (hp_below HBe)) (by omega) (fun t ht => HD.out.lt t (List.mem_of_mem_eraseIdx ht)) (List.length_eraseIdx_le _ _) (own_same HO5.out fun b hb => setRow_other _ _ _ _ (by have := (HO5.out.lt b hb).1; omega)), HBe⟩
theorem own_pos {w : World} {base : Nat} {e : TypeId} {k n : Nat} {v : Value} {xs : List Value} (h : w.ownsRow base e k v n xs) (hn : 0 < n) : ∃ g c, v = .slice (some ⟨g, 0, none⟩) n c := by
  rcases h.2 with ⟨_, h0⟩ | ⟨g, cap, cur, rfl, _⟩
  · omega
  · exact ⟨_, _, rfl⟩
set_option maxHeartbeats 2000000 in
theorem rfail_again {Z : Hp} {vk va : Value} {kn : List AV} {al : List (Nat × Nat)} (A : Nat) (w : World) (h : DocAt Z vk va kn al) (hz : Sub Z (hp w)) (hA : A < 2 ^ 160) (k : Nat) (t : Nat × Nat) (hk : atI al A = (k : Int)) (ht : al[k]? = some t) (h8 : t.2 + 1 < 8) :
    Calls Try.prog 14 #[.agg #[vk, va], .agg (aN A)] w (RWantIs Z w vk kn 4 (al.set k (t.1, t.2 + 1))) := by
  have hs := aN_size A
  obtain ⟨W3, hW, f0, f1, f2, bW, sW⟩ := wboxes3 w vk va A
  have HD := Lib.hid h
  have KA := Lib.hid (at_walk A W3 h (hz.trans (hp_below bW)) hA)
  have HB3 := Lib.hid bW
  have F03 := Lib.hid f0
  have F23 := Lib.hid f2
  have F13 := Lib.hid f1
  have r3 := adblk f1
  have HA := Lib.hid hA
  have HZ0 := Lib.hid hz
  obtain ⟨Pk, ck, ek, -⟩ := h.kz.row.val
  obtain ⟨Pa, ca, ea, -⟩ := h.az.val
  subst ek
  subst ea
  have g0 : W3.cell? ⟨w.heap.size, 0, none⟩ = some (.slice Pk kn.length ck) := blk_cell F03.out rfl
  have g1 : W3.cell? ⟨w.heap.size, 1, none⟩ = some (.slice Pa al.length ca) := blk_cell F03.out rfl
  rw [hk] at KA
  obtain ⟨Px, cx, ex, hn, hc, hP, hcells⟩ := h.az.one (fun x _ => tcs_len x)
  have hkl : k < al.length := (List.getElem?_eq_some_iff.1 ht).1
  obtain ⟨b, off, eb, -, hi⟩ := hcells (by omega)
  subst eb
  have HRt := Lib.hid ((hi k t ht).sub hz)
  obtain ⟨rfl, rfl⟩ : Pa = some ⟨b, off, none⟩ ∧ ca = cx := by simpa using ex
  have hll := h.all
  have hHt := Lib.hid ht
  clear hi hcells hP ex f0 f1 f2 bW h hz sW hA ht hk
  have h21 := t.2
  go_enter Try.func14, Try.ntmps14
  go_upto_region 1 with fail
  clear hW
  go_upto_region 4 with (first
    | (refine wpList_load_mid rfl 32 _ rfl (w.heap.size + 1) 0 rfl (aN A).toList _ r3 Try.underlying32 rfl (infoAd A) ?_; simp only [Array.toArray_toList])
    | (go_at_call 18
       refine KA.out.mono ?_
       rintro e w4 ⟨rfl, b4⟩
       have HB4 := Lib.hid (HB3.out.trans (b4.mono HB3.out.size))
       have F04 := Lib.hid (stay b4 F03.out)
       have F24 := Lib.hid (stay b4 F23.out)
       have HW4 := Lib.hid b4
       clear b4))
  clear g0 g1 r3 KA
  have g0 : w4.cell? ⟨w.heap.size, 0, none⟩ = some (.slice Pk kn.length ck) := blk_cell F04.out rfl
  have g1 : w4.cell? ⟨w.heap.size, 1, none⟩ = some (.slice (some ⟨b, off, none⟩) al.length ca) := blk_cell F04.out rfl
  have g2 : w4.cell? ⟨b, off + k * 21 + 20, none⟩ = some (.int .i64 (t.2 : Int)) := ((HRt.out.sub (hp_below HB4.out)).at) 20 _ (tcs_n t)
  go_upto_region 7 with fail
  clear g0 g1 g2
  have HO5 := Lib.hid (own_emptyT w4 w4.heap.size (Nat.le_refl _))
  have HB5 : Hid (Below w4.heap.size w4 (w4.alloc (.cells #[] 53))) := Lib.hid ((Below.refl _ _).alloc (Nat.le_refl _) _)
  generalize w4.alloc (.cells #[] 53) = W5 at *
  have F05 := Lib.hid (stay HB5.out F04.out)
  have g1 : W5.cell? ⟨w.heap.size, 1, none⟩ = some (.slice (some ⟨b, off, none⟩) al.length ca) := blk_cell F05.out rfl
  have HR5 := Lib.hid (HD.out.az.sub (HZ0.out.trans ((hp_below HB4.out).trans (hp_below HB5.out))))
  have hz5 := HB5.out.size
  have T1 := Lib.hid (fun u hu => by obtain ⟨t, _, h2⟩ := List.mem_flatMap.1 hu; exact tcs_one t u h2 : ∀ u ∈ al.flatMap tcs, u.oneCell' = true)
  go_upto_region 8 with (first
    | (refine append_row rfl _ _ 26 rfl 53 (.agg (tcs (0, 0)).toArray) 21 32 Try.underlying26 infoT21 (by simp [Value.cells, tcs_len]) (by decide) (by decide) w4.heap.size _ 0 [] rfl HO5.out (.slice (some ⟨b, off, none⟩) al.length ca) al.length (al.flatMap tcs) rfl HR5.out T1.out (by omega) (by omega) ?_
       intro v6 w6 ho6 hg6 hl6
       simp only [Nat.zero_add, List.nil_append] at ho6
       have HO6 := Lib.hid ho6
       have HB6 : Hid (Below w4.heap.size w4 w6) := Lib.hid (HB5.out.grown hg6 (by omega) (fun k hk => (HO5.out.lt k hk).1))
       obtain ⟨g6, c6, rfl⟩ := own_pos ho6 (by omega)
       clear ho6 hg6 hl6))
  clear g1 hz5
  have F06 := Lib.hid (stay HB6.out F04.out)
  have F26 := Lib.hid (stay HB6.out F24.out)
  have c7 : w6.cell? ⟨g6, k * 21 + 20, none⟩ = some (.int .i64 (t.2 : Int)) := by
    rw [HO6.out.cellAt (k * 21 + 20) (by omega)]
    exact flat_get al (fun x _ => tcs_len x) k t hHt.out 20 _ (tcs_n t)
  have z7 := HO6.out.frozenAt (k * 21 + 20)
  have HS := Lib.hid (HO6.out.stored (k * 21 + 20) (.int .i64 ((t.2 : Int) + 1)))
  have hwr : IntKind.i64.wrap ((t.2 : Int) + 1) = (t.2 : Int) + 1 := wrap_i64 (by omega)
  go_upto_region 9 with fail
  have HG6 : Hid (w4.heap.size ≤ g6) := Lib.hid (HO6.out.lt g6 rfl).1
  have h04 : w.heap.size < w4.heap.size := (Array.getElem?_eq_some_iff.1 F04.out).1
  have h24 : w.heap.size + 2 < w4.heap.size := (Array.getElem?_eq_some_iff.1 F24.out).1
  have H04 := Lib.hid h04
  have H24 := Lib.hid h24
  have hg6 := HG6.out
  have F08 : Hid ((w6.setCell ⟨g6, k * 21 + 20, none⟩ (.int .i64 ((t.2 : Int) + 1))).heap[w.heap.size]? = _) := Lib.hid ((Below.heap_setCell _ _ _ _ (by simp; omega)).trans F06.out)
  have F28 : Hid ((w6.setCell ⟨g6, k * 21 + 20, none⟩ (.int .i64 ((t.2 : Int) + 1))).heap[w.heap.size + 2]? = _) := Lib.hid ((Below.heap_setCell _ _ _ _ (by simp; omega)).trans F26.out)
  have HB8 : Hid (Below w4.heap.size w4 (w6.setCell ⟨g6, k * 21 + 20, none⟩ (.int .i64 ((t.2 : Int) + 1)))) := Lib.hid (HB6.out.setCell hg6 _)
  have HO8 : Hid ((w6.setCell ⟨g6, k * 21 + 20, none⟩ (.int .i64 ((t.2 : Int) + 1))).ownsRow w4.heap.size 53 21 (.slice (some ⟨g6, 0, none⟩) al.length c6) al.length ((al.set k (t.1, t.2 + 1)).flatMap tcs)) := Lib.hid (by
    rw [← set_flat al k t (t.2 + 1) hHt.out]
    have := HS.out.1
    simpa [i64v] using this)
  clear hg6 h04 h24 c7 z7 hwr HS
  generalize w6.setCell ⟨g6, k * 21 + 20, none⟩ (.int .i64 ((t.2 : Int) + 1)) = w8 at *
  have c8' : w8.cell? ⟨w.heap.size, 1, none⟩ = some (.slice (some ⟨b, off, none⟩) al.length ca) := blk_cell F08.out rfl
  have z8 := blk_frozen (j := 1) F08.out
  go_upto_region 10 with fail
  clear c8' z8
  have HB9 : Hid (Below w.heap.size w (w8.setCell ⟨w.heap.size, 1, none⟩ (.slice (some ⟨g6, 0, none⟩) al.length c6))) := Lib.hid ((HB4.out.trans (HB8.out.mono HB4.out.size)).setCell (Nat.le_refl _) _)
  have F09 : Hid ((w8.setCell ⟨w.heap.size, 1, none⟩ (.slice (some ⟨g6, 0, none⟩) al.length c6)).heap[w.heap.size]? = some (.cells #[.slice Pk kn.length ck, .slice (some ⟨g6, 0, none⟩) al.length c6] 28)) := Lib.hid (by have := blk_set F08.out (j := 1) (.slice (some ⟨g6, 0, none⟩) al.length c6); simpa using this)
  have F29 : Hid ((w8.setCell ⟨w.heap.size, 1, none⟩ (.slice (some ⟨g6, 0, none⟩) al.length c6)).heap[w.heap.size + 2]? = _) := Lib.hid (blk_other F28.out (by omega) (j := 1) _)
  have HO9 : Hid ((w8.setCell ⟨w.heap.size, 1, none⟩ (.slice (some ⟨g6, 0, none⟩) al.length c6)).ownsRow w4.heap.size 53 21 (.slice (some ⟨g6, 0, none⟩) al.length c6) al.length ((al.set k (t.1, t.2 + 1)).flatMap tcs)) := Lib.hid (own_same HO8.out fun b hb => Below.heap_setCell _ _ _ _ (by have := (HO8.out.lt b hb).1; have := H04.out; simp; omega))
  generalize w8.setCell ⟨w.heap.size, 1, none⟩ (.slice (some ⟨g6, 0, none⟩) al.length c6) = W9 at *
  clear F08 F28 HO8 HB8 F06 HB6 HO6 HB5 HO5 HR5 F05
  have g0 : W9.drew.cell? ⟨w.heap.size, 0, none⟩ = some (.slice Pk kn.length ck) := blk_cell (w := W9.drew) F09.out rfl
  have g1 : W9.drew.cell? ⟨w.heap.size, 1, none⟩ = some (.slice (some ⟨g6, 0, none⟩) al.length c6) := blk_cell (w := W9.drew) F09.out rfl
  have g2 : W9.drew.cell? ⟨w.heap.size + 1 + 1, 0, none⟩ = some (.slice none 0 0) := blk_cell (w := W9.drew) F29.out rfl
  have g3 : W9.drew.cell? ⟨w.heap.size + 1 + 1, 1, none⟩ = some (.slice none 0 0) := blk_cell (w := W9.drew) F29.out rfl
  have z2 : W9.drew.frozen? ⟨w.heap.size + 1 + 1, 0, none⟩ = false := blk_frozen (w := W9.drew) (j := 0) F29.out
  have z3 : W9.drew.frozen? ⟨w.heap.size + 1 + 1, 1, none⟩ = false := blk_frozen (w := W9.drew) (j := 1) F29.out
  have k2 : W9.cell? ⟨w.heap.size + 1 + 1, 0, none⟩ = some (.slice none 0 0) := g2
  have k3 : W9.cell? ⟨w.heap.size + 1 + 1, 1, none⟩ = some (.slice none 0 0) := g3
  have y2 : W9.frozen? ⟨w.heap.size + 1 + 1, 0, none⟩ = false := z2
  have y3 : W9.frozen? ⟨w.heap.size + 1 + 1, 1, none⟩ = false := z3
  go_upto_region 10 with fail
  go_region
  have G := set2 (x := .slice Pk kn.length ck) (y := .slice (some ⟨g6, 0, none⟩) al.length c6) F29.out
  have HG := Lib.hid (show ((W9.setCell ⟨w.heap.size + 1 + 1, 0, none⟩ (.slice Pk kn.length ck)).setCell ⟨w.heap.size + 1 + 1, 1, none⟩ (.slice (some ⟨g6, 0, none⟩) al.length c6)).drew.heap[w.heap.size + 1 + 1]? = _ from G)
  have HBe : Hid (Below w.heap.size w ((W9.setCell ⟨w.heap.size + 1 + 1, 0, none⟩ (.slice Pk kn.length ck)).setCell ⟨w.heap.size + 1 + 1, 1, none⟩ (.slice (some ⟨g6, 0, none⟩) al.length c6)).drew) := Lib.hid ((HB9.out.setCell (show w.heap.size ≤ w.heap.size + 1 + 1 by omega) _).setCell (show w.heap.size ≤ w.heap.size + 1 + 1 by omega) _).drew
  clear G g0 g1 g2 g3 z2 z3 k2 k3 y2 y3
  go_wp2_with fail
  exact bodyPost_ret (v := .tuple #[.int .u8 4, .agg #[.slice Pk kn.length ck, .slice (some ⟨g6, 0, none⟩) al.length c6]]) (results_tc rfl _ _ _ 28 _ (0, 0) _ _ rfl HG.out Try.underlying28 rfl infoC2 rfl) rfl ⟨_, rfl, doc_set HD.out (HZ0.out.trans (hp_below HBe.out)) (Nat.le_of_lt H04.out) (set_lt HD.out.lt ⟨(HD.out.lt t (List.mem_of_getElem? hHt.out)).1, h8⟩) (by simp) (by rw [List.length_set]; exact own_same HO9.out fun b hb => by have := (HO9.out.lt b hb).1; have := H24.out; show ((W9.setCell _ _).setCell _ _).heap[b]? = _; rw [Below.heap_setCell _ _ _ _ (by simp; omega), Below.heap_setCell _ _ _ _ (by simp; omega)]), HBe.out⟩
/-- What the document's Fail answers, and what is being fetched behind it. -/
def rfN (al : List (Nat × Nat)) (A : Nat) : Nat := if 0 ≤ atI al A then (if (al.getD (atI al A).toNat (0, 0)).2 + 1 < 8 then 4 else 5) else 0
def rfL (al : List (Nat × Nat)) (A : Nat) : List (Nat × Nat) := if 0 ≤ atI al A then (if (al.getD (atI al A).toNat (0, 0)).2 + 1 < 8 then al.set (atI al A).toNat (A, (al.getD (atI al A).toNat (0, 0)).2 + 1) else al.eraseIdx (atI al A).toNat) else al
theorem rfail_walk {Z : Hp} {vk va : Value} {kn : List AV} {al : List (Nat × Nat)} (A : Nat) (w : World) (h : DocAt Z vk va kn al) (hz : Sub Z (hp w)) (hA : A < 2 ^ 160) :
    Calls Try.prog 14 #[.agg #[vk, va], .agg (aN A)] w (RWantIs Z w vk kn (rfN al A) (rfL al A)) := by
  unfold rfN rfL
  by_cases ha : 0 ≤ atI al A
  · obtain ⟨k, t, hk, ht, hA'⟩ := atI_pos ha
    have e : al.getD (atI al A).toNat (0, 0) = t := by rw [hk]; simp [List.getD, ht]
    simp only [ha, if_true, e]
    by_cases h8 : t.2 + 1 < 8
    · simp only [h8, if_true]
      have := rfail_again A w h hz hA k t hk ht h8
      rw [hA'] at this
      rw [hk]
      exact this
    · simp only [h8, if_false]
      rw [hk]
      exact rfail_lost A w h hz hA k t hk ht h8 (h.lt t (List.mem_of_getElem? ht)).2
  · simp only [ha, if_false]
    exact rfail_none A w h hz hA ha
end Go.Proofs.Ytdgenbidgieojaa
/- The document's cache: Fill. -/
namespace Go.Proofs.Ytdgenbidgieojaa
open Go.RowKit SmWord Go.Maps
set_option maxRecDepth 100000
theorem putV_mem {x : AV} : ∀ {l : List AV} {y : AV}, y ∈ putV x l → y = x ∨ y ∈ l
  | [], y, h => by simp [putV] at h; exact .inl h
  | z :: l, y, h => by
    unfold putV at h
    split at h
    · simp at h; rcases h with rfl | rfl | h <;> simp [*]
    · split at h
      · simp at h; rcases h with rfl | h <;> simp [*]
      · simp at h
        rcases h with rfl | h
        · simp
        · rcases putV_mem h with rfl | h' <;> simp [*]
theorem putA_len {a : Acc} : ∀ L : List Acc, (putA a L).length ≤ L.length + 1
  | [] => by simp [putA]
  | x :: L => by
    unfold putA
    split
    · simp
    · split
      · simp
      · have := putA_len (a := a) L; simp; omega
theorem putV_len (x : AV) (l : List AV) : (putV x l).length ≤ l.length + 1 := by
  have h1 := congrArg List.length (putV_map x l)
  rw [List.length_map] at h1
  have h2 := putA_len (a := x.a) (l.map AV.a)
  rw [List.length_map] at h2
  omega
theorem doc_fill {Z : Hp} {vk va v v' : Value} {kn : List AV} {al : List (Nat × Nat)} {B B0 k : Nat} {w' : World} {x : AV} (h : DocAt Z vk va kn al) (hz : Sub Z (hp w')) (hx : AccZ Z x) (hB : B0 ≤ B) (hl : kn.length < 100000)
    (hp' : w'.ownsRow B 39 27 v' (putV x kn).length ((putV x kn).flatMap acs)) (ho : w'.ownsRow B 53 21 v (al.eraseIdx k).length ((al.eraseIdx k).flatMap tcs)) : DocAt (orH Z (fr B0 w')) v' v (putV x kn) (al.eraseIdx k) := by
  have hs : Sub (fr B w') (orH Z (fr B0 w')) := (fr_mono hB w').trans (orH_in hz (fr_sub _ _))
  refine ⟨⟨(RowZ.ownF hp').sub hs, fun y hy => ?_⟩, (RowZ.ownF ho).sub hs, fun t ht => h.lt t (List.mem_of_mem_eraseIdx ht), by have := putV_len x kn; omega, Nat.le_trans (List.length_eraseIdx_le _ _) h.all⟩
  rcases putV_mem hy with rfl | hy
  · exact hx.sub (orH_left _ _)
  · exact (h.kz.each y hy).sub (orH_left _ _)
def RFillIs (Z : Hp) (w : World) (q : Bool) (kn : List AV) (l : List (Nat × Nat)) (e : Ending) (w' : World) : Prop :=
  ∃ vk' va', e = .returned (.tuple #[.bool q, .agg #[vk', va']]) ∧ DocAt (orH Z (fr w.heap.size w')) vk' va' kn l ∧ Below w.heap.size w w'
/-- The boxes. -/
theorem wboxesF (w : World) (vk va : Value) (x : AV) : ∃ W, ((w.alloc (.cells #[vk, va] 28)).alloc (.cells (acs x).toArray 39)).alloc (.cells #[.slice none 0 0, .slice none 0 0] 28) = W ∧ W.heap[w.heap.size]? = some (.cells #[vk, va] 28) ∧ W.heap[w.heap.size + 1]? = some (.cells (acs x).toArray 39) ∧ W.heap[w.heap.size + 2]? = some (.cells #[.slice none 0 0, .slice none 0 0] 28) ∧ Below w.heap.size w W ∧ W.heap.size = w.heap.size + 3 := by
  refine ⟨_, rfl, blk_alloc (blk_alloc (heap_alloc_new _ _)), blk_alloc (heap_alloc2_new _ _ _), ?_, (((Below.refl _ _).alloc (Nat.le_refl _) _).alloc (by simp) _).alloc (by simp; omega) _, by simp⟩
  have := heap_alloc_new ((w.alloc (.cells #[vk, va] 28)).alloc (.cells (acs x).toArray 39)) (.cells #[.slice none 0 0, .slice none 0 0] 28)
  simpa using this
set_option maxHeartbeats 2000000 in
theorem rfill_none {Z : Hp} {vk va : Value} {kn : List AV} {al : List (Nat × Nat)} (x : AV) (w : World) (h : DocAt Z vk va kn al) (hz : Sub Z (hp w)) (hx : AccZ Z x) (ha : ¬ 0 ≤ atI al x.a.ad) :
    Calls Try.prog 12 #[.agg #[vk, va], aval x] w (RFillIs Z w false kn al) := by
  unfold aval
  have hs := aN_size x.a.ad
  have hxs : (acs x).toArray.size = 27 := by simp [acs_len]
  obtain ⟨W3, hW, f0, f1, f2, bW, sW⟩ := wboxesF w vk va x
  have HD := Lib.hid h
  have KA := Lib.hid (at_walk x.a.ad W3 h (hz.trans (hp_below bW)) hx.ad)
  have HB3 := Lib.hid bW
  have F03 := Lib.hid f0
  have F13 := Lib.hid f1
  have F23 := Lib.hid f2
  have r3 := (boxcells f1).2.2.2.2
  have HX := Lib.hid hx
  have HZ0 := Lib.hid hz
  obtain ⟨Pk, ck, ek, -⟩ := h.kz.row.val
  obtain ⟨Pa, ca, ea, -⟩ := h.az.val
  subst ek
  subst ea
  have g0 : W3.cell? ⟨w.heap.size, 0, none⟩ = some (.slice Pk kn.length ck) := blk_cell F03.out rfl
  have g1 : W3.cell? ⟨w.heap.size, 1, none⟩ = some (.slice Pa al.length ca) := blk_cell F03.out rfl
  generalize atI al x.a.ad = q at *
  clear f0 f1 f2 bW h hz hx sW
  go_enter Try.func12, Try.ntmps12
  go_upto_region 1 with fail
  clear hW
  go_upto_region 2 with (first
    | (refine wpList_load_mid rfl 32 _ rfl (w.heap.size + 1) 0 rfl (aN x.a.ad).toList _ r3 Try.underlying32 rfl (infoAd _) ?_; simp only [Array.toArray_toList])
    | (go_at_call 18
       refine KA.out.mono ?_
       rintro e w4 ⟨rfl, b4⟩
       have HB4 := Lib.hid (HB3.out.trans (b4.mono HB3.out.size))
       have F04 := Lib.hid (stay b4 F03.out)
       have F14 := Lib.hid (stay b4 F13.out)
       have F24 := Lib.hid (stay b4 F23.out)
       clear b4))
  clear g0 g1 r3 KA
  go_upto_region 3 with fail
  have g0 : w4.drew.cell? ⟨w.heap.size, 0, none⟩ = some (.slice Pk kn.length ck) := blk_cell (w := w4.drew) F04.out rfl
  have g1 : w4.drew.cell? ⟨w.heap.size, 1, none⟩ = some (.slice Pa al.length ca) := blk_cell (w := w4.drew) F04.out rfl
  have g2 : w4.drew.cell? ⟨w.heap.size + 1 + 1, 0, none⟩ = some (.slice none 0 0) := blk_cell (w := w4.drew) F24.out rfl
  have g3 : w4.drew.cell? ⟨w.heap.size + 1 + 1, 1, none⟩ = some (.slice none 0 0) := blk_cell (w := w4.drew) F24.out rfl
  have z2 : w4.drew.frozen? ⟨w.heap.size + 1 + 1, 0, none⟩ = false := blk_frozen (w := w4.drew) (j := 0) F24.out
  have z3 : w4.drew.frozen? ⟨w.heap.size + 1 + 1, 1, none⟩ = false := blk_frozen (w := w4.drew) (j := 1) F24.out
  have k2 : w4.cell? ⟨w.heap.size + 1 + 1, 0, none⟩ = some (.slice none 0 0) := g2
  have k3 : w4.cell? ⟨w.heap.size + 1 + 1, 1, none⟩ = some (.slice none 0 0) := g3
  have y2 : w4.frozen? ⟨w.heap.size + 1 + 1, 0, none⟩ = false := z2
  have y3 : w4.frozen? ⟨w.heap.size + 1 + 1, 1, none⟩ = false := z3
  go_region
  have G := set2 (x := .slice Pk kn.length ck) (y := .slice Pa al.length ca) F24.out
  have HG := Lib.hid (show ((w4.setCell ⟨w.heap.size + 1 + 1, 0, none⟩ (.slice Pk kn.length ck)).setCell ⟨w.heap.size + 1 + 1, 1, none⟩ (.slice Pa al.length ca)).drew.heap[w.heap.size + 1 + 1]? = _ from G)
  have HBe : Hid (Below w.heap.size w ((w4.setCell ⟨w.heap.size + 1 + 1, 0, none⟩ (.slice Pk kn.length ck)).setCell ⟨w.heap.size + 1 + 1, 1, none⟩ (.slice Pa al.length ca)).drew) := Lib.hid ((HB4.out.setCell (show w.heap.size ≤ w.heap.size + 1 + 1 by omega) _).setCell (show w.heap.size ≤ w.heap.size + 1 + 1 by omega) _).drew
  clear G g0 g1 g2 g3 z2 z3 k2 k3 y2 y3
  go_wp2_with fail
  exact bodyPost_ret (v := .tuple #[.bool false, .agg #[.slice Pk kn.length ck, .slice Pa al.length ca]]) (results_tc rfl _ _ _ 28 _ (0, 0) _ _ rfl HG.out Try.underlying28 rfl infoC2 rfl) rfl ⟨_, _, rfl, HD.out.orL, HBe.out⟩
set_option maxHeartbeats 2000000 in
theorem rfill_wrong {Z : Hp} {vk va : Value} {kn : List AV} {al : List (Nat × Nat)} (x : AV) (w : World) (h : DocAt Z vk va kn al) (hz : Sub Z (hp w)) (hx : AccZ Z x) (k : Nat) (hk : atI al x.a.ad = (k : Int)) (hr : rightA x.a = false) :
    Calls Try.prog 12 #[.agg #[vk, va], aval x] w (RFillIs Z w false kn al) := by
  unfold aval
  have hs := aN_size x.a.ad
  have hxs : (acs x).toArray.size = 27 := by simp [acs_len]
  obtain ⟨W3, hW, f0, f1, f2, bW, sW⟩ := wboxesF w vk va x
  have HD := Lib.hid h
  have KA := Lib.hid (at_walk x.a.ad W3 h (hz.trans (hp_below bW)) hx.ad)
  have HB3 := Lib.hid bW
  have F03 := Lib.hid f0
  have F13 := Lib.hid f1
  have F23 := Lib.hid f2
  have r3 := (boxcells f1).2.2.2.2
  have HX := Lib.hid hx
  have HZ0 := Lib.hid hz
  obtain ⟨Pk, ck, ek, -⟩ := h.kz.row.val
  obtain ⟨Pa, ca, ea, -⟩ := h.az.val
  subst ek
  subst ea
  have g0 : W3.cell? ⟨w.heap.size, 0, none⟩ = some (.slice Pk kn.length ck) := blk_cell F03.out rfl
  have g1 : W3.cell? ⟨w.heap.size, 1, none⟩ = some (.slice Pa al.length ca) := blk_cell F03.out rfl
  rw [hk] at KA
  clear f0 f1 f2 bW h hz hx sW
  go_enter Try.func12, Try.ntmps12
  go_upto_region 1 with fail
  clear hW
  go_upto_region 2 with (first
    | (refine wpList_load_mid rfl 32 _ rfl (w.heap.size + 1) 0 rfl (aN x.a.ad).toList _ r3 Try.underlying32 rfl (infoAd _) ?_; simp only [Array.toArray_toList])
    | (go_at_call 18
       refine KA.out.mono ?_
       rintro e w4 ⟨rfl, b4⟩
       have HB4 := Lib.hid (HB3.out.trans (b4.mono HB3.out.size))
       have F04 := Lib.hid (stay b4 F03.out)
       have F14 := Lib.hid (stay b4 F13.out)
       have F24 := Lib.hid (stay b4 F23.out)
       clear b4))
  clear g0 g1 r3 KA
  have KR := Lib.hid (rright_walk x w4 (HX.out.sub (HZ0.out.trans (hp_below HB4.out))))
  unfold aval at KR
  rw [hr] at KR
  have r4 := (rng_block F14.out).at
  go_upto_region 3 with (first
    | (refine load_midG (by rfl) 39 _ rfl (w.heap.size + 1) 0 rfl (acs x) _ r4 Try.underlying39 rfl (infoAcs _) ?_)
    | (go_at_call 25
       refine KR.out.mono ?_
       rintro e w5 ⟨rfl, b5⟩
       have HB5 := Lib.hid (HB4.out.trans (b5.mono HB4.out.size))
       have F05 := Lib.hid (stay b5 F04.out)
       have F15 := Lib.hid (stay b5 F14.out)
       have F25 := Lib.hid (stay b5 F24.out)
       clear b5))
  clear r4 KR
  have g0 : w5.drew.cell? ⟨w.heap.size, 0, none⟩ = some (.slice Pk kn.length ck) := blk_cell (w := w5.drew) F05.out rfl
  have g1 : w5.drew.cell? ⟨w.heap.size, 1, none⟩ = some (.slice Pa al.length ca) := blk_cell (w := w5.drew) F05.out rfl
  have g2 : w5.drew.cell? ⟨w.heap.size + 1 + 1, 0, none⟩ = some (.slice none 0 0) := blk_cell (w := w5.drew) F25.out rfl
  have g3 : w5.drew.cell? ⟨w.heap.size + 1 + 1, 1, none⟩ = some (.slice none 0 0) := blk_cell (w := w5.drew) F25.out rfl
  have z2 : w5.drew.frozen? ⟨w.heap.size + 1 + 1, 0, none⟩ = false := blk_frozen (w := w5.drew) (j := 0) F25.out
  have z3 : w5.drew.frozen? ⟨w.heap.size + 1 + 1, 1, none⟩ = false := blk_frozen (w := w5.drew) (j := 1) F25.out
  have k2 : w5.cell? ⟨w.heap.size + 1 + 1, 0, none⟩ = some (.slice none 0 0) := g2
  have k3 : w5.cell? ⟨w.heap.size + 1 + 1, 1, none⟩ = some (.slice none 0 0) := g3
  have y2 : w5.frozen? ⟨w.heap.size + 1 + 1, 0, none⟩ = false := z2
  have y3 : w5.frozen? ⟨w.heap.size + 1 + 1, 1, none⟩ = false := z3
  go_region
  have G := set2 (x := .slice Pk kn.length ck) (y := .slice Pa al.length ca) F25.out
  have HG := Lib.hid (show ((w5.setCell ⟨w.heap.size + 1 + 1, 0, none⟩ (.slice Pk kn.length ck)).setCell ⟨w.heap.size + 1 + 1, 1, none⟩ (.slice Pa al.length ca)).drew.heap[w.heap.size + 1 + 1]? = _ from G)
  have HBe : Hid (Below w.heap.size w ((w5.setCell ⟨w.heap.size + 1 + 1, 0, none⟩ (.slice Pk kn.length ck)).setCell ⟨w.heap.size + 1 + 1, 1, none⟩ (.slice Pa al.length ca)).drew) := Lib.hid ((HB5.out.setCell (show w.heap.size ≤ w.heap.size + 1 + 1 by omega) _).setCell (show w.heap.size ≤ w.heap.size + 1 + 1 by omega) _).drew
  clear G g0 g1 g2 g3 z2 z3 k2 k3 y2 y3
  go_wp2_with fail
  exact bodyPost_ret (v := .tuple #[.bool false, .agg #[.slice Pk kn.length ck, .slice Pa al.length ca]]) (results_tc rfl _ _ _ 28 _ (0, 0) _ _ rfl HG.out Try.underlying28 rfl infoC2 rfl) rfl ⟨_, _, rfl, HD.out.orL, HBe.out⟩
set_option maxHeartbeats 2000000 in
theorem rfill_yes {Z : Hp} {vk va : Value} {kn : List AV} {al : List (Nat × Nat)} (x : AV) (w : World) (h : DocAt Z vk va kn al) (hz : Sub Z (hp w)) (hx : AccZ Z x) (k : Nat) (hk : atI al x.a.ad = (k : Int)) (hr : rightA x.a = true) (hsr : Srt (kn.map AV.a)) (hl : kn.length < 100000) :
    Calls Try.prog 12 #[.agg #[vk, va], aval x] w (RFillIs Z w true (putV x kn) (al.eraseIdx k)) := by
  unfold aval
  have hs := aN_size x.a.ad
  have hxs : (acs x).toArray.size = 27 := by simp [acs_len]
  obtain ⟨W3, hW, f0, f1, f2, bW, sW⟩ := wboxesF w vk va x
  have HD := Lib.hid h
  have KA := Lib.hid (at_walk x.a.ad W3 h (hz.trans (hp_below bW)) hx.ad)
  have HB3 := Lib.hid bW
  have F03 := Lib.hid f0
  have F13 := Lib.hid f1
  have F23 := Lib.hid f2
  have r3 := (boxcells f1).2.2.2.2
  have HX := Lib.hid hx
  have HZ0 := Lib.hid hz
  obtain ⟨Pk, ck, ek, -⟩ := h.kz.row.val
  obtain ⟨Pa, ca, ea, -⟩ := h.az.val
  subst ek
  subst ea
  have g0 : W3.cell? ⟨w.heap.size, 0, none⟩ = some (.slice Pk kn.length ck) := blk_cell F03.out rfl
  have g1 : W3.cell? ⟨w.heap.size, 1, none⟩ = some (.slice Pa al.length ca) := blk_cell F03.out rfl
  rw [hk] at KA
  clear f0 f1 f2 bW h hz hx sW
  go_enter Try.func12, Try.ntmps12
  go_upto_region 1 with fail
  clear hW
  go_upto_region 2 with (first
    | (refine wpList_load_mid rfl 32 _ rfl (w.heap.size + 1) 0 rfl (aN x.a.ad).toList _ r3 Try.underlying32 rfl (infoAd _) ?_; simp only [Array.toArray_toList])
    | (go_at_call 18
       refine KA.out.mono ?_
       rintro e w4 ⟨rfl, b4⟩
       have HB4 := Lib.hid (HB3.out.trans (b4.mono HB3.out.size))
       have F04 := Lib.hid (stay b4 F03.out)
       have F14 := Lib.hid (stay b4 F13.out)
       have F24 := Lib.hid (stay b4 F23.out)
       clear b4))
  clear g0 g1 r3 KA
  have KR := Lib.hid (rright_walk x w4 (HX.out.sub (HZ0.out.trans (hp_below HB4.out))))
  unfold aval at KR
  rw [hr] at KR
  have r4 := (rng_block F14.out).at
  go_upto_region 4 with (first
    | (refine load_midG (by rfl) 39 _ rfl (w.heap.size + 1) 0 rfl (acs x) _ r4 Try.underlying39 rfl (infoAcs _) ?_)
    | (go_at_call 25
       refine KR.out.mono ?_
       rintro e w5 ⟨rfl, b5⟩
       have HB5 := Lib.hid (HB4.out.trans (b5.mono HB4.out.size))
       have F05 := Lib.hid (stay b5 F04.out)
       have F15 := Lib.hid (stay b5 F14.out)
       have F25 := Lib.hid (stay b5 F24.out)
       clear b5))
  clear r4 KR
  have g0 : w5.cell? ⟨w.heap.size, 0, none⟩ = some (.slice Pk kn.length ck) := blk_cell F05.out rfl
  have g1 : w5.cell? ⟨w.heap.size, 1, none⟩ = some (.slice Pa al.length ca) := blk_cell F05.out rfl
  have KW := Lib.hid (without_walk k w5 HD.out (HZ0.out.trans (hp_below HB5.out)))
  go_upto_region 5 with (first
    | (go_at_call 31
       refine KW.out.mono ?_
       rintro e w6 ⟨va', rfl, ho, b6⟩
       obtain ⟨A6, c6, e6⟩ := own_sl ho
       subst e6
       have HO6 := Lib.hid ho
       have HB6 := Lib.hid (HB5.out.trans (b6.mono HB5.out.size))
       have B56 := Lib.hid b6
       have F06 := Lib.hid (stay b6 F05.out)
       have F16 := Lib.hid (stay b6 F15.out)
       have F26 := Lib.hid (stay b6 F25.out)
       have one2 : (#[.slice Pk kn.length ck, .slice A6 (al.eraseIdx k).length c6] : Array Value).all (·.oneCell') = true := by simp [Value.oneCell']
       clear ho b6)
    | (refine wpList_store_row rfl 28 _ _ rfl w.heap.size _ #[.slice Pk kn.length ck, .slice A6 (al.eraseIdx k).length c6] rfl rfl F06.out infoC2 rfl one2 ?_))
  have hw5 : w.heap.size < w5.heap.size := (Array.getElem?_eq_some_iff.1 F05.out).1
  have hw52 : w.heap.size + 2 < w5.heap.size := (Array.getElem?_eq_some_iff.1 F25.out).1
  have HBW : Hid (Below w.heap.size w (w6.setRow w.heap.size #[.slice Pk kn.length ck, .slice A6 (al.eraseIdx k).length c6])) := Lib.hid (below_setRow HB6.out (Nat.le_refl _) _)
  have F0W : Hid ((w6.setRow w.heap.size #[.slice Pk kn.length ck, .slice A6 (al.eraseIdx k).length c6]).heap[w.heap.size]? = _) := Lib.hid (blk_row F06.out)
  have F1W : Hid ((w6.setRow w.heap.size #[.slice Pk kn.length ck, .slice A6 (al.eraseIdx k).length c6]).heap[w.heap.size + 1]? = _) := Lib.hid ((setRow_other _ _ _ _ (by omega)).trans F16.out)
  have F2W : Hid ((w6.setRow w.heap.size #[.slice Pk kn.length ck, .slice A6 (al.eraseIdx k).length c6]).heap[w.heap.size + 2]? = _) := Lib.hid ((setRow_other _ _ _ _ (by omega)).trans F26.out)
  have HOW : Hid ((w6.setRow w.heap.size #[.slice Pk kn.length ck, .slice A6 (al.eraseIdx k).length c6]).ownsRow w5.heap.size 53 21 (.slice A6 (al.eraseIdx k).length c6) (al.eraseIdx k).length ((al.eraseIdx k).flatMap tcs)) := Lib.hid (own_same HO6.out fun b hb => setRow_other _ _ _ _ (by have := (HO6.out.lt b hb).1; omega))
  have HSW : Hid (w5.heap.size ≤ (w6.setRow w.heap.size #[.slice Pk kn.length ck, .slice A6 (al.eraseIdx k).length c6]).heap.size) := Lib.hid (by have := B56.out.size; simpa [World.setRow] using this)
  have H52 := Lib.hid hw52
  generalize w6.setRow w.heap.size #[.slice Pk kn.length ck, .slice A6 (al.eraseIdx k).length c6] = W6 at *
  clear hw5 hw52 one2 F06 F16 F26 HO6 HB6 B56 KW g0 g1
  simp only [Act.put]
  have g0 : W6.cell? ⟨w.heap.size, 0, none⟩ = some (.slice Pk kn.length ck) := blk_cell F0W.out rfl
  have r6 := (rng_block F1W.out).at
  have KP := Lib.hid (rput_walk (.slice Pk kn.length ck) kn x W6 (HD.out.kz.sub (HZ0.out.trans (hp_below HBW.out))) (HX.out.sub (HZ0.out.trans (hp_below HBW.out))) (by omega))
  have ep : pdone x (pfold x kn) = putV x kn := by have := pfold_put x kn [] hsr; simpa [pfold] using this
  rw [ep] at KP
  unfold aval at KP
  clear ep
  go_upto_region 6 with (first
    | (refine wpList_load_mid rfl 39 _ rfl (w.heap.size + 1) 0 rfl (acs x) _ r6 Try.underlying39 rfl (infoAcs _) ?_)
    | (go_at_call 32
       refine KP.out.mono ?_
       rintro e w7 ⟨val, rfl, ho, b7⟩
       obtain ⟨A7, c7, e7⟩ := own_sl ho
       subst e7
       have HO7 := Lib.hid ho
       have HB7 := Lib.hid b7
       have F07 := Lib.hid (stay b7 F0W.out)
       have F27 := Lib.hid (stay b7 F2W.out)
       have c7' : w7.cell? ⟨w.heap.size, 0, none⟩ = some (.slice Pk kn.length ck) := blk_cell F07.out rfl
       have z7 := blk_frozen (j := 0) F07.out
       clear ho b7))
  clear c7' z7 g0 r6 KP
  have hlt5 := H52.out
  have hw6 := HSW.out
  have HB9 : Hid (Below w.heap.size w (w7.setCell ⟨w.heap.size, 0, none⟩ (.slice A7 (putV x kn).length c7))) := Lib.hid ((HBW.out.trans (HB7.out.mono HBW.out.size)).setCell (Nat.le_refl _) _)
  have F09 : Hid ((w7.setCell ⟨w.heap.size, 0, none⟩ (.slice A7 (putV x kn).length c7)).heap[w.heap.size]? = some (.cells #[.slice A7 (putV x kn).length c7, .slice A6 (al.eraseIdx k).length c6] 28)) := Lib.hid (by have := blk_set F07.out (j := 0) (.slice A7 (putV x kn).length c7); simpa using this)
  have F29 : Hid ((w7.setCell ⟨w.heap.size, 0, none⟩ (.slice A7 (putV x kn).length c7)).heap[w.heap.size + 2]? = _) := Lib.hid (blk_other F27.out (by omega) (j := 0) _)
  have HO9 : Hid ((w7.setCell ⟨w.heap.size, 0, none⟩ (.slice A7 (putV x kn).length c7)).ownsRow w5.heap.size 53 21 (.slice A6 (al.eraseIdx k).length c6) (al.eraseIdx k).length ((al.eraseIdx k).flatMap tcs)) := Lib.hid (own_same HOW.out fun b hb => by have := HOW.out.lt b hb; rw [Below.heap_setCell _ _ _ _ (by simp; omega)]; exact HB7.out.block b this.2)
  have HP9 : Hid ((w7.setCell ⟨w.heap.size, 0, none⟩ (.slice A7 (putV x kn).length c7)).ownsRow w5.heap.size 39 27 (.slice A7 (putV x kn).length c7) (putV x kn).length ((putV x kn).flatMap acs)) := Lib.hid (own_base (own_same HO7.out fun b hb => Below.heap_setCell _ _ _ _ (by have := (HO7.out.lt b hb).1; simp; omega)) hw6)
  clear hlt5 hw6
  generalize w7.setCell ⟨w.heap.size, 0, none⟩ (.slice A7 (putV x kn).length c7) = W9 at *
  clear F07 F27 HO7 HB7 HOW HSW
  have g0 : W9.drew.cell? ⟨w.heap.size, 0, none⟩ = some (.slice A7 (putV x kn).length c7) := blk_cell (w := W9.drew) F09.out rfl
  have g1 : W9.drew.cell? ⟨w.heap.size, 1, none⟩ = some (.slice A6 (al.eraseIdx k).length c6) := blk_cell (w := W9.drew) F09.out rfl
  have g2 : W9.drew.cell? ⟨w.heap.size + 1 + 1, 0, none⟩ = some (.slice none 0 0) := blk_cell (w := W9.drew) F29.out rfl
  have g3 : W9.drew.cell? ⟨w.heap.size + 1 + 1, 1, none⟩ = some (.slice none 0 0) := blk_cell (w := W9.drew) F29.out rfl
  have z2 : W9.drew.frozen? ⟨w.heap.size + 1 + 1, 0, none⟩ = false := blk_frozen (w := W9.drew) (j := 0) F29.out
  have z3 : W9.drew.frozen? ⟨w.heap.size + 1 + 1, 1, none⟩ = false := blk_frozen (w := W9.drew) (j := 1) F29.out
  have k2 : W9.cell? ⟨w.heap.size + 1 + 1, 0, none⟩ = some (.slice none 0 0) := g2
  have k3 : W9.cell? ⟨w.heap.size + 1 + 1, 1, none⟩ = some (.slice none 0 0) := g3
  have y2 : W9.frozen? ⟨w.heap.size + 1 + 1, 0, none⟩ = false := z2
  have y3 : W9.frozen? ⟨w.heap.size + 1 + 1, 1, none⟩ = false := z3
  go_region
  have G := set2 (x := .slice A7 (putV x kn).length c7) (y := .slice A6 (al.eraseIdx k).length c6) F29.out
  have HG := Lib.hid (show ((W9.setCell ⟨w.heap.size + 1 + 1, 0, none⟩ (.slice A7 (putV x kn).length c7)).setCell ⟨w.heap.size + 1 + 1, 1, none⟩ (.slice A6 (al.eraseIdx k).length c6)).drew.heap[w.heap.size + 1 + 1]? = _ from G)
  have HBe : Hid (Below w.heap.size w ((W9.setCell ⟨w.heap.size + 1 + 1, 0, none⟩ (.slice A7 (putV x kn).length c7)).setCell ⟨w.heap.size + 1 + 1, 1, none⟩ (.slice A6 (al.eraseIdx k).length c6)).drew) := Lib.hid ((HB9.out.setCell (show w.heap.size ≤ w.heap.size + 1 + 1 by omega) _).setCell (show w.heap.size ≤ w.heap.size + 1 + 1 by omega) _).drew
  clear G g0 g1 g2 g3 z2 z3 k2 k3 y2 y3
  go_wp2_with fail
  exact bodyPost_ret (v := .tuple #[.bool true, .agg #[.slice A7 (putV x kn).length c7, .slice A6 (al.eraseIdx k).length c6]]) (results_tc rfl _ _ _ 28 _ (0, 0) _ _ rfl HG.out Try.underlying28 rfl infoC2 rfl) rfl ⟨_, _, rfl, doc_fill HD.out (HZ0.out.trans (hp_below HBe.out)) HX.out (by have := H52.out; omega) hl (own_same HP9.out fun b hb => by have := (HP9.out.lt b hb).1; have := H52.out; show ((W9.setCell _ _).setCell _ _).heap[b]? = _; rw [Below.heap_setCell _ _ _ _ (by simp; omega), Below.heap_setCell _ _ _ _ (by simp; omega)]) (own_same HO9.out fun b hb => by have := (HO9.out.lt b hb).1; have := H52.out; show ((W9.setCell _ _).setCell _ _).heap[b]? = _; rw [Below.heap_setCell _ _ _ _ (by simp; omega), Below.heap_setCell _ _ _ _ (by simp; omega)]), HBe.out⟩
theorem rfill_walk {Z : Hp} {vk va : Value} {kn : List AV} {al : List (Nat × Nat)} (x : AV) (w : World) (h : DocAt Z vk va kn al) (hz : Sub Z (hp w)) (hx : AccZ Z x) (hs : Srt (kn.map AV.a)) (hl : kn.length < 100000) :
    Calls Try.prog 12 #[.agg #[vk, va], aval x] w (RFillIs Z w (decide (0 ≤ atI al x.a.ad) && rightA x.a) (if decide (0 ≤ atI al x.a.ad) && rightA x.a then putV x kn else kn) (if decide (0 ≤ atI al x.a.ad) && rightA x.a then al.eraseIdx (atI al x.a.ad).toNat else al)) := by
  by_cases ha : 0 ≤ atI al x.a.ad
  · obtain ⟨k, t, hk, ht, hA'⟩ := atI_pos ha
    cases hr : rightA x.a with
    | true =>
      rw [decide_eq_true ha]
      simp only [Bool.and_self, if_true]
      have := rfill_yes x w h hz hx k hk hr hs hl
      rw [hk]
      exact this
    | false =>
      simp only [Bool.and_false, Bool.false_eq_true, if_false]
      exact rfill_wrong x w h hz hx k hk hr
  · rw [decide_eq_false ha]
    simp only [Bool.false_and, Bool.false_eq_true, if_false]
    exact rfill_none x w h hz hx ha
end Go.Proofs.Ytdgenbidgieojaa
