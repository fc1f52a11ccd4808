/- Rows of ints that a call appends to; how many bytes belong to a byte; the place behind an instruction. -/
import Derived.Test.YtokompkkbnbinaaDoorG5
import Derived.Test.YtokompkkbnbinaaDoorG4
import Derived.Test.YtokompkkbnbinaaDoorG3
namespace Go.Proofs.YtokompkkbnbinaaDoor
open Go.RowKit SmWord
set_option maxRecDepth 100000

def il (l : List Nat) : List Value := l.map fun x => Value.int .i64 ((x : Nat) : Int)
theorem il_length (l : List Nat) : (il l).length = l.length := by simp [il]
theorem il_app (l m : List Nat) : il (l ++ m) = il l ++ il m := by simp [il]
theorem il_get {l : List Nat} {i : Nat} (h : i < l.length) : (il l)[i]? = some (.int .i64 ((l.getD i 0 : Nat) : Int)) := by simp [il, h]
theorem Tryd.infoI : (Tryd.prog.info? 3).map (fun i => (i.zero, i.size, i.bytes)) = some (some (.int .i64 0), 1, 8) := by kernel_rfl
theorem Tryd.partsI : ∃ i, Tryd.prog.info? 3 = some i ∧ i.zero = some (.int .i64 0) ∧ i.size = 1 ∧ i.bytes = 8 := info_parts Tryd.infoI
theorem own_emptyI (w : World) {base : Nat} (hb : base ≤ w.heap.size) : (w.alloc (.cells #[] 3)).ownsRow base 3 1 (.slice (some ⟨w.heap.size, 0, none⟩) 0 0) 0 (il []) :=
  ⟨rfl, .inr ⟨w.heap.size, 0, #[], rfl, hb, heap_alloc_new _ _, Nat.le_refl _, Nat.zero_le _, rfl, rfl⟩⟩
theorem own_cellI (w : World) (x : Value) : ∀ j u, [x][j]? = some u → (w.alloc (.cells #[x] 3)).cell? ((⟨w.heap.size, 0, none⟩ : Addr).add j) = some u := fun j u h => by
  cases j with
  | zero =>
    have hu : u = x := by simpa using h.symm
    subst hu
    exact blk_cell (heap_alloc_new _ _) rfl
  | succ j => simp at h
/-- An int is appended. -/
theorem append_i {ops : Array Oper} {rest : List Oper} {o : Oper} {a : Act} {w : World} {Q : Exit → Act → World → Prop} (hg : o.guard = none) (s x : Operand)
    (ho : o.op = .call { callee := .builtin .append, args := #[s, x], argTypes := #[32, 32] }) (base : Nat) (v : Value) (k : Nat) (xs : List Value) (hs : a.eval s = v) (hown : w.ownsRow base 3 1 v k xs)
    (ad : Addr) (u : Int) (hx : a.eval x = .slice (some ad) 1 1) (hnews : ∀ j v, [Value.int .i64 u][j]? = some v → w.cell? (ad.add j) = some v) (hk : k ≤ 1000000000) (hbase : base ≤ w.heap.size)
    (h : ∀ v' w', w'.ownsRow base 3 1 v' (k + 1) (xs ++ [.int .i64 u]) → w.grownBy w' v.ownBlock → wpList Tryd.prog ops Q rest (a.put o.dst v') w') : wpList Tryd.prog ops Q (o :: rest) a w := by
  obtain ⟨i0, hi0, hz0, hz1, hz2⟩ := Tryd.partsI
  refine wpList_append_own_at w hg s x 32 ho base 3 i0 (.int .i64 0) 1 8 Tryd.underlying32 hi0 hz0 hz1 hz2 rfl (by decide) v k xs hs hown ad 1 1 [.int .i64 u] hx rfl hnews (fun v hv => ?_) (by unfold maxLen; omega) (by omega) hbase (fun v' w' h1 h2 _ _ => h v' w' h1 h2)
  simp at hv
  subst hv
  rfl
theorem own_int {w : World} {base : Nat} {v : Value} {k : Nat} {l : List Nat} (h : w.ownsRow base 3 1 v k (il l)) : l.length = k ∧ ∃ A c, v = .slice A k c ∧ k ≤ c ∧ (A = none → k = 0 ∧ c = 0) ∧ (0 < k → ∃ b, A = some ⟨b, 0, none⟩ ∧ base ≤ b ∧ b < w.heap.size ∧ ∀ i, i < k → w.cell? ⟨b, i, none⟩ = some (.int .i64 ((l.getD i 0 : Nat) : Int))) := by
  have hl : l.length = k := by have := h.1; rw [il_length] at this; omega
  refine ⟨hl, ?_⟩
  rcases h.2 with ⟨rfl, rfl⟩ | ⟨g, cap, cur, rfl, hb, hg, h1, h2, h3, h4⟩
  · exact ⟨none, 0, rfl, Nat.le_refl _, fun _ => ⟨rfl, rfl⟩, fun h => absurd h (by omega)⟩
  · refine ⟨_, cap, rfl, h1, (fun h => by cases h), fun _ => ⟨g, rfl, hb, (Array.getElem?_eq_some_iff.1 hg).1, fun i hi => ?_⟩⟩
    refine blk_cell hg ?_
    have := il_get (l := l) (i := i) (by omega)
    rw [← h4, Nat.mul_one, List.getElem?_take, if_pos hi] at this
    simpa using this
theorem belonging_walk (b : Nat) (w : World) (hb : b < 256) : Calls Tryd.prog 26 #[.int .u8 (b : Int)] w fun e w' => e = .returned (.int .i64 ((nb b : Nat) : Int)) ∧ w' = w := by
  have hn : nb b = if 96 ≤ b ∧ b ≤ 127 then b - 95 else 0 := rfl
  have HN := Lib.hid hn
  clear hn
  go_enter Tryd.func26, Tryd.ntmps26
  go_wp2_with fail
  all_goals
    go_ret
    rw [HN.out]
    exact ⟨congrArg (fun z => Ending.returned (Value.int IntKind.i64 z)) (by split <;> omega), rfl⟩
theorem behind_walk (A : Option Addr) (n c i m : Nat) (f : Nat → Nat) (w : World) (hn : n ≤ 1000000000) (hi : i < n) (hs : Sl w A n f) (hm : min ((i : Int) + 1 + ((nb (f i) : Nat) : Int)) (n : Int) = (m : Int)) :
    Calls Tryd.prog 17 #[.slice A n c, .int .i64 (i : Int)] w fun e w' => e = .returned (.int .i64 (m : Int)) ∧ w' = w := by
  obtain ⟨b, off, rfl, hbl, hc⟩ := hs.cells (by omega)
  have c1 := hc i hi
  have hf := hs.small i hi
  have hnb := nb_le (f i)
  have hn' : n ≤ 1000000000 := hn
  have KB := Lib.hid fun w => belonging_walk (f i) w hf
  clear hc hs
  generalize nb (f i) = q at *
  generalize f i = x at *
  go_enter Tryd.func17, Tryd.ntmps17
  go_wp2_with (first | (go_at_call 26; refine (KB.out _).mono ?_; rintro e w1 ⟨rfl, rfl⟩))
  go_ret
  exact ⟨rfl, rfl⟩
end Go.Proofs.YtokompkkbnbinaaDoor
/- The code's Dests: its walk. -/
namespace Go.Proofs.YtokompkkbnbinaaDoor
open Go.RowKit SmWord
set_option maxRecDepth 100000
set_option maxHeartbeats 1000000 in
theorem dests_walk (A : Option Addr) (n c : Nat) (f : Nat → Nat) (w : World) (hn : n ≤ 1000000) (hs : Sl w A n f) :
    Calls Tryd.prog 9 #[.slice A n c] w fun e w' => ∃ v, e = .returned v ∧ w'.ownsRow w.heap.size 3 1 v (ds f n).length (il (ds f n)) ∧ Below w.heap.size w w' := by
  have HS := Lib.hid hs
  clear hs
  go_enter Tryd.func9, Tryd.ntmps9
  go_wp2_with fail
  go_loopw [3, 4] (fun v i wr => ∃ k m : Nat, k ≤ n ∧ i = .int .i64 (k : Int) ∧ Hid (lv f k = 0 ∨ k = n) ∧ Hid ((ds f k).length = m) ∧ m ≤ k ∧ Hid (wr.ownsRow w.heap.size 3 1 v m (il (ds f k))) ∧ Hid (Below w.heap.size w wr)) (fun _ i _ => n - (intOf i).toNat)
  case atStart => exact ⟨0, 0, Nat.zero_le _, rfl, Lib.hid (.inl rfl), Lib.hid rfl, Nat.le_refl _, Lib.hid (World.ownsRow_nil _ _ _ _), Lib.hid (Below.refl _ _)⟩
  case round =>
    obtain ⟨k, m, hk, rfl, HL, HM, hm, HO, HB⟩ := hrel
    obtain ⟨_, A', c', rfl, hmc, hA', hcells⟩ := own_int HO.out
    clear hA' hcells
    by_cases hlt : k < n
    · have hsw := HS.out.below HB.out
      obtain ⟨b, off, rfl, hbl, hc⟩ := hsw.cells (by omega)
      have c1 := hc k hlt
      have hf := hsw.small k hlt
      have h0 : lv f k = 0 := by rcases HL.out with h | h; exact h; omega
      obtain ⟨q, hq⟩ : ∃ q, nb (f k) = q := ⟨_, rfl⟩
      obtain ⟨z, hz⟩ : ∃ z : Nat, min ((k : Int) + 1 + (q : Int)) (n : Int) = (z : Int) := ⟨min (k + 1 + q) n, by omega⟩
      have hzn : z = min (k + 1 + q) n := by omega
      have hz1 : k < z := by omega
      have hz2 : z ≤ n := by omega
      have KH := Lib.hid fun w' (hb : Below w.heap.size w w') => behind_walk (some ⟨b, off, none⟩) n c k z f w' (by omega) hlt (HS.out.below hb) (by rw [hq]; exact hz)
      have hL : lv f z = 0 ∨ z = n := by
        by_cases hle : k + 1 + q ≤ n
        · left
          rw [hzn, Nat.min_eq_left hle, ← hq]
          exact lv_next h0
        · right; omega
      have hD : ds f z = ds f (k + 1) := by
        have := ds_in h0 (z - (k + 1)) (by rw [hq]; omega)
        rwa [show k + 1 + (z - (k + 1)) = z by omega] at this
      have HL2 := Lib.hid hL
      have hbS := HB.out.size
      by_cases h91 : f k = 91
      · have hD2 := hD.trans (ds_yes h0 h91)
        have HD := Lib.hid hD2
        have HO1 := Lib.hid (HO.out.alloc (.cells #[Value.int .i64 (k : Int)] 3))
        rw [h91] at c1
        clear hsw hc hz hD hD2 hq h0 hzn hL h91 hf
        go_wp2_with (at_builtin; refine append_i rfl _ _ rfl w.heap.size _ m _ rfl HO1.out ⟨_, 0, none⟩ (k : Int) rfl ?c1 ?c2 ?c3 ?_)
        case c1 => exact own_cellI _ _
        case c2 => omega
        case c3 => simp; omega
        intro v' w4 hown' hgrow
        have hown2 : w4.ownsRow w.heap.size 3 1 v' (m + 1) (il (ds f z)) := by
          rw [HD.out, il_app]
          exact hown'
        have hr := fun g hg => (HO.out.lt g hg).1
        have bX : Below w.heap.size w w4 := (HB.out.alloc (o := .cells #[Value.int .i64 (k : Int)] 3) (by omega)).grown hgrow (by simp; omega) (fun g hg => by have := hr g hg; omega)
        have hm2 : Hid ((ds f z).length = m + 1) := Lib.hid (by rw [HD.out, List.length_append, HM.out]; rfl)
        have HO2 := Lib.hid hown2
        have HB2 := Lib.hid bX
        clear hown' hgrow hr bX hown2 HO HB HO1
        go_wp2_with (go_at_call 17; refine (KH.out _ HB2.out).mono ?_; rintro e wx ⟨rfl, rfl⟩)
        exact ⟨⟨z, m + 1, hz2, rfl, HL2, hm2, by omega, HO2, HB2⟩, by simp only [intOf]; omega⟩
      · have hD2 := hD.trans (ds_no (by rintro ⟨_, h⟩; exact h91 h))
        have HD := Lib.hid hD2
        have hne : (((f k : Nat) : Int) == 91) = false := by simp; omega
        clear hsw hc hz hD hD2 hq h0 hzn hL h91
        generalize f k = x at *
        go_wp2_with (go_at_call 17; refine (KH.out _ HB.out).mono ?_; rintro e wx ⟨rfl, rfl⟩)
        exact ⟨⟨z, m, hz2, rfl, HL2, Lib.hid (by rw [HD.out]; exact HM.out), by omega, Lib.hid (by rw [HD.out]; exact HO.out), HB⟩, by simp only [intOf]; omega⟩
    · obtain rfl : k = n := by omega
      go_wp2_with fail
      go_ret
      exact ⟨_, rfl, HO.out, HB.out⟩
end Go.Proofs.YtokompkkbnbinaaDoor
/- The code's Dest: its walk. -/
namespace Go.Proofs.YtokompkkbnbinaaDoor
open Go.RowKit SmWord
set_option maxRecDepth 100000
set_option maxHeartbeats 1000000 in
theorem dest_great (A : Option Addr) (n c m p : Nat) (w : World) (KS : Hid (∀ w, Calls Tryd.prog 19 #[wd m] w fun e w' => e = .returned (.tuple #[.int .u64 (p : Int), .bool false]) ∧ Below w.heap.size w w')) :
    Calls Tryd.prog 11 #[.slice A n c, wd m] w fun e w' => e = .returned (.bool false) ∧ Below w.heap.size w w' := by
  have hz := wa_size
  have fo := fold_wa
  go_enter Tryd.func11, Tryd.ntmps11
  go_wp2_with (go_at_call 19; refine (KS.out _).mono ?_; rintro e w1 ⟨rfl, hb1⟩)
  go_ret
  exact ⟨rfl, ((Below.refl _ _).alloc (Nat.le_refl _) _).trans (hb1.mono (by simp))⟩
set_option maxHeartbeats 1000000 in
theorem dest_behind (A : Option Addr) (n c m p : Nat) (w : World) (hn : n ≤ 1000000) (hnp : n ≤ p) (KS : Hid (∀ w, Calls Tryd.prog 19 #[wd m] w fun e w' => e = .returned (.tuple #[.int .u64 (p : Int), .bool true]) ∧ Below w.heap.size w w')) :
    Calls Tryd.prog 11 #[.slice A n c, wd m] w fun e w' => e = .returned (.bool false) ∧ Below w.heap.size w w' := by
  have hz := wa_size
  have fo := fold_wa
  go_enter Tryd.func11, Tryd.ntmps11
  go_wp2_with (go_at_call 19; refine (KS.out _).mono ?_; rintro e w1 ⟨rfl, hb1⟩)
  go_ret
  exact ⟨rfl, ((Below.refl _ _).alloc (Nat.le_refl _) _).trans (hb1.mono (by simp))⟩
set_option maxHeartbeats 1000000 in
theorem dest_other (b off n c m p x : Nat) (w : World) (hn : n ≤ 1000000) (hp : p < n) (hne : x ≠ 91) (c0 : w.cell? ⟨b, off + p, none⟩ = some (.int .u8 (x : Int)))
    (KS : Hid (∀ w, Calls Tryd.prog 19 #[wd m] w fun e w' => e = .returned (.tuple #[.int .u64 (p : Int), .bool true]) ∧ Below w.heap.size w w')) :
    Calls Tryd.prog 11 #[.slice (some ⟨b, off, none⟩) n c, wd m] w fun e w' => e = .returned (.bool false) ∧ Below w.heap.size w w' := by
  have hz := wa_size
  have fo := fold_wa
  have hbl : b < w.heap.size := by simpa using World.block_lt_of_cell? w _ c0
  have hne' : (((x : Nat) : Int) != 91) = true := by simp; omega
  have hd : decide (n ≤ p) = false := by simp; omega
  have HB := Lib.hid (show Below w.heap.size w (w.alloc (.cells (wa m) 31)) from (Below.refl _ _).alloc (Nat.le_refl _) _)
  have C0 := Lib.hid c0
  clear c0
  go_enter Tryd.func11, Tryd.ntmps11
  go_wp2_with (go_at_call 19; refine (KS.out _).mono ?_; rintro e w1 ⟨rfl, hb1⟩; have HB1 := Lib.hid (HB.out.trans (hb1.mono HB.out.size)); have c2 := (HB1.out.cell (p := ⟨b, off + p, none⟩) hbl).trans C0.out; clear hb1)
  go_ret
  exact ⟨rfl, HB1.out⟩
/-- Where the loop that goes over instructions up to place p stands. -/
structure At (f : Nat → Nat) (n p r : Nat) : Prop where
  le : r ≤ n
  own : lv f r = 0 ∨ r = n
  not : lv f p = 0 → r ≤ p
theorem At.start (f : Nat → Nat) (n p : Nat) : At f n p 0 := ⟨Nat.zero_le _, .inl rfl, fun _ => Nat.zero_le _⟩
theorem At.zero {f : Nat → Nat} {n p r : Nat} (h : At f n p r) (hr : r < p) (hp : p < n) : lv f r = 0 := by
  rcases h.own with h | h
  · exact h
  · omega
theorem At.next {f : Nat → Nat} {n p r : Nat} (h : At f n p r) (hr : r < p) (hp : p < n) : At f n p (min (r + 1 + nb (f r)) n) := by
  have h0 := h.zero hr hp
  refine ⟨Nat.min_le_right _ _, ?_, fun hl => ?_⟩
  · by_cases hle : r + 1 + nb (f r) ≤ n
    · left; rw [Nat.min_eq_left hle]; exact lv_next h0
    · right; omega
  · by_cases hle : r + 1 + nb (f r) ≤ p
    · exact Nat.le_trans (Nat.min_le_left _ _) hle
    · have := lv_in h0 (p - (r + 1)) (by omega)
      rw [show r + 1 + (p - (r + 1)) = p by omega, hl] at this
      omega
theorem At.done {f : Nat → Nat} {n p r : Nat} (h : At f n p r) (hr : ¬ r < p) (hp : p < n) : decide (lv f p = 0) = (((r : Nat) : Int) == (p : Int)) := by
  by_cases h0 : lv f p = 0
  · have := h.not h0
    obtain rfl : r = p := by omega
    simp [h0]
  · have : r ≠ p := by
      rintro rfl
      rcases h.own with h | h
      · exact h0 h
      · omega
    rw [decide_eq_false h0]
    symm
    simp
    omega
set_option maxHeartbeats 1000000 in
theorem dest_yes (b off n c m p : Nat) (f : Nat → Nat) (w : World) (hn : n ≤ 1000000) (hp : p < n) (h91 : f p = 91) (hs : Sl w (some ⟨b, off, none⟩) n f)
    (KS : Hid (∀ w, Calls Tryd.prog 19 #[wd m] w fun e w' => e = .returned (.tuple #[.int .u64 (p : Int), .bool true]) ∧ Below w.heap.size w w')) :
    Calls Tryd.prog 11 #[.slice (some ⟨b, off, none⟩) n c, wd m] w fun e w' => e = .returned (.bool (decide (lv f p = 0))) ∧ Below w.heap.size w w' := by
  have hz := wa_size
  have fo := fold_wa
  obtain ⟨b', off', e0, hbl, hc⟩ := hs.cells (by omega)
  cases e0
  have c0 := hc p hp
  rw [h91] at c0
  have hd : decide (n ≤ p) = false := by simp; omega
  have HB := Lib.hid (show Below w.heap.size w (w.alloc (.cells (wa m) 31)) from (Below.refl _ _).alloc (Nat.le_refl _) _)
  have C0 := Lib.hid c0
  have HS := Lib.hid hs
  have H91 := Lib.hid h91
  clear c0 hc hs h91
  go_enter Tryd.func11, Tryd.ntmps11
  go_wp2_with (go_at_call 19; refine (KS.out _).mono ?_; rintro e w1 ⟨rfl, hb1⟩; have HB1 := Lib.hid (HB.out.trans (hb1.mono HB.out.size)); have c2 := (HB1.out.cell (p := ⟨b, off + p, none⟩) hbl).trans C0.out; clear hb1)
  clear c2
  go_loopw [7] (fun i wr => ∃ r : Nat, i = .int .i64 (r : Int) ∧ Hid (At f n p r) ∧ wr = w1) (fun i _ => n - (intOf i).toNat)
  case atStart => exact ⟨0, rfl, Lib.hid (At.start _ _ _), rfl⟩
  case round =>
    obtain ⟨r, rfl, HA, rfl⟩ := hrel
    have hrn := HA.out.le
    by_cases hlt : r < p
    · obtain ⟨q, hq⟩ : ∃ q, nb (f r) = q := ⟨_, rfl⟩
      obtain ⟨z, hz'⟩ : ∃ z : Nat, min ((r : Int) + 1 + (q : Int)) (n : Int) = (z : Int) := ⟨min (r + 1 + q) n, by omega⟩
      have hzn : z = min (r + 1 + q) n := by omega
      have HN := Lib.hid (show At f n p z by rw [hzn, ← hq]; exact HA.out.next hlt hp)
      have hz1 : r < z := by omega
      have hz2 : z ≤ n := by omega
      have KH := Lib.hid (behind_walk (some ⟨b, off, none⟩) n c r z f wr (by omega) (by omega) (HS.out.below HB1.out) (by rw [hq]; exact hz'))
      clear hq hz' hzn
      go_wp2_with (go_at_call 17; refine KH.out.mono ?_; rintro e wx ⟨rfl, rfl⟩)
      exact ⟨⟨z, rfl, HN, trivial⟩, by simp only [intOf]; omega⟩
    · have hdone := HA.out.done hlt hp
      have HD := Lib.hid hdone
      clear hdone
      go_wp2_with fail
      go_ret
      rw [HD.out]
      exact ⟨rfl, HB1.out⟩
theorem low0_lt (m : Nat) : l0 m < B := Nat.mod_lt _ (by decide)
theorem dest_walk (A : Option Addr) (n c m : Nat) (f : Nat → Nat) (w : World) (hn : n ≤ 1000000) (hm : m < M) (hs : Sl w A n f) :
    Calls Tryd.prog 11 #[.slice A n c, wd m] w fun e w' => e = .returned (.bool (decide (m ∈ ds f n))) ∧ Below w.heap.size w w' := by
  have KS := small_wd m
  by_cases hsm : smallB m = true
  · have hml : m = l0 m := by
      unfold smallB at hsm
      have h := of_decide_eq_true hsm
      rw [Nat.mod_eq_of_lt hm, Nat.mod_eq_of_lt (Nat.lt_of_lt_of_le (low0_lt m) (by decide))] at h
      exact h
    have hmB : m < 18446744073709551616 := by
      have := low0_lt m
      rw [← hml] at this
      exact this
    rw [hsm, if_pos rfl, ← hml] at KS
    by_cases hp : m < n
    · obtain ⟨b, off, rfl, hbl, hc⟩ := hs.cells (by omega)
      by_cases h91 : f m = 91
      · have e : decide (m ∈ ds f n) = decide (lv f m = 0) := by
          congr 1
          rw [mem_ds]
          simp [hp, h91]
        rw [e]
        exact dest_yes b off n c m m f w hn hp h91 hs (Lib.hid KS)
      · have e : decide (m ∈ ds f n) = false := by
          rw [decide_eq_false_iff_not, mem_ds]
          exact fun h => h91 h.2.2
        rw [e]
        exact dest_other b off n c m m (f m) w hn hp h91 (hc m hp) (Lib.hid KS)
    · have e : decide (m ∈ ds f n) = false := by
        rw [decide_eq_false_iff_not, mem_ds]
        exact fun h => hp h.1
      rw [e]
      exact dest_behind A n c m m w hn (by omega) (Lib.hid KS)
  · have hsf : smallB m = false := by simpa using hsm
    have e : decide (m ∈ ds f n) = false := by
      rw [decide_eq_false_iff_not, mem_ds]
      intro h
      refine hsm ?_
      unfold smallB
      have hlt : m < B := Nat.lt_of_lt_of_le h.1 (Nat.le_trans hn (by decide))
      rw [decide_eq_true_iff, l0, Nat.mod_eq_of_lt hlt]
    rw [hsf, if_neg (by decide)] at KS
    rw [e]
    exact dest_great A n c m 0 w (Lib.hid KS)
end Go.Proofs.YtokompkkbnbinaaDoor
