/- What longSize and head of package rlp do. -/
import Derived.Test.YtfpeliolngfkpaaRlf
import Derived.Deep.AppendLies
import Derived.Deep.RegionLaw
import Derived.Lib.SliceRun
namespace Go.Proofs.Ytfpeliolngfkpaa
open Go.RowKit SmWord
set_option maxRecDepth 100000

theorem val_low (g : Nat → Nat) : ∀ k, val g (k + 1) = g 0 + 256 * val (fun i => g (i + 1)) k
  | 0 => by simp [val]
  | k + 1 => by
    rw [val, val_low g k, val]
    rw [Nat.pow_succ]
    rw [Nat.mul_add, ← Nat.add_assoc]
    congr 1
    rw [Nat.mul_comm (256 ^ k) 256, Nat.mul_left_comm]
theorem bval_val (f : Nat → Nat) : ∀ n, bval (bf f 0 n) = val (gd f n) n
  | 0 => rfl
  | n + 1 => by
    have e : bf f 0 (n + 1) = bf f 0 n ++ [f n] := by
      simp [bf, List.range_succ]
    rw [e, bval_snoc, bval_val f n, val_low]
    have h0 : gd f (n + 1) 0 = f n := by simp [gd]
    rw [h0, Nat.add_comm, Nat.mul_comm]
    congr 2
    refine val_congr fun i hi => ?_
    unfold gd
    congr 1
    omega
theorem small_of {m : Nat} (h : m < B) (w : World) : Calls Try.prog 43 #[wd m] w fun e w' => e = .returned (.tuple #[.int .u64 (m : Int), .bool true]) ∧ Below w.heap.size w w' := by
  have hl : l0 m = m := Nat.mod_eq_of_lt h
  have hs : smallB m = true := by simp [smallB, hl]
  have := small_wd m w
  rw [hs, hl] at this
  exact this
/-- A row of bytes that is handed in. -/
structure ArgB (w : World) (A : Option Addr) (n c : Nat) (l : List Nat) : Prop where
  len : l.length = n
  cap : n ≤ c
  nil : A = none → n = 0 ∧ c = 0
  cells : Sl w A n (fun i => l.getD i 0)
theorem ArgB.below {w w' : World} {A : Option Addr} {n c : Nat} {l : List Nat} (h : ArgB w A n c l) (hb : Below w.heap.size w w') : ArgB w' A n c l := ⟨h.len, h.cap, h.nil, h.cells.below hb⟩
theorem ArgB.small {w : World} {A : Option Addr} {n c : Nat} {l : List Nat} (h : ArgB w A n c l) : ∀ x ∈ l, x < 256 := fun x hx => by
  obtain ⟨i, hi⟩ := List.mem_iff_getElem?.1 hx
  have hlt := (List.getElem?_eq_some_iff.1 hi).1
  have := h.cells.small i (by rw [← h.len]; exact hlt)
  rw [List.getD, hi] at this
  exact this
/-- What longSize answers. -/
def lsz (T : List Nat) (k : Nat) : Nat × Nat := if T.length < k then (0, 3) else if T.getD 0 0 = 0 then (0, 2) else if bval (T.take k) ≤ 55 then (0, 2) else (bval (T.take k), 0)
set_option maxHeartbeats 2000000 in
theorem long_walk (T : List Nat) (k : Nat) (hk : 0 < k) (hk8 : k ≤ 8) (A : Option Addr) (n c : Nat) (hn : n ≤ 1000000000) (w : World) (ha : ArgB w A n c T) :
    Calls Try.prog 41 #[.slice A n c, .int .i64 (k : Int)] w fun e w' => e = .returned (.tuple #[.int .u64 (((lsz T k).1 : Nat) : Int), .int .i64 (((lsz T k).2 : Nat) : Int)]) ∧ Below w.heap.size w w' := by
  by_cases hs : n < k
  · have e : lsz T k = (0, 3) := if_pos (by rw [ha.len]; exact hs)
    rw [e]
    clear e
    have q1 : decide ((n : Int) < (k : Int)) = true := decide_eq_true (by omega)
    clear ha
    go_enter Try.func41, Try.ntmps41
    go_wp2_with fail
    go_ret2
    exact ⟨rfl, Below.refl _ _⟩
  · have q1 : decide ((n : Int) < (k : Int)) = false := decide_eq_false (by omega)
    obtain ⟨b, off, rfl, hb, hc⟩ := ha.cells.cells (by omega)
    have c0 := hc 0 (by omega)
    rw [Nat.add_zero] at c0
    have hcap := ha.cap
    have es := fun w => slice_behind (P := Try.prog) (t := 25) (by kernel_rfl) Try.s8 b off (n := n) (c := c) (p := k) (by omega) w
    have hsl : Sl w (some ⟨b, off, none⟩) k (fun i => T.getD i 0) := ⟨fun i hi => ha.cells.small i (by omega), fun _ => ⟨b, off, rfl, hb, fun i hi => hc i (by omega)⟩⟩
    have KF := from_wd (some ⟨b, off, none⟩) k c k (fun i => T.getD i 0) w (by unfold maxLen; omega) (by omega) hsl
    have hbv : val (gd (fun i => T.getD i 0) k) k = bval (T.take k) := by
      rw [← bval_val]
      congr 1
      apply List.ext_getElem?
      intro i
      by_cases hi : i < k
      · have hil : i < T.length := by rw [ha.len]; omega
        rw [List.getElem?_take_of_lt hi]
        simp [bf, hi, hil]
      · rw [List.getElem?_eq_none (by rw [bf_length]; omega), List.getElem?_eq_none (by rw [List.length_take]; omega)]
    rw [hbv] at KF
    have hlt : bval (T.take k) < B := by
      have h1 := bval_lt (T.take k) fun x hx => ha.small x (List.mem_of_mem_take hx)
      rw [List.length_take, ha.len, Nat.min_eq_left (by omega)] at h1
      have h2 : (256 : Nat) ^ k ≤ 256 ^ 8 := Nat.pow_le_pow_right (by decide) hk8
      have h3 : (256 : Nat) ^ 8 = B := by decide
      omega
    have KS := Lib.hid fun w => small_of hlt w
    have hT : lsz T k = if T.getD 0 0 = 0 then (0, 2) else if bval (T.take k) ≤ 55 then (0, 2) else (bval (T.take k), 0) := by
      rw [lsz, if_neg (by rw [ha.len]; exact hs)]
    obtain ⟨x0, hx0⟩ : ∃ x0, T.getD 0 0 = x0 := ⟨_, rfl⟩
    have hx8 : x0 < 256 := by rw [← hx0]; exact ha.cells.small 0 (by omega)
    obtain ⟨bv, hbv2⟩ : ∃ bv, bval (T.take k) = bv := ⟨_, rfl⟩
    rw [hx0] at c0 hT
    rw [hbv2] at KF KS hlt hT
    have hlt' : bv < 18446744073709551616 := hlt
    have HT := Lib.hid hT
    have KF' := Lib.hid KF
    clear hbv hc hsl KF hT hlt hx0 hbv2 ha
    go_enter Try.func41, Try.ntmps41
    go_wp2_with fail
    refine KF'.out.mono ?_
    rintro e w1 ⟨rfl, b1⟩
    have B1 := Lib.hid b1
    replace c0 := (b1.cell (p := ⟨b, off, none⟩) hb).trans c0
    clear b1
    go_wp2_with fail
    refine (KS.out _).mono ?_
    rintro e w2 ⟨rfl, b2⟩
    have B2 := Lib.hid (B1.out.trans (b2.mono B1.out.size))
    replace c0 := (b2.cell (p := ⟨b, off, none⟩) (Nat.lt_of_lt_of_le hb B1.out.size)).trans c0
    clear b2
    by_cases h0 : x0 = 0
    · subst h0
      go_wp2_with fail
      go_ret2
      refine ⟨?_, B2.out⟩
      rw [HT.out, if_pos trivial]
      rfl
    · have q2 : (((x0 : Nat) : Int) == 0) = false := by simp; omega
      by_cases h55 : bv ≤ 55
      · have q3 : decide ((bv : Int) ≤ 55) = true := decide_eq_true (by omega)
        go_wp2_with fail
        go_ret2
        refine ⟨?_, B2.out⟩
        rw [HT.out, if_neg h0, if_pos h55]
        rfl
      · have q3 : decide ((bv : Int) ≤ 55) = false := decide_eq_false (by omega)
        go_wp2_with fail
        go_ret2
        refine ⟨?_, B2.out⟩
        rw [HT.out, if_neg h0, if_neg h55]
        rfl
/-- The head of what is left, read: or an error. -/
def hdc (R : List Nat) : Hd := match R with
  | [] => .bad 3
  | c :: T => if c < 128 then .got false 0 1 else match hdp c T with
    | .bad e => .bad e
    | .got ls u n => if (c :: T).length - u < n then .bad 3 else .got ls u n
/-- What head answers. -/
def HdIs (h : Hd) (e : Ending) : Prop := match h with
  | .bad k => e = .returned (.tuple #[.bool false, .int .i64 0, .int .i64 0, .int .i64 (k : Int)])
  | .got ls u n => e = .returned (.tuple #[.bool ls, .int .i64 (u : Int), .int .i64 (n : Int), .int .i64 0])
theorem hdp_short {c : Nat} {T : List Nat} (n : Nat) (ls : Bool) (hls : ls = decide (192 ≤ c)) (hc : n = if 192 ≤ c then c - 192 else c - 128) (h128 : 128 ≤ c) (h : n ≤ 55) : hdp c T = .got ls 1 n := by
  unfold hdp
  simp only
  by_cases h1 : 192 ≤ c
  · rw [if_pos h1] at hc ⊢
    rw [if_pos (by omega), hls, hc]
    congr 1
  · rw [if_neg h1] at hc ⊢
    rw [if_pos (by omega), hls, hc]
theorem hdp_long {c : Nat} {T : List Nat} (n : Nat) (ls : Bool) (hls : ls = decide (192 ≤ c)) (hc : n = if 192 ≤ c then c - 192 else c - 128) (h128 : 128 ≤ c) (h : ¬ n ≤ 55) :
    hdp c T = if T.length < n - 55 then .bad 3 else if T.getD 0 0 = 0 then .bad 2 else if cval (T.take (n - 55)) ≤ 55 then .bad 2 else .got ls (1 + (n - 55)) (cval (T.take (n - 55))) := by
  unfold hdp
  simp only
  by_cases h1 : 192 ≤ c
  · rw [if_pos h1] at hc
    rw [if_pos h1, if_neg (by omega), hls, show c - 64 - 183 = n - 55 by omega]
  · rw [if_neg h1] at hc
    rw [if_neg h1, if_neg (by omega), hls, show c - 183 = n - 55 by omega]
/-- The head of what is left, by longSize. -/
theorem hdc_long {c : Nat} {T : List Nat} (n : Nat) (ls : Bool) (hls : ls = decide (192 ≤ c)) (hc : n = if 192 ≤ c then c - 192 else c - 128) (h128 : 128 ≤ c) (h : ¬ n ≤ 55) (hT : T.length ≤ 1048576) :
    hdc (c :: T) = if (lsz T (n - 55)).2 = 0 then (if T.length + 1 - (1 + (n - 55)) < (lsz T (n - 55)).1 then .bad 3 else .got ls (1 + (n - 55)) (lsz T (n - 55)).1) else .bad (lsz T (n - 55)).2 := by
  rw [hdc, if_neg (by omega), hdp_long n ls hls hc h128 h]
  unfold lsz
  by_cases h1 : T.length < n - 55
  · rw [if_pos h1, if_pos h1]
    rfl
  · rw [if_neg h1, if_neg h1]
    by_cases h2 : T.getD 0 0 = 0
    · rw [if_pos h2, if_pos h2]
      rfl
    · rw [if_neg h2, if_neg h2]
      have hcv := cval_bval (T.take (n - 55))
      by_cases h3 : bval (T.take (n - 55)) ≤ 55
      · rw [if_pos (by rw [hcv]; omega), if_pos h3]
        rfl
      · rw [if_neg (by rw [hcv]; omega), if_neg h3]
        simp only [if_true, List.length_cons]
        by_cases h4 : bval (T.take (n - 55)) ≤ 1000000000
        · rw [hcv, Nat.min_eq_left h4]
        · rw [hcv, if_pos (by omega), if_pos (by omega)]
theorem hdc_short {c : Nat} {T : List Nat} (n : Nat) (ls : Bool) (hls : ls = decide (192 ≤ c)) (hc : n = if 192 ≤ c then c - 192 else c - 128) (h128 : 128 ≤ c) (h : n ≤ 55) :
    hdc (c :: T) = if T.length < n then .bad 3 else .got ls 1 n := by
  rw [hdc, if_neg (by omega), hdp_short n ls hls hc h128 h]
  simp only [List.length_cons, Nat.add_sub_cancel]
end Go.Proofs.Ytfpeliolngfkpaa
/- What head of package rlp does. -/
namespace Go.Proofs.Ytfpeliolngfkpaa
open Go.RowKit SmWord
set_option maxRecDepth 100000

theorem head_none (A : Option Addr) (c : Nat) (w : World) :
    Calls Try.prog 34 #[.slice A 0 c] w fun e w' => e = .returned (.tuple #[.bool false, .int .i64 0, .int .i64 0, .int .i64 3]) ∧ Below w.heap.size w w' := by
  go_enter Try.func34, Try.ntmps34
  go_wp2_with fail
  refine bodyPost_ret (v := .tuple #[.bool false, .int .i64 0, .int .i64 0, .int .i64 3]) (by simp [results, Try.results34, go_sem]) rfl ⟨rfl, Below.refl _ _⟩
theorem head_low (b off n c x : Nat) (w : World) (hn : 0 < n) (hx : x < 128) (c0 : w.cell? ⟨b, off, none⟩ = some (.int .u8 (x : Int))) :
    Calls Try.prog 34 #[.slice (some ⟨b, off, none⟩) n c] w fun e w' => e = .returned (.tuple #[.bool false, .int .i64 0, .int .i64 1, .int .i64 0]) ∧ Below w.heap.size w w' := by
  have q0 : ((n : Int) == 0) = false := by simp; omega
  go_enter Try.func34, Try.ntmps34
  go_wp2_with fail
  refine bodyPost_ret (v := .tuple #[.bool false, .int .i64 0, .int .i64 1, .int .i64 0]) (by simp [results, Try.results34, go_sem]) rfl ⟨rfl, Below.refl _ _⟩
def PostH (m : Nat) (h1 h2 : Hd) (e : Ending) : Prop := (m ≤ 55 → HdIs h1 e) ∧ (55 < m → HdIs h2 e)
set_option maxHeartbeats 4000000 in
theorem head_high (b off n c x L m : Nat) (ls : Bool) (w : World) (hn : 0 < n) (hn6 : n ≤ 1048576) (hx : 128 ≤ x) (hx8 : x < 256) (c0 : w.cell? ⟨b, off, none⟩ = some (.int .u8 (x : Int)))
    (hls : decide ((192 : Int) ≤ (x : Int)) = ls) (KL : Hid (∀ w, Calls Try.prog 31 #[.bool ls] w fun e w' => e = .returned (.int .u8 (L : Int)) ∧ w' = w)) (hm : (x : Int) - (L : Int) = (m : Int)) (hm2 : m < 64)
    (kk sz er : Nat) (hkk : 55 < m → m - 55 = kk) (hsz : sz < B) (herr : er ≤ 10) (hok : 55 < m → er = 0 → 1 + kk ≤ n) (h1 h2 : Hd) (H1 : Hid ((if n - 1 < m then .bad 3 else .got ls 1 m) = h1)) (H2 : Hid ((if er = 0 then (if n - (1 + kk) < sz then .bad 3 else .got ls (1 + kk) sz) else .bad er) = h2))
    (es : ∃ o1, (∀ w, (Instr.sliceAt 25 (.slice (some ⟨b, off, none⟩) n c) (some (.int .i64 1)) none none).run Try.prog w = .ok (.slice (some ⟨b, o1, none⟩) (n - 1) (c - 1)) w) ∧
      (55 < m → ∀ w' : World, Below w.heap.size w w' → Calls Try.prog 41 #[.slice (some ⟨b, o1, none⟩) (n - 1) (c - 1), .int .i64 (kk : Int)] w' fun e w2 => e = .returned (.tuple #[.int .u64 (sz : Int), .int .i64 (er : Int)]) ∧ Below w'.heap.size w' w2)) :
    Calls Try.prog 34 #[.slice (some ⟨b, off, none⟩) n c] w fun e w' => PostH m h1 h2 e ∧ Below w.heap.size w w' := by
  obtain ⟨o1, es, KS⟩ := es
  have q0 : ((n : Int) == 0) = false := by simp; omega
  have q1 : decide ((x : Int) < 128) = false := decide_eq_false (by omega)
  have HKS := Lib.hid KS
  have HKK := Lib.hid hkk
  clear KS hkk
  go_enter Try.func34, Try.ntmps34
  go_wp2_with fail
  refine region_ext (by kernel_rfl) (by kernel_rfl) ?_
  have t1 : ∀ g : Ext w, g.on.cell? ⟨b, off, none⟩ = some (.int .u8 (x : Int)) := fun g => (g.below.cell (p := ⟨b, off, none⟩) (by simpa using World.block_lt_of_cell? w _ c0)).trans c0
  repeat (go_big_quiet_step ((go_at_call 31; exact calls_ext ((KL.out _).mono fun _ w' ⟨a, b⟩ => ⟨a, by subst b; exact Below.refl _ _⟩))))
  refine wpQuiet_nil ?_
  rintro w' ⟨g, rfl⟩
  have HB := Lib.hid g.below
  clear t1 c0
  generalize g.on = W at *
  have hsz' : sz < 18446744073709551616 := hsz
  by_cases h55 : m ≤ 55
  · have q2 : decide ((55 : Int) < (m : Int)) = false := decide_eq_false (by omega)
    obtain ⟨n1, hn1⟩ : ∃ n1, n - 1 = n1 := ⟨_, rfl⟩
    have e1 : (n : Int) - 1 = (n1 : Int) := by omega
    have HN := Lib.hid hn1
    have hn16 : n1 ≤ 1048576 := by omega
    clear hn1 es hm
    by_cases hlt : n1 < m
    · have q3 : decide ((n1 : Int) < (m : Int)) = true := decide_eq_true (by omega)
      go_wp2_with fail
      refine bodyPost_ret (v := .tuple #[.bool false, .int .i64 0, .int .i64 0, .int .i64 3]) (by simp [results, Try.results34, go_sem]) rfl ⟨⟨fun _ => by rw [← H1.out, HN.out, if_pos hlt]; rfl, fun h => absurd h55 (by omega)⟩, HB.out⟩
    · have q3 : decide ((n1 : Int) < (m : Int)) = false := decide_eq_false (by omega)
      go_wp2_with fail
      refine bodyPost_ret (v := .tuple #[.bool ls, .int .i64 1, .int .i64 (m : Int), .int .i64 0]) (by simp [results, Try.results34, go_sem]) rfl ⟨⟨fun _ => by rw [← H1.out, HN.out, if_neg hlt]; rfl, fun h => absurd h55 (by omega)⟩, HB.out⟩
  · have q2 : decide ((55 : Int) < (m : Int)) = true := decide_eq_true (by omega)
    have hk := HKK.out (by omega)
    have e2 : (m : Int) - 55 = (kk : Int) := by omega
    have KS := Lib.hid (HKS.out (by omega) W HB.out)
    have hk9 : kk ≤ 8 := by omega
    have h1k := hok (by omega)
    clear hm hk HKS HKK hok
    by_cases h0 : er = 0
    · subst h0
      have h1k := h1k rfl
      obtain ⟨u, hu⟩ : ∃ u, 1 + kk = u := ⟨_, rfl⟩
      have e3 : (1 : Int) + (kk : Int) = (u : Int) := by omega
      obtain ⟨n2, hn2⟩ : ∃ n2, n - u = n2 := ⟨_, rfl⟩
      have e4 : (n : Int) - (u : Int) = (n2 : Int) := by omega
      have hn26 : n2 ≤ 1048576 := by omega
      have HU := Lib.hid (And.intro hu hn2)
      clear hu hn2 h1k
      by_cases hlt : n2 < sz
      · have q3 : decide ((n2 : Int) < (sz : Int)) = true := decide_eq_true (by omega)
        go_wp2_with fail
        refine KS.out.mono ?_
        rintro e w2 ⟨rfl, b2⟩
        have HB2 := Lib.hid (HB.out.trans (b2.mono HB.out.size))
        clear b2
        go_wp2_with fail
        refine bodyPost_ret (v := .tuple #[.bool false, .int .i64 0, .int .i64 0, .int .i64 3]) (by simp [results, Try.results34, go_sem]) rfl ⟨⟨fun h => absurd h (by omega), fun _ => by rw [← H2.out, if_pos trivial, HU.out.1, HU.out.2, if_pos hlt]; rfl⟩, HB2.out⟩
      · have q3 : decide ((n2 : Int) < (sz : Int)) = false := decide_eq_false (by omega)
        have hs6 : sz ≤ 1048576 := by omega
        go_wp2_with fail
        refine KS.out.mono ?_
        rintro e w2 ⟨rfl, b2⟩
        have HB2 := Lib.hid (HB.out.trans (b2.mono HB.out.size))
        clear b2
        go_wp2_with fail
        refine bodyPost_ret (v := .tuple #[.bool ls, .int .i64 (u : Int), .int .i64 (sz : Int), .int .i64 0]) (by simp [results, Try.results34, go_sem]) rfl ⟨⟨fun h => absurd h (by omega), fun _ => by rw [← H2.out, if_pos trivial, HU.out.1, HU.out.2, if_neg hlt]; rfl⟩, HB2.out⟩
    · have q3 : (((er : Nat) : Int) != 0) = true := by rw [bne_iff_ne]; omega
      go_wp2_with fail
      refine KS.out.mono ?_
      rintro e w2 ⟨rfl, b2⟩
      have HB2 := Lib.hid (HB.out.trans (b2.mono HB.out.size))
      clear b2
      go_wp2_with fail
      refine bodyPost_ret (v := .tuple #[.bool false, .int .i64 0, .int .i64 0, .int .i64 (er : Int)]) (by simp [results, Try.results34, go_sem]) rfl ⟨⟨fun h => absurd h (by omega), fun _ => by rw [← H2.out, if_neg h0]; rfl⟩, HB2.out⟩
theorem head_walk (R : List Nat) (A : Option Addr) (n c : Nat) (hn6 : n ≤ 1048576) (w : World) (ha : ArgB w A n c R) :
    Calls Try.prog 34 #[.slice A n c] w fun e w' => HdIs (hdc R) e ∧ Below w.heap.size w w' := by
  cases R with
  | nil =>
    have h0 : n = 0 := by rw [← ha.len]; rfl
    subst h0
    exact head_none A c w
  | cons x T =>
    have hl := ha.len
    simp only [List.length_cons] at hl
    have hx8 := ha.small x (by simp)
    obtain ⟨b, off, rfl, hb, hc⟩ := ha.cells.cells (by omega)
    have c0 := hc 0 (by omega)
    simp only [Nat.add_zero, List.getD_cons_zero] at c0
    by_cases hx : x < 128
    · refine (head_low b off n c x w (by omega) hx c0).mono fun e w' h => ⟨?_, h.2⟩
      rw [hdc, if_pos hx]
      exact h.1
    · have hls : (if 192 ≤ x then x - 192 else x - 128) < 64 := by split <;> omega
      obtain ⟨m, hm⟩ : ∃ m, (if 192 ≤ x then x - 192 else x - 128) = m := ⟨_, rfl⟩
      obtain ⟨o1, ho1, ho2, es⟩ := slice_ahead (P := Try.prog) (t := 25) (by kernel_rfl) Try.s8 b off (n := n) (c := c) (p := 1) (by omega) ha.cap
      have haT : ∀ w' : World, Below w.heap.size w w' → ArgB w' (some ⟨b, o1, none⟩) (n - 1) (c - 1) T := fun w' hw => ⟨by omega, by have := ha.cap; omega, (fun h => by cases h), by
        refine Sl.below ?_ hw
        refine ⟨fun i hi => ?_, fun hi => ⟨b, o1, rfl, hb, fun i hi2 => ?_⟩⟩
        · have := ha.cells.small (i + 1) (by omega)
          simpa using this
        · have := hc (i + 1) (by omega)
          rw [ho1 (by omega), Nat.one_mul, Nat.add_assoc, Nat.add_comm 1 i]
          simpa using this⟩
      have hT : T.length = n - 1 := by omega
      have hlz : (lsz T (m - 55)).1 < B ∧ (lsz T (m - 55)).2 ≤ 10 ∧ (55 < m → (lsz T (m - 55)).2 = 0 → 1 + (m - 55) ≤ n) := by
        unfold lsz
        by_cases h1 : T.length < m - 55
        · rw [if_pos h1]
          exact ⟨by decide, by decide, fun _ h => by cases h⟩
        · rw [if_neg h1]
          by_cases h2 : T.getD 0 0 = 0
          · rw [if_pos h2]
            exact ⟨by decide, by decide, fun _ h => by cases h⟩
          · rw [if_neg h2]
            by_cases h3 : bval (T.take (m - 55)) ≤ 55
            · rw [if_pos h3]
              exact ⟨by decide, by decide, fun _ h => by cases h⟩
            · rw [if_neg h3]
              refine ⟨?_, by simp, fun _ _ => by omega⟩
              have h4 := bval_lt (T.take (m - 55)) fun y hy => ha.small y (by simp [List.mem_of_mem_take hy])
              rw [List.length_take] at h4
              have h5 : (256 : Nat) ^ (min (m - 55) T.length) ≤ 256 ^ 8 := Nat.pow_le_pow_right (by decide) (by omega)
              have h6 : (256 : Nat) ^ 8 = B := by decide
              simp only
              omega
      refine (head_high b off n c x (if decide (192 ≤ x) then 192 else 128) m (decide (192 ≤ x)) w (by omega) hn6 (by omega) hx8 c0 (decide_eq_decide.2 (by omega)) (Lib.hid fun w' => ?_) ?_ (by omega) (m - 55) (lsz T (m - 55)).1 (lsz T (m - 55)).2 (fun _ => rfl) hlz.1 hlz.2.1 hlz.2.2 _ _ (Lib.hid rfl) (Lib.hid rfl) ⟨o1, ?_, fun h w' hw => ?_⟩).mono fun e w' h => ⟨?_, h.2⟩
      · have := least_walk (decide (192 ≤ x)) w'
        refine this.mono fun e w2 h => ⟨?_, h.2⟩
        rw [h.1]
        by_cases h192 : 192 ≤ x <;> simp [h192]
      · rw [← hm]
        by_cases h192 : 192 ≤ x
        · simp [h192]; omega
        · simp [h192]; omega
      · exact es
      · exact long_walk T (m - 55) (by omega) (by omega) _ (n - 1) (c - 1) (by omega) w' (haT w' hw)
      · by_cases h55 : m ≤ 55
        · have := h.1.1 h55
          rw [hdc_short m (decide (192 ≤ x)) rfl hm.symm (by omega) h55, hT]
          exact this
        · have := h.1.2 (by omega)
          rw [hdc_long m (decide (192 ≤ x)) rfl hm.symm (by omega) h55 (by omega), hT, show n - 1 + 1 = n by omega]
          exact this
end Go.Proofs.Ytfpeliolngfkpaa
/- Rows of nodes that a call makes: how they read, and what is appended to them; a copy of bytes. -/
namespace Go.Proofs.Ytfpeliolngfkpaa
open Go.RowKit SmWord
set_option maxRecDepth 100000

/-- Bytes in a block of bytes. -/
def S8 (w : World) (A : Option Addr) (l : List Nat) : Prop := (∀ x ∈ l, x < 256) ∧ (0 < l.length → ∃ b off cur fr, A = some ⟨b, off, none⟩ ∧ w.heap[b]? = some (.cells cur 5 fr) ∧ ∀ i, i < l.length → cur[off + i]? = some (.int .u8 ((l.getD i 0 : Nat) : Int)))
theorem S8.sl {w : World} {A : Option Addr} {l : List Nat} (h : S8 w A l) : Sl w A l.length (fun i => l.getD i 0) :=
  ⟨fun i hi => by
    rw [List.getD, List.getElem?_eq_getElem hi]
    exact h.1 _ (List.getElem_mem hi), fun hn => by
    obtain ⟨b, off, cur, fr, e, hb, hc⟩ := h.2 hn
    exact ⟨b, off, e, (Array.getElem?_eq_some_iff.1 hb).1, fun i hi => by rw [cell_of_row w b _ cur _ fr hb]; exact hc i hi⟩⟩
/-- What the kinds are that stay: all but T's. -/
theorem S8.keeps {base : Nat} {T : TypeId → Bool} {w w' : World} {A : Option Addr} {l : List Nat} (h : S8 w A l) (k : Keeps base T w w') (hT : T 5 = false) : S8 w' A l :=
  ⟨h.1, fun hn => by
    obtain ⟨b, off, cur, fr, e, hb, hc⟩ := h.2 hn
    exact ⟨b, off, cur, fr, e, k.other _ _ _ _ hT hb, hc⟩⟩
theorem S8.own {w : World} {base : Nat} {v : Value} {l : List Nat} (h : w.ownsRow base 5 1 v l.length (lb8 l)) (hl : ∀ x ∈ l, x < 256) : ∃ A c, v = .slice A l.length c ∧ l.length ≤ c ∧ (A = none → l.length = 0 ∧ c = 0) ∧ S8 w A l := by
  rcases h.2 with ⟨rfl, h0⟩ | ⟨g, cap, cur, rfl, hb, hg, h1, h2, h3, h4⟩
  · rw [h0]
    exact ⟨none, 0, rfl, Nat.le_refl _, fun _ => ⟨rfl, rfl⟩, hl, fun hn => by omega⟩
  · refine ⟨_, cap, rfl, h1, (fun e => by cases e), hl, fun _ => ⟨g, 0, cur, (0, 0), rfl, hg, fun i hi => ?_⟩⟩
    rw [Nat.zero_add]
    have e : cur.toList[i]? = (cur.toList.take (l.length * 1))[i]? := by rw [List.getElem?_take_of_lt (by omega)]
    rw [← Array.getElem?_toList, e, h4, lb8_bb, bb_get _ hi]
/-- The cells of a row of nodes. -/
def RowOf (w : World) : List Value → List Nd → Prop
  | [], [] => True
  | a :: b :: c :: cs, x :: l => a = .bool x.ls ∧ (∃ A k, b = .slice A x.by'.length k ∧ x.by'.length ≤ k ∧ x.by'.length ≤ maxLen ∧ (A = none → x.by'.length = 0 ∧ k = 0) ∧ S8 w A x.by') ∧ c = .int .i64 x.sz ∧ RowOf w cs l
  | _, _ => False
theorem RowOf.app {w : World} : ∀ {cs : List Value} {l : List Nd} {ds : List Value} {m : List Nd}, RowOf w cs l → RowOf w ds m → RowOf w (cs ++ ds) (l ++ m)
  | [], [], _, _, _, h => h
  | [], _ :: _, _, _, h, _ => h.elim
  | [_], [], _, _, h, _ => h.elim
  | [_], _ :: _, _, _, h, _ => h.elim
  | [_, _], [], _, _, h, _ => h.elim
  | [_, _], _ :: _, _, _, h, _ => h.elim
  | _ :: _ :: _ :: _, [], _, _, h, _ => h.elim
  | _ :: _ :: _ :: _, _ :: _, _, _, h, k => ⟨h.1, h.2.1, h.2.2.1, RowOf.app h.2.2.2 k⟩
theorem RowOf.keeps {base : Nat} {T : TypeId → Bool} {w w' : World} (k : Keeps base T w w') (hT : T 5 = false) : ∀ {cs : List Value} {l : List Nd}, RowOf w cs l → RowOf w' cs l
  | [], [], _ => trivial
  | [], _ :: _, h => h.elim
  | [_], [], h => h.elim
  | [_], _ :: _, h => h.elim
  | [_, _], [], h => h.elim
  | [_, _], _ :: _, h => h.elim
  | _ :: _ :: _ :: _, [], h => h.elim
  | _ :: _ :: _ :: _, _ :: _, h => by
    obtain ⟨h1, ⟨A, c, h2, h3, h4, h5, h6⟩, h7, h8⟩ := h
    exact ⟨h1, ⟨A, c, h2, h3, h4, h5, h6.keeps k hT⟩, h7, RowOf.keeps k hT h8⟩
theorem RowOf.len {w : World} : ∀ {cs : List Value} {l : List Nd}, RowOf w cs l → cs.length = 3 * l.length
  | [], [], _ => rfl
  | [], _ :: _, h => h.elim
  | [_], [], h => h.elim
  | [_], _ :: _, h => h.elim
  | [_, _], [], h => h.elim
  | [_, _], _ :: _, h => h.elim
  | _ :: _ :: _ :: _, [], h => h.elim
  | _ :: _ :: _ :: _, _ :: _, h => by have := RowOf.len h.2.2.2; simp; omega
theorem RowOf.get {w : World} : ∀ {cs : List Value} {l : List Nd}, RowOf w cs l → ∀ (i : Nat) (x : Nd), l[i]? = some x →
    cs[3 * i]? = some (.bool x.ls) ∧ (∃ A k, cs[3 * i + 1]? = some (.slice A x.by'.length k) ∧ x.by'.length ≤ k ∧ x.by'.length ≤ maxLen ∧ (A = none → x.by'.length = 0 ∧ k = 0) ∧ S8 w A x.by') ∧ cs[3 * i + 2]? = some (.int .i64 x.sz)
  | [], [], _, i, x, hx => by simp at hx
  | [], _ :: _, h, _, _, _ => h.elim
  | [_], [], h, _, _, _ => h.elim
  | [_], _ :: _, h, _, _, _ => h.elim
  | [_, _], [], h, _, _, _ => h.elim
  | [_, _], _ :: _, h, _, _, _ => h.elim
  | _ :: _ :: _ :: _, [], h, _, _, _ => h.elim
  | a :: b :: c :: cs, y :: l, h, i, x, hx => by
    obtain ⟨h1, ⟨A, k, h2, h3⟩, h4, h5⟩ := h
    cases i with
    | zero =>
      simp only [List.getElem?_cons_zero, Option.some.injEq] at hx
      subst hx
      exact ⟨by rw [h1]; rfl, ⟨A, k, by rw [h2]; rfl, h3⟩, by rw [h4]; rfl⟩
    | succ i =>
      have := RowOf.get h5 i x (by simpa using hx)
      rw [show 3 * (i + 1) = 3 * i + 3 by omega]
      exact this
/-- A row of nodes, and that it is the call's own. -/
def Own (w : World) (base : Nat) (v : Value) (l : List Nd) : Prop := ∃ cs, w.ownsRow base 43 3 v l.length cs ∧ RowOf w cs l
theorem Own.nodes {w : World} {base : Nat} {v : Value} {l : List Nd} (h : Own w base v l) : ∃ A c, v = .slice A l.length c ∧ l.length ≤ c ∧ (A = none → l.length = 0 ∧ c = 0) ∧ NodesS w A l := by
  obtain ⟨cs, ho, hr⟩ := h
  rcases ho.2 with ⟨rfl, h0⟩ | ⟨g, cap, cur, rfl, hb, hg, h1, h2, h3, h4⟩
  · rw [h0]
    exact ⟨none, 0, rfl, Nat.le_refl _, fun _ => ⟨rfl, rfl⟩, ⟨fun hn => by omega⟩⟩
  · refine ⟨_, cap, rfl, h1, (fun e => by cases e), ⟨fun _ => ⟨g, 0, rfl, (Array.getElem?_eq_some_iff.1 hg).1, fun i x hx => ?_⟩⟩⟩
    obtain ⟨q1, ⟨A, k, q2, q3, q4, q5, q6⟩, q7⟩ := hr.get i x hx
    have hi : i < l.length := (List.getElem?_eq_some_iff.1 hx).1
    have key : ∀ j u, j < l.length * 3 → cs[j]? = some u → w.cell? ⟨g, 0 + j, none⟩ = some u := fun j u hj hu => by
      rw [Nat.zero_add]
      refine blk_cell hg ?_
      rw [← Array.getElem?_toList, ← hu, ← h4, List.getElem?_take_of_lt hj]
    exact ⟨key _ _ (by omega) q1, ⟨A, k, key _ _ (by omega) q2, q3, q4, q5, q6.sl⟩, key _ _ (by omega) q7⟩
theorem Own.keeps {base base' : Nat} {T : TypeId → Bool} {w w' : World} {v : Value} {l : List Nd} (h : Own w base v l) (k : Keeps base' T w w') (h1 : T 5 = false) (h2 : T 43 = false) : Own w' base v l := by
  obtain ⟨cs, ho, hr⟩ := h
  exact ⟨cs, own_keeps ho k h2, hr.keeps k h1⟩
theorem Own.below {base : Nat} {w w' : World} {v : Value} {l : List Nd} (h : Own w base v l) (hb : Below w.heap.size w w') : Own w' base v l := h.keeps (T := fun _ => false) (Keeps.of_below (base := 0) hb (Nat.zero_le _)) rfl rfl
/-- Rows of nodes, and readers. -/
def TN (t : TypeId) : Bool := t == 43 || t == 55
theorem eql_nil (w : World) (a : Addr) (n c : Nat) : (binOp .eql 25 (.slice (some a) n c) (.slice none 0 0)).run Try.prog w = .ok (.bool false) w := by
  exact Lib.run_eql_slice_nil (P := Try.prog) w 25 5 (some a) n c 0 0 Try.underlying25
set_option maxHeartbeats 1000000 in
theorem clone_walk (b off n c : Nat) (f : Nat → Nat) (hn : n ≤ 1000000000) (w : World) (hs : Sl w (some ⟨b, off, none⟩) n f) :
    Calls Try.prog 36 #[.slice (some ⟨b, off, none⟩) n c] w fun e w' => (∃ v, e = .returned v ∧ w'.ownsRow w.heap.size 5 1 v n (bb f n)) ∧ Below w.heap.size w w' := by
  have B0 : Below w.heap.size w (w.alloc (.cells #[] 5)) := (Below.refl _ _).alloc (Nat.le_refl _) _
  have HB := Lib.hid B0
  have HS := Lib.hid (hs.below B0)
  have HO := Lib.hid (own_none w (base := w.heap.size) (Nat.le_refl _))
  have hsz := B0.size
  clear B0 hs
  have en := fun w : World => eql_nil w ⟨b, off, none⟩ n c
  go_enter Try.func36, Try.ntmps36
  go_wp2_with (at_builtin; refine append_sl rfl _ _ rfl w.heap.size _ 0 [] rfl HO.out _ n c f rfl (fun h => by cases h) HS.out (by omega) hsz ?_)
  intro v' w' o3 g3
  have b3 := HB.out.grown g3 hsz (fun b hb' => (HO.out.lt b hb').1)
  have O3 := Lib.hid o3
  have B3 := Lib.hid b3
  clear o3 g3 b3
  go_wp2_with fail
  go_ret
  exact ⟨⟨_, rfl, O3.out⟩, B3.out⟩
end Go.Proofs.Ytfpeliolngfkpaa
