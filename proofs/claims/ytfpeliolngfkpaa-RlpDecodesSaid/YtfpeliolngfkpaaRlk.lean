/- What the document's head does. -/
import Derived.Test.YtfpeliolngfkpaaRli
namespace Go.Proofs.Ytfpeliolngfkpaa
open Go.RowKit SmWord
set_option maxRecDepth 100000

def RHIs (p : Nat) (h : Hd) (e : Ending) : Prop := match h with
  | .bad k => ∃ ls, e = .returned (.tuple #[.bool ls, .int .i64 0, .int .i64 0, .int .i64 (k : Int)])
  | .got ls u m => e = .returned (.tuple #[.bool ls, .int .i64 ((p + u : Nat) : Int), .int .i64 (m : Int), .int .i64 0])
def HQ (ls : Bool) (c' : Nat) (R : List Nat) : Hd :=
  if c' ≤ 183 then .got ls 1 (c' - 128)
  else if R.length < c' - 183 then .bad 3
  else if R.getD 0 0 = 0 then .bad 2
  else if cval (R.take (c' - 183)) ≤ 55 then .bad 2
  else .got ls (1 + (c' - 183)) (cval (R.take (c' - 183)))
set_option maxHeartbeats 2000000 in
theorem rhead_list (R : List Nat) (b off n c p c0 c1 : Nat) (hn : n ≤ 1048576) (hp : p < n) (w : World) (HC : Hid (∀ i, i < n → w.cell? ⟨b, off + i, none⟩ = some (.int .u8 ((R.getD i 0 : Nat) : Int)))) (hsm : ∀ i, R.getD i 0 < 256)
    (e0 : R.getD p 0 = c0) (q1 : decide (192 ≤ c0) = true) (hc1 : c0 - 64 = c1 ∧ 192 ≤ c0) (h128 : 128 ≤ c1) (h255 : c1 ≤ 255) (HT : Hid ((R.drop (p + 1)).length = n - (p + 1)))
    (hd : ∀ r, HQ true c1 (R.drop (p + 1)) = r → hdp c0 (R.drop (p + 1)) = r) :
    Calls Try.prog 37 #[.slice (some ⟨b, off, none⟩) n c, .int .i64 (p : Int)] w fun e w' => RHIs p (hdp c0 (R.drop (p + 1))) e ∧ w' = w := by
  have z0 := HC.out p hp
  rw [e0] at z0
  have q1i : decide ((192 : Int) ≤ (c0 : Int)) = true := by rw [← q1]; exact decide_eq_decide.2 (by omega)
  have hc0 : c0 < 256 := by rw [← e0]; exact hsm p
  obtain ⟨p1, hp1⟩ : ∃ p1, p + 1 = p1 := ⟨_, rfl⟩
  have e1 : (p : Int) + 1 = (p1 : Int) := by omega
  rw [hp1] at hd HT
  rw [hp1]
  have HP1 := Lib.hid hp1
  have HE0 := Lib.hid e0
  have HSM := Lib.hid hsm
  have HD := Lib.hid hd
  have e64 : (c0 : Int) - 64 = (c1 : Int) := by omega
  clear hc1
  clear e0 hsm hp1 hd
  by_cases h183 : c1 ≤ 183
  · have q2 : decide (c1 ≤ 183) = true := decide_eq_true h183
    obtain ⟨m, hm⟩ : ∃ m, c1 - 128 = m := ⟨_, rfl⟩
    have e2 : (c1 : Int) - 128 = (m : Int) := by omega
    have HQ1 := Lib.hid (HD.out (.got true 1 m) (by unfold HQ; rw [if_pos h183, hm]))
    clear HC HT HSM HE0 HD
    go_enter Try.func37, Try.ntmps37
    go_wp2_with fail
    refine bodyPost_ret (v := .tuple #[.bool true, .int .i64 (p1 : Int), .int .i64 (m : Int), .int .i64 0]) (by simp [results, Try.results37, go_sem]) rfl ⟨by rw [HQ1.out]; exact congrArg (fun x : Nat => Ending.returned (.tuple #[.bool true, .int .i64 (x : Int), .int .i64 (m : Int), .int .i64 0])) HP1.out.symm, rfl⟩
  · have q2 : decide (c1 ≤ 183) = false := decide_eq_false h183
    obtain ⟨k, hk⟩ : ∃ k, c1 - 183 = k := ⟨_, rfl⟩
    have e2 : (c1 : Int) - 183 = (k : Int) := by omega
    obtain ⟨pk, hpk⟩ : ∃ pk, p1 + k = pk := ⟨_, rfl⟩
    have e3 : (p1 : Int) + (k : Int) = (pk : Int) := by omega
    have hk0 : 0 < k := by omega
    have hk72 : k ≤ 72 := by omega
    have HK := Lib.hid hk
    clear hk
    by_cases hfar : n < pk
    · have q3 : decide (n < pk) = true := decide_eq_true hfar
      have HQ1 := Lib.hid (HD.out (.bad 3) (by unfold HQ; rw [if_neg h183, if_pos (by rw [HT.out, HK.out]; omega)]))
      clear HC HT HSM HE0 HD
      go_enter Try.func37, Try.ntmps37
      go_wp2_with fail
      refine bodyPost_ret (v := .tuple #[.bool true, .int .i64 0, .int .i64 0, .int .i64 3]) (by simp [results, Try.results37, go_sem]) rfl ⟨by rw [HQ1.out]; exact ⟨_, rfl⟩, rfl⟩
    · have q3 : decide (n < pk) = false := decide_eq_false hfar
      have hp1n : p1 < n := by omega
      have hg : ∀ i, (R.drop p1).getD i 0 = R.getD (p1 + i) 0 := fun i => by rw [List.getD, List.getElem?_drop, List.getD]
      have z1 := HC.out p1 hp1n
      obtain ⟨x1, hx1⟩ : ∃ x1, R.getD p1 0 = x1 := ⟨_, rfl⟩
      rw [hx1] at z1
      have hx256 : x1 < 256 := by rw [← hx1]; exact HSM.out p1
      by_cases hx0 : x1 = 0
      · have q4 : ((x1 : Int) == 0) = true := by simp [hx0]
        have HQ1 := Lib.hid (HD.out (.bad 2) (by unfold HQ; rw [if_neg h183, if_neg (by rw [HT.out, HK.out]; omega), if_pos (by rw [hg, Nat.add_zero, hx1]; exact hx0)]))
        clear HC HT HSM HE0 HD hg hx0 hx1
        go_enter Try.func37, Try.ntmps37
        go_wp2_with fail
        refine bodyPost_ret (v := .tuple #[.bool true, .int .i64 0, .int .i64 0, .int .i64 2]) (by simp [results, Try.results37, go_sem]) rfl ⟨by rw [HQ1.out]; exact ⟨_, rfl⟩, rfl⟩
      · have q4 : ((x1 : Int) == 0) = false := by simp; omega
        have hst : ∀ i, i < k → (R.drop p1).take (i + 1) = (R.drop p1).take i ++ [R.getD (p1 + i) 0] := fun i hi => by
          have hl : i < (R.drop p1).length := by rw [HT.out]; omega
          rw [List.take_add_one, List.getElem?_eq_getElem hl, ← hg i, List.getD, List.getElem?_eq_getElem hl]
          rfl
        have HST := Lib.hid hst
        have hq5 : ∀ N, cval ((R.drop p1).take k) = N → hdp c0 (R.drop p1) = if N ≤ 55 then .bad 2 else .got true (1 + k) N := fun N hN => HD.out _ (by unfold HQ; rw [if_neg h183, if_neg (by rw [HT.out, HK.out]; omega), if_neg (by rw [hg, Nat.add_zero, hx1]; exact hx0), HK.out, hN])
        have HQ5 := Lib.hid hq5
        have HPK := Lib.hid hpk
        clear HE0 HD hg hx0 hx1 hst hq5 hpk
        go_enter Try.func37, Try.ntmps37
        go_wp2_with fail
        go_loopw [11, 12] (fun nv iv wr => ∃ (i N : Nat), i ≤ k ∧ iv = .int .i64 (i : Int) ∧ nv = .int .i64 (N : Int) ∧ cval ((R.drop p1).take i) = N ∧ wr = w) (fun _ iv _ => k - (intOf iv).toNat)
        case atStart => exact ⟨0, 0, Nat.zero_le _, rfl, rfl, rfl, rfl⟩
        case round =>
          obtain ⟨i, N, hi, rfl, rfl, hN, rfl⟩ := hrel
          have hN9 : N ≤ 1000000000 := by rw [← hN, cval_bval]; omega
          by_cases hlt : i < k
          · have q5 : decide (i < k) = true := decide_eq_true hlt
            obtain ⟨pi, hpi⟩ : ∃ pi, p1 + i = pi := ⟨_, rfl⟩
            have e5 : (p1 : Int) + (i : Int) = (pi : Int) := by omega
            have hpin : pi < n := by have := HPK.out; omega
            have z2 := HC.out pi hpin
            have hs := HST.out i hlt
            rw [hpi] at hs
            have hx2 := HSM.out pi
            obtain ⟨x2, hx⟩ : ∃ x2, R.getD pi 0 = x2 := ⟨_, rfl⟩
            rw [hx] at z2 hs hx2
            obtain ⟨N1, hN1⟩ : ∃ N1, N * 256 = N1 := ⟨_, rfl⟩
            have e6 : (N : Int) * 256 = (N1 : Int) := by omega
            obtain ⟨N2, hN2⟩ : ∃ N2, N1 + x2 = N2 := ⟨_, rfl⟩
            have e7 : (N1 : Int) + (x2 : Int) = (N2 : Int) := by omega
            have hcv : cval ((R.drop p1).take (i + 1)) = min N2 1000000000 := by rw [hs, cval_snoc, hN, hN1, hN2]
            have HCV := Lib.hid hcv
            have hN2b : N2 ≤ 256000001000 := by omega
            clear hs hcv hN hx hpi hN1 hN2
            by_cases hbig : 1000000000 < N2
            · have q6 : decide (1000000000 < N2) = true := decide_eq_true hbig
              go_wp2_with fail
              refine ⟨⟨i + 1, 1000000000, by omega, by go_num, rfl, ?_, trivial⟩, by simp [intOf]; omega⟩
              rw [HCV.out]; omega
            · have q6 : decide (1000000000 < N2) = false := decide_eq_false hbig
              go_wp2_with fail
              refine ⟨⟨i + 1, N2, by omega, by go_num, rfl, ?_, trivial⟩, by simp [intOf]; omega⟩
              rw [HCV.out]; omega
          · have q5 : decide (i < k) = false := decide_eq_false hlt
            obtain rfl : i = k := by omega
            have hq := HQ5.out N hN
            clear hN HC
            by_cases h55 : N ≤ 55
            · have q6 : decide (N ≤ 55) = true := decide_eq_true h55
              rw [if_pos h55] at hq
              have HQ6 := Lib.hid hq
              clear hq
              go_wp2_with fail
              refine bodyPost_ret (v := .tuple #[.bool true, .int .i64 0, .int .i64 0, .int .i64 2]) (by simp [results, Try.results37, go_sem]) rfl ⟨by rw [HQ6.out]; exact ⟨_, rfl⟩, rfl⟩
            · have q6 : decide (N ≤ 55) = false := decide_eq_false h55
              rw [if_neg h55] at hq
              have HQ6 := Lib.hid hq
              clear hq
              go_wp2_with fail
              refine bodyPost_ret (v := .tuple #[.bool true, .int .i64 (pk : Int), .int .i64 (N : Int), .int .i64 0]) (by simp [results, Try.results37, go_sem]) rfl ⟨by rw [HQ6.out]; exact congrArg (fun x : Nat => Ending.returned (.tuple #[.bool true, .int .i64 (x : Int), .int .i64 (N : Int), .int .i64 0])) (by have h1 := HPK.out; have h2 := HP1.out; omega), rfl⟩
set_option maxHeartbeats 2000000 in
theorem rhead_str (R : List Nat) (b off n c p c0 c1 : Nat) (hn : n ≤ 1048576) (hp : p < n) (w : World) (HC : Hid (∀ i, i < n → w.cell? ⟨b, off + i, none⟩ = some (.int .u8 ((R.getD i 0 : Nat) : Int)))) (hsm : ∀ i, R.getD i 0 < 256)
    (e0 : R.getD p 0 = c0) (q1 : decide (192 ≤ c0) = false) (hc1 : c1 = c0) (h128 : 128 ≤ c1) (h255 : c1 ≤ 255) (HT : Hid ((R.drop (p + 1)).length = n - (p + 1)))
    (hd : ∀ r, HQ false c1 (R.drop (p + 1)) = r → hdp c0 (R.drop (p + 1)) = r) :
    Calls Try.prog 37 #[.slice (some ⟨b, off, none⟩) n c, .int .i64 (p : Int)] w fun e w' => RHIs p (hdp c0 (R.drop (p + 1))) e ∧ w' = w := by
  have z0 := HC.out p hp
  rw [e0] at z0
  have q1i : decide ((192 : Int) ≤ (c0 : Int)) = false := by rw [← q1]; exact decide_eq_decide.2 (by omega)
  have hc0 : c0 < 256 := by rw [← e0]; exact hsm p
  obtain ⟨p1, hp1⟩ : ∃ p1, p + 1 = p1 := ⟨_, rfl⟩
  have e1 : (p : Int) + 1 = (p1 : Int) := by omega
  rw [hp1] at hd HT
  rw [hp1]
  have HP1 := Lib.hid hp1
  have HE0 := Lib.hid e0
  have HSM := Lib.hid hsm
  have HD := Lib.hid hd
  subst hc1
  clear e0 hsm hp1 hd
  by_cases h183 : c1 ≤ 183
  · have q2 : decide (c1 ≤ 183) = true := decide_eq_true h183
    obtain ⟨m, hm⟩ : ∃ m, c1 - 128 = m := ⟨_, rfl⟩
    have e2 : (c1 : Int) - 128 = (m : Int) := by omega
    have HQ1 := Lib.hid (HD.out (.got false 1 m) (by unfold HQ; rw [if_pos h183, hm]))
    clear HC HT HSM HE0 HD
    go_enter Try.func37, Try.ntmps37
    go_wp2_with fail
    refine bodyPost_ret (v := .tuple #[.bool false, .int .i64 (p1 : Int), .int .i64 (m : Int), .int .i64 0]) (by simp [results, Try.results37, go_sem]) rfl ⟨by rw [HQ1.out]; exact congrArg (fun x : Nat => Ending.returned (.tuple #[.bool false, .int .i64 (x : Int), .int .i64 (m : Int), .int .i64 0])) HP1.out.symm, rfl⟩
  · have q2 : decide (c1 ≤ 183) = false := decide_eq_false h183
    obtain ⟨k, hk⟩ : ∃ k, c1 - 183 = k := ⟨_, rfl⟩
    have e2 : (c1 : Int) - 183 = (k : Int) := by omega
    obtain ⟨pk, hpk⟩ : ∃ pk, p1 + k = pk := ⟨_, rfl⟩
    have e3 : (p1 : Int) + (k : Int) = (pk : Int) := by omega
    have hk0 : 0 < k := by omega
    have hk72 : k ≤ 72 := by omega
    have HK := Lib.hid hk
    clear hk
    by_cases hfar : n < pk
    · have q3 : decide (n < pk) = true := decide_eq_true hfar
      have HQ1 := Lib.hid (HD.out (.bad 3) (by unfold HQ; rw [if_neg h183, if_pos (by rw [HT.out, HK.out]; omega)]))
      clear HC HT HSM HE0 HD
      go_enter Try.func37, Try.ntmps37
      go_wp2_with fail
      refine bodyPost_ret (v := .tuple #[.bool false, .int .i64 0, .int .i64 0, .int .i64 3]) (by simp [results, Try.results37, go_sem]) rfl ⟨by rw [HQ1.out]; exact ⟨_, rfl⟩, rfl⟩
    · have q3 : decide (n < pk) = false := decide_eq_false hfar
      have hp1n : p1 < n := by omega
      have hg : ∀ i, (R.drop p1).getD i 0 = R.getD (p1 + i) 0 := fun i => by rw [List.getD, List.getElem?_drop, List.getD]
      have z1 := HC.out p1 hp1n
      obtain ⟨x1, hx1⟩ : ∃ x1, R.getD p1 0 = x1 := ⟨_, rfl⟩
      rw [hx1] at z1
      have hx256 : x1 < 256 := by rw [← hx1]; exact HSM.out p1
      by_cases hx0 : x1 = 0
      · have q4 : ((x1 : Int) == 0) = true := by simp [hx0]
        have HQ1 := Lib.hid (HD.out (.bad 2) (by unfold HQ; rw [if_neg h183, if_neg (by rw [HT.out, HK.out]; omega), if_pos (by rw [hg, Nat.add_zero, hx1]; exact hx0)]))
        clear HC HT HSM HE0 HD hg hx0 hx1
        go_enter Try.func37, Try.ntmps37
        go_wp2_with fail
        refine bodyPost_ret (v := .tuple #[.bool false, .int .i64 0, .int .i64 0, .int .i64 2]) (by simp [results, Try.results37, go_sem]) rfl ⟨by rw [HQ1.out]; exact ⟨_, rfl⟩, rfl⟩
      · have q4 : ((x1 : Int) == 0) = false := by simp; omega
        have hst : ∀ i, i < k → (R.drop p1).take (i + 1) = (R.drop p1).take i ++ [R.getD (p1 + i) 0] := fun i hi => by
          have hl : i < (R.drop p1).length := by rw [HT.out]; omega
          rw [List.take_add_one, List.getElem?_eq_getElem hl, ← hg i, List.getD, List.getElem?_eq_getElem hl]
          rfl
        have HST := Lib.hid hst
        have hq5 : ∀ N, cval ((R.drop p1).take k) = N → hdp c1 (R.drop p1) = if N ≤ 55 then .bad 2 else .got false (1 + k) N := fun N hN => HD.out _ (by unfold HQ; rw [if_neg h183, if_neg (by rw [HT.out, HK.out]; omega), if_neg (by rw [hg, Nat.add_zero, hx1]; exact hx0), HK.out, hN])
        have HQ5 := Lib.hid hq5
        have HPK := Lib.hid hpk
        clear HE0 HD hg hx0 hx1 hst hq5 hpk
        go_enter Try.func37, Try.ntmps37
        go_wp2_with fail
        go_loopw [11, 12] (fun nv iv wr => ∃ (i N : Nat), i ≤ k ∧ iv = .int .i64 (i : Int) ∧ nv = .int .i64 (N : Int) ∧ cval ((R.drop p1).take i) = N ∧ wr = w) (fun _ iv _ => k - (intOf iv).toNat)
        case atStart => exact ⟨0, 0, Nat.zero_le _, rfl, rfl, rfl, rfl⟩
        case round =>
          obtain ⟨i, N, hi, rfl, rfl, hN, rfl⟩ := hrel
          have hN9 : N ≤ 1000000000 := by rw [← hN, cval_bval]; omega
          by_cases hlt : i < k
          · have q5 : decide (i < k) = true := decide_eq_true hlt
            obtain ⟨pi, hpi⟩ : ∃ pi, p1 + i = pi := ⟨_, rfl⟩
            have e5 : (p1 : Int) + (i : Int) = (pi : Int) := by omega
            have hpin : pi < n := by have := HPK.out; omega
            have z2 := HC.out pi hpin
            have hs := HST.out i hlt
            rw [hpi] at hs
            have hx2 := HSM.out pi
            obtain ⟨x2, hx⟩ : ∃ x2, R.getD pi 0 = x2 := ⟨_, rfl⟩
            rw [hx] at z2 hs hx2
            obtain ⟨N1, hN1⟩ : ∃ N1, N * 256 = N1 := ⟨_, rfl⟩
            have e6 : (N : Int) * 256 = (N1 : Int) := by omega
            obtain ⟨N2, hN2⟩ : ∃ N2, N1 + x2 = N2 := ⟨_, rfl⟩
            have e7 : (N1 : Int) + (x2 : Int) = (N2 : Int) := by omega
            have hcv : cval ((R.drop p1).take (i + 1)) = min N2 1000000000 := by rw [hs, cval_snoc, hN, hN1, hN2]
            have HCV := Lib.hid hcv
            have hN2b : N2 ≤ 256000001000 := by omega
            clear hs hcv hN hx hpi hN1 hN2
            by_cases hbig : 1000000000 < N2
            · have q6 : decide (1000000000 < N2) = true := decide_eq_true hbig
              go_wp2_with fail
              refine ⟨⟨i + 1, 1000000000, by omega, by go_num, rfl, ?_, trivial⟩, by simp [intOf]; omega⟩
              rw [HCV.out]; omega
            · have q6 : decide (1000000000 < N2) = false := decide_eq_false hbig
              go_wp2_with fail
              refine ⟨⟨i + 1, N2, by omega, by go_num, rfl, ?_, trivial⟩, by simp [intOf]; omega⟩
              rw [HCV.out]; omega
          · have q5 : decide (i < k) = false := decide_eq_false hlt
            obtain rfl : i = k := by omega
            have hq := HQ5.out N hN
            clear hN HC
            by_cases h55 : N ≤ 55
            · have q6 : decide (N ≤ 55) = true := decide_eq_true h55
              rw [if_pos h55] at hq
              have HQ6 := Lib.hid hq
              clear hq
              go_wp2_with fail
              refine bodyPost_ret (v := .tuple #[.bool false, .int .i64 0, .int .i64 0, .int .i64 2]) (by simp [results, Try.results37, go_sem]) rfl ⟨by rw [HQ6.out]; exact ⟨_, rfl⟩, rfl⟩
            · have q6 : decide (N ≤ 55) = false := decide_eq_false h55
              rw [if_neg h55] at hq
              have HQ6 := Lib.hid hq
              clear hq
              go_wp2_with fail
              refine bodyPost_ret (v := .tuple #[.bool false, .int .i64 (pk : Int), .int .i64 (N : Int), .int .i64 0]) (by simp [results, Try.results37, go_sem]) rfl ⟨by rw [HQ6.out]; exact congrArg (fun x : Nat => Ending.returned (.tuple #[.bool false, .int .i64 (x : Int), .int .i64 (N : Int), .int .i64 0])) (by have h1 := HPK.out; have h2 := HP1.out; omega), rfl⟩
theorem rheadd_walk (R : List Nat) (A : Option Addr) (n c p : Nat) (hn : n ≤ 1048576) (hp : p < n) (w : World) (ha : ArgB w A n c R) (h128 : 128 ≤ R.getD p 0) :
    Calls Try.prog 37 #[.slice A n c, .int .i64 (p : Int)] w fun e w' => RHIs p (hdp (R.getD p 0) (R.drop (p + 1))) e ∧ w' = w := by
  obtain ⟨b, off, rfl, hb, hc⟩ := ha.cells.cells (by omega)
  have hsm : ∀ i, R.getD i 0 < 256 := fun i => by
    by_cases hi : i < n
    · exact ha.cells.small i hi
    · rw [List.getD, List.getElem?_eq_none (by rw [ha.len]; omega)]; decide
  have h256 := hsm p
  have HT : (R.drop (p + 1)).length = n - (p + 1) := by rw [List.length_drop, ha.len]
  by_cases h192 : 192 ≤ R.getD p 0
  · refine rhead_list R b off n c p _ (R.getD p 0 - 64) hn hp w (Lib.hid hc) hsm rfl (decide_eq_true h192) ⟨rfl, h192⟩ (by omega) (by omega) (Lib.hid HT) (fun r hr => ?_)
    rw [← hr, hdp, HQ]
    simp only [h192, if_true, decide_true]
  · refine rhead_str R b off n c p _ (R.getD p 0) hn hp w (Lib.hid hc) hsm rfl (decide_eq_false h192) rfl (by omega) (by omega) (Lib.hid HT) (fun r hr => ?_)
    rw [← hr, hdp, HQ]
    simp only [h192, if_false, decide_false]
end Go.Proofs.Ytfpeliolngfkpaa
/- What the document's read does, branch by branch. -/
namespace Go.Proofs.Ytfpeliolngfkpaa
open Go.RowKit SmWord
set_option maxRecDepth 100000

theorem own_fresh {w : World} {base : Nat} (hb : base ≤ w.heap.size) (x : Nd) (A : Option Addr) (k : Nat) (h1 : x.by'.length ≤ k) (h2 : x.by'.length ≤ maxLen) (h3 : A = none → x.by'.length = 0 ∧ k = 0) (h4 : S8 w A x.by') :
    Own (w.alloc (.cells #[.bool x.ls, .slice A x.by'.length k, .int .i64 x.sz] 43)) base (.slice (some ⟨w.heap.size, 0, none⟩) 1 1) [x] :=
  ⟨[.bool x.ls, .slice A x.by'.length k, .int .i64 x.sz], ⟨rfl, .inr ⟨w.heap.size, 1, #[.bool x.ls, .slice A x.by'.length k, .int .i64 x.sz], rfl, hb, heap_alloc_new _ _, Nat.le_refl _, by unfold maxLen; omega, rfl, rfl⟩⟩, rfl, ⟨A, k, rfl, h1, h2, h3, h4.keeps (T := fun _ => false) ((Keeps.refl 0 _ w).alloc (Nat.zero_le _) _) rfl⟩, rfl, trivial⟩
def RRIs (base p : Nat) (r : Res) (e : Ending) (w' : World) : Prop := match r with
  | .err k => ∃ A1 c1, e = .returned (.tuple #[.slice A1 0 c1, .int .i64 0, .int .i64 (k : Int)])
  | .ok l u => ∃ v, e = .returned (.tuple #[v, .int .i64 ((p + u : Nat) : Int), .int .i64 0]) ∧ Own w' base v l
theorem read_out (A : Option Addr) (n c p st dp : Nat) (hp : n ≤ p) (w : World) :
    Calls Try.prog 23 #[.slice A n c, .int .i64 (p : Int), .int .i64 (st : Int), .int .i64 (dp : Int)] w fun e w' => (∃ A1 c1, e = .returned (.tuple #[.slice A1 0 c1, .int .i64 0, .int .i64 3])) ∧ Below w.heap.size w w' := by
  have q0 : decide (n ≤ p) = true := decide_eq_true hp
  have B1 := Lib.hid ((Below.refl w.heap.size w).alloc (Nat.le_refl _) (.cells #[] 43))
  go_enter Try.func23, Try.ntmps23
  go_wp2_with fail
  refine bodyPost_ret (v := .tuple #[.slice (some ⟨w.heap.size, 0, none⟩) 0 0, .int .i64 0, .int .i64 3]) (by simp [results, Try.results23, go_sem]) rfl ⟨⟨_, _, rfl⟩, B1.out⟩
theorem read_bare (b off n c p st dp c0 : Nat) (hn : n ≤ 1048576) (hp : p < n) (h128 : c0 < 128) (w : World) (z0 : w.cell? ⟨b, off + p, none⟩ = some (.int .u8 (c0 : Int))) (hb : b < w.heap.size) :
    Calls Try.prog 23 #[.slice (some ⟨b, off, none⟩) n c, .int .i64 (p : Int), .int .i64 (st : Int), .int .i64 (dp : Int)] w fun e w' => (∃ v, e = .returned (.tuple #[v, .int .i64 ((p + 1 : Nat) : Int), .int .i64 0]) ∧ Own w' w.heap.size v [⟨false, [c0], 0⟩]) ∧ Below w.heap.size w w' := by
  have q0 : decide (n ≤ p) = false := decide_eq_false (by omega)
  have q1 : decide (c0 < 128) = true := decide_eq_true h128
  obtain ⟨p1, hp1⟩ : ∃ p1, p + 1 = p1 := ⟨_, rfl⟩
  have e1 : (p : Int) + 1 = (p1 : Int) := by omega
  have b1 := (Below.refl w.heap.size w).alloc (Nat.le_refl _) (.cells #[] 43)
  have b2 := b1.alloc b1.size (.cells #[.int .u8 (c0 : Int)] 5)
  have z1 : (w.alloc (.cells #[] 43)).cell? ⟨b, off + p, none⟩ = some (.int .u8 (c0 : Int)) := (b1.cell (p := ⟨b, off + p, none⟩) hb).trans z0
  have hs : S8 ((w.alloc (.cells #[] 43)).alloc (.cells #[.int .u8 (c0 : Int)] 5)) (some ⟨(w.alloc (.cells #[] 43)).heap.size, 0, none⟩) [c0] := ⟨fun x hx => by simp at hx; omega, fun _ => ⟨_, 0, _, (0, 0), rfl, heap_alloc_new _ _, fun i hi => by
    have : i = 0 := by simpa using hi
    subst this; rfl⟩⟩
  have HO := Lib.hid (own_fresh b2.size ⟨false, [c0], 0⟩ _ 1 (Nat.le_refl _) (show 1 ≤ maxLen by decide) (fun h => by cases h) hs)
  have B3 := Lib.hid (b2.alloc b2.size (.cells #[.bool false, .slice (some ⟨(w.alloc (.cells #[] 43)).heap.size, 0, none⟩) 1 1, .int .i64 0] 43))
  rw [hp1]
  clear hs b1 b2
  go_enter Try.func23, Try.ntmps23
  go_wp2_with fail
  refine bodyPost_ret (v := .tuple #[.slice (some ⟨w.heap.size + 2, 0, none⟩) 1 1, .int .i64 (p1 : Int), .int .i64 0]) (by simp [results, Try.results23, go_sem]) rfl ⟨⟨_, rfl, ?_⟩, ?_⟩
  · have := HO.out
    simpa using this
  · have := B3.out
    simpa using this
theorem read_hbad (b off n c p st dp c0 k : Nat) (_hn : n ≤ 1048576) (hp : p < n) (h128 : 128 ≤ c0) (w : World) (z0 : w.cell? ⟨b, off + p, none⟩ = some (.int .u8 (c0 : Int))) (hb : b < w.heap.size) (hk : k ≠ 0) (KH : Hid (∀ w' : World, Below w.heap.size w w' → Calls Try.prog 37 #[.slice (some ⟨b, off, none⟩) n c, .int .i64 (p : Int)] w' fun e w2 => (∃ ls, e = .returned (.tuple #[.bool ls, .int .i64 0, .int .i64 0, .int .i64 (k : Int)])) ∧ w2 = w')) :
    Calls Try.prog 23 #[.slice (some ⟨b, off, none⟩) n c, .int .i64 (p : Int), .int .i64 (st : Int), .int .i64 (dp : Int)] w fun e w' => (∃ A1 c1, e = .returned (.tuple #[.slice A1 0 c1, .int .i64 0, .int .i64 (k : Int)])) ∧ Below w.heap.size w w' := by
  have q0 : decide (n ≤ p) = false := decide_eq_false (by omega)
  have q1 : decide (c0 < 128) = false := decide_eq_false (by omega)
  have b1 := (Below.refl w.heap.size w).alloc (Nat.le_refl _) (.cells #[] 43)
  have z1 : (w.alloc (.cells #[] 43)).cell? ⟨b, off + p, none⟩ = some (.int .u8 (c0 : Int)) := (b1.cell (p := ⟨b, off + p, none⟩) hb).trans z0
  have B1 := Lib.hid b1
  clear b1
  have hk2 : ((k : Int) != 0) = true := by rw [bne_iff_ne]; omega
  go_enter Try.func23, Try.ntmps23
  go_wp2_with fail
  refine (KH.out _ B1.out).mono ?_
  rintro e w1 ⟨⟨ls, rfl⟩, rfl⟩
  go_wp2_with fail
  refine bodyPost_ret (v := .tuple #[.slice (some ⟨w.heap.size, 0, none⟩) 0 0, .int .i64 0, .int .i64 (k : Int)]) (by simp [results, Try.results23, go_sem]) rfl ⟨⟨_, _, rfl⟩, B1.out⟩
theorem read_far3 (b off n c p st dp c0 u m : Nat) (hn : n ≤ 1048576) (hp : p < n) (h128 : 128 ≤ c0) (w : World) (z0 : w.cell? ⟨b, off + p, none⟩ = some (.int .u8 (c0 : Int))) (hb : b < w.heap.size) (ls : Bool) (hu : p + u ≤ n) (hm9 : m ≤ 1000000000) (hfar : n - (p + u) < m) (KH : Hid (∀ w' : World, Below w.heap.size w w' → Calls Try.prog 37 #[.slice (some ⟨b, off, none⟩) n c, .int .i64 (p : Int)] w' fun e w2 => (e = .returned (.tuple #[.bool ls, .int .i64 ((p + u : Nat) : Int), .int .i64 (m : Int), .int .i64 0])) ∧ w2 = w')) :
    Calls Try.prog 23 #[.slice (some ⟨b, off, none⟩) n c, .int .i64 (p : Int), .int .i64 (st : Int), .int .i64 (dp : Int)] w fun e w' => (∃ A1 c1, e = .returned (.tuple #[.slice A1 0 c1, .int .i64 0, .int .i64 3])) ∧ Below w.heap.size w w' := by
  have q0 : decide (n ≤ p) = false := decide_eq_false (by omega)
  have q1 : decide (c0 < 128) = false := decide_eq_false (by omega)
  have b1 := (Below.refl w.heap.size w).alloc (Nat.le_refl _) (.cells #[] 43)
  have z1 : (w.alloc (.cells #[] 43)).cell? ⟨b, off + p, none⟩ = some (.int .u8 (c0 : Int)) := (b1.cell (p := ⟨b, off + p, none⟩) hb).trans z0
  have B1 := Lib.hid b1
  clear b1
  obtain ⟨pu, hpu⟩ : ∃ pu, p + u = pu := ⟨_, rfl⟩
  rw [hpu] at KH
  obtain ⟨nl, hnl⟩ : ∃ nl, n - pu = nl := ⟨_, rfl⟩
  have e1 : (n : Int) - (pu : Int) = (nl : Int) := by omega
  obtain ⟨E, hE⟩ : ∃ E, pu + m = E := ⟨_, rfl⟩
  have e2 : (pu : Int) + (m : Int) = (E : Int) := by omega
  have q2 : decide (nl < m) = true := decide_eq_true (by omega)
  clear hfar hpu hnl hE
  go_enter Try.func23, Try.ntmps23
  go_wp2_with fail
  refine (KH.out _ B1.out).mono ?_
  rintro e w1 ⟨rfl, rfl⟩
  go_wp2_with fail
  refine bodyPost_ret (v := .tuple #[.slice (some ⟨w.heap.size, 0, none⟩) 0 0, .int .i64 0, .int .i64 3]) (by simp [results, Try.results23, go_sem]) rfl ⟨⟨_, _, rfl⟩, B1.out⟩
theorem read_far2 (b off n c p st dp c0 u m : Nat) (hn : n ≤ 1048576) (hp : p < n) (h128 : 128 ≤ c0) (w : World) (z0 : w.cell? ⟨b, off + p, none⟩ = some (.int .u8 (c0 : Int))) (hb : b < w.heap.size) (ls : Bool) (hu : p + u + m ≤ n) (hfar : st < p + u + m) (KH : Hid (∀ w' : World, Below w.heap.size w w' → Calls Try.prog 37 #[.slice (some ⟨b, off, none⟩) n c, .int .i64 (p : Int)] w' fun e w2 => (e = .returned (.tuple #[.bool ls, .int .i64 ((p + u : Nat) : Int), .int .i64 (m : Int), .int .i64 0])) ∧ w2 = w')) :
    Calls Try.prog 23 #[.slice (some ⟨b, off, none⟩) n c, .int .i64 (p : Int), .int .i64 (st : Int), .int .i64 (dp : Int)] w fun e w' => (∃ A1 c1, e = .returned (.tuple #[.slice A1 0 c1, .int .i64 0, .int .i64 2])) ∧ Below w.heap.size w w' := by
  have q0 : decide (n ≤ p) = false := decide_eq_false (by omega)
  have q1 : decide (c0 < 128) = false := decide_eq_false (by omega)
  have b1 := (Below.refl w.heap.size w).alloc (Nat.le_refl _) (.cells #[] 43)
  have z1 : (w.alloc (.cells #[] 43)).cell? ⟨b, off + p, none⟩ = some (.int .u8 (c0 : Int)) := (b1.cell (p := ⟨b, off + p, none⟩) hb).trans z0
  have B1 := Lib.hid b1
  clear b1
  obtain ⟨pu, hpu⟩ : ∃ pu, p + u = pu := ⟨_, rfl⟩
  rw [hpu] at KH
  obtain ⟨nl, hnl⟩ : ∃ nl, n - pu = nl := ⟨_, rfl⟩
  have e1 : (n : Int) - (pu : Int) = (nl : Int) := by omega
  obtain ⟨E, hE⟩ : ∃ E, pu + m = E := ⟨_, rfl⟩
  have e2 : (pu : Int) + (m : Int) = (E : Int) := by omega
  have q2 : decide (nl < m) = false := decide_eq_false (by omega)
  have q3 : decide (st < E) = true := decide_eq_true (by omega)
  have hm6 : m ≤ 1048576 := by omega
  clear hfar hpu hnl hE
  go_enter Try.func23, Try.ntmps23
  go_wp2_with fail
  refine (KH.out _ B1.out).mono ?_
  rintro e w1 ⟨rfl, rfl⟩
  go_wp2_with fail
  refine bodyPost_ret (v := .tuple #[.slice (some ⟨w.heap.size, 0, none⟩) 0 0, .int .i64 0, .int .i64 2]) (by simp [results, Try.results23, go_sem]) rfl ⟨⟨_, _, rfl⟩, B1.out⟩
theorem read_short (b off n c p st dp c0 u m x : Nat) (hn : n ≤ 1048576) (hp : p < n) (h128 : 128 ≤ c0) (w : World) (z0 : w.cell? ⟨b, off + p, none⟩ = some (.int .u8 (c0 : Int))) (hb : b < w.heap.size) (hu : p + u + m ≤ n) (hst : p + u + m ≤ st) (hm1 : m = 1) (hx : x < 128) (z2 : w.cell? ⟨b, off + (p + u), none⟩ = some (.int .u8 (x : Int))) (KH : Hid (∀ w' : World, Below w.heap.size w w' → Calls Try.prog 37 #[.slice (some ⟨b, off, none⟩) n c, .int .i64 (p : Int)] w' fun e w2 => (e = .returned (.tuple #[.bool false, .int .i64 ((p + u : Nat) : Int), .int .i64 (m : Int), .int .i64 0])) ∧ w2 = w')) :
    Calls Try.prog 23 #[.slice (some ⟨b, off, none⟩) n c, .int .i64 (p : Int), .int .i64 (st : Int), .int .i64 (dp : Int)] w fun e w' => (∃ A1 c1, e = .returned (.tuple #[.slice A1 0 c1, .int .i64 0, .int .i64 2])) ∧ Below w.heap.size w w' := by
  have q0 : decide (n ≤ p) = false := decide_eq_false (by omega)
  have q1 : decide (c0 < 128) = false := decide_eq_false (by omega)
  have b1 := (Below.refl w.heap.size w).alloc (Nat.le_refl _) (.cells #[] 43)
  have z1 : (w.alloc (.cells #[] 43)).cell? ⟨b, off + p, none⟩ = some (.int .u8 (c0 : Int)) := (b1.cell (p := ⟨b, off + p, none⟩) hb).trans z0
  have B1 := Lib.hid b1
  clear b1
  obtain ⟨pu, hpu⟩ : ∃ pu, p + u = pu := ⟨_, rfl⟩
  rw [hpu] at KH
  obtain ⟨nl, hnl⟩ : ∃ nl, n - pu = nl := ⟨_, rfl⟩
  have e1 : (n : Int) - (pu : Int) = (nl : Int) := by omega
  obtain ⟨E, hE⟩ : ∃ E, pu + m = E := ⟨_, rfl⟩
  have e2 : (pu : Int) + (m : Int) = (E : Int) := by omega
  have q2 : decide (nl < m) = false := decide_eq_false (by omega)
  have q3 : decide (st < E) = false := decide_eq_false (by omega)
  have q4 : decide (x < 128) = true := decide_eq_true hx
  rw [hpu] at z2
  have hpn : pu < n := by omega
  have z3 : (w.alloc (.cells #[] 43)).cell? ⟨b, off + pu, none⟩ = some (.int .u8 (x : Int)) := (B1.out.cell (p := ⟨b, off + pu, none⟩) hb).trans z2
  have q5 : ((m : Int) == 1) = true := by simp [hm1]
  have hm6 : m ≤ 1048576 := by omega
  clear hpu hnl hE hst hu hm1
  go_enter Try.func23, Try.ntmps23
  go_wp2_with fail
  refine (KH.out _ B1.out).mono ?_
  rintro e w1 ⟨rfl, rfl⟩
  go_wp2_with fail
  refine bodyPost_ret (v := .tuple #[.slice (some ⟨w.heap.size, 0, none⟩) 0 0, .int .i64 0, .int .i64 2]) (by simp [results, Try.results23, go_sem]) rfl ⟨⟨_, _, rfl⟩, B1.out⟩
theorem read_deep (b off n c p st dp c0 u m : Nat) (hn : n ≤ 1048576) (hp : p < n) (h128 : 128 ≤ c0) (w : World) (z0 : w.cell? ⟨b, off + p, none⟩ = some (.int .u8 (c0 : Int))) (hb : b < w.heap.size) (hu : p + u + m ≤ n) (hst : p + u + m ≤ st) (hd : dp = 64) (KH : Hid (∀ w' : World, Below w.heap.size w w' → Calls Try.prog 37 #[.slice (some ⟨b, off, none⟩) n c, .int .i64 (p : Int)] w' fun e w2 => (e = .returned (.tuple #[.bool true, .int .i64 ((p + u : Nat) : Int), .int .i64 (m : Int), .int .i64 0])) ∧ w2 = w')) :
    Calls Try.prog 23 #[.slice (some ⟨b, off, none⟩) n c, .int .i64 (p : Int), .int .i64 (st : Int), .int .i64 (dp : Int)] w fun e w' => (∃ A1 c1, e = .returned (.tuple #[.slice A1 0 c1, .int .i64 0, .int .i64 4])) ∧ Below w.heap.size w w' := by
  have q0 : decide (n ≤ p) = false := decide_eq_false (by omega)
  have q1 : decide (c0 < 128) = false := decide_eq_false (by omega)
  have b1 := (Below.refl w.heap.size w).alloc (Nat.le_refl _) (.cells #[] 43)
  have z1 : (w.alloc (.cells #[] 43)).cell? ⟨b, off + p, none⟩ = some (.int .u8 (c0 : Int)) := (b1.cell (p := ⟨b, off + p, none⟩) hb).trans z0
  have B1 := Lib.hid b1
  clear b1
  obtain ⟨pu, hpu⟩ : ∃ pu, p + u = pu := ⟨_, rfl⟩
  rw [hpu] at KH
  obtain ⟨nl, hnl⟩ : ∃ nl, n - pu = nl := ⟨_, rfl⟩
  have e1 : (n : Int) - (pu : Int) = (nl : Int) := by omega
  obtain ⟨E, hE⟩ : ∃ E, pu + m = E := ⟨_, rfl⟩
  have e2 : (pu : Int) + (m : Int) = (E : Int) := by omega
  have q2 : decide (nl < m) = false := decide_eq_false (by omega)
  have q3 : decide (st < E) = false := decide_eq_false (by omega)
  have hm6 : m ≤ 1048576 := by omega
  subst hd
  clear hpu hnl hE hst hu
  go_enter Try.func23, Try.ntmps23
  go_wp2_with fail
  refine (KH.out _ B1.out).mono ?_
  rintro e w1 ⟨rfl, rfl⟩
  go_wp2_with fail
  refine bodyPost_ret (v := .tuple #[.slice (some ⟨w.heap.size, 0, none⟩) 0 0, .int .i64 0, .int .i64 4]) (by simp [results, Try.results23, go_sem]) rfl ⟨⟨_, _, rfl⟩, B1.out⟩
end Go.Proofs.Ytfpeliolngfkpaa
/- What the document's read does with bytes and lists. -/
namespace Go.Proofs.Ytfpeliolngfkpaa
open Go.RowKit SmWord
set_option maxRecDepth 100000

set_option maxHeartbeats 1000000 in
theorem read_strn (b off n c p st dp c0 u m c2 b2 o2 : Nat) (hn : n ≤ 1048576) (hp : p < n) (h128 : 128 ≤ c0) (w : World) (z0 : w.cell? ⟨b, off + p, none⟩ = some (.int .u8 (c0 : Int))) (hb : b < w.heap.size) (bl : List Nat) (hml : bl.length = m) (hb8 : ∀ x ∈ bl, x < 256) (hu : p + u + m ≤ n) (hst : p + u + m ≤ st) (hm1 : m ≠ 1) (hs : Sl w (some ⟨b2, o2, none⟩) m (fun i => bl.getD i 0)) (em : ∀ w' : World, (Instr.sliceAt 25 (.slice (some ⟨b, off, none⟩) n c) (some (.int .i64 ((p + u : Nat) : Int))) (some (.int .i64 ((p + u + m : Nat) : Int))) none).run Try.prog w' = .ok (.slice (some ⟨b2, o2, none⟩) m c2) w') (KH : Hid (∀ w' : World, Below w.heap.size w w' → Calls Try.prog 37 #[.slice (some ⟨b, off, none⟩) n c, .int .i64 (p : Int)] w' fun e w2 => (e = .returned (.tuple #[.bool false, .int .i64 ((p + u : Nat) : Int), .int .i64 (m : Int), .int .i64 0])) ∧ w2 = w')) :
    Calls Try.prog 23 #[.slice (some ⟨b, off, none⟩) n c, .int .i64 (p : Int), .int .i64 (st : Int), .int .i64 (dp : Int)] w fun e w' => (∃ v, e = .returned (.tuple #[v, .int .i64 ((p + u + m : Nat) : Int), .int .i64 0]) ∧ Own w' w.heap.size v [⟨false, bl, 0⟩]) ∧ Below w.heap.size w w' := by
  have q0 : decide (n ≤ p) = false := decide_eq_false (by omega)
  have q1 : decide (c0 < 128) = false := decide_eq_false (by omega)
  have b1 := (Below.refl w.heap.size w).alloc (Nat.le_refl _) (.cells #[] 43)
  have z1 : (w.alloc (.cells #[] 43)).cell? ⟨b, off + p, none⟩ = some (.int .u8 (c0 : Int)) := (b1.cell (p := ⟨b, off + p, none⟩) hb).trans z0
  have B1 := Lib.hid b1
  clear b1
  obtain ⟨pu, hpu⟩ : ∃ pu, p + u = pu := ⟨_, rfl⟩
  rw [hpu] at KH
  obtain ⟨nl, hnl⟩ : ∃ nl, n - pu = nl := ⟨_, rfl⟩
  have e1 : (n : Int) - (pu : Int) = (nl : Int) := by omega
  obtain ⟨E, hE⟩ : ∃ E, pu + m = E := ⟨_, rfl⟩
  have e2 : (pu : Int) + (m : Int) = (E : Int) := by omega
  rw [hpu, hE] at em
  rw [hpu, hE]
  have q2 : decide (nl < m) = false := decide_eq_false (by omega)
  have q3 : decide (st < E) = false := decide_eq_false (by omega)
  have hm6 : m ≤ 1048576 := by omega
  have q5 : ((m : Int) == 1) = false := by simp; omega
  have o0 : ((w.alloc (.cells #[] 43)).alloc (.cells #[] 5)).ownsRow w.heap.size 5 1 (.slice (some ⟨w.heap.size + 1, 0, none⟩) 0 0) 0 [] := by
    have := own_none (w.alloc (.cells #[] 43)) (base := w.heap.size) (by simp)
    rwa [show (w.alloc (.cells #[] 43)).heap.size = w.heap.size + 1 by simp] at this
  have HO := Lib.hid o0
  have b2' := B1.out.alloc B1.out.size (.cells #[] 5)
  have hsz := b2'.size
  have B2 := Lib.hid b2'
  have HS := Lib.hid (hs.below b2')
  have HM := Lib.hid (And.intro hml hb8)
  clear hpu hnl hE hst hu o0 b2' hs hml hb8
  go_enter Try.func23, Try.ntmps23
  go_wp2_with fail
  refine (KH.out _ B1.out).mono ?_
  rintro e w1 ⟨rfl, rfl⟩
  go_wp2_with (at_builtin; refine append_sl rfl _ _ rfl w.heap.size _ 0 [] rfl HO.out _ m c2 _ rfl (fun h => by cases h) HS.out (by omega) hsz ?_)
  intro v' w' o3 g3
  have b3 := B2.out.grown g3 hsz (fun b hb' => (HO.out.lt b hb').1)
  obtain ⟨A3, c3, rfl, hc3, hA3, hs8⟩ := S8.own (l := bl) (by rw [lb8_bb, HM.out.1]; simpa using o3) HM.out.2
  have HF := Lib.hid (own_fresh b3.size ⟨false, bl, 0⟩ A3 c3 hc3 (by simp only [HM.out.1]; unfold maxLen; omega) hA3 hs8)
  have B3 := Lib.hid (b3.alloc b3.size (.cells #[.bool false, .slice A3 bl.length c3, .int .i64 0] 43))
  clear o3 g3 b3 hs8
  go_wp2_with fail
  refine bodyPost_ret (v := .tuple #[.slice (some ⟨w'.heap.size, 0, none⟩) 1 1, .int .i64 (E : Int), .int .i64 0]) (by simp [results, Try.results23, go_sem]) rfl ⟨⟨_, rfl, HF.out⟩, B3.out⟩
set_option maxHeartbeats 1000000 in
theorem read_stro (b off n c p st dp c0 u m c2 b2 o2 : Nat) (hn : n ≤ 1048576) (hp : p < n) (h128 : 128 ≤ c0) (w : World) (z0 : w.cell? ⟨b, off + p, none⟩ = some (.int .u8 (c0 : Int))) (hb : b < w.heap.size) (bl : List Nat) (hml : bl.length = m) (hb8 : ∀ x ∈ bl, x < 256) (hu : p + u + m ≤ n) (hst : p + u + m ≤ st) (x : Nat) (hm1 : m = 1) (hx : 128 ≤ x) (z2 : w.cell? ⟨b, off + (p + u), none⟩ = some (.int .u8 (x : Int))) (hs : Sl w (some ⟨b2, o2, none⟩) m (fun i => bl.getD i 0)) (em : ∀ w' : World, (Instr.sliceAt 25 (.slice (some ⟨b, off, none⟩) n c) (some (.int .i64 ((p + u : Nat) : Int))) (some (.int .i64 ((p + u + m : Nat) : Int))) none).run Try.prog w' = .ok (.slice (some ⟨b2, o2, none⟩) m c2) w') (KH : Hid (∀ w' : World, Below w.heap.size w w' → Calls Try.prog 37 #[.slice (some ⟨b, off, none⟩) n c, .int .i64 (p : Int)] w' fun e w2 => (e = .returned (.tuple #[.bool false, .int .i64 ((p + u : Nat) : Int), .int .i64 (m : Int), .int .i64 0])) ∧ w2 = w')) :
    Calls Try.prog 23 #[.slice (some ⟨b, off, none⟩) n c, .int .i64 (p : Int), .int .i64 (st : Int), .int .i64 (dp : Int)] w fun e w' => (∃ v, e = .returned (.tuple #[v, .int .i64 ((p + u + m : Nat) : Int), .int .i64 0]) ∧ Own w' w.heap.size v [⟨false, bl, 0⟩]) ∧ Below w.heap.size w w' := by
  have q0 : decide (n ≤ p) = false := decide_eq_false (by omega)
  have q1 : decide (c0 < 128) = false := decide_eq_false (by omega)
  have b1 := (Below.refl w.heap.size w).alloc (Nat.le_refl _) (.cells #[] 43)
  have z1 : (w.alloc (.cells #[] 43)).cell? ⟨b, off + p, none⟩ = some (.int .u8 (c0 : Int)) := (b1.cell (p := ⟨b, off + p, none⟩) hb).trans z0
  have B1 := Lib.hid b1
  clear b1
  obtain ⟨pu, hpu⟩ : ∃ pu, p + u = pu := ⟨_, rfl⟩
  rw [hpu] at KH
  obtain ⟨nl, hnl⟩ : ∃ nl, n - pu = nl := ⟨_, rfl⟩
  have e1 : (n : Int) - (pu : Int) = (nl : Int) := by omega
  obtain ⟨E, hE⟩ : ∃ E, pu + m = E := ⟨_, rfl⟩
  have e2 : (pu : Int) + (m : Int) = (E : Int) := by omega
  rw [hpu, hE] at em
  rw [hpu, hE]
  have q2 : decide (nl < m) = false := decide_eq_false (by omega)
  have q3 : decide (st < E) = false := decide_eq_false (by omega)
  have hm6 : m ≤ 1048576 := by omega
  have q5 : ((m : Int) == 1) = true := by simp [hm1]
  have q4 : decide (x < 128) = false := decide_eq_false (by omega)
  rw [hpu] at z2
  have hpn : pu < n := by omega
  have z3 : (w.alloc (.cells #[] 43)).cell? ⟨b, off + pu, none⟩ = some (.int .u8 (x : Int)) := (B1.out.cell (p := ⟨b, off + pu, none⟩) hb).trans z2
  clear hm1 z2
  have o0 : ((w.alloc (.cells #[] 43)).alloc (.cells #[] 5)).ownsRow w.heap.size 5 1 (.slice (some ⟨w.heap.size + 1, 0, none⟩) 0 0) 0 [] := by
    have := own_none (w.alloc (.cells #[] 43)) (base := w.heap.size) (by simp)
    rwa [show (w.alloc (.cells #[] 43)).heap.size = w.heap.size + 1 by simp] at this
  have HO := Lib.hid o0
  have b2' := B1.out.alloc B1.out.size (.cells #[] 5)
  have hsz := b2'.size
  have B2 := Lib.hid b2'
  have HS := Lib.hid (hs.below b2')
  have HM := Lib.hid (And.intro hml hb8)
  clear hpu hnl hE hst hu o0 b2' hs hml hb8
  go_enter Try.func23, Try.ntmps23
  go_wp2_with fail
  refine (KH.out _ B1.out).mono ?_
  rintro e w1 ⟨rfl, rfl⟩
  go_wp2_with (at_builtin; refine append_sl rfl _ _ rfl w.heap.size _ 0 [] rfl HO.out _ m c2 _ rfl (fun h => by cases h) HS.out (by omega) hsz ?_)
  intro v' w' o3 g3
  have b3 := B2.out.grown g3 hsz (fun b hb' => (HO.out.lt b hb').1)
  obtain ⟨A3, c3, rfl, hc3, hA3, hs8⟩ := S8.own (l := bl) (by rw [lb8_bb, HM.out.1]; simpa using o3) HM.out.2
  have HF := Lib.hid (own_fresh b3.size ⟨false, bl, 0⟩ A3 c3 hc3 (by simp only [HM.out.1]; unfold maxLen; omega) hA3 hs8)
  have B3 := Lib.hid (b3.alloc b3.size (.cells #[.bool false, .slice A3 bl.length c3, .int .i64 0] 43))
  clear o3 g3 b3 hs8
  go_wp2_with fail
  refine bodyPost_ret (v := .tuple #[.slice (some ⟨w'.heap.size, 0, none⟩) 1 1, .int .i64 (E : Int), .int .i64 0]) (by simp [results, Try.results23, go_sem]) rfl ⟨⟨_, rfl, HF.out⟩, B3.out⟩
end Go.Proofs.Ytfpeliolngfkpaa
