/- What the functions turn and Turn of package keccak do: a state behind 24 rounds. -/
import Derived.Test.YtgejfdbbapjpmaaDoorKkC
import Derived.Test.YtgejfdbbapjpmaaDoorKkD
namespace Go.Proofs.YtgejfdbbapjpmaaDoor
open Go.RowKit SmWord
set_option maxRecDepth 100000

theorem io_put (T : Nat → Nat) (c : Nat) : (sa T).setIfInBounds 0 (.int .u64 ((T 0 ^^^ c : Nat) : Int)) = sa (io c T) := by
  rw [sa_set (by omega)]
  rfl
set_option maxHeartbeats 2000000 in
theorem turn_walk (b : Nat) (S : Nat → Nat) (w : World) (hS : okS S) (hT : Tab w) (h2 : 2 ≤ b) (hb : w.heap[b]? = some (.cells (sa S) 23)) :
    Calls Tryd.prog 13 #[.pointer (some ⟨b, 0, none⟩)] w fun e w' => e = .returned (.tuple #[]) ∧ Wrote b w w' ∧ w'.heap[b]? = some (.cells (sa (tn S 24)) 23) := by
  have HS := Lib.hid hS
  have HT := Lib.hid hT
  have HW := Lib.hid hb
  clear hS hb hT
  go_enter Tryd.func13, Tryd.ntmps13
  go_wp2_with fail
  go_loopw [3] (fun i wr => ∃ k : Nat, k ≤ 24 ∧ i = .int .i64 k ∧ Wrote b w wr ∧ wr.heap[b]? = some (.cells (sa (tn S k)) 23)) (fun i _ => 24 - (intOf i).toNat)
  case atStart => exact ⟨0, by omega, rfl, Wrote.refl _ _, HW.out⟩
  case round =>
    clear HW
    obtain ⟨k, hk, rfl, hw, f0⟩ := hrel
    by_cases hlt : k < 24
    · obtain ⟨T, hTk⟩ : ∃ T, T = tn S k := ⟨_, rfl⟩
      have hok : okS T := by rw [hTk]; exact tn_lt HS.out k hk
      rw [← hTk] at f0
      have HK := Lib.hid hTk
      have HF := Lib.hid f0
      have HWr := Lib.hid hw
      have HO := Lib.hid hok
      clear hTk f0 hw hok
      go_wp2_with fail
      refine (mixc_walk b T wr HO.out HF.out).mono ?_
      rintro e w1 ⟨rfl, b1, f1⟩
      replace HWr := Lib.hid (HWr.out.trans b1)
      have HF1 := Lib.hid f1
      clear b1 f1 HF
      go_wp2_with fail
      refine (move_walk b (th T) w1 (th_lt HO.out) (HT.out.wrote HWr.out h2) h2 HF1.out).mono ?_
      rintro e w2 ⟨rfl, b2, f2⟩
      replace HWr := Lib.hid (HWr.out.trans b2)
      have HF2 := Lib.hid f2
      clear b2 f2 HF1
      go_wp2_with fail
      refine (mixr_walk b (rp (th T)) w2 (mv_lt (th_lt HO.out) (th_lt HO.out) 24 (by omega)) HF2.out).mono ?_
      rintro e w3 ⟨rfl, b3, f3⟩
      replace HWr := Lib.hid (HWr.out.trans b3)
      have HF3 := Lib.hid f3
      clear b3 f3 HF2
      have hU : okS (ch (rp (th T))) := ch_lt (mv_lt (th_lt HO.out) (th_lt HO.out) 24 (by omega))
      have HE : Hid (rd (kc k) T = io (kc k) (ch (rp (th T)))) := Lib.hid rfl
      generalize ch (rp (th T)) = U at *
      have hx : bits .xor .u64 ((U 0 : Nat) : Int) ((kc k : Nat) : Int) = ((U 0 ^^^ kc k : Nat) : Int) := xor_nat (hU 0 (by omega)) (kc_lt k hlt)
      clear hU
      go_wp2_with fail
      refine region_last2 (aQ := ?aQ) 10 (by kernel_rfl) (by kernel_rfl) (fun w1 => ?hq) (fun w0' hb' => ?hh)
      case hq =>
        have cg : ∀ g : Ext w1.on, g.on.cell? ⟨b, 0, none⟩ = some (.int .u64 ((U 0 : Nat) : Int)) := fun g =>
          blk_cell (g.block (w1.block HF3.out)) (sa_get (S := U) (i := 0) (by omega))
        have ck : ∀ g : Ext w1.on, g.on.cell? ⟨0, k, none⟩ = some (.int .u64 ((kc k : Nat) : Int)) := fun g =>
          (((HT.out.wrote HWr.out h2).below (Below.refl _ _).drew).below w1.below |>.below g.below).const k hlt
        simp only [List.take_succ_cons, List.take_zero]
        repeat (go_big_quiet_step (fail))
        refine wpQuiet_nil ?_
        rfl
      have g0 : w0'.heap[b]? = some (.cells (sa U) 23) := Ext.block ⟨w0', hb'⟩ HF3.out
      replace HWr := Lib.hid (HWr.out.trans (Wrote.of_below hb'))
      clear HF3 hb'
      have cx := blk_cell g0 (sa_get (i := 0) (by omega))
      have fz := blk_frozen (j := 0) g0
      have h0 : (w0'.setCell ⟨b, 0, none⟩ (.int .u64 ((U 0 ^^^ kc k : Nat) : Int))).heap[b]? = _ := blk_set g0 _
      rw [io_put, ← HE.out] at h0
      have HH := Lib.hid h0
      clear h0 g0
      simp only [List.drop_succ_cons, List.drop_zero]
      go_wp2_with fail
      refine ⟨⟨k + 1, by omega, by go_num, HWr.out.trans (Wrote.put _ _), by rw [tn, ← HK.out]; exact HH.out⟩, by simp [intOf]; omega⟩
    · obtain rfl : k = 24 := by omega
      have HF := Lib.hid f0
      have HWr := Lib.hid hw
      clear f0 hw
      go_wp2_with fail
      first | go_ret | go_end0
      exact ⟨rfl, HWr.out, HF.out⟩
end Go.Proofs.YtgejfdbbapjpmaaDoor
