/- What the function moveLanes of package keccak does: a state in memory is behind the second step; nothing else of what lay before changes. -/
import Derived.Test.YtgejfdbbapjpmaaDoorKkA
namespace Go.Proofs.YtgejfdbbapjpmaaDoor
open Go.RowKit SmWord
set_option maxRecDepth 100000

theorem tri_le : ∀ k, k < 24 → (k + 1) * (k + 2) ≤ 600 := by decide
theorem mv_put (S : Nat → Nat) {k : Nat} (hk : k < 24) : (sa (mv S S k)).setIfInBounds (pos (k + 1)) (.int .u64 ((rl (S (pos k)) ((k + 1) * (k + 2) / 2) : Nat) : Int)) = sa (mv S S (k + 1)) := by
  rw [sa_set (pos_lt _ (by omega))]
  rfl
set_option maxHeartbeats 2000000 in
theorem move_walk (b : Nat) (S : Nat → Nat) (w : World) (hS : okS S) (hT : Tab w) (h2 : 2 ≤ b) (hb : w.heap[b]? = some (.cells (sa S) 23)) :
    Calls Tryd.prog 22 #[.pointer (some ⟨b, 0, none⟩)] w fun e w' => e = .returned (.tuple #[]) ∧ Wrote b w w' ∧ w'.heap[b]? = some (.cells (sa (rp S)) 23) := by
  have c1 := blk_cell hb (sa_get (S := S) (i := 1) (by omega))
  have HS := Lib.hid hS
  have HT := Lib.hid hT
  have HW := Lib.hid hb
  clear hS hb hT
  go_enter Tryd.func22, Tryd.ntmps22
  go_wp2_with fail
  clear c1
  go_loopw [9, 2] (fun i h wr => ∃ k : Nat, k ≤ 24 ∧ i = .int .i64 k ∧ h = .int .u64 ((S (pos k) : Nat) : Int) ∧ Wrote b w wr ∧ wr.heap[b]? = some (.cells (sa (mv S S k)) 23)) (fun i _ _ => 24 - (intOf i).toNat)
  case atStart => exact ⟨0, by omega, rfl, rfl, Wrote.refl _ _, HW.out⟩
  case round =>
    clear HW
    obtain ⟨k, hk, rfl, rfl, hw, f0⟩ := hrel
    by_cases hlt : k < 24
    · obtain ⟨m, hm⟩ : ∃ m, (k + 1) * (k + 2) = m := ⟨_, rfl⟩
      have hm6 : m ≤ 600 := by rw [← hm]; exact tri_le k hlt
      have hmI : ((k : Int) + 1) * ((k : Int) + 2) = (m : Int) := by rw [← hm]; simp
      have cw := (HT.out.wrote hw h2).way k hlt
      have hp := pos_lt (k + 1) (by omega)
      have l0 : S (pos k) < B := HS.out _ (pos_lt k (by omega))
      have HM := Lib.hid hm
      have HWr := Lib.hid hw
      have HF := Lib.hid f0
      clear hw f0 hm
      go_wp2_with fail
      clear cw
      refine region_last2 (aQ := ?aQ) 18 (by kernel_rfl) (by kernel_rfl) (fun w1 => ?hq) (fun w0' hb' => ?hh)
      case hq =>
        have cg : ∀ g : Ext w1.on, g.on.cell? ⟨b, pos (k + 1), none⟩ = some (.int .u64 ((S (pos (k + 1)) : Nat) : Int)) := fun g => by
          have := blk_cell (g.block (w1.block HF.out)) (sa_get (i := pos (k + 1)) hp)
          rwa [mv_next S hlt] at this
        simp only [List.take_succ_cons, List.take_zero]
        repeat (go_big_quiet_step ((go_at_call 25; exact calls_ext ((rot _ (m / 2) _ l0 (by omega)).mono fun _ w' ⟨a, b⟩ => ⟨a, by subst b; exact Below.refl _ _⟩))))
        refine wpQuiet_nil ?_
        rfl
      have g0 : w0'.heap[b]? = some (.cells (sa (mv S S k)) 23) := Ext.block ⟨w0', hb'⟩ HF.out
      replace HWr := Lib.hid (HWr.out.trans (Wrote.of_below hb'))
      clear HF hb'
      have cx := blk_cell g0 (sa_get (i := pos (k + 1)) hp)
      have fz := blk_frozen (j := pos (k + 1)) g0
      have h0 : (w0'.setCell ⟨b, pos (k + 1), none⟩ (.int .u64 ((rl (S (pos k)) (m / 2) : Nat) : Int))).heap[b]? = _ := blk_set g0 _
      rw [← HM.out, mv_put S hlt, HM.out] at h0
      have HH := Lib.hid h0
      clear h0 g0
      simp only [List.drop_succ_cons, List.drop_zero]
      go_wp2_with fail
      refine ⟨⟨k + 1, by omega, by go_num, rfl, HWr.out.trans (Wrote.put _ _), HH.out⟩, by simp [intOf]; omega⟩
    · obtain rfl : k = 24 := by omega
      have HF := Lib.hid f0
      have HWr := Lib.hid hw
      clear f0 hw
      go_wp2_with fail
      first | go_ret | go_end0
      exact ⟨rfl, HWr.out, HF.out⟩
end Go.Proofs.YtgejfdbbapjpmaaDoor
