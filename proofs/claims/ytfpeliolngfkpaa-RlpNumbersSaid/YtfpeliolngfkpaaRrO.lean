/- The statement on numbers: its walk. -/
import Derived.Test.YtfpeliolngfkpaaRrN
namespace Go.Proofs.Ytfpeliolngfkpaa
open Go.RowKit SmWord
set_option maxRecDepth 100000

theorem word_cells {w : World} {b n : Nat} (h : w.heap[b]? = some (.cells (wa n) 39)) :
    w.cell? ⟨b, 0, none⟩ = some (.int .u64 ((l0 n : Nat) : Int)) ∧ w.cell? ⟨b, 1, none⟩ = some (.int .u64 ((l1 n : Nat) : Int)) ∧ w.cell? ⟨b, 2, none⟩ = some (.int .u64 ((l2 n : Nat) : Int)) ∧ w.cell? ⟨b, 3, none⟩ = some (.int .u64 ((l3 n : Nat) : Int)) :=
  ⟨blk_cell h rfl, blk_cell h rfl, blk_cell h rfl, blk_cell h rfl⟩
set_option maxHeartbeats 4000000 in
theorem numbers_core (n k : Nat) (w : World) (S : ByteArray) (hk : nbl n = k) (hS : strL (bdig k n) = S) (hn : n < 256 ^ 32) (hk0 : 0 < k) :
    Calls Try.prog 5 #[wd n] w fun e w' => e = .returned (.bool true) ∧ Below w.heap.size w w' := by
  have hz := wa_size
  have fo := fold_wa
  have K1 := Lib.hid fun w => number_walk n w hn
  have K2 := Lib.hid fun w => rnumber_walk n w hn
  have hnf : nf n 0 ≠ 0 := by
    have h0 : n ≠ 0 := by rintro rfl; simp [nbl] at hk; omega
    have := bdig_first (n := n) (k := nbl n) h0 (Nat.le_refl _)
    rw [Nat.sub_self] at this
    exact this
  have hnl := nf_lt n 0 (by omega)
  have hk00 : ((k : Int) == 0) = false := by simp; omega
  have hn00 : (((nf n 0 : Nat) : Int) != 0) = true := by rw [bne_iff_ne]; omega
  have hb : bdig (nbl n) n = bdig k n := by rw [hk]
  rw [hk] at K1 K2
  have hlb := lb8_nf n
  rw [hk] at hlb
  have hkl : (bdig k n).length = k := bdig_length _ _
  have HL := Lib.hid (And.intro hlb (And.intro hkl hS))
  have hnfk : nf n = fun i => (bdig k n).getD i 0 := by
    funext i
    rw [nf, hk]
  have HNF := Lib.hid hnfk
  have hk32 : k ≤ 32 := by rw [← hk]; exact nbl_le_of hn
  clear hlb hkl hS hnfk hk hb
  go_enter Try.func5, Try.ntmps5
  go_wp2_with fail
  refine (K1.out _).mono ?_
  rintro e w1 ⟨⟨nb, no, rfl, hnb, hs⟩, b1⟩
  have bA : Below w.heap.size w (w.alloc (.cells (wa n) 39)) := (Below.refl _ _).alloc (Nat.le_refl _) _
  have ha := stay b1 (heap_alloc_new w (.cells (wa n) 39))
  have HA := Lib.hid ha
  have HS := Lib.hid hs
  have HB := Lib.hid (bA.trans (b1.mono bA.size))
  clear bA b1 hs ha
  go_wp2_with fail
  have conv : ∀ w' : World, Below w1.heap.size w1 w' → (convert 25 9 (.slice (some ⟨nb, no, none⟩) k k)).run Try.prog w' = .ok (.string S) w' := fun w' hb' => by
    have h1 := HS.out.below hb'
    rw [HNF.out] at h1
    have h2 := conv_bytes (c := k) (l := bdig k n) (by rw [HL.out.2.1]; exact h1)
    rw [HL.out.2.1, HL.out.2.2] at h2
    exact h2
  obtain ⟨nb', no', e0, hlt0, hc0⟩ := HS.out.cells hk0
  cases e0
  have z0 := hc0 0 hk0
  rw [Nat.add_zero] at z0
  clear hc0
  have CV := Lib.hid conv
  clear conv
  have bd := (Below.refl w1.heap.size w1).drew
  go_region_held (fun w' => (convert 25 9 (.slice (some ⟨nb, no, none⟩) k k)).run Try.prog w' = .ok (.string S) w' ∧ (w'.cell? ⟨w.heap.size, 0, none⟩ = some (.int .u64 ((l0 n : Nat) : Int)) ∧ w'.cell? ⟨w.heap.size, 1, none⟩ = some (.int .u64 ((l1 n : Nat) : Int)) ∧ w'.cell? ⟨w.heap.size, 2, none⟩ = some (.int .u64 ((l2 n : Nat) : Int)) ∧ w'.cell? ⟨w.heap.size, 3, none⟩ = some (.int .u64 ((l3 n : Nat) : Int))) ∧ w'.cell? ⟨nb, no, none⟩ = some (.int .u8 ((nf n 0 : Nat) : Int))) (exact ⟨CV.out _ bd, word_cells (stay bd HA.out), (bd.cell (p := ⟨nb, no, none⟩) hlt0).trans z0⟩) (first | (go_at_call 8; refine (fixed_walk _).mono ?_; rintro e w' ⟨rfl, b3⟩; replace bd := bd.trans (b3.mono bd.size)) | (go_at_call 15; refine (K2.out _).mono ?_; rintro e w' ⟨⟨v4, rfl, o4⟩, b4⟩; replace bd := bd.trans (b4.mono bd.size); have cr4 := conv_own (l := bdig k n) (by rw [HL.out.2.1, HL.out.1]; exact o4) (bdig_lt _ _); rw [HL.out.2.2] at cr4; clear o4 b4))
  all_goals
    go_wp2_with fail
    go_ret
    exact ⟨rfl, HB.out.trans (bd.mono HB.out.size)⟩
/-- A load of a byte, under a name of its own. -/
abbrev loadB (t : Operand) : Op := .load 5 t
theorem loadB_eq (t : Operand) : Op.load 5 t = loadB t := rfl
set_option maxHeartbeats 4000000 in
theorem numbers_none (w : World) : Calls Try.prog 5 #[wd 0] w fun e w' => e = .returned (.bool true) ∧ Below w.heap.size w w' := by
  have hz := wa_size
  have fo := fold_wa
  have K1 := Lib.hid fun w => number_walk 0 w (by decide)
  have K2 := Lib.hid fun w => rnumber_walk 0 w (by decide)
  have hk : nbl 0 = 0 := rfl
  rw [hk] at K1 K2
  go_enter Try.func5, Try.ntmps5
  go_wp2_with fail
  refine (K1.out _).mono ?_
  rintro e w1 ⟨⟨nb, no, rfl, hnb, hs⟩, b1⟩
  have bA : Below w.heap.size w (w.alloc (.cells (wa 0) 39)) := (Below.refl _ _).alloc (Nat.le_refl _) _
  have ha := stay b1 (heap_alloc_new w (.cells (wa 0) 39))
  have HA := Lib.hid ha
  have HB := Lib.hid (bA.trans (b1.mono bA.size))
  clear bA b1 hs ha
  go_wp2_with fail
  have conv : ∀ w' : World, (convert 25 9 (.slice (some ⟨nb, no, none⟩) 0 0)).run Try.prog w' = .ok (.string (strL [])) w' := fun w' => conv_bytes (l := []) ⟨(fun i hi => by cases hi), (fun h => by cases h)⟩
  have CV := Lib.hid conv
  clear conv
  have bd := (Below.refl w1.heap.size w1).drew
  rw [loadB_eq (.tmp 21)]
  first | (go_region_held (fun w' => (convert 25 9 (.slice (some ⟨nb, no, none⟩) 0 0)).run Try.prog w' = .ok (.string (strL [])) w' ∧ (w'.cell? ⟨w.heap.size, 0, none⟩ = some (.int .u64 ((l0 0 : Nat) : Int)) ∧ w'.cell? ⟨w.heap.size, 1, none⟩ = some (.int .u64 ((l1 0 : Nat) : Int)) ∧ w'.cell? ⟨w.heap.size, 2, none⟩ = some (.int .u64 ((l2 0 : Nat) : Int)) ∧ w'.cell? ⟨w.heap.size, 3, none⟩ = some (.int .u64 ((l3 0 : Nat) : Int)))) (exact ⟨CV.out _, word_cells (stay bd HA.out)⟩) (first | (go_at_call 8; refine (fixed_walk _).mono ?_; rintro e w' ⟨rfl, b3⟩; replace bd := bd.trans (b3.mono bd.size)) | (go_at_call 15; refine (K2.out _).mono ?_; rintro e w' ⟨⟨v4, rfl, o4⟩, b4⟩; replace bd := bd.trans (b4.mono bd.size); have cr4 := conv_own (l := []) o4 (by decide); clear o4 b4))) | fail
  all_goals
    go_wp2_with fail
    go_ret
    exact ⟨rfl, HB.out.trans (bd.mono HB.out.size)⟩
theorem numbers_walk (n : Nat) (w : World) (hn : n < 256 ^ 32) : Calls Try.prog 5 #[wd n] w fun e w' => e = .returned (.bool true) ∧ Below w.heap.size w w' := by
  by_cases h0 : n = 0
  · subst h0
    exact numbers_none w
  · exact numbers_core n _ w _ rfl rfl hn (by simp [nbl, h0])
end Go.Proofs.Ytfpeliolngfkpaa
