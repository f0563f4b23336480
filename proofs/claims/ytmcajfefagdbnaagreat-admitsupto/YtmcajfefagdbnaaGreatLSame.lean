import Derived.Test.YtmcajfefagdbnaaGreatJ01
import Derived.Test.YtmcajfefagdbnaaGreatProg
namespace Go.Proofs.YtmcajfefagdbnaaGreat
open Go Go.RowKit

set_option maxHeartbeats 800000 in
theorem sameInts_nil (w : World) : Calls Tryz.prog 55 #[.slice none 0 0, .slice none 0 0] w fun e w' => e = .returned (.bool true) ∧ w' = w := by
  go_enter Tryz.func55, Tryz.ntmps55
  go_wp2
  go_loop [5] (fun i => i = .int .i64 0) (fun _ => 0)
  case atStart => rfl
  case round =>
    subst hrel
    go_wp2
    go_ret
    exact ⟨rfl, rfl⟩

set_option maxHeartbeats 800000 in
theorem sameSeen_none (ao bo : Option Addr) (c d : Nat) (w : World) : Calls Tryz.prog 86 #[.slice ao 0 c, .slice bo 0 d] w fun e w' => e = .returned (.bool true) ∧ w' = w := by
  go_enter Tryz.func86, Tryz.ntmps86
  go_wp2
  go_loop [5] (fun i => i = .int .i64 0) (fun _ => 0)
  case atStart => rfl
  case round =>
    subst hrel
    go_wp2
    go_ret
    exact ⟨rfl, rfl⟩

set_option maxHeartbeats 800000 in
theorem sameInts_some (b o b' o' n c c' : Nat) (f : Nat → Int) (w : World) (hn : n ≤ 1048576) (h : ∀ k, k < n → w.cell? ⟨b, o + k, none⟩ = some (.int .i64 (f k))) (h' : ∀ k, k < n → w.cell? ⟨b', o' + k, none⟩ = some (.int .i64 (f k))) :
    Calls Tryz.prog 55 #[.slice (some ⟨b, o, none⟩) n c, .slice (some ⟨b', o', none⟩) n c'] w fun e w' => e = .returned (.bool true) ∧ ∃ nq, w' = w.drewN nq := by
  have hne : ((n : Int) != (n : Int)) = false := by simp
  go_enter Tryz.func55, Tryz.ntmps55
  go_wp2
  go_loopw [5] (fun i wr => ∃ k nq : Nat, k ≤ n ∧ i = .int .i64 k ∧ wr = w.drewN nq) (fun i _ => n - (intOf i).toNat)
  case atStart => exact ⟨0, 0, Nat.zero_le _, rfl, rfl⟩
  case round =>
    obtain ⟨k, nq, hk, rfl, rfl⟩ := hrel
    by_cases hlt : k < n
    · have g := h k hlt
      have g' := h' k hlt
      have hlt' : (k : Int) < (n : Int) := by omega
      have hlt0 : (0 : Int) ≤ (k : Int) := by omega
      clear h h'
      generalize f k = x at *
      go_wp2_with fail
      go_quiet (fail)
      go_wp2_with fail
      exact ⟨⟨k + 1, _, by omega, by go_num, rfl⟩, by simp [intOf]; omega⟩
    · go_wp2_with fail
      go_ret
      exact ⟨rfl, _, rfl⟩

set_option maxHeartbeats 1600000 in
/-- Two tellings that are alike. What is asked of their lists is asked of every later world. -/
theorem sameTxn_true (st sa ne ag : Int) (wo wa : Bool) (rv rv' sv sv' : Value) (w : World)
    (hr : Hid (∀ W, Kept NoBlk w W → Calls Tryz.prog 55 #[rv, rv'] W fun e w' => e = .returned (.bool true) ∧ Kept NoBlk W w'))
    (hs : Hid (∀ W, Kept NoBlk w W → Calls Tryz.prog 86 #[sv, sv'] W fun e w' => e = .returned (.bool true) ∧ Kept NoBlk W w')) :
    Calls Tryz.prog 47 #[.agg #[.int .i64 st, .int .i64 sa, .int .i64 ne, .bool wo, .bool wa, .int .i64 ag, rv, sv], .agg #[.int .i64 st, .int .i64 sa, .int .i64 ne, .bool wo, .bool wa, .int .i64 ag, rv', sv']] w fun e w' =>
      e = .returned (.bool true) ∧ Kept NoBlk w w' := by
  have e1 : (st == st) = true := by simp
  have e2 : (sa == sa) = true := by simp
  have e3 : (ne == ne) = true := by simp
  have e4 : (ag == ag) = true := by simp
  have e5 : (wo == wo) = true := by simp
  have e6 : (wa == wa) = true := by simp
  go_enter Tryz.func47, Tryz.ntmps47
  go_wp2_with fail
  refine (hr.out _ (((Kept.refl NoBlk w).alloc _).alloc _)).mono ?_
  rintro e w1 ⟨rfl, hk1⟩
  have b1 := hk1.heap (block_alloc_old _ (block_alloc_new w _)) (fun x => x)
  have b2 := hk1.heap (block_alloc_new (w.alloc (.cells #[.int .i64 st, .int .i64 sa, .int .i64 ne, .bool wo, .bool wa, .int .i64 ag, rv, sv] 69)) _) (fun x => x)
  rw [show (w.alloc (.cells #[.int .i64 st, .int .i64 sa, .int .i64 ne, .bool wo, .bool wa, .int .i64 ag, rv, sv] 69)).heap.size = w.heap.size + 1 from by simp] at b2
  have d1 : w1.cell? ⟨w.heap.size, 7, none⟩ = some sv := by rw [cell_at b1]; rfl
  have d2 : w1.cell? ⟨w.heap.size + 1, 7, none⟩ = some sv' := by rw [cell_at b2]; rfl
  have HB1 : Hid _ := b1
  have HB2 : Hid _ := b2
  have HK1 : Hid _ := ((((Kept.refl NoBlk w).alloc _).alloc _).trans' hk1)
  clear b1 b2 hk1
  go_wp2_with fail
  refine (hs.out _ HK1.out).mono ?_
  rintro e w2 ⟨rfl, hk2⟩
  have b1 := hk2.heap HB1.out (fun x => x)
  have b2 := hk2.heap HB2.out (fun x => x)
  have f0 : w2.cell? ⟨w.heap.size, 0, none⟩ = some (.int .i64 st) := by rw [cell_at b1]; rfl
  have f1 : w2.cell? ⟨w.heap.size, 1, none⟩ = some (.int .i64 sa) := by rw [cell_at b1]; rfl
  have f2 : w2.cell? ⟨w.heap.size, 2, none⟩ = some (.int .i64 ne) := by rw [cell_at b1]; rfl
  have f3 : w2.cell? ⟨w.heap.size, 3, none⟩ = some (.bool wo) := by rw [cell_at b1]; rfl
  have f4 : w2.cell? ⟨w.heap.size, 4, none⟩ = some (.bool wa) := by rw [cell_at b1]; rfl
  have f5 : w2.cell? ⟨w.heap.size, 5, none⟩ = some (.int .i64 ag) := by rw [cell_at b1]; rfl
  have g0 : w2.cell? ⟨w.heap.size + 1, 0, none⟩ = some (.int .i64 st) := by rw [cell_at b2]; rfl
  have g1 : w2.cell? ⟨w.heap.size + 1, 1, none⟩ = some (.int .i64 sa) := by rw [cell_at b2]; rfl
  have g2 : w2.cell? ⟨w.heap.size + 1, 2, none⟩ = some (.int .i64 ne) := by rw [cell_at b2]; rfl
  have g3 : w2.cell? ⟨w.heap.size + 1, 3, none⟩ = some (.bool wo) := by rw [cell_at b2]; rfl
  have g4 : w2.cell? ⟨w.heap.size + 1, 4, none⟩ = some (.bool wa) := by rw [cell_at b2]; rfl
  have g5 : w2.cell? ⟨w.heap.size + 1, 5, none⟩ = some (.int .i64 ag) := by rw [cell_at b2]; rfl
  have HK2 : Hid _ := HK1.out.trans' hk2
  clear b1 b2 hk2 d1 d2 hr hs
  go_wp2_with fail
  go_ret
  exact ⟨by simp, HK2.out⟩
end Go.Proofs.YtmcajfefagdbnaaGreat
