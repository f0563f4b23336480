import Derived.Test.YtmcajfefagdbnaaGreatJ01
import Derived.Test.YtmcajfefagdbnaaGreatJ18
import Derived.Conc.MuLone
import Derived.Defers
namespace Go.Proofs.YtmcajfefagdbnaaGreat
open Go.RowKit
open Go.MuLone

set_option maxHeartbeats 800000 in
theorem ptick_ok (b : Nat) (n c : Int) (v1 v3 v4 v5 v6 v7 v8 : Value) (w : World) (h : w.heap[b]? = some (.cells #[.int .i32 0, v1, .int .i64 c, v3, v4, v5, v6, v7, v8] 127 (0, 0)))
    (c0 : 0 ≤ c) (c1 : c ≤ 1099511627776) (n0 : 0 ≤ n) (n1 : n ≤ 1099511627776 - c) :
    Calls Tryz.prog 41 #[.pointer (some ⟨b, 0, none⟩), .int .i64 n] w fun e w' => e = .returned (.int .i64 0) ∧
      w' = ((w.setCell ⟨b, 0, none⟩ (.int .i32 1)).setCell ⟨b, 2, none⟩ (.int .i64 (c + n))).setCell ⟨b, 0, none⟩ (.int .i32 0) := by
  have hl : w.cell? ⟨b, 0, none⟩ = some (.int .i32 0) := by rw [cell_at h]; rfl
  have hc : w.cell? ⟨b, 2, none⟩ = some (.int .i64 c) := by rw [cell_at h]; rfl
  have f0 : w.frozen? ⟨b, 0, none⟩ = false := frozen_at h _
  have f2 : w.frozen? ⟨b, 2, none⟩ = false := frozen_at h _
  clear h
  go_enter_defers Tryz.func41, Tryz.ntmps41
  go_wp2_with (go_at_call 59; refine (lock_free Tryz.muLib ⟨b, 0, none⟩ _ hl f0).mono ?_; rintro e w' ⟨rfl, rfl⟩)
  refine leaves_cons (f := 60) (args := #[.pointer (some ⟨b, 0, none⟩)]) (by simp) (by simp [go_sem]) ?_
  refine (unlock_deferred Tryz.muLib ⟨b, 0, none⟩ .returning _ ?_ ?_).mono ?_
  · exact (World.cell?_setCell_other _ ⟨b, 2, none⟩ ⟨b, 0, none⟩ _ (by simp)).trans (World.cell?_setCell_same w ⟨b, 0, none⟩ (.int .i32 1) hl)
  · simp [f0]
  rintro e u' w'' ⟨rfl, rfl, rfl⟩
  exact ⟨_, results_tmp rfl _ _ _, rfl, rfl⟩

set_option maxHeartbeats 800000 in
theorem ptick_no (b : Nat) (n c : Int) (v1 v3 v4 v5 v6 v7 v8 : Value) (w : World) (h : w.heap[b]? = some (.cells #[.int .i32 0, v1, .int .i64 c, v3, v4, v5, v6, v7, v8] 127 (0, 0)))
    (c0 : 0 ≤ c) (c1 : c ≤ 1099511627776) (n0 : n < 0 ∨ 1099511627776 - c < n) :
    Calls Tryz.prog 41 #[.pointer (some ⟨b, 0, none⟩), .int .i64 n] w fun e w' => e = .returned (.int .i64 4) ∧
      w' = (w.setCell ⟨b, 0, none⟩ (.int .i32 1)).setCell ⟨b, 0, none⟩ (.int .i32 0) := by
  have hl : w.cell? ⟨b, 0, none⟩ = some (.int .i32 0) := by rw [cell_at h]; rfl
  have hc : w.cell? ⟨b, 2, none⟩ = some (.int .i64 c) := by rw [cell_at h]; rfl
  have f0 : w.frozen? ⟨b, 0, none⟩ = false := frozen_at h _
  clear h
  have fin : ∀ n : Int, (n < 0 ∨ (¬ n < 0 ∧ 1099511627776 - c < n)) → Calls Tryz.prog 41 #[.pointer (some ⟨b, 0, none⟩), .int .i64 n] w fun e w' => e = .returned (.int .i64 4) ∧
      w' = (w.setCell ⟨b, 0, none⟩ (.int .i32 1)).setCell ⟨b, 0, none⟩ (.int .i32 0) := by
    intro n hn
    rcases hn with hn | ⟨hn, hn'⟩
    all_goals
      go_enter_defers Tryz.func41, Tryz.ntmps41
      go_wp2_with (go_at_call 59; refine (lock_free Tryz.muLib ⟨b, 0, none⟩ _ hl f0).mono ?_; rintro e w' ⟨rfl, rfl⟩)
      refine leaves_cons (f := 60) (args := #[.pointer (some ⟨b, 0, none⟩)]) (by simp) (by simp [go_sem]) ?_
      refine (unlock_deferred Tryz.muLib ⟨b, 0, none⟩ .returning _ ?_ ?_).mono ?_
      · exact World.cell?_setCell_same w ⟨b, 0, none⟩ (.int .i32 1) hl
      · simp [f0]
      rintro e u' w'' ⟨rfl, rfl, rfl⟩
      exact ⟨_, results_tmp rfl _ _ _, rfl, rfl⟩
  exact fin n (by omega)
end Go.Proofs.YtmcajfefagdbnaaGreat
