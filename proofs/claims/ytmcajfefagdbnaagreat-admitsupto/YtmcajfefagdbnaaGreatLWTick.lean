import Derived.Test.YtmcajfefagdbnaaGreatJ01
import Derived.Test.YtmcajfefagdbnaaGreatProg
namespace Go.Proofs.YtmcajfefagdbnaaGreat
open Go.RowKit

set_option maxHeartbeats 800000 in
theorem wtick_ok (b : Nat) (n c : Int) (v0 v1 v2 v3 : Value) (w : World) (h : w.heap[b]? = some (.cells #[v0, v1, v2, v3, .int .i64 c] 47 (0, 0)))
    (c0 : 0 ≤ c) (c1 : c ≤ 1099511627776) (n0 : 0 ≤ n) (n1 : n ≤ 1099511627776 - c) :
    Calls Tryz.prog 42 #[.pointer (some ⟨b, 0, none⟩), .int .i64 n] w fun e w' => e = .returned (.int .i64 0) ∧ w' = w.setCell ⟨b, 4, none⟩ (.int .i64 (c + n)) := by
  have hc : w.cell? ⟨b, 4, none⟩ = some (.int .i64 c) := by rw [cell_at h]; rfl
  have hf : w.frozen? ⟨b, 4, none⟩ = false := frozen_at h _
  clear h
  go_enter Tryz.func42, Tryz.ntmps42
  go_wp2
  go_ret
  exact ⟨rfl, rfl⟩

set_option maxHeartbeats 800000 in
theorem wtick_no (b : Nat) (n c : Int) (v0 v1 v2 v3 : Value) (w : World) (h : w.heap[b]? = some (.cells #[v0, v1, v2, v3, .int .i64 c] 47 (0, 0)))
    (c0 : 0 ≤ c) (c1 : c ≤ 1099511627776) (n0 : n < 0 ∨ 1099511627776 - c < n) :
    Calls Tryz.prog 42 #[.pointer (some ⟨b, 0, none⟩), .int .i64 n] w fun e w' => e = .returned (.int .i64 4) ∧ w' = w := by
  have hc : w.cell? ⟨b, 4, none⟩ = some (.int .i64 c) := by rw [cell_at h]; rfl
  clear h
  by_cases hn : n < 0
  · go_enter Tryz.func42, Tryz.ntmps42
    go_wp2
    go_ret
    exact ⟨rfl, rfl⟩
  · have hn' : 1099511627776 - c < n := by omega
    clear n0
    go_enter Tryz.func42, Tryz.ntmps42
    go_wp2
    go_ret
    exact ⟨rfl, rfl⟩
end Go.Proofs.YtmcajfefagdbnaaGreat
