import Derived.Test.YtmcajfefagdbnaaGreatLKAc0
import Derived.Test.YtmcajfefagdbnaaGreatLKApart
namespace Go.Proofs.YtmcajfefagdbnaaGreat
open Go Go.RowKit
theorem kconf_any (a b : Int) (w : World) : Calls Tryz.prog 71 #[.int .i64 a, .int .i64 b] w fun e w' => e = .returned (.bool (conf a b)) ∧ w' = w := by
 unfold conf
 by_cases h1 : a = 2
 ·subst h1
  go_enter Tryz.func71, Tryz.ntmps71
  go_wp2_with fail
  go_ret
  exact ⟨rfl, rfl⟩
 ·have h1' : (a == 2) = false := by simpa using h1
  by_cases h2 : b = 2
  ·subst h2
   go_enter Tryz.func71, Tryz.ntmps71
   go_wp2_with fail
   go_ret
   exact ⟨by simp [h1'], rfl⟩
  ·have h2' : (b == 2) = false := by simpa using h2
   go_enter Tryz.func71, Tryz.ntmps71
   go_wp2_with fail
   go_ret
   exact ⟨by simp [h1', h2'], rfl⟩
theorem makeInts (n : Nat) (hn : n ≤ 5) (w : World) : (Instr.makeSlice 45 (.int .i64 ((n : Int) + 1)) (.int .i64 ((n : Int) + 1))).run Tryz.prog w = .ok (.slice (some ⟨w.heap.size, 0, none⟩) (n + 1) (n + 1)) (w.alloc (.cells (icells (n + 1) (fun _ => 0)) 3)) := by
 have f0 : ∀ w : World, (Instr.makeSlice 45 (.int .i64 1) (.int .i64 1)).run Tryz.prog w = .ok (.slice (some ⟨w.heap.size, 0, none⟩) 1 1) (w.alloc (.cells #[.int .i64 0] 3)) := fun _ => by kernel_rfl
 have f1 : ∀ w : World, (Instr.makeSlice 45 (.int .i64 2) (.int .i64 2)).run Tryz.prog w = .ok (.slice (some ⟨w.heap.size, 0, none⟩) 2 2) (w.alloc (.cells #[.int .i64 0, .int .i64 0] 3)) := fun _ => by kernel_rfl
 have f2 : ∀ w : World, (Instr.makeSlice 45 (.int .i64 3) (.int .i64 3)).run Tryz.prog w = .ok (.slice (some ⟨w.heap.size, 0, none⟩) 3 3) (w.alloc (.cells #[.int .i64 0, .int .i64 0, .int .i64 0] 3)) := fun _ => by kernel_rfl
 have f3 : ∀ w : World, (Instr.makeSlice 45 (.int .i64 4) (.int .i64 4)).run Tryz.prog w = .ok (.slice (some ⟨w.heap.size, 0, none⟩) 4 4) (w.alloc (.cells #[.int .i64 0, .int .i64 0, .int .i64 0, .int .i64 0] 3)) := fun _ => by kernel_rfl
 have f4 : ∀ w : World, (Instr.makeSlice 45 (.int .i64 5) (.int .i64 5)).run Tryz.prog w = .ok (.slice (some ⟨w.heap.size, 0, none⟩) 5 5) (w.alloc (.cells #[.int .i64 0, .int .i64 0, .int .i64 0, .int .i64 0, .int .i64 0] 3)) := fun _ => by kernel_rfl
 have f5 : ∀ w : World, (Instr.makeSlice 45 (.int .i64 6) (.int .i64 6)).run Tryz.prog w = .ok (.slice (some ⟨w.heap.size, 0, none⟩) 6 6) (w.alloc (.cells #[.int .i64 0, .int .i64 0, .int .i64 0, .int .i64 0, .int .i64 0, .int .i64 0] 3)) := fun _ => by kernel_rfl
 have h : n = 0 ∨ n = 1 ∨ n = 2 ∨ n = 3 ∨ n = 4 ∨ n = 5 := by omega
 rcases h with h | h | h | h | h | h <;> subst h
 ·exact f0 w
 ·exact f1 w
 ·exact f2 w
 ·exact f3 w
 ·exact f4 w
 ·exact f5 w
end Go.Proofs.YtmcajfefagdbnaaGreat
