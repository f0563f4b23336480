import Derived.Test.YtmcajfefagdbnaaGreatJ01
import Derived.Test.YtmcajfefagdbnaaGreatProg
namespace Go.Proofs.YtmcajfefagdbnaaGreat
open Go Go.RowKit

set_option maxHeartbeats 1600000 in
theorem wtxn_some (p g n cap i t : Nat) (st sa ne ag : Int) (wo wa : Bool) (ra sb : Option Addr) (rn rc sn sc : Nat) (x8 x9 : Value) (w : World) (hp : w.cell? ⟨p, 1, none⟩ = some (.slice (some ⟨g, 0, none⟩) n cap)) (hx : w.cell? ⟨g, i, none⟩ = some (.pointer (some ⟨t, 0, none⟩)))
    (ht : w.heap[t]? = some (.cells #[.int .i64 st, .int .i64 sa, .int .i64 ne, .bool wo, .bool wa, .int .i64 ag, (.slice ra rn rc), (.slice sb sn sc), x8, x9] 152 (0, 0))) (hi : i < n) (hn : n ≤ 1048576) :
    Calls Tryz.prog 46 #[.pointer (some ⟨p, 0, none⟩), .int .i64 ((i : Int) + 1)] w fun e w' =>
      e = .returned (.tuple #[.agg #[.int .i64 st, .int .i64 sa, .int .i64 ne, .bool wo, .bool wa, .int .i64 ag, (.slice ra rn rc), (.slice sb sn sc)], .int .i64 0]) ∧ Kept NoBlk w w' := by
  have h1 : ¬ ((i : Int) + 1 < 1) := by omega
  have h2 : ¬ ((n : Int) < (i : Int) + 1) := by omega
  have l1 := World.block_lt_of_cell? w _ hp
  have l2 := World.block_lt_of_cell? w _ hx
  have l3 := lt_of_block ht
  have f0 : w.cell? ⟨t, 0, none⟩ = some (.int .i64 st) := by rw [cell_at ht]; rfl
  have f1 : w.cell? ⟨t, 1, none⟩ = some (.int .i64 sa) := by rw [cell_at ht]; rfl
  have f2 : w.cell? ⟨t, 2, none⟩ = some (.int .i64 ne) := by rw [cell_at ht]; rfl
  have f3 : w.cell? ⟨t, 3, none⟩ = some (.bool wo) := by rw [cell_at ht]; rfl
  have f4 : w.cell? ⟨t, 4, none⟩ = some (.bool wa) := by rw [cell_at ht]; rfl
  have f5 : w.cell? ⟨t, 5, none⟩ = some (.int .i64 ag) := by rw [cell_at ht]; rfl
  have f6 : w.cell? ⟨t, 6, none⟩ = some (.slice ra rn rc) := by rw [cell_at ht]; rfl
  have f7 : w.cell? ⟨t, 7, none⟩ = some (.slice sb sn sc) := by rw [cell_at ht]; rfl
  clear ht
  go_enter Tryz.func46, Tryz.ntmps46
  go_wp2
  refine bodyPost_ret (v := .tuple #[.agg #[.int .i64 st, .int .i64 sa, .int .i64 ne, .bool wo, .bool wa, .int .i64 ag, (.slice ra rn rc), (.slice sb sn sc)], .int .i64 0]) (by simp [results, Tryz.results46, go_sem]) rfl ⟨rfl, ?_⟩
  exact (Kept.refl _ _).alloc _

set_option maxHeartbeats 1600000 in
theorem wtxn_none (p n cap : Nat) (ao : Option Addr) (id : Int) (w : World) (hp : w.cell? ⟨p, 1, none⟩ = some (.slice ao n cap)) (hi : id < 1 ∨ (n : Int) < id) :
    Calls Tryz.prog 46 #[.pointer (some ⟨p, 0, none⟩), .int .i64 id] w fun e w' =>
      e = .returned (.tuple #[.agg #[.int .i64 0, .int .i64 0, .int .i64 0, .bool false, .bool false, .int .i64 0, .slice none 0 0, .slice none 0 0], .int .i64 5]) ∧ Kept NoBlk w w' := by
  have l1 := World.block_lt_of_cell? w _ hp
  by_cases h1 : id < 1
  · go_enter Tryz.func46, Tryz.ntmps46
    go_wp2
    refine bodyPost_ret (v := .tuple #[.agg #[.int .i64 0, .int .i64 0, .int .i64 0, .bool false, .bool false, .int .i64 0, .slice none 0 0, .slice none 0 0], .int .i64 5]) (by simp [results, Tryz.results46, go_sem]) rfl ⟨rfl, ?_⟩
    exact (Kept.refl _ _).alloc _
  · have h2 : (n : Int) < id := by omega
    clear hi
    go_enter Tryz.func46, Tryz.ntmps46
    go_wp2
    refine bodyPost_ret (v := .tuple #[.agg #[.int .i64 0, .int .i64 0, .int .i64 0, .bool false, .bool false, .int .i64 0, .slice none 0 0, .slice none 0 0], .int .i64 5]) (by simp [results, Tryz.results46, go_sem]) rfl ⟨rfl, ?_⟩
    exact (Kept.refl _ _).alloc _
end Go.Proofs.YtmcajfefagdbnaaGreat
