import Derived.Test.YtmplmoicliobaaaGreatBase
import Derived.Test.YtmplmoicliobaaaGreatProg
namespace Go.Proofs.YtmplmoicliobaaaGreat
open Go Go.RowKit

set_option maxHeartbeats 800000 in
theorem find_some (p g n cap i : Nat) (x : Value) (w : World) (hp : w.cell? ⟨p, 4, none⟩ = some (.slice (some ⟨g, 0, none⟩) n cap)) (hx : w.cell? ⟨g, i, none⟩ = some x) (hi : i < n) (hn : n ≤ 1048576) :
    Calls Tryz.prog 46 #[.pointer (some ⟨p, 0, none⟩), .int .i64 ((i : Int) + 1)] w fun e w' => e = .returned x ∧ w' = w := by
  have h1 : ¬ ((i : Int) + 1 < 1) := by omega
  have h2 : ¬ ((n : Int) < (i : Int) + 1) := by omega
  go_enter Tryz.func46, Tryz.ntmps46
  go_wp2
  go_ret
  exact ⟨rfl, rfl⟩

set_option maxHeartbeats 800000 in
theorem find_none (p n cap : Nat) (ao : Option Addr) (id : Int) (w : World) (hp : w.cell? ⟨p, 4, none⟩ = some (.slice ao n cap)) (hi : id < 1 ∨ (n : Int) < id) :
    Calls Tryz.prog 46 #[.pointer (some ⟨p, 0, none⟩), .int .i64 id] w fun e w' => e = .returned (.pointer none) ∧ w' = w := by
  by_cases h1 : id < 1
  · go_enter Tryz.func46, Tryz.ntmps46
    go_wp2
    go_ret
    exact ⟨rfl, rfl⟩
  · have h2 : (n : Int) < id := by omega
    clear hi
    go_enter Tryz.func46, Tryz.ntmps46
    go_wp2
    go_ret
    exact ⟨rfl, rfl⟩

end Go.Proofs.YtmplmoicliobaaaGreat
