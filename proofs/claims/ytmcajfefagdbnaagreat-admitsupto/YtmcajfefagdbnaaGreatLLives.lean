import Derived.Test.YtmcajfefagdbnaaGreatJ01
import Derived.Test.YtmcajfefagdbnaaGreatProg
namespace Go.Proofs.YtmcajfefagdbnaaGreat
open Go Go.RowKit

/-- How many of the first k states are 'lives'. -/
def cnt (s : Nat → Int) : Nat → Nat
  | 0 => 0
  | k + 1 => cnt s k + if s k = 0 then 1 else 0

theorem cnt_le (s : Nat → Int) (k : Nat) : cnt s k ≤ k := by
  induction k with
  | zero => simp [cnt]
  | succ k ih => simp only [cnt]; split <;> omega

theorem cnt_all (s : Nat → Int) (k : Nat) (h : ∀ i, i < k → s i = 0) : cnt s k = k := by
  induction k with
  | zero => rfl
  | succ k ih => simp [cnt, ih (fun i hi => h i (by omega)), h k (by omega)]

set_option maxHeartbeats 800000 in
theorem lives_nil (p : Nat) (w : World) (hp : w.cell? ⟨p, 1, none⟩ = some (.slice none 0 0)) :
    Calls Tryz.prog 109 #[.pointer (some ⟨p, 0, none⟩)] w fun e w' => e = .returned (.int .i64 0) ∧ w' = w := by
  go_enter Tryz.func109, Tryz.ntmps109
  go_wp2
  go_loop [3, 4] (fun n i => n = .int .i64 0 ∧ i = .int .i64 0) (fun _ _ => 0)
  case atStart => exact ⟨rfl, rfl⟩
  case round =>
    obtain ⟨rfl, rfl⟩ := hrel
    go_wp2
    go_ret
    exact ⟨rfl, rfl⟩

set_option maxHeartbeats 800000 in
theorem lives_some (p g n cap : Nat) (t : Nat → Nat) (s : Nat → Int) (w : World) (hn : n ≤ 1048576) (hp : w.cell? ⟨p, 1, none⟩ = some (.slice (some ⟨g, 0, none⟩) n cap))
    (hg : ∀ i, i < n → w.cell? ⟨g, i, none⟩ = some (.pointer (some ⟨t i, 0, none⟩))) (ht : ∀ i, i < n → w.cell? ⟨t i, 1, none⟩ = some (.int .i64 (s i))) :
    Calls Tryz.prog 109 #[.pointer (some ⟨p, 0, none⟩)] w fun e w' => e = .returned (.int .i64 (cnt s n)) ∧ w' = w := by
  go_enter Tryz.func109, Tryz.ntmps109
  go_wp2
  go_loop [3, 4] (fun c i => ∃ k : Nat, k ≤ n ∧ i = .int .i64 k ∧ c = .int .i64 (cnt s k)) (fun _ i => n - (intOf i).toNat)
  case atStart => exact ⟨0, Nat.zero_le _, rfl, rfl⟩
  case round =>
    obtain ⟨k, hk, rfl, rfl⟩ := hrel
    have hc := cnt_le s k
    by_cases hlt : k < n
    · have g1 := hg k hlt
      have g2 := ht k hlt
      have HC : Hid (cnt s (k + 1) = cnt s k + if s k = 0 then 1 else 0) := rfl
      clear hg ht
      by_cases h0 : s k = 0
      · have h0' : (s k == 0) = true := by simp [h0]
        have H0 : Hid _ := h0
        clear h0
        generalize t k = tk at *
        generalize s k = sk at *
        generalize cnt s k = c at *
        go_wp2_with fail
        go_round
        case rel => exact ⟨k + 1, by omega, by go_num, by rw [HC.out, if_pos H0.out]; go_num⟩
        case measure => simp [intOf]; omega
      · have h0' : (s k == 0) = false := by simp [h0]
        have H0 : Hid _ := h0
        clear h0
        generalize t k = tk at *
        generalize s k = sk at *
        generalize cnt s k = c at *
        go_wp2_with fail
        go_round
        case rel => exact ⟨k + 1, by omega, by go_num, by rw [HC.out, if_neg H0.out]; rfl⟩
        case measure => simp [intOf]; omega
    · obtain rfl : k = n := by omega
      clear hg ht
      go_wp2_with fail
      go_ret
      exact ⟨rfl, rfl⟩
end Go.Proofs.YtmcajfefagdbnaaGreat
