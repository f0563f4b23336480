import Derived.Test.YtmplmoicliobaaaGreatBase
import Derived.Test.YtmplmoicliobaaaGreatProg
namespace Go.Proofs.YtmplmoicliobaaaGreat
open Go.RowKit

/-- May a register be so? -/
def regB (n : Int) : Bool := decide (0 ≤ n) && decide (n < 4)
/-- May an operation be? -/
def opB (k a b : Int) : Bool := if k = 1 then regB b else if k = 2 then regB b else if k = 3 then true else if k = 4 then regB a && regB b else if k = 5 then regB a else false

set_option maxHeartbeats 400000 in
theorem register_any (n : Int) (w : World) : Calls Tryz.prog 79 #[.int .i64 n] w fun e w' => e = .returned (.bool (regB n)) ∧ w' = w := by
  by_cases h0 : 0 ≤ n
  · by_cases h4 : n < 4
    · have : regB n = true := by simp [regB, h0, h4]
      rw [this]; clear this
      go_enter Tryz.func79, Tryz.ntmps79
      go_wp2
      go_ret
      exact ⟨rfl, rfl⟩
    · have : regB n = false := by simp [regB, h4]
      rw [this]; clear this
      go_enter Tryz.func79, Tryz.ntmps79
      go_wp2
      go_ret
      exact ⟨rfl, rfl⟩
  · have : regB n = false := by simp [regB, h0]
    rw [this]; clear this
    go_enter Tryz.func79, Tryz.ntmps79
    go_wp2
    go_ret
    exact ⟨rfl, rfl⟩

set_option maxHeartbeats 400000 in
theorem isRegister_any (n : Int) (w : World) : Calls Tryz.prog 94 #[.int .i64 n] w fun e w' => e = .returned (.bool (regB n)) ∧ w' = w := by
  by_cases h0 : 0 ≤ n
  · by_cases h4 : n < 4
    · have : regB n = true := by simp [regB, h0, h4]
      rw [this]; clear this
      go_enter Tryz.func94, Tryz.ntmps94
      go_wp2
      go_ret
      exact ⟨rfl, rfl⟩
    · have : regB n = false := by simp [regB, h4]
      rw [this]; clear this
      go_enter Tryz.func94, Tryz.ntmps94
      go_wp2
      go_ret
      exact ⟨rfl, rfl⟩
  · have : regB n = false := by simp [regB, h0]
    rw [this]; clear this
    go_enter Tryz.func94, Tryz.ntmps94
    go_wp2
    go_ret
    exact ⟨rfl, rfl⟩

theorem opB_cases (k a b : Int) : (k = 1 ∧ opB k a b = regB b) ∨ (k = 2 ∧ opB k a b = regB b) ∨ (k = 3 ∧ opB k a b = true) ∨ (k = 4 ∧ opB k a b = (regB a && regB b)) ∨ (k = 5 ∧ opB k a b = regB a) ∨
    ((k == 1) = false ∧ (k == 2) = false ∧ (k == 3) = false ∧ (k == 4) = false ∧ (k == 5) = false ∧ opB k a b = false) := by
  by_cases h1 : k = 1
  · exact .inl ⟨h1, by simp [opB, h1]⟩
  by_cases h2 : k = 2
  · exact .inr (.inl ⟨h2, by simp [opB, h2]⟩)
  by_cases h3 : k = 3
  · exact .inr (.inr (.inl ⟨h3, by simp [opB, h3]⟩))
  by_cases h4 : k = 4
  · exact .inr (.inr (.inr (.inl ⟨h4, by simp [opB, h4]⟩)))
  by_cases h5 : k = 5
  · exact .inr (.inr (.inr (.inr (.inl ⟨h5, by simp [opB, h5]⟩))))
  exact .inr (.inr (.inr (.inr (.inr ⟨by simp [h1], by simp [h2], by simp [h3], by simp [h4], by simp [h5], by simp [opB, h1, h2, h3, h4, h5]⟩))))

set_option maxHeartbeats 1600000 in
theorem may_any (k a b c : Int) (w : World) : Calls Tryz.prog 54 #[.agg #[.int .i64 k, .int .i64 a, .int .i64 b, .int .i64 c]] w fun e w' =>
    e = .returned (.bool (opB k a b)) ∧ w' = w.alloc (.cells #[.int .i64 k, .int .i64 a, .int .i64 b, .int .i64 c] 97) := by
  rcases opB_cases k a b with ⟨rfl, h⟩ | ⟨rfl, h⟩ | ⟨rfl, h⟩ | ⟨rfl, h⟩ | ⟨rfl, h⟩ | ⟨h1, h2, h3, h4, h5, h⟩
  all_goals
    rw [h]; clear h
  case inr.inr.inr.inl =>
    cases hx : regB a
    all_goals
      have Hx : Hid _ := hx
      clear hx
      go_enter Tryz.func54, Tryz.ntmps54
      go_wp2_with fail
      refine (register_any _ _).mono ?_; rintro e w' ⟨rfl, rfl⟩
      rw [Hx.out]
      go_wp2_with fail
      refine (register_any _ _).mono ?_; rintro e w' ⟨rfl, rfl⟩
      go_wp2_with fail
      go_ret
      exact ⟨by simp, rfl⟩
  all_goals
    go_enter Tryz.func54, Tryz.ntmps54
    go_wp2_with (go_at_call 79; refine (register_any _ _).mono ?_; rintro e w' ⟨rfl, rfl⟩)
    go_ret
    exact ⟨rfl, rfl⟩

set_option maxHeartbeats 1600000 in
theorem allowed_any (k a b c : Int) (w : World) : Calls Tryz.prog 90 #[.agg #[.int .i64 k, .int .i64 a, .int .i64 b, .int .i64 c]] w fun e w' =>
    e = .returned (.bool (opB k a b)) ∧ w' = w.alloc (.cells #[.int .i64 k, .int .i64 a, .int .i64 b, .int .i64 c] 97) := by
  rcases opB_cases k a b with ⟨rfl, h⟩ | ⟨rfl, h⟩ | ⟨rfl, h⟩ | ⟨rfl, h⟩ | ⟨rfl, h⟩ | ⟨h1, h2, h3, h4, h5, h⟩
  all_goals
    rw [h]; clear h
  case inr.inr.inr.inl =>
    cases hx : regB a
    · have Hx : Hid _ := hx
      clear hx
      go_enter Tryz.func90, Tryz.ntmps90
      go_wp2_with fail
      refine (isRegister_any _ _).mono ?_; rintro e w' ⟨rfl, rfl⟩
      rw [Hx.out]
      go_wp2_with fail
      go_ret
      exact ⟨by simp, rfl⟩
    · have Hx : Hid _ := hx
      clear hx
      go_enter Tryz.func90, Tryz.ntmps90
      go_wp2_with fail
      refine (isRegister_any _ _).mono ?_; rintro e w' ⟨rfl, rfl⟩
      rw [Hx.out]
      go_wp2_with fail
      refine (isRegister_any _ _).mono ?_; rintro e w' ⟨rfl, rfl⟩
      go_wp2_with fail
      go_ret
      exact ⟨by simp, rfl⟩
  all_goals
    go_enter Tryz.func90, Tryz.ntmps90
    go_wp2_with (go_at_call 94; refine (isRegister_any _ _).mono ?_; rintro e w' ⟨rfl, rfl⟩)
    go_ret
    exact ⟨rfl, rfl⟩
end Go.Proofs.YtmplmoicliobaaaGreat
