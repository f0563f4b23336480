import Derived.Test.YtmplmoicliobaaaGreatOps
namespace Go.Proofs.YtmplmoicliobaaaGreat
open Go.RowKit

/-- Admit's error, by how many operations there are, whether all may be, how many live, and the clock. -/
def admErr (l : List Op4) (living : Nat) (clock : Int) : Int :=
  if 12 < l.length then 2 else if l.all Op4.ok = false then 1 else if 12 ≤ living then 3 else if 1099511627776 ≤ clock then 4 else 0

theorem ret_int {k : IntKind} {a b : Int} (h : a = b) : Ending.returned (.int k a) = .returned (.int k b) := by rw [h]

set_option maxHeartbeats 1600000 in
theorem refusal_any (p b off cap : Nat) (l : List Op4) (m : Nat) (c : Int) (v0 v1 v3 v4 : Value) (w : World) (h : OpsAt w b off l) (hl : l.length ≤ 1048576)
    (hp : w.heap[p]? = some (.cells #[v0, v1, .int .i64 c, v3, v4, .int .i64 m] 95 (0, 0))) :
    Calls Tryz.prog 52 #[.pointer (some ⟨p, 0, none⟩), .slice (some ⟨b, off, none⟩) l.length cap] w fun e w' => e = .returned (.int .i64 (admErr l m c)) ∧ Kept NoBlk w w' := by
  by_cases h1 : 12 < l.length
  · have he : admErr l m c = 2 := by simp [admErr, h1]
    rw [he]
    clear he h hp
    go_enter Tryz.func52, Tryz.ntmps52
    go_wp2_with fail
    go_ret
    exact ⟨rfl, Kept.refl _ _⟩
  have HO : Hid _ := h
  have HP : Hid _ := hp
  clear h hp
  go_enter Tryz.func52, Tryz.ntmps52
  go_wp2_with fail
  refine (allAllowed_some b off cap l _ HO.out hl).mono ?_
  rintro e w' ⟨rfl, hk⟩
  cases h2 : l.all Op4.ok
  · have he : Hid (admErr l m c = 1) := by simp [Hid, admErr, h1, h2]
    clear h2
    go_wp2_with fail
    go_ret
    exact ⟨ret_int he.out.symm, hk⟩
  · have hp := hk.heap HP.out (fun x => x)
    have hm : w'.cell? ⟨p, 5, none⟩ = some (.int .i64 m) := by rw [cell_at hp]; rfl
    have hc : w'.cell? ⟨p, 2, none⟩ = some (.int .i64 c) := by rw [cell_at hp]; rfl
    have he : Hid (admErr l m c = if 12 ≤ m then 3 else if 1099511627776 ≤ c then 4 else 0) := by simp [Hid, admErr, h1, h2]
    have HK : Hid _ := hk
    clear hp h2 hk
    by_cases h3 : 12 ≤ m
    · go_wp2_with fail
      go_ret
      exact ⟨ret_int (by rw [he.out, if_pos h3]), HK.out⟩
    · by_cases h4 : 1099511627776 ≤ c
      · go_wp2_with fail
        go_ret
        exact ⟨ret_int (by rw [he.out, if_neg h3, if_pos h4]), HK.out⟩
      · go_wp2_with fail
        go_ret
        exact ⟨ret_int (by rw [he.out, if_neg h3, if_neg (by omega)]), HK.out⟩
end Go.Proofs.YtmplmoicliobaaaGreat
