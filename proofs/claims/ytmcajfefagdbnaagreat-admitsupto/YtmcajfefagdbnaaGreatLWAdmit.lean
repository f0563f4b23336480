import Derived.Test.YtmcajfefagdbnaaGreatJ07
import Derived.Test.YtmcajfefagdbnaaGreatJ19
import Derived.Test.YtmcajfefagdbnaaGreatLLives
import Derived.Deep.RegionHeld3
import Derived.Deep.DrawnRows
namespace Go.Proofs.YtmcajfefagdbnaaGreat
open Go Go.RowKit

theorem ret_pair {a b : Int} (n : Int) (h : a = b) : Ending.returned (.tuple #[.int .i64 n, .int .i64 a]) = .returned (.tuple #[.int .i64 n, .int .i64 b]) := by rw [h]

set_option maxHeartbeats 3200000 in
theorem wadmit_err (p : Nat) (v : Value) (l : List Op4) (m : Nat) (c : Int) (v0 v1 v2 v3 : Value) (w : World) (h : OpsSrc w v l) (hl : l.length ≤ 1048576) (hm : m ≤ 1048576)
    (hp : w.heap[p]? = some (.cells #[v0, v1, v2, v3, .int .i64 c] 47 (0, 0)))
    (hlv : Hid (∀ W, Kept NoBlk w W → Calls Tryz.prog 109 #[.pointer (some ⟨p, 0, none⟩)] W fun e w' => e = .returned (.int .i64 m) ∧ w' = W)) (he : admErr l m c ≠ 0) :
    Calls Tryz.prog 77 #[.pointer (some ⟨p, 0, none⟩), v] w fun e w' => e = .returned (.tuple #[.int .i64 0, .int .i64 (admErr l m c)]) ∧ Kept NoBlk w w' := by
  obtain ⟨ao, cp, rfl, h⟩ := h
  by_cases h1 : 12 < l.length
  · have he2 : Hid (admErr l m c = 2) := by simp [Hid, admErr, h1]
    clear he h hp
    go_enter Tryz.func77, Tryz.ntmps77
    go_wp2_with fail
    go_ret2
    exact ⟨ret_pair 0 he2.out.symm, Kept.refl _ _⟩
  generalize hn : l.length = n at h hl h1 ⊢
  have Hn : Hid _ := hn
  have HE : Hid _ := he
  have HP : Hid _ := hp
  clear hn he hp
  go_enter Tryz.func77, Tryz.ntmps77
  go_wp2_with fail
  go_loopw [6] (fun i wr => ∃ k : Nat, k ≤ n ∧ i = .int .i64 k ∧ (l.take k).all Op4.ok = true ∧ Kept NoBlk w wr) (fun i _ => n - (intOf i).toNat)
  case atStart => exact ⟨0, Nat.zero_le _, rfl, rfl, Kept.refl _ _⟩
  case round =>
    obtain ⟨k, hk, rfl, hall, hkw⟩ := hrel
    by_cases hlt : k < n
    · have hkl : k < l.length := by rw [Hn.out]; exact hlt
      obtain ⟨b, off, rfl, hat⟩ := h (by omega)
      obtain ⟨g0, g1, g2, g3⟩ := (hat.kept hkw (fun x => x)) k hkl
      have Hs : Hid _ := all_take_succ l k hkl hall
      have Hf : Hid _ := all_false_of l k hkl
      have Hk : Hid _ := hkw
      clear hkl h hat hall hkw
      generalize l.getD k Op4.z = o at *
      go_wp2_with fail
      refine (may_any _ _ _ _ _).mono ?_
      rintro e w' ⟨rfl, rfl⟩
      have hko : o.ok = opB o.k o.a o.b := rfl
      have Ho : Hid _ := hko
      clear hko
      generalize opB o.k o.a o.b = x at *
      cases x
      · go_wp2_with fail
        go_ret2
        refine ⟨ret_pair 0 ?_, Hk.out.alloc _⟩
        have := Hf.out Ho.out
        have hh1 := h1
        rw [← Hn.out] at hh1
        simp [admErr, this, hh1]
      · go_wp2_with fail
        go_roundw
        case rel => exact ⟨k + 1, by omega, by go_num, Hs.out.trans Ho.out, Hk.out.alloc _⟩
        case measure => simp [intOf]; omega
    · have ha : Hid (l.all Op4.ok = true) := by
        unfold Hid
        rw [← hall, List.take_of_length_le (by rw [Hn.out]; omega)]
      have hp := hkw.heap HP.out (fun x => x)
      have hc : wr.cell? ⟨p, 4, none⟩ = some (.int .i64 c) := by rw [cell_at hp]; rfl
      have Hk : Hid _ := hkw
      clear h hall hkw hp
      go_wp2_with fail
      refine (hlv.out _ Hk.out).mono ?_
      rintro e w' ⟨rfl, rfl⟩
      have hh1 : Hid (¬ 12 < l.length) := by unfold Hid; rw [Hn.out]; exact h1
      by_cases h3 : 12 ≤ m
      · go_wp2_with fail
        go_ret2
        exact ⟨ret_pair 0 (by simp [admErr, hh1.out, ha.out, h3]), Hk.out⟩
      · by_cases h4 : 1099511627776 ≤ c
        · go_wp2_with fail
          go_ret2
          exact ⟨ret_pair 0 (by simp [admErr, hh1.out, ha.out, h3, h4]), Hk.out⟩
        · exact absurd (by simp [admErr, hh1.out, ha.out, h3, h4]) HE.out
end Go.Proofs.YtmcajfefagdbnaaGreat
