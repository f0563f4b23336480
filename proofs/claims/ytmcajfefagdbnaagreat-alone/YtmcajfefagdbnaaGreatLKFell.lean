import Derived.Test.YtmcajfefagdbnaaGreatQ09
namespace Go.Proofs.YtmcajfefagdbnaaGreat
theorem fell_n (s : St) (i : Nat) (z : Int) : (s.fell i z).n = s.n ∧ (s.fell i z).clock = s.clock := ⟨rfl, rfl⟩
theorem alive_fell {s : St} {i : Nat} (hl : Lives s i) (z : Int) (hz : z ≠ 0) : (alive (s.fell i z) : Int) = (alive s : Int) - 1 := by
 have hoth : ∀ j, j ≠ i → ((s.fell i z).tx j).state = (s.tx j).state := fun j hj => (base_eq (fell_oth s z hj).base).2.1
 unfold alive
 rw [(fell_n s i z).1]
 have := (filter_one (p := fun j => (s.tx j).state == 0) (q := fun j => ((s.fell i z).tx j).state == 0) (i := i) (by simp [hl.lives]) (by rw [(fell_self s i z).2.1]; simpa using hz) (List.range' 1 s.n) List.nodup_range' (fun j _ hj => by rw [hoth j hj])).1 (by rw [List.mem_range'_1]; have := hl.low; have := hl.high; omega)
 omega
theorem Good.fell {s : St} (h : Good s) (i : Nat) (z : Int) : Good (s.fell i z) := by
 refine ⟨h.inv.fell i z, fun j => ?_⟩
 by_cases e : j = i
 ·subst e; rw [(fell_self s j z).1]; exact Nat.zero_le _
 ·have hb := base_eq (fell_oth s z e).base
  rw [hb.2.2.2.1, hb.2.2.1]; exact h.fits j
end Go.Proofs.YtmcajfefagdbnaaGreat
