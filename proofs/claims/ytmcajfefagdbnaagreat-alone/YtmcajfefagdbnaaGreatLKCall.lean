import Derived.Test.YtmcajfefagdbnaaGreatLKRound
import Derived.Test.YtmcajfefagdbnaaGreatLKFell
import Derived.Test.YtmcajfefagdbnaaGreatLPCall
namespace Go.Proofs.YtmcajfefagdbnaaGreat
open Go Go.RowKit
theorem kCall {L : Lay} {bs : Nat → Nat} {ow : Ow} {j : Nat} {s : St} {w : World} (h : KSt L bs ow j s w) (id : Int) (hj : j ≤ 140737488355328) :
  Calls Tryz.prog 35 #[.pointer (some ⟨L.p, 0, none⟩), .int .i64 id] w fun e w' => e = .returned (.int .i64 (s.call id).2) ∧ KAft L bs ow (j + 1) w (s.call id).1 w' := by
 obtain ⟨q, hq, hP⟩ := h.ex
 refine (pCall hP h.good.inv id (fun i h1 h2 _ => mem_range1.2 ⟨h1, h2⟩) h.act (by omega) (fun i h1 h2 h3 => ?_)).mono ?_
 ·have h4 := alive_pos (s := s) (i := i) ⟨h1, h2, h3⟩
  have h5 := alive_le s
  have h6 := h.n5
  omega
 rintro e w' ⟨rfl, ⟨ow', h1, h2⟩, h3⟩
 refine ⟨rfl, ⟨ow', ?_, h2⟩, h3⟩
 by_cases hz : s.there id = 0
 ·have hid : 1 ≤ id ∧ id ≤ s.n ∧ (s.tx id.toNat).state = 0 := by
   unfold St.there at hz
   split at hz
   ·omega
   ·split at hz
    ·omega
    ·rename_i a b
     exact ⟨by omega, by omega, by simpa using b⟩
  have hl : Lives s id.toNat := ⟨by omega, by omega, hid.2.2⟩
  have e1 : s.call id = (s.fell id.toNat 4, 0) := by unfold St.call; rw [if_neg (by simp [hz])]
  rw [e1] at h1 ⊢
  rw [if_pos rfl] at h1
  refine ⟨?_, h.good.fell _ _, Nat.le_trans (undone_act (s := s) (i := id.toNat)) h.act, h.n5, fun i => ?_, ?_, h.clock, h.in9.fell _ _⟩
  ·rw [← alive_fell hl 4 (by omega)] at h1
   exact KSt.put (s := s.fell id.toNat 4) h1 (by omega) (by omega) (h.good.fell _ _).inv (Nat.le_trans (undone_act (s := s) (i := id.toNat)) h.act) h.n5 (h.in9.fell _ _)
  ·have hai := h.ag i
   by_cases e : i = id.toNat
   ·subst e
    show 0 ≤ ((s.fell id.toNat 4).tx id.toNat).agains ∧ _
    rw [(fell_agains s _ 4).1]; omega
   ·have := (base_eq (fell_oth s 4 e).base).2.2.2.2.1
    show 0 ≤ ((s.fell id.toNat 4).tx i).agains ∧ ((s.fell id.toNat 4).tx i).agains ≤ _
    rw [this]; omega
  ·show (s.fell id.toNat 4).wins.length + alive (s.fell id.toNat 4) ≤ s.n
   rw [(fell_agains s _ 4).2]
   have := h.wins
   have := alive_fell hl 4 (by omega)
   omega
 ·have e1 : s.call id = (s, s.there id) := by unfold St.call; rw [if_pos hz]
  rw [e1] at h1 ⊢
  rw [if_neg hz] at h1
  exact ⟨KSt.put h1 (by omega) (by omega) h.good.inv h.act h.n5 h.in9, h.good, h.act, h.n5, fun i => ⟨(h.ag i).1, by have := (h.ag i).2; show (s.tx i).agains ≤ _; omega⟩, h.wins, h.clock, h.in9⟩
end Go.Proofs.YtmcajfefagdbnaaGreat
