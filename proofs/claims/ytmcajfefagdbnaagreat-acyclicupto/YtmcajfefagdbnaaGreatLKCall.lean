import Derived.Test.YtmcajfefagdbnaaGreatLKRound
import Derived.Test.YtmcajfefagdbnaaGreatLPCall
namespace Go.Proofs.YtmcajfefagdbnaaGreat
open Go Go.RowKit

theorem fell_n (s : St) (i : Nat) (z : Int) : (s.fell i z).n = s.n ∧ (s.fell i z).clock = s.clock := ⟨rfl, rfl⟩

theorem alive_fell {s : St} {i : Nat} (hl : Lives s i) (z : Int) (hz : z ≠ 0) : (alive (s.fell i z) : Int) = (alive s : Int) - 1 := by
  have hoth : ∀ j, j ≠ i → ((s.fell i z).tx j).state = (s.tx j).state := fun j hj => (base_eq (fell_oth s z hj).base).2.1
  unfold alive
  rw [(fell_n s i z).1]
  have := (filter_one (p := fun j => (s.tx j).state == 0) (q := fun j => ((s.fell i z).tx j).state == 0) (i := i) (by simp [hl.lives]) (by rw [(fell_self s i z).2.1]; simpa using hz) (List.range' 1 s.n) List.nodup_range' (fun j _ hj => by rw [hoth j hj])).1 (by rw [List.mem_range'_1]; have := hl.low; have := hl.high; omega)
  omega

theorem Good.fell {s : St} (h : Good s) (i : Nat) (z : Int) : Good (s.fell i z) := by
  refine ⟨h.inv.fell i z, fun j => ?_⟩
  by_cases e : j = i
  · subst e; rw [(fell_self s j z).1]; exact Nat.zero_le _
  · have hb := base_eq (fell_oth s z e).base
    rw [hb.2.2.2.1, hb.2.2.1]; exact h.fits j

theorem kCall {L : Lay} {bs : Nat → Nat} {ow : Ow} {j : Nat} {s : St} {w : World} (h : KSt L bs ow j s w) (id : Int) (hj : j ≤ 4194304) :
    Calls Tryz.prog 35 #[.pointer (some ⟨L.p, 0, none⟩), .int .i64 id] w fun e w' => e = .returned (.int .i64 (s.call id).2) ∧ KAft L bs ow (j + 1) w (s.call id).1 w' := by
  refine (pCall h.st h.good.inv id (fun i h1 h2 _ => mem_range1.2 ⟨h1, h2⟩) h.act (by omega) (fun i h1 h2 h3 => ?_)).mono ?_
  · have h4 := alive_pos (s := s) (i := i) ⟨h1, h2, h3⟩
    have h5 := alive_le s
    have h6 := h.n5
    omega
  rintro e w' ⟨rfl, ⟨ow', h1, h2⟩, h3⟩
  refine ⟨rfl, ⟨ow', ?_, h2⟩, h3⟩
  by_cases hz : s.there id = 0
  · have hid : 1 ≤ id ∧ id ≤ s.n ∧ (s.tx id.toNat).state = 0 := by
      unfold St.there at hz
      split at hz
      · omega
      · split at hz
        · omega
        · rename_i a b
          exact ⟨by omega, by omega, by simpa using b⟩
    have hl : Lives s id.toNat := ⟨by omega, by omega, hid.2.2⟩
    have e1 : s.call id = (s.fell id.toNat 4, 0) := by unfold St.call; rw [if_neg (by simp [hz])]
    rw [e1] at h1 ⊢
    rw [if_pos rfl] at h1
    refine ⟨?_, h.good.fell _ _, Nat.le_trans (undone_act (s := s) (i := id.toNat)) h.act, h.n5, fun i => ?_, ?_, h.clock⟩
    · have h1' := h1.mono (m' := 500 * (j + 1) + 10) (by omega)
      show PSt L bs (List.range' 1 s.n) ow' _ 0 (alive (s.fell id.toNat 4) : Int) (s.fell id.toNat 4) w'
      rw [alive_fell hl 4 (by omega)]
      exact h1'
    · have hai := h.ag i
      by_cases e : i = id.toNat
      · subst e
        show 0 ≤ ((s.fell id.toNat 4).tx id.toNat).agains ∧ _
        rw [(fell_agains s _ 4).1]; omega
      · have := (base_eq (fell_oth s 4 e).base).2.2.2.2.1
        show 0 ≤ ((s.fell id.toNat 4).tx i).agains ∧ ((s.fell id.toNat 4).tx i).agains ≤ _
        rw [this]; omega
    · show (s.fell id.toNat 4).wins.length ≤ _
      rw [(fell_agains s _ 4).2]
      have := h.wins
      omega
  · have e1 : s.call id = (s, s.there id) := by unfold St.call; rw [if_pos hz]
    rw [e1] at h1 ⊢
    rw [if_neg hz] at h1
    exact ⟨h1.mono (m' := 500 * (j + 1) + 10) (by omega), h.good, h.act, h.n5, fun i => ⟨(h.ag i).1, by have := (h.ag i).2; show (s.tx i).agains ≤ _; omega⟩, by have := h.wins; show s.wins.length ≤ _; omega, h.clock⟩

end Go.Proofs.YtmcajfefagdbnaaGreat
