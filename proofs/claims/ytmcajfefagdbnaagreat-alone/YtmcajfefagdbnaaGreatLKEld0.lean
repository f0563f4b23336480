import Derived.Test.YtmcajfefagdbnaaGreatQ26
namespace Go.Proofs.YtmcajfefagdbnaaGreat
theorem fell_wounded (s : St) (i : Nat) (z : Int) : ((s.fell i z).tx i).wounded = false := (fell_self s i z).2.2.1
theorem actOn_wounded (s : St) (i : Nat) (o : Op4) (h : (s.tx i).wounded = false) : ((s.actOn i o).1.tx i).wounded = false := by
 unfold St.actOn
 split
 ·exact fell_wounded s i 2
 ·rw [(doOp_next s i o).2.2.1]; exact h
theorem go_healed (s : St) (i : Nat) : ((s.go i).1.tx i).wounded = false := by
 unfold St.go
 by_cases hw : (s.tx i).wounded = true
 ·rw [if_pos hw]; exact (again_self s i).2.2.1
 have hw' : (s.tx i).wounded = false := by simpa using hw
 rw [if_neg hw]
 split
 ·exact hw'
 split
 ·show ((s.commit i).tx i).wounded = false
  simp [St.commit, St.setTx, St.freed, Tx.look, hw']
 simp only
 split
 ·split
  ·exact fell_wounded s i 3
  ·split
   ·exact actOn_wounded _ i _ hw'
   ·simp [St.enq, hw']
 ·exact actOn_wounded _ i _ hw'
def EldR (s : St) (id : Nat) (ag : Int) (wd : Bool) : Prop := ((s.tx id).wounded = true → wd = true) ∧ ((s.tx id).agains = ag ∨ (wd = true ∧ (s.tx id).agains = ag + 1 ∧ (s.tx id).wounded = false))
def EldJ (s : St) (id : Nat) (ag : Int) (wd : Bool) : Prop := (id = 0 ∧ ∀ i, 1 ≤ i → i ≤ s.n → (s.tx i).agains = 0 ∧ (s.tx i).wounded = false) ∨ (1 ≤ id ∧ Eld s id ∧ ((s.tx id).state = 0 → EldR s id ag wd))
theorem EldJ.step {s : St} (hg : Good s) {id : Nat} {ag : Int} {wd : Bool} (he : Eld s id) (h1 : (s.tx id).wounded = true → wd = true) (h2 : (s.tx id).agains = ag) (i : Nat) : EldJ (s.stepN i) id ag wd := by
 refine .inr ⟨he.low, he.stepN i, fun _ => ?_⟩
 rcases stepN_cases s i with ⟨a, b⟩ | ⟨a, b⟩
 ·rw [b]
  by_cases e : id = i
  ·subst e
   obtain ⟨_, _, _, _, _, a6⟩ := go_ans s id a.lives
   refine ⟨fun h => ?_, ?_⟩
   ·rw [go_healed] at h; cases h
   ·cases hw : (s.tx id).wounded with
    | true => right; exact ⟨h1 hw, by rw [a6, h2, hw]; rfl, go_healed s id⟩
    | false => left; rw [a6, h2, hw]; simp
  ·have hb := base_eq (go_oth s e).base
   refine ⟨fun h => ?_, .inl (by rw [hb.2.2.2.2.1]; exact h2)⟩
   rw [wound_eld hg.inv he a e] at h
   exact h1 h
 ·rw [b]; exact ⟨h1, .inl h2⟩
theorem eld_ge {s : St} {id r : Nat} (he : Eld s id) (hr : Eld s r) (hl : (s.tx r).state = 0) : id ≤ r := by
 by_cases h : id ≤ r
 ·exact h
 ·exact absurd hl (he.first r hr.low (by omega))
theorem mkS_new (raw : List Int) (ls : List (List Op4)) (stops : Bool) : ∀ k i, ((mkS raw ls stops k).tx i).agains = 0 ∧ ((mkS raw ls stops k).tx i).wounded = false ∧ ((mkS raw ls stops k).tx i).state = 0
 | 0, i => ⟨rfl, rfl, rfl⟩
 | k + 1, i => by
  by_cases e : i = (mkS raw ls stops k).n + 1
  ·have : (mkS raw ls stops (k + 1)).tx i = ⟨(mkS raw ls stops k).clock + 1, 0, mkOps stops 6 (ls.getD k []), 0, false, none, 0, fun _ => 0, [], []⟩ := by rw [e]; exact upd_same _ _ _
   rw [this]; exact ⟨rfl, rfl, rfl⟩
  ·have : (mkS raw ls stops (k + 1)).tx i = (mkS raw ls stops k).tx i := admit_tx _ _ e
   rw [this]; exact mkS_new raw ls stops k i
end Go.Proofs.YtmcajfefagdbnaaGreat
