import Derived.Test.YtmcajfefagdbnaaGreatQ26
namespace Go.Proofs.YtmcajfefagdbnaaGreat
open Go
def Ops5 (s : St) : Prop := ∀ i, ∀ o ∈ (s.tx i).ops, (0 < modeOf o → 0 ≤ o.a ∧ o.a < 5) ∧ o.k ≠ 5
def Keys5 (s : St) : Prop := ∀ k ∈ s.act, 0 ≤ k ∧ k < 5
theorem nodup_bound : ∀ (n : Nat) (l : List Int), l.Nodup → (∀ k ∈ l, 0 ≤ k ∧ k < n) → l.length ≤ n := by
 intro n l hn h
 have h1 : (l.map Int.toNat).Nodup := by
  rw [List.Nodup, List.pairwise_map]
  refine hn.imp_of_mem ?_
  intro x y hx hy hne e
  have := h x hx
  have := h y hy
  omega
 have h2 : ∀ t ∈ l.map Int.toNat, t ∈ List.range n := by
  intro t ht
  obtain ⟨x, hx, rfl⟩ := List.mem_map.1 ht
  have := h x hx
  exact List.mem_range.2 (by omega)
 have h3 := nodup_len _ (List.range n) h1 h2
 simpa using h3
theorem not_crowded {s : St} (hi : Inv s) (h : Keys5 s) (k : Int) : s.crowded k = false := by
 have := nodup_bound 5 s.act hi.actOnce h
 unfold St.crowded
 simp
 intro
 omega
theorem addKey5 {l : List Int} {k : Int} (h : ∀ x ∈ l, 0 ≤ x ∧ x < 5) (hk : 0 ≤ k ∧ k < 5) : ∀ x ∈ addKey l k, 0 ≤ x ∧ x < 5 := by
 unfold addKey
 split
 ·exact h
 ·intro x hx
  rcases List.mem_append.1 hx with hx | hx
  ·exact h x hx
  ·simp at hx; rw [hx]; exact hk
theorem undone_keys {s : St} {i : Nat} (h : Keys5 s) : Keys5 (s.undone i) := fun k hk => h k (List.mem_filter.1 hk).1
theorem doOp_keys {s : St} {i : Nat} {o : Op4} (h : Keys5 s) : Keys5 (s.doOp i o) := by unfold Keys5; rw [doOp_act]; exact h
theorem actOn_keys {s : St} {i : Nat} {o : Op4} (h : Keys5 s) : Keys5 (s.actOn i o).1 := by
 unfold St.actOn
 split
 ·exact undone_keys (s := s) (i := i) h
 ·exact doOp_keys h
theorem op_mem' {t : Tx} (h : t.next < t.ops.length) : t.op ∈ t.ops := by
 unfold Tx.op
 rw [List.getD_eq_getElem?_getD, List.getElem?_eq_getElem h]
 exact List.getElem_mem h
theorem go_keys {s : St} {i : Nat} (h : Keys5 s) (ho : Ops5 s) (hx : (s.tx i).next ≤ (s.tx i).ops.length) : Keys5 (s.go i).1 := by
 unfold St.go
 split
 ·exact undone_keys (s := s) (i := i) h
 split
 ·exact h
 split
 ·exact fun k hk => h k (List.mem_filter.1 hk).1
 rename_i hn
 have hm := op_mem' (t := s.tx i) (by omega)
 simp only
 split
 ·rename_i hp
  have ha := (ho i _ hm).1 hp.1
  split
  ·exact undone_keys (s := s) (i := i) h
  ·split
   ·exact actOn_keys (addKey5 h ha)
   ·exact addKey5 h ha
 ·exact actOn_keys h
structure AllWon (s : St) : Prop where
 good : Good s
 ops : Ops5 s
 keys : Keys5 s
 won : s.wins.length + alive s = s.n
theorem AllWon.go {s : St} (h : AllWon s) {i : Nat} (hl : Lives s i) : AllWon (s.go i).1 := by
 refine ⟨h.good.go hl, fun j o ho => ?_, go_keys h.keys h.ops (h.good.fits i), ?_⟩
 ·rw [go_ops] at ho; exact h.ops j o ho
 ·have hal := alive_go hl
  obtain ⟨a1, a2, a3, a4, a5, a6⟩ := go_ans s i hl.lives
  have hw := h.won
  have hp := alive_pos hl
  rw [(go_n s i).1]
  rcases go_commits s i with ⟨c1, c2⟩ | ⟨_, _, _, c1⟩
  ·have c3 : ((s.go i).1.tx i).state = 0 := by
    rcases c2 with c | ⟨_, c, d⟩ | ⟨_, c, _⟩
    ·rw [c]; exact hl.lives
    ·have := h.good.fits i
     exact absurd c (h.ops i _ (op_mem' (by omega))).2
    ·rw [not_crowded h.good.inv h.keys] at c; cases c
   have c4 : ¬ 4 ≤ (s.go i).2 := fun x => a3 x c3
   rw [if_neg c4] at hal
   rw [c1]
   omega
  ·have c3 : 4 ≤ (s.go i).2 := by
    by_cases x : 4 ≤ (s.go i).2
    ·exact x
    ·have := a4 x
     rw [c1, (commit_self s i).2.1] at this
     omega
   rw [if_pos c3] at hal
   have c4 : (s.go i).1.wins.length = s.wins.length + 1 := by
    rw [c1]
    show (s.wins ++ [i]).length = _
    simp
   omega
theorem AllWon.stepN {s : St} (h : AllWon s) (i : Nat) : AllWon (s.stepN i) := by
 rcases stepN_cases s i with ⟨h1, h2⟩ | ⟨_, h2⟩
 ·rw [h2]; exact h.go h1
 ·rw [h2]; exact h
theorem AllWon.steps {s : St} (h : AllWon s) (l : List Nat) : AllWon (s.steps l) := by
 induction l generalizing s with
 | nil => exact h
 | cons i l ih => exact ih (h.stepN i)
theorem stepN_n (s : St) (i : Nat) : (s.stepN i).n = s.n := by
 rcases stepN_cases s i with ⟨_, h2⟩ | ⟨_, h2⟩
 ·rw [h2, (go_n s i).1]
 ·rw [h2]
theorem steps_n (s : St) (l : List Nat) : (s.steps l).n = s.n := by
 induction l generalizing s with
 | nil => rfl
 | cons i l ih => exact (ih (s.stepN i)).trans (stepN_n s i)
theorem stepN_ops (s : St) (i j : Nat) : ((s.stepN i).tx j).ops = (s.tx j).ops := by
 rcases stepN_cases s i with ⟨_, h2⟩ | ⟨_, h2⟩
 ·rw [h2, go_ops]
 ·rw [h2]
theorem steps_ops (s : St) (l : List Nat) (j : Nat) : ((s.steps l).tx j).ops = (s.tx j).ops := by
 induction l generalizing s with
 | nil => rfl
 | cons i l ih => exact (ih (s.stepN i)).trans (stepN_ops s i j)
def roundL (f n k : Nat) : List Nat := (List.range k).map fun i => 1 + (f + i) % n
theorem roundL_succ (f n k : Nat) : roundL f n (k + 1) = roundL f n k ++ [1 + (f + k) % n] := by unfold roundL; rw [List.range_succ, List.map_append]; rfl
theorem steps_snoc (s : St) (l : List Nat) (i : Nat) : s.steps (l ++ [i]) = (s.steps l).stepN i := by unfold St.steps; rw [List.foldl_append]; rfl
theorem roundL_all (f n : Nat) (j : Nat) (h1 : 1 ≤ j) (h2 : j ≤ n) : j ∈ roundL f n n := by
 unfold roundL
 rw [List.mem_map]
 have hn : 0 < n := by omega
 have hf : f % n < n := Nat.mod_lt _ hn
 by_cases h : f % n ≤ j - 1
 ·refine ⟨j - 1 - f % n, List.mem_range.2 (by omega), ?_⟩
  have : (f + (j - 1 - f % n)) % n = j - 1 := by
   rw [Nat.add_mod, Nat.mod_eq_of_lt (show j - 1 - f % n < n by omega), Nat.mod_eq_of_lt (by omega)]
   omega
  omega
 ·refine ⟨n + (j - 1) - f % n, List.mem_range.2 (by omega), ?_⟩
  have : (f + (n + (j - 1) - f % n)) % n = j - 1 := by
   rw [Nat.add_mod, Nat.mod_eq_of_lt (show n + (j - 1) - f % n < n by omega)]
   rw [show f % n + (n + (j - 1) - f % n) = n + (j - 1) by omega, Nat.add_mod_left, Nat.mod_eq_of_lt (by omega)]
  omega
def roundsL (q n m : Nat) : List (List Nat) := (List.range m).map fun i => roundL (i * q) n n
def St.rounds (s : St) (q n m : Nat) : St := (roundsL q n m).foldl St.steps s
theorem rounds_succ (s : St) (q n m : Nat) : s.rounds q n (m + 1) = (s.rounds q n m).steps (roundL (m * q) n n) := by
 unfold St.rounds roundsL
 rw [List.range_succ, List.map_append, List.foldl_append]
 rfl
theorem rounds_n (s : St) (q n m : Nat) : (s.rounds q n m).n = s.n := by
 induction m with
 | zero => rfl
 | succ m ih => rw [rounds_succ, steps_n, ih]
theorem rounds_ops (s : St) (q n m j : Nat) : ((s.rounds q n m).tx j).ops = (s.tx j).ops := by
 induction m with
 | zero => rfl
 | succ m ih => rw [rounds_succ, steps_ops, ih]
theorem AllWon.rounds {s : St} (h : AllWon s) (q n m : Nat) : AllWon (s.rounds q n m) := by
 induction m with
 | zero => exact h
 | succ m ih => rw [rounds_succ]; exact ih.steps _
theorem Good.rounds {s : St} (h : Good s) (q n m : Nat) : Good (s.rounds q n m) := by
 induction m with
 | zero => exact h
 | succ m ih => rw [rounds_succ]; exact ih.steps _
theorem Eld.rounds {s : St} {e : Nat} (h : Eld s e) (q n m : Nat) : Eld (s.rounds q n m) e := by
 induction m with
 | zero => exact h
 | succ m ih => rw [rounds_succ]; exact ih.steps _
theorem rounds_done {s : St} (hg : Good s) {e : Nat} (he : Eld s e) (q m : Nat) (hm : 3 * (s.tx e).ops.length + 2 ≤ m) : ((s.rounds q s.n m).tx e).state ≠ 0 := by
 refine rounds_end hg he (roundsL q s.n m) (fun l hl j h1 h2 => ?_) ?_
 ·obtain ⟨i, _, rfl⟩ := List.mem_map.1 hl
  exact roundL_all _ _ j h1 h2
 ·have := rank_le s e
  unfold roundsL
  rw [List.length_map, List.length_range]
  omega
end Go.Proofs.YtmcajfefagdbnaaGreat
