import Derived.Test.YtmcajfefagdbnaaGreatLKSer0
import Derived.Test.YtmcajfefagdbnaaGreatLKUn0
namespace Go.Proofs.YtmcajfefagdbnaaGreat
open Go
structure Solo (D : Int → Option Int) (s : St) (k : Nat) : Prop where
 ser : SerJ D s
 one : s.n = 1
 lives : (s.tx 1).state = 0
 next : (s.tx 1).next = k
 whole : (s.tx 1).wounded = false
 free : (s.tx 1).waits = none
 wins : s.wins = []
theorem Solo.live {D : Int → Option Int} {s : St} {k : Nat} (h : Solo D s k) : Lives s 1 := ⟨by omega, by rw [h.one]; omega, h.lives⟩
theorem Solo.queue {D : Int → Option Int} {s : St} {k : Nat} (h : Solo D s k) (key : Int) : (s.lk key).q = [] := by
 cases hq : (s.lk key).q with
 | nil => rfl
 | cons x q =>
  have h1 := ((h.ser.hist.good.inv.row key).qmode x (by rw [hq]; simp)).1
  rw [h.one] at h1
  have h2 := (h.ser.hist.good.inv.queue key x.1 x.2 (by rw [hq]; simp)).2
  rw [show x.1 = 1 by omega, h.free] at h2
  cases h2
theorem Solo.hind {D : Int → Option Int} {s : St} {k : Nat} (h : Solo D s k) (key : Int) (m : Int) : hind s.n (s.lk key).h 1 m = false := by
 rw [hind_false]
 intro j h1 h2 h3
 have := (h.ser.hist.good.inv.row key).hold j h3
 rw [h.one] at h1
 omega
theorem Solo.own {D : Int → Option Int} {s : St} {k : Nat} (h : Solo D s k) : (s.tx 1).regs = (runP D ((s.tx 1).ops.take k)).regs ∧ (s.tx 1).reads = (runP D ((s.tx 1).ops.take k)).reads ∧ clean D ((s.tx 1).ops.take k) := by
 obtain ⟨a, b, _, d⟩ := h.ser.hist.ser.own 1 h.live
 rw [h.wins] at a b d
 rw [h.next] at d
 unfold St.pr at a b
 rw [h.next] at a b
 exact ⟨a, b, d⟩
structure Over (D : Int → Option Int) (s : St) : Prop where
 ser : SerJ D s
 one : s.n = 1
 dead : ∀ i, ¬ Lives s i
theorem Over.empty {D : Int → Option Int} {s : St} (h : Over D s) (key : Int) : (∀ j, (s.lk key).h j = 0) ∧ (s.lk key).q = [] := by
 constructor
 ·intro j
  by_cases e : (s.lk key).h j = 0
  ·exact e
  ·exact absurd (h.ser.hist.good.inv.live e) (h.dead j)
 ·cases hq : (s.lk key).q with
  | nil => rfl
  | cons x q =>
   have h1 := ((h.ser.hist.good.inv.row key).qmode x (by rw [hq]; simp)).1
   have h2 := (h.ser.hist.good.inv.queue key x.1 x.2 (by rw [hq]; simp)).1
   exact absurd ⟨h1.1, h1.2, h2⟩ (h.dead x.1)
theorem over_of {D : Int → Option Int} {s : St} (h : SerJ D s) (h1 : s.n = 1) (hs : (s.tx 1).state ≠ 0) : Over D s := ⟨h, h1, fun i hl => by
 have a := hl.low
 have b := hl.high
 rw [h1] at b
 have e : i = 1 := by omega
 subst e
 exact hs hl.lives⟩
theorem Solo.step {D : Int → Option Int} {s : St} {k : Nat} (h : Solo D s k) (hk : k < (s.tx 1).ops.length) :
  ((s.go 1).2 = 1 ∧ Solo D (s.go 1).1 (k + 1)) ∨ ((s.go 1).2 = 4 ∧ ¬ clean D (s.tx 1).ops ∧ Over D (s.go 1).1 ∧ ((s.go 1).1.tx 1).state = 2 ∧ ((s.go 1).1.tx 1).reads = [] ∧ (s.go 1).1.rows = D) := by
 have hl := h.live
 have hsj := h.ser.go hl
 have key : ∃ s1 : St, s1.tx = s.tx ∧ s1.wins = s.wins ∧ s.go 1 = s1.actOn 1 (s.tx 1).op := by
  have hgo : s.go 1 = _ := go_op h.whole h.free (by rw [h.next]; exact hk)
  rw [h.hind, h.queue, not_crowded h.ser.hist.good.inv h.ser.keys] at hgo
  rw [hgo]
  split
  ·refine ⟨s.grant 1 (s.tx 1).op.a (modeOf (s.tx 1).op), rfl, rfl, ?_⟩
   simp only [Bool.false_eq_true, if_false, List.isEmpty_nil, Bool.not_false, Bool.and_self, if_true]
  ·exact ⟨s, rfl, rfl, rfl⟩
 obtain ⟨s1, t1, tw, t3⟩ := key
 have hn : (s.go 1).1.n = 1 := by rw [(go_n s 1).1]; exact h.one
 have hop : (s.tx 1).op = (s.tx 1).ops.getD k Op4.z := by unfold Tx.op; rw [h.next]
 by_cases h5 : (s.tx 1).op.k = 5 ∧ (s.tx 1).regs (s.tx 1).op.a = 0
 ·right
  have e4 : s.go 1 = (s1.fell 1 2, 4) := by rw [t3]; unfold St.actOn; rw [if_pos (by rw [t1]; exact h5)]
  have es : ((s.go 1).1.tx 1).state = 2 := by rw [e4]; exact (fell_self s1 1 2).2.1
  have hov := over_of hsj hn (by rw [es]; decide)
  refine ⟨by rw [e4], fun hc => ?_, hov, es, by rw [e4]; exact fell_reads s1 1 2, ?_⟩
  ·have hlk : (s.tx 1).ops = (s.tx 1).ops.take k ++ (s.tx 1).op :: (s.tx 1).ops.drop (k + 1) := by
    rw [hop, ← List.singleton_append, ← List.append_assoc, ← take_snoc _ _ hk, List.take_append_drop]
   exact hc _ _ _ hlk h5.1 (by rw [← h.own.1]; exact h5.2)
  ·have := hsj.hist.done hov.dead
   rw [this]
   have hw : (s.go 1).1.wins = [] := by rw [e4]; show s1.wins = []; rw [tw, h.wins]
   rw [hw]
   rfl
 ·left
  have e4 : s.go 1 = (s1.doOp 1 (s.tx 1).op, 1) := by rw [t3]; unfold St.actOn; rw [if_neg (by rw [t1]; exact h5)]
  have hd := doOp_next s1 1 (s.tx 1).op
  refine ⟨by rw [e4], hsj, hn, ?_, ?_, ?_, ?_, ?_⟩
  ·rw [e4]; show ((s1.doOp 1 (s.tx 1).op).tx 1).state = 0; rw [hd.2.1, t1]; exact h.lives
  ·rw [e4]; show ((s1.doOp 1 (s.tx 1).op).tx 1).next = k + 1; rw [hd.1, t1, h.next]
  ·rw [e4]; show ((s1.doOp 1 (s.tx 1).op).tx 1).wounded = false; rw [hd.2.2.1, t1]; exact h.whole
  ·rw [e4]; show ((s1.doOp 1 (s.tx 1).op).tx 1).waits = none; rw [hd.2.2.2.1, t1]; exact h.free
  ·rcases go_commits s 1 with ⟨c, _⟩ | ⟨_, _, c, _⟩
   ·rw [c]; exact h.wins
   ·rw [h.next] at c; omega
theorem Solo.last {D : Int → Option Int} {s : St} {k : Nat} (h : Solo D s k) (hk : k = (s.tx 1).ops.length) :
  (s.go 1).2 = 6 ∧ clean D (s.tx 1).ops ∧ Over D (s.go 1).1 ∧ ((s.go 1).1.tx 1).state = 1 ∧ ((s.go 1).1.tx 1).reads = (runP D (s.tx 1).ops).reads ∧ ((s.go 1).1.tx 1).regs = (runP D (s.tx 1).ops).regs ∧ ((s.go 1).1.tx 1).next = (s.tx 1).ops.length ∧ (s.go 1).1.wins = [1] ∧ (s.go 1).1.rows = (runP D (s.tx 1).ops).f := by
 have hl := h.live
 have hsj := h.ser.go hl
 have e4 : s.go 1 = (s.commit 1, 6) := go_commit h.whole h.free (by rw [h.next]; exact hk)
 have hn : (s.go 1).1.n = 1 := by rw [(go_n s 1).1]; exact h.one
 have es : ((s.go 1).1.tx 1).state = 1 := by rw [e4]; exact (commit_self s 1).2.1
 have hov := over_of hsj hn (by rw [es]; decide)
 have hw : (s.go 1).1.wins = [1] := by rw [e4]; show s.wins ++ [1] = [1]; rw [h.wins]; rfl
 obtain ⟨o1, o2, o3⟩ := h.own
 rw [hk, List.take_length] at o1 o2 o3
 refine ⟨by rw [e4], o3, hov, es, ?_, ?_, by rw [e4]; show ((s.commit 1).tx 1).next = _; rw [(commit_self s 1).1, h.next, hk], hw, ?_⟩
 ·rw [e4, ← o2]; simp [St.commit, St.setTx, St.freed, Tx.look]
 ·rw [e4, ← o1]; simp [St.commit, St.setTx, St.freed, Tx.look]
 ·have := hsj.hist.done hov.dead
  rw [this, hw]
  show (runP D ((s.go 1).1.tx 1).ops).f = _
  rw [go_ops]
theorem solo_made (raw : List Int) (l : List Op4) : Solo (rowsF (firstL raw 5)) (mkS raw [l] true 1) 0 :=
 ⟨mkS_serJ raw [l] true 1, rfl, rfl, rfl, rfl, rfl, rfl⟩
theorem Solo.stepS {D : Int → Option Int} {s : St} {k : Nat} (h : Solo D s k) : s.step 1 = ((s.go 1).1, (s.go 1).2, 0) := by
 have e0 : s.there 1 = 0 := by
  unfold St.there
  rw [if_neg (by rw [h.one]; omega)]
  show (if (s.tx 1).state ≠ 0 then _ else _) = _
  rw [if_neg (by simpa using h.lives)]
 unfold St.step
 rw [if_neg (by simp [e0])]
 rfl
end Go.Proofs.YtmcajfefagdbnaaGreat
