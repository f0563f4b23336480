import Derived.Test.YtmcajfefagdbnaaGreatLKRows
namespace Go.Proofs.YtmcajfefagdbnaaGreat
open Go
theorem back_undo (f : Int → Option Int) (a : Int) (x : Option Int) (u : List Saw) : back (upd f a x) (sawOf f a :: u) = back f u := by
 unfold back
 rw [List.foldl_cons]
 congr 1
 funext k
 unfold sawOf upd Saw.old
 split
 ·rename_i e; rw [e]; cases f a <;> simp
 ·rfl
theorem doOp_back (s : St) (i : Nat) (o : Op4) : back (s.doOp i o).rows ((s.doOp i o).tx i).undo = back s.rows (s.tx i).undo := by
 unfold St.doOp
 simp only
 split
 ·simp [St.setTx]
 ·split
  ·simp only [St.setTx, upd_same]; exact back_undo _ _ _ _
  ·split
   ·simp only [St.setTx, upd_same]; exact back_undo _ _ _ _
   ·split <;> simp [St.setTx]
structure Lone (s : St) (f : Int → Option Int) (k : Nat) : Prop where
 good : Good s
 one : s.n = 1
 ops : Ops5 s
 keys : Keys5 s
 lives : (s.tx 1).state = 0
 next : (s.tx 1).next = k
 whole : (s.tx 1).wounded = false
 free : (s.tx 1).waits = none
 back : back s.rows (s.tx 1).undo = f
theorem Lone.queue {s : St} {f : Int → Option Int} {k : Nat} (h : Lone s f k) (key : Int) : (s.lk key).q = [] := by
 cases hq : (s.lk key).q with
 | nil => rfl
 | cons x q =>
  have h1 := ((h.good.inv.row key).qmode x (by rw [hq]; simp)).1
  rw [h.one] at h1
  have h2 := (h.good.inv.queue key x.1 x.2 (by rw [hq]; simp)).2
  rw [show x.1 = 1 by omega, h.free] at h2
  cases h2
theorem Lone.hind {s : St} {f : Int → Option Int} {k : Nat} (h : Lone s f k) (key : Int) (m : Int) : hind s.n (s.lk key).h 1 m = false := by
 rw [hind_false]
 intro j h1 h2 h3
 have := (h.good.inv.row key).hold j h3
 rw [h.one] at h1
 omega
theorem Lone.step {s : St} {f : Int → Option Int} {k : Nat} (h : Lone s f k) (hk : k < (s.tx 1).ops.length) : Lone (s.stepN 1) f (k + 1) := by
 have hl : Lives s 1 := ⟨by omega, by rw [h.one]; omega, h.lives⟩
 have e0 : s.stepN 1 = (s.go 1).1 := by
  rcases stepN_cases s 1 with ⟨_, e⟩ | ⟨a, _⟩
  ·exact e
  ·exact absurd hl a
 have hm := op_mem' (t := s.tx 1) (by rw [h.next]; exact hk)
 have h5 := (h.ops 1 _ hm).2
 have hact : ∀ s1 : St, s1.tx = s.tx → (s1.actOn 1 (s.tx 1).op) = (s1.doOp 1 (s.tx 1).op, 1) := fun s1 _ => by unfold St.actOn; rw [if_neg (fun x => h5 x.1)]
 have key : ∃ s1 : St, s1.tx = s.tx ∧ s1.rows = s.rows ∧ (s.go 1).1 = s1.doOp 1 (s.tx 1).op := by
  have hgo : s.go 1 = _ := go_op h.whole h.free (by rw [h.next]; exact hk)
  rw [h.hind, h.queue, not_crowded h.good.inv h.keys] at hgo
  rw [hgo]
  split
  ·refine ⟨s.grant 1 (s.tx 1).op.a (modeOf (s.tx 1).op), rfl, rfl, ?_⟩
   simp only [Bool.false_eq_true, if_false, List.isEmpty_nil, Bool.not_false, Bool.and_self, if_true]
   rw [hact (s.grant 1 (s.tx 1).op.a (modeOf (s.tx 1).op)) rfl]
  ·exact ⟨s, rfl, rfl, by rw [hact s rfl]⟩
 obtain ⟨s1, t1, t2, t3⟩ := key
 have hd := doOp_next s1 1 (s.tx 1).op
 have hg := h.good.go hl
 refine ⟨by rw [e0]; exact hg, by rw [stepN_n]; exact h.one, fun j o ho => ?_, by rw [e0]; exact go_keys h.keys h.ops (h.good.fits 1), ?_, ?_, ?_, ?_, ?_⟩
 ·rw [stepN_ops] at ho; exact h.ops j o ho
 ·rw [e0, t3, hd.2.1, t1]; exact h.lives
 ·rw [e0, t3, hd.1, t1, h.next]
 ·rw [e0, t3, hd.2.2.1, t1]; exact h.whole
 ·rw [e0, t3, hd.2.2.2.1, t1]; exact h.free
 ·rw [e0, t3, doOp_back, t1, t2]; exact h.back
theorem fell_rows (s : St) (i : Nat) (z : Int) : (s.fell i z).rows = back s.rows (s.tx i).undo := rfl
theorem fell_reads (s : St) (i : Nat) (z : Int) : ((s.fell i z).tx i).reads = [] := by simp [St.fell, St.setTx, St.undone, St.freed, Tx.look, Tx.anew]
theorem fell_out (s : St) (hs : Inv s) (i : Nat) (z : Int) : Out (s.fell i z) i := (hs.undone i).2
end Go.Proofs.YtmcajfefagdbnaaGreat
