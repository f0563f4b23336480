import Derived.Test.YtmcajfefagdbnaaGreatLKSer0
import Derived.Test.YtmcajfefagdbnaaGreatLKRows
namespace Go.Proofs.YtmcajfefagdbnaaGreat
open Go
theorem holdF_some {lk : Int → Lk} {key t md : Int} (h : holdF lk (key, t) = some md) : 0 ≤ t ∧ (lk key).h t.toNat = md ∧ md ≠ 0 := by
 unfold holdF at h
 split at h
 ·rename_i hc
  simp only [Option.some.injEq] at h
  exact ⟨hc.1, h, by rw [← h]; exact hc.2⟩
 ·cases h
theorem holds_at {s : St} {key : Int} {l : List (Int × Int)} (hl : HoldsL (holdF s.lk) key l) (i : Nat) (hi : i < l.length) : 0 ≤ (l.getD i (0, 0)).1 ∧ (s.lk key).h (l.getD i (0, 0)).1.toNat = (l.getD i (0, 0)).2 ∧ (l.getD i (0, 0)).2 ≠ 0 := by
 have e : l.getD i (0, 0) = l[i] := by rw [List.getD_eq_getElem?_getD, List.getElem?_eq_getElem hi]; rfl
 rw [e]
 exact holdF_some ((hl.2 _ _).1 (List.getElem_mem hi))
theorem holds_apart {s : St} (hi : Inv s) {key : Int} {l : List (Int × Int)} (hl : HoldsL (holdF s.lk) key l) {i j : Nat} (h1 : i < l.length) (h2 : j < l.length) (hne : i ≠ j) : conf (l.getD i (0, 0)).2 (l.getD j (0, 0)).2 = false := by
 obtain ⟨a1, a2, a3⟩ := holds_at hl i h1
 obtain ⟨b1, b2, b3⟩ := holds_at hl j h2
 have e1 : l.getD i (0, 0) = l[i] := by rw [List.getD_eq_getElem?_getD, List.getElem?_eq_getElem h1]; rfl
 have e2 : l.getD j (0, 0) = l[j] := by rw [List.getD_eq_getElem?_getD, List.getElem?_eq_getElem h2]; rfl
 have hd : (l.getD i (0, 0)).1 ≠ (l.getD j (0, 0)).1 := by
  rw [e1, e2]
  rcases Nat.lt_or_gt_of_ne hne with h | h
  ·have := List.pairwise_iff_getElem.1 hl.1 i j h1 h2 h; omega
  ·have := List.pairwise_iff_getElem.1 hl.1 j i h2 h1 h; omega
 have := (hi.row key).apart (l.getD i (0, 0)).1.toNat (l.getD j (0, 0)).1.toNat (by omega) (by rw [a2]; exact a3) (by rw [b2]; exact b3)
 rw [a2, b2] at this
 exact this
theorem queue_at {s : St} (hi : Inv s) (key : Int) (i : Nat) (h : i < (s.lk key).q.length) : 1 ≤ ((s.lk key).q.getD i (0, 0)).1 ∧ ((s.lk key).q.getD i (0, 0)).1 ≤ s.n ∧ (((s.lk key).q.getD i (0, 0)).2 = 1 ∨ ((s.lk key).q.getD i (0, 0)).2 = 2) := by
 have e : (s.lk key).q.getD i (0, 0) = (s.lk key).q[i] := by rw [List.getD_eq_getElem?_getD, List.getElem?_eq_getElem h]; rfl
 rw [e]
 have := (hi.row key).qmode _ (List.getElem_mem h)
 exact ⟨this.1.1, this.1.2, this.2⟩
theorem before_ok {s : St} (hi : Inv s) {key : Int} {l : List (Int × Int)} (hl : HoldsL (holdF s.lk) key l) (i : Nat) (h : i < (s.lk key).q.length) (x : Int × Int) (hx : x ∈ l ++ qcast ((s.lk key).q.take i)) : ∃ t : Nat, x.1 = (t : Int) ∧ 1 ≤ t ∧ t ≤ s.n ∧ (t ≠ ((s.lk key).q.getD i (0, 0)).1 → conf x.2 ((s.lk key).q.getD i (0, 0)).2 = true → ((s.lk key).q.getD i (0, 0)).1 < t → (s.tx t).wounded = true) := by
 obtain ⟨q1, q2, _⟩ := queue_at hi key i h
 have e : (s.lk key).q.getD i (0, 0) = (s.lk key).q[i] := by rw [List.getD_eq_getElem?_getD, List.getElem?_eq_getElem h]; rfl
 have hsp : (s.lk key).q = (s.lk key).q.take i ++ (((s.lk key).q.getD i (0, 0)).1, ((s.lk key).q.getD i (0, 0)).2) :: (s.lk key).q.drop (i + 1) := by
  rw [e]
  show (s.lk key).q = (s.lk key).q.take i ++ (s.lk key).q[i] :: (s.lk key).q.drop (i + 1)
  rw [List.getElem_cons_drop, List.take_append_drop]
 have hE := (hi.row key).edge _ _ _ _ hsp
 generalize (s.lk key).q.getD i (0, 0) = y at *
 have fin : ∀ t : Nat, 1 ≤ t → t ≤ s.n → Elder s.tx t y.1 → y.1 < t → (s.tx t).wounded = true := fun t t1 t2 hEl hlt => by
  have := hi.age y.1 t q1 hlt t2
  rcases hEl with h3 | h3
  ·omega
  ·exact h3
 rcases List.mem_append.1 hx with hm | hm
 ·obtain ⟨a1, a2, a3⟩ := holdF_some ((hl.2 x.1 x.2).1 hm)
  have hh : (s.lk key).h x.1.toNat ≠ 0 := by rw [a2]; exact a3
  obtain ⟨b1, b2⟩ := (hi.row key).hold _ hh
  refine ⟨x.1.toNat, by omega, b1, b2, fun hne hc hlt => fin _ b1 b2 (hE _ hne (.inl ⟨hh, by rw [a2]; exact hc⟩)) hlt⟩
 ·obtain ⟨z, hz, rfl⟩ := List.mem_map.1 hm
  have hzq : z ∈ (s.lk key).q := List.mem_of_mem_take hz
  have := (hi.row key).qmode z hzq
  exact ⟨z.1, rfl, this.1.1, this.1.2, fun hne hc hlt => fin _ this.1.1 this.1.2 (hE _ hne (.inr ⟨z.2, hz, hc⟩)) hlt⟩
def cq (l : List (Nat × Int)) (id : Nat) : Nat := l.countP (fun x => x.1 == id)
theorem cq_take (l : List (Nat × Int)) (i id : Nat) (h : i < l.length) : cq (l.take (i + 1)) id = cq (l.take i) id + (if (l.getD i (0, 0)).1 = id then 1 else 0) := by
 unfold cq
 rw [List.take_add_one, List.getElem?_eq_getElem h, List.getD_eq_getElem?_getD, List.getElem?_eq_getElem h, List.countP_append]
 congr 1
 simp [List.countP_cons]
theorem cq_le (l : List (Nat × Int)) (id : Nat) : (l.map (·.1)).Nodup → cq l id ≤ 1 := by
 unfold cq
 induction l with
 | nil => intro _; simp
 | cons x l ih =>
  intro hn
  rw [List.map_cons, List.nodup_cons] at hn
  rw [List.countP_cons]
  by_cases e : x.1 = id
  ·have : l.countP (fun x => x.1 == id) = 0 := List.countP_eq_zero.2 (fun y hy => by
    intro h
    have : y.1 = id := by simpa using h
    exact hn.1 (List.mem_map.2 ⟨y, hy, by rw [this, e]⟩))
   rw [this]
   simp [e]
  ·have := ih hn.2
   simp [e]
   exact this
def wq (s : St) : Nat → Nat → Nat
 | 0, _ => 0
 | K + 1, id => wq s K id + cq (s.lk (K : Int)).q id
theorem wq_le {s : St} (hi : Inv s) (K id : Nat) : wq s K id ≤ K := by
 induction K with
 | zero => exact Nat.zero_le _
 | succ K ih => have := cq_le _ id (hi.row (K : Int)).once; show wq s K id + _ ≤ _; omega
theorem wq_all {s : St} (hi : Inv s) (hk : Keys5 s) (id : Nat) : wq s 5 id = if (s.tx id).waits.isSome then 1 else 0 := by
 have h0 : ∀ K : Nat, (s.tx id).waits ≠ some (K : Int) → cq (s.lk (K : Int)).q id = 0 := fun K hne => by
  unfold cq
  refine List.countP_eq_zero.2 (fun y hy h => ?_)
  have e : y.1 = id := by simpa using h
  have := (hi.queue (K : Int) y.1 y.2 hy).2
  rw [e] at this
  exact hne this
 have h1 : ∀ K : Nat, (s.tx id).waits = some (K : Int) → cq (s.lk (K : Int)).q id = 1 := fun K he => by
  obtain ⟨m, hm⟩ := hi.waits id _ he
  have h2 := cq_le _ id (hi.row (K : Int)).once
  have h3 : 0 < cq (s.lk (K : Int)).q id := List.countP_pos_iff.2 ⟨_, hm, by simp⟩
  omega
 show 0 + cq (s.lk ((0 : Nat) : Int)).q id + cq (s.lk ((1 : Nat) : Int)).q id + cq (s.lk ((2 : Nat) : Int)).q id + cq (s.lk ((3 : Nat) : Int)).q id + cq (s.lk ((4 : Nat) : Int)).q id = _
 cases hw : (s.tx id).waits with
 | none =>
  have h2 : ∀ K : Nat, cq (s.lk (K : Int)).q id = 0 := fun K => h0 K (by rw [hw]; simp)
  rw [h2, h2, h2, h2, h2]
  rfl
 | some k =>
  obtain ⟨m, hm⟩ := hi.waits id _ hw
  have hkk : k ∈ s.act := (hi.act k).2 ((live_iff _ _).2 (.inl (fun e => by rw [e] at hm; cases hm)))
  obtain ⟨k1, k2⟩ := hk k hkk
  have h2 : ∀ K : Nat, cq (s.lk (K : Int)).q id = if k = (K : Int) then 1 else 0 := fun K => by
   split
   ·rename_i e; exact h1 K (by rw [hw, e])
   ·rename_i e; exact h0 K (by rw [hw]; simpa using e)
  rw [h2, h2, h2, h2, h2]
  have : k = 0 ∨ k = 1 ∨ k = 2 ∨ k = 3 ∨ k = 4 := by omega
  rcases this with h | h | h | h | h <;> subst h <;> rfl
def icells (n : Nat) (W : Nat → Nat) : Array Value := ((List.range n).map fun i => Value.int .i64 ((W i : Nat) : Int)).toArray
theorem icells_at (n : Nat) (W : Nat → Nat) (j : Nat) (h : j < n) : (icells n W)[j]? = some (.int .i64 ((W j : Nat) : Int)) := by
 unfold icells
 simp [h]
theorem icells_set (n : Nat) (W : Nat → Nat) (j v : Nat) : (icells n W).setIfInBounds j (.int .i64 (v : Int)) = icells n (fun i => if i = j then v else W i) := by
 unfold icells
 apply Array.ext'
 simp only [Array.toList_setIfInBounds]
 apply List.ext_getElem?
 intro i
 rw [List.getElem?_set]
 by_cases e : j = i
 ·subst e
  by_cases hl : j < n
  ·simp [hl]
  ·simp [hl]
 ·rw [if_neg e]
  by_cases hl : i < n
  ·simp [hl]
   have : ¬ i = j := fun h => e h.symm
   simp [this]
  ·simp [hl]
theorem icells_congr (n : Nat) {W W' : Nat → Nat} (h : ∀ i, W i = W' i) : icells n W = icells n W' := by
 rw [show W = W' from funext h]
end Go.Proofs.YtmcajfefagdbnaaGreat
