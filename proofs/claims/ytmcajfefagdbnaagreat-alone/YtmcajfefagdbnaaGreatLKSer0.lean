import Derived.Test.YtmcajfefagdbnaaGreatLKEnds
import Derived.Test.YtmcajfefagdbnaaGreatLKRun0
namespace Go.Proofs.YtmcajfefagdbnaaGreat
open Go
def OpsK (s : St) : Prop := ∀ i, ∀ o ∈ (s.tx i).ops, 0 < modeOf o → 0 ≤ o.a ∧ o.a < 5
theorem go_keysK {s : St} {i : Nat} (h : Keys5 s) (ho : OpsK s) (hx : (s.tx i).next ≤ (s.tx i).ops.length) : Keys5 (s.go i).1 := by
 unfold St.go
 split
 ·exact undone_keys (s := s) (i := i) h
 split
 ·exact h
 split
 ·exact fun k hk => h k (List.mem_filter.1 hk).1
 rename_i hn
 have hm := op_mem' (t := s.tx i) (by omega)
 simp only
 split
 ·rename_i hp
  have ha := ho i _ hm hp.1
  split
  ·exact undone_keys (s := s) (i := i) h
  ·split
   ·exact actOn_keys (addKey5 h ha)
   ·exact addKey5 h ha
 ·exact actOn_keys h
structure SerJ (D0 : Int → Option Int) (s : St) : Prop where
 hist : Hist D0 s
 ops : OpsK s
 keys : Keys5 s
 states : ∀ i, (s.tx i).state = 0 ∨ (s.tx i).state = 1 ∨ (s.tx i).state = 2
theorem SerJ.go {D0 : Int → Option Int} {s : St} (h : SerJ D0 s) {i : Nat} (hl : Lives s i) : SerJ D0 (s.go i).1 := by
 refine ⟨h.hist.go hl, fun j o ho => ?_, go_keysK h.keys h.ops (h.hist.good.fits i), fun j => ?_⟩
 ·rw [go_ops] at ho; exact h.ops j o ho
 ·by_cases e : j = i
  ·subst e
   rcases go_commits s j with ⟨_, c2⟩ | ⟨_, _, _, c1⟩
   ·rcases c2 with c | ⟨c, _⟩ | ⟨_, c, _⟩
    ·rw [c]; exact h.states j
    ·exact .inr (.inr c)
    ·rw [not_crowded h.hist.good.inv h.keys] at c; cases c
   ·rw [c1, (commit_self s j).2.1]; exact .inr (.inl rfl)
  ·rw [(base_eq (go_oth s e).base).2.1]; exact h.states j
theorem SerJ.stepN {D0 : Int → Option Int} {s : St} (h : SerJ D0 s) (i : Nat) : SerJ D0 (s.stepN i) := by
 rcases stepN_cases s i with ⟨h1, h2⟩ | ⟨_, h2⟩
 ·rw [h2]; exact h.go h1
 ·rw [h2]; exact h
theorem SerJ.steps {D0 : Int → Option Int} {s : St} (h : SerJ D0 s) (l : List Nat) : SerJ D0 (s.steps l) := by
 induction l generalizing s with
 | nil => exact h
 | cons i l ih => exact ih (h.stepN i)
theorem serD_congr (D0 : Int → Option Int) (f g : Nat → List Op4) (w : List Nat) (h : ∀ i ∈ w, f i = g i) : serD D0 f w = serD D0 g w := by
 unfold serD
 induction w generalizing D0 with
 | nil => rfl
 | cons i w ih =>
  rw [List.foldl_cons, List.foldl_cons, h i (by simp)]
  exact ih _ (fun j hj => h j (by simp [hj]))
theorem Hist.born (f : Int → Option Int) : Hist f (St.born f) := by
 refine ⟨good_born f, ⟨fun i h => ?_, fun i h => ?_, fun i k h => ?_, fun k h => rfl⟩, fun w1 i w2 e => ?_, List.Pairwise.nil, fun i h => ?_⟩
 ·have h1 := h.low; have h2 := h.high; simp [St.born] at h2; omega
 ·have h1 := h.low; have h2 := h.high; simp [St.born] at h2; omega
 ·simp [St.born] at h
 ·have : ([] : List Nat) = w1 ++ i :: w2 := e
  cases w1 <;> cases this
 ·simp [St.born] at h
theorem Hist.admit {D0 : Int → Option Int} {s : St} (h : Hist D0 s) (l : List Op4) (hg : Good (s.admit l)) : Hist D0 (s.admit l) := by
 have hnew : (s.admit l).tx (s.n + 1) = ⟨s.clock + 1, 0, l, 0, false, none, 0, fun _ => 0, [], []⟩ := upd_same _ _ _
 have hold : ∀ i, i ≠ s.n + 1 → (s.admit l).tx i = s.tx i := fun i hi => admit_tx s l hi
 have hin : ∀ j, j ∈ s.wins → j ≠ s.n + 1 := fun j hj e => by
  obtain ⟨w1, w2, e1⟩ := List.append_of_mem hj
  have := (h.past w1 j w2 e1).2.2.2
  omega
 have hser : ∀ w, (∀ j ∈ w, j ∈ s.wins) → serD D0 (fun i => ((s.admit l).tx i).ops) w = serD D0 (fun i => (s.tx i).ops) w := fun w hw => serD_congr D0 _ _ w (fun j hj => by show ((s.admit l).tx j).ops = _; rw [hold j (hin j (hw j hj))])
 have hw : (s.admit l).wins = s.wins := rfl
 have hlive : ∀ i, i ≠ s.n + 1 → Lives (s.admit l) i → Lives s i := fun i hi hl => ⟨hl.low, by have h1 : i ≤ s.n + 1 := hl.high; omega, by rw [← hold i hi]; exact hl.lives⟩
 refine ⟨hg, ?_, fun w1 i w2 e => ?_, h.once, fun i hi => ?_⟩
 ·rw [hw, hser _ (fun j hj => hj)]
  refine ⟨fun i hl => ?_, fun i hl o ho hm => ?_, fun i k h2 => ?_, fun k h2 => h.ser.free k h2⟩
  ·by_cases e : i = s.n + 1
   ·subst e
    unfold St.pr
    rw [hnew]
    exact ⟨rfl, rfl, rfl, clean_nil _⟩
   ·have := h.ser.own i (hlive i e hl)
    unfold St.pr at this ⊢
    rw [hold i e]; exact this
  ·by_cases e : i = s.n + 1
   ·subst e; rw [hnew] at ho; cases ho
   ·rw [hold i e] at ho; exact h.ser.locks i (hlive i e hl) o ho hm
  ·have h2' : (s.lk k).h i = 2 := h2
   have hi := (h.good.inv.row k).hold i (by rw [h2']; decide)
   have := h.ser.held i k h2'
   unfold St.pr at this ⊢
   rw [hold i (by omega)]; exact this
 ·have e' : s.wins = w1 ++ i :: w2 := e
  have := h.past w1 i w2 e'
  rw [hser w1 (fun j hj => by rw [e']; simp [hj]), hold i (hin i (by rw [e']; simp))]
  exact ⟨this.1, this.2.1, this.2.2.1, this.2.2.2.1, by show i ≤ s.n + 1; omega⟩
 ·by_cases e : i = s.n + 1
  ·subst e; rw [hnew] at hi; cases hi
  ·rw [hold i e] at hi; exact h.won i hi
theorem mkOp_law (stops : Bool) (o : Op4) : OpLaw (mkOp stops o) ∧ (0 < modeOf (mkOp stops o) → 0 ≤ (mkOp stops o).a ∧ (mkOp stops o).a < 5) := by
 have a1 := pickI_ge o.k (n := 5) (by omega)
 have a2 := pickI_lt o.k (n := 5) (by omega)
 have b1 := pickI_ge o.a (n := 4) (by omega)
 have b2 := pickI_lt o.a (n := 4) (by omega)
 have b3 := pickI_ge o.a (n := 5) (by omega)
 have b4 := pickI_lt o.a (n := 5) (by omega)
 have c1 := pickI_ge o.b (n := 4) (by omega)
 have c2 := pickI_lt o.b (n := 4) (by omega)
 unfold mkOp OpLaw
 split
 ·simp only; exact ⟨⟨by omega, by omega, by omega, by omega⟩, fun _ => by omega⟩
 ·split
  ·cases stops
   ·simp
   ·simp only [if_true]; exact ⟨⟨by omega, by omega, by omega, by omega⟩, fun _ => by omega⟩
  ·simp only; exact ⟨⟨by omega, by omega, by omega, by omega⟩, fun _ => by omega⟩
theorem good_admit {s : St} (h : Good s) (l : List Op4) : Good (s.admit l) := ⟨h.inv.admit l, fun i => by
 by_cases e : i = s.n + 1
 ·subst e
  have hnew : (s.admit l).tx (s.n + 1) = ⟨s.clock + 1, 0, l, 0, false, none, 0, fun _ => 0, [], []⟩ := upd_same _ _ _
  rw [hnew]; exact Nat.zero_le _
 ·rw [admit_tx s l e]; exact h.fits i⟩
theorem mkS_serJ (raw : List Int) (ls : List (List Op4)) (stops : Bool) : ∀ k, SerJ (rowsF (firstL raw 5)) (mkS raw ls stops k)
 | 0 => ⟨Hist.born _, fun i o ho => (by cases ho), fun k hk => (by cases hk), fun i => .inl rfl⟩
 | k + 1 => by
  have h := mkS_serJ raw ls stops k
  have hnew : (mkS raw ls stops (k + 1)).tx ((mkS raw ls stops k).n + 1) = ⟨(mkS raw ls stops k).clock + 1, 0, mkOps stops 6 (ls.getD k []), 0, false, none, 0, fun _ => 0, [], []⟩ := upd_same _ _ _
  have hold : ∀ i, i ≠ (mkS raw ls stops k).n + 1 → (mkS raw ls stops (k + 1)).tx i = (mkS raw ls stops k).tx i := fun i hi => admit_tx _ _ hi
  refine ⟨h.hist.admit _ (good_admit h.hist.good _), fun i o ho => ?_, h.keys, fun i => ?_⟩
  ·by_cases e : i = (mkS raw ls stops k).n + 1
   ·subst e
    rw [hnew] at ho
    obtain ⟨x, _, rfl⟩ := List.mem_map.1 ho
    exact (mkOp_law stops x).2
   ·rw [hold i e] at ho; exact h.ops i o ho
  ·by_cases e : i = (mkS raw ls stops k).n + 1
   ·subst e; rw [hnew]; exact .inl rfl
   ·rw [hold i e]; exact h.states i
theorem mkL_law (ls : List (List Op4)) (stops : Bool) (k i : Nat) : ∀ o ∈ (mkL ls stops k).getD i [], OpLaw o := by
 intro o ho
 rw [List.getD_eq_getElem?_getD] at ho
 cases h : (mkL ls stops k)[i]? with
 | none => rw [h] at ho; cases ho
 | some l =>
  rw [h] at ho
  obtain ⟨x, _, rfl⟩ := List.mem_map.1 (List.mem_of_getElem? h)
  obtain ⟨y, _, rfl⟩ := List.mem_map.1 ho
  exact (mkOp_law stops y).1
def Five (D : Int → Option Int) : Prop := ∀ k, ¬ (0 ≤ k ∧ k < 5) → D k = none
theorem runP_five {D : Int → Option Int} (h : Five D) {l : List Op4} (ho : ∀ o ∈ l, 0 < modeOf o → 0 ≤ o.a ∧ o.a < 5) : Five (runP D l).f := fun k hk => by
 rw [(runP_not D l k (fun o hol hm e => hk (by rw [← e]; exact ho o hol (by omega)))).1]
 exact h k hk
theorem serD_five {D0 : Int → Option Int} {f : Nat → List Op4} (ho : ∀ i, ∀ o ∈ f i, 0 < modeOf o → 0 ≤ o.a ∧ o.a < 5) : ∀ (w : List Nat), Five D0 → Five (serD D0 f w) := by
 intro w
 unfold serD
 induction w generalizing D0 with
 | nil => intro h; exact h
 | cons i w ih => intro h; rw [List.foldl_cons]; exact ih (runP_five h (ho i))
theorem rows5_of {D : Int → Option Int} (h : Five D) : RowsOf D (rows5 (Tf D) (Vf D) 5) := by
 refine ⟨⟨by rw [List.pairwise_map]; exact rows5_pair _ _ 5, fun k => ?_⟩, fun r hr => ?_⟩
 ·constructor
  ·intro hk
   obtain ⟨r, hr, rfl⟩ := List.mem_map.1 hk
   obtain ⟨i, hi, rfl⟩ := List.mem_map.1 hr
   exact (List.mem_filter.1 hi).2
  ·intro hk
   by_cases h5 : 0 ≤ k ∧ k < 5
   ·refine List.mem_map.2 ⟨⟨k, Vf D k.toNat⟩, List.mem_map.2 ⟨k.toNat, List.mem_filter.2 ⟨List.mem_range.2 (by omega), ?_⟩, ?_⟩, rfl⟩
    ·unfold Tf; rw [Int.toNat_of_nonneg h5.1]; exact hk
    ·rw [Int.toNat_of_nonneg h5.1]
   ·rw [h k h5] at hk; cases hk
 ·obtain ⟨i, hi, rfl⟩ := List.mem_map.1 hr
  have h1 : (D (i : Int)).isSome = true := (List.mem_filter.1 hi).2
  show D (i : Int) = some ((D (i : Int)).getD 0)
  cases e : D (i : Int) with
  | none => rw [e] at h1; cases h1
  | some v => rfl
theorem rowsF5 (T : Nat → Bool) (V : Nat → Int) : Five (rowsF (rows5 T V 5)) ∧ ∀ i, i < 5 → Tf (rowsF (rows5 T V 5)) i = T i ∧ (T i = true → Vf (rowsF (rows5 T V 5)) i = V i) := by
 have h := rowsOf_list (rows5_pair T V 5)
 refine ⟨fun k hk => ?_, fun i hi => ⟨?_, fun ht => ?_⟩⟩
 ·cases e : rowsF (rows5 T V 5) k with
  | none => rfl
  | some v =>
   obtain ⟨r, hr, rfl⟩ := List.mem_map.1 ((h.1.2 k).2 (by rw [e]; rfl))
   obtain ⟨i, hi, rfl⟩ := List.mem_map.1 hr
   have := List.mem_range.1 (List.mem_filter.1 hi).1
   exact absurd ⟨by show (0 : Int) ≤ (i : Int); omega, by show (i : Int) < 5; omega⟩ hk
 ·unfold Tf
  cases ht : T i with
  | true =>
   have := h.2 ⟨(i : Int), V i⟩ (List.mem_map.2 ⟨i, List.mem_filter.2 ⟨List.mem_range.2 hi, ht⟩, rfl⟩)
   rw [show rowsF (rows5 T V 5) (i : Int) = some (V i) from this]; rfl
  | false =>
   cases e : rowsF (rows5 T V 5) (i : Int) with
   | none => rfl
   | some v =>
    obtain ⟨r, hr, he⟩ := List.mem_map.1 ((h.1.2 (i : Int)).2 (by rw [e]; rfl))
    obtain ⟨i', hi', rfl⟩ := List.mem_map.1 hr
    have h1 := (List.mem_filter.1 hi').2
    have h2 : (i' : Int) = (i : Int) := he
    have h3 : i' = i := by omega
    rw [h3, ht] at h1; cases h1
 ·have := h.2 ⟨(i : Int), V i⟩ (List.mem_map.2 ⟨i, List.mem_filter.2 ⟨List.mem_range.2 hi, ht⟩, rfl⟩)
  unfold Vf
  rw [show rowsF (rows5 T V 5) (i : Int) = some (V i) from this]; rfl
theorem first_TV (raw : List Int) (i : Nat) (hi : i < 5) : firstT raw 5 i = Tf (rowsF (firstL raw 5)) i ∧ firstV raw 5 i = Vf (rowsF (firstL raw 5)) i := by
 obtain ⟨h1, h2⟩ := rowsF5 (firstT raw 5) (firstV raw 5)
 obtain ⟨h3, h4⟩ := h2 i hi
 refine ⟨h3.symm, ?_⟩
 cases ht : firstT raw 5 i with
 | true => exact (h4 ht).symm
 | false =>
  have e1 : firstV raw 5 i = 0 := by unfold firstV; rw [ht]; rfl
  rw [e1]
  rw [ht] at h3
  have h5 : (rowsF (firstL raw 5) (i : Int)).isSome = false := h3
  unfold Vf
  cases e : rowsF (firstL raw 5) (i : Int) with
  | none => rfl
  | some v => rw [e] at h5; cases h5
end Go.Proofs.YtmcajfefagdbnaaGreat
