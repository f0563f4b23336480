import Derived.Test.YtmcajfefagdbnaaGreatJ03
import Derived.Test.YtmcajfefagdbnaaGreatJ02
namespace Go.Proofs.YtmcajfefagdbnaaGreat

theorem freed_keeps {n : Nat} {E : Nat → Nat → Prop} {l : Lk} (hr : RowOk n E l) {i j : Nat} (hne : j ≠ i) : (l.freed n i).h j = l.h j ∨ (l.h j < (l.freed n i).h j ∧ (j, (l.freed n i).h j) ∈ l.q) := by
  rcases settle_holds n (l.drop i).h (l.drop i).q (drop_once i hr.once) j with ⟨h1, _⟩ | ⟨h1, _⟩
  · left; show (l.freed n i).h j = _; simp only [Lk.freed]; rw [h1]; simp only [Lk.drop, upd_other _ _ _ _ hne]
  · right
    have := (List.mem_filter.mp h1).1
    exact ⟨hr.want _ this, this⟩

theorem Ser.freed {s s' : St} {D D' : Int → Option Int} (hs : Inv s) (hs' : Inv s') (hS : Ser s D) {i : Nat} (hn : s'.n = s.n) (hlk : ∀ k, s'.lk k = (s.lk k).freed s.n i)
    (hb : ∀ j, j ≠ i → (s'.tx j).base = (s.tx j).base) (hi : Lives s' i → (s'.tx i).next = 0 ∧ (s'.tx i).regs = (fun _ => 0) ∧ (s'.tx i).reads = [] ∧ (s'.tx i).undo = [])
    (ha : ∀ k, (∀ j, j ≠ i → (s.lk k).h j ≠ 2) → s'.rows k = D' k) (hr : ∀ k j, j ≠ i → (s.lk k).h j = 2 → s'.rows k = s.rows k) (hd : ∀ k, D k ≠ D' k → (s.lk k).h i = 2) : Ser s' D' := by
  have lives : ∀ j, j ≠ i → Lives s' j → Lives s j := fun j hj h => ⟨h.low, by rw [← hn]; exact h.high, by rw [← (base_eq (hb j hj)).2.1]; exact h.lives⟩
  have opsj : ∀ j, j ≠ i → (s'.tx j).ops.take (s'.tx j).next = (s.tx j).ops.take (s.tx j).next := fun j hj => by
    obtain ⟨_, _, b3, b4, _⟩ := base_eq (hb j hj)
    rw [b3, b4]
  have touch : ∀ j, j ≠ i → Lives s j → ∀ o, o ∈ (s.tx j).ops.take (s.tx j).next → 0 < modeOf o → D o.a = D' o.a := by
    intro j hj hl o ho hm
    rcases Classical.em (D o.a = D' o.a) with h | h
    · exact h
    · have h2 := hs.whole (hd _ h) hj
      have := hS.locks j hl o ho hm
      omega
  have keeps : ∀ k j, j ≠ i → (s.lk k).h j = 2 → (s'.lk k).h j = 2 := by
    intro k j hj h2
    rw [hlk k]
    rcases freed_keeps (hs.row k) hj (n := s.n) with h | ⟨h, h3⟩
    · rw [h, h2]
    · have := ((hs.row k).qmode _ h3).2
      simp only at this
      omega
  have pr : ∀ j, j ≠ i → s'.pr D' j = runP D' ((s.tx j).ops.take (s.tx j).next) := fun j hj => by simp only [St.pr, opsj j hj]
  refine ⟨fun j hj => ?_, fun j hj o ho hm => ?_, fun j k h2 => ?_, fun k h2 => ?_⟩
  · by_cases e : j = i
    · subst e
      obtain ⟨h1, h2, h3, h4⟩ := hi hj
      simp only [St.pr, h1, h2, h3, h4, List.take_zero]
      exact ⟨rfl, rfl, rfl, clean_nil _⟩
    · have hl := lives j e hj
      obtain ⟨a1, a2, a3, a4⟩ := hS.own j hl
      obtain ⟨r1, r2, r3, _⟩ := runP_same D D' _ (touch j e hl)
      obtain ⟨_, _, b3, b4, _, b6, b7, b8⟩ := base_eq (hb j e)
      rw [pr j e, r1, r2, r3, b6, b7, b8, opsj j e]
      exact ⟨a1, a2, a3, clean_same (touch j e hl) a4⟩
  · by_cases e : j = i
    · subst e
      rw [(hi hj).1] at ho
      cases ho
    · rw [opsj j e] at ho
      have := hS.locks j (lives j e hj) o ho hm
      rw [hlk]
      rcases freed_keeps (hs.row o.a) e (n := s.n) with h | ⟨h, _⟩ <;> omega
  · have e : j ≠ i := by
      intro e; subst e
      rw [hlk, freed_no_h _ _ _ (hs.row k).once] at h2
      cases h2
    have hl := lives j e (hs'.live (k := k) (by rw [h2]; decide))
    rw [pr j e]
    by_cases h : (s.lk k).h j = 2
    · rw [hr k j e h, hS.held j k h]
      refine ((runP_same D D' _ (touch j e hl)).2.2.2 k ?_).symm
      rcases Classical.em (D k = D' k) with h3 | h3
      · exact h3
      · have := hs.whole (hd _ h3) e
        omega
    · rw [ha k ?_]
      · refine (runP_not D' _ k (fun o ho hm => ?_)).1.symm
        intro e'
        have := hS.locks j hl o ho (by omega)
        rw [e', hm] at this
        rcases (hs.row k).mode j with h0 | h0 | h0 <;> omega
      · intro x hx hx2
        have hxj : x ≠ j := fun e' => h (e' ▸ hx2)
        have := keeps k x hx hx2
        have h0 := hs'.whole h2 hxj
        omega
  · exact ha k (fun j hj hj2 => h2 j (keeps k j hj hj2))

theorem Ser.undone {s s' : St} {D : Int → Option Int} (hs : Inv s) (hs' : Inv s') (hS : Ser s D) {i : Nat} (hl : Lives s i) (hn : s'.n = s.n) (hlk : ∀ k, s'.lk k = (s.lk k).freed s.n i)
    (hb : ∀ j, j ≠ i → (s'.tx j).base = (s.tx j).base) (hi : Lives s' i → (s'.tx i).next = 0 ∧ (s'.tx i).regs = (fun _ => 0) ∧ (s'.tx i).reads = [] ∧ (s'.tx i).undo = [])
    (hrows : s'.rows = back s.rows (s.tx i).undo) : Ser s' D := by
  have hu := (hS.own i hl).2.2.1
  refine hS.freed hs hs' hn hlk hb hi (fun k h => ?_) (fun k j hj h2 => ?_) (fun k h => absurd rfl h)
  · rw [hrows, hu, back_at _ _ (s.pr D i).f k (hS.sees hs hl h)]
    exact congrFun (runP_back D _) k
  · rw [hrows, hu]
    have h0 := hs.whole h2 (fun e => hj e.symm : i ≠ j)
    exact back_not _ _ _ (hS.unwritten hl (by rw [h0]; decide) hs).2

theorem Ser.again {s : St} {D : Int → Option Int} (hs : Inv s) (hS : Ser s D) {i : Nat} (hl : Lives s i) : Ser (s.again i) D := by
  refine hS.undone hs (hs.again i) hl rfl (fun k => rfl) (fun j hj => ?_) (fun _ => ?_) rfl
  · exact ((undone_oth s hj).eq (s'' := s.again i) (setTx_tx _ _ hj)).base
  · simp [St.again, St.setTx, St.undone, St.freed, Tx.look, Tx.anew]

theorem Ser.fell {s : St} {D : Int → Option Int} (hs : Inv s) (hS : Ser s D) {i : Nat} (hl : Lives s i) (z : Int) : Ser (s.fell i z) D := by
  refine hS.undone hs (hs.fell i z) hl rfl (fun k => rfl) (fun j hj => ?_) (fun _ => ?_) rfl
  · exact (fell_oth s z hj).base
  · simp [St.fell, St.setTx, St.undone, St.freed, Tx.look, Tx.anew]

theorem Ser.commit {s : St} {D : Int → Option Int} (hs : Inv s) (hS : Ser s D) {i : Nat} (hl : Lives s i) : Ser (s.commit i) (s.pr D i).f := by
  refine hS.freed hs (hs.commit hl.high).1 rfl (fun k => rfl) (fun j hj => ?_) (fun h => ?_) (fun k h => hS.sees hs hl h) (fun k j _ _ => rfl) (fun k h => ?_)
  · exact (freed_oth s _ i j (upd_other _ _ _ _ hj)).base
  · have := h.lives
    rw [(commit_self s i).2.1] at this
    cases this
  · rcases Classical.em ((s.lk k).h i = 2) with h2 | h2
    · exact h2
    · exact absurd (hS.unwritten hl h2 hs).1.symm h

/-- Where no one's work, no mode and no row turns. -/
theorem Ser.same {s s' : St} {D : Int → Option Int} (hS : Ser s D) (hn : s'.n = s.n) (hr : s'.rows = s.rows) (hh : ∀ k, (s'.lk k).h = (s.lk k).h) (hb : ∀ j, (s'.tx j).base = (s.tx j).base) : Ser s' D := by
  have lives : ∀ j, Lives s' j → Lives s j := fun j h => ⟨h.low, by rw [← hn]; exact h.high, by rw [← (base_eq (hb j)).2.1]; exact h.lives⟩
  have pr : ∀ j, s'.pr D j = s.pr D j := fun j => by
    obtain ⟨_, _, b3, b4, _⟩ := base_eq (hb j)
    simp only [St.pr, b3, b4]
  refine ⟨fun j hj => ?_, fun j hj o ho hm => ?_, fun j k h2 => ?_, fun k h2 => ?_⟩
  · obtain ⟨_, _, b3, b4, _, b6, b7, b8⟩ := base_eq (hb j)
    rw [pr, b6, b7, b8, b3, b4]
    exact hS.own j (lives j hj)
  · obtain ⟨_, _, b3, b4, _⟩ := base_eq (hb j)
    rw [b3, b4] at ho
    rw [hh]
    exact hS.locks j (lives j hj) o ho hm
  · rw [hh] at h2
    rw [hr, pr]
    exact hS.held j k h2
  · rw [hr]
    exact hS.free k (fun i => by rw [← hh]; exact h2 i)

theorem enq_base (s : St) (i : Nat) (k m : Int) (j : Nat) : ((s.enq i k m).tx j).base = (s.tx j).base := by
  simp only [St.enq]
  split
  · rfl
  split <;> rfl

theorem Ser.enq {s : St} {D : Int → Option Int} (hS : Ser s D) (i : Nat) (k m : Int) : Ser (s.enq i k m) D := by
  refine hS.same rfl rfl (fun k' => ?_) (enq_base s i k m)
  by_cases e : k' = k
  · subst e; simp [St.enq]
  · simp [St.enq, upd_other _ _ _ _ e]

theorem Ser.grant {s : St} {D : Int → Option Int} (hs : Inv s) (hS : Ser s D) {i : Nat} (hl : Lives s i) {k m : Int} (hm : m = 1 ∨ m = 2) (hlt : (s.lk k).h i < m) (hh : hind s.n (s.lk k).h i m = false) : Ser (s.grant i k m) D := by
  have lk1 : ((s.grant i k m).lk k).h i = m := by simp [St.grant]
  have lk2 : ∀ k' j, ¬ (k' = k ∧ j = i) → ((s.grant i k m).lk k').h j = (s.lk k').h j := fun k' j h => by
    by_cases e : k' = k
    · subst e
      have : j ≠ i := fun e => h ⟨rfl, e⟩
      simp [St.grant, upd_other _ _ _ _ this]
    · simp [St.grant, upd_other _ _ _ _ e]
  have no : ∀ j, j ≠ i → m = 2 ∨ (s.lk k).h j = 2 → (s.lk k).h j = 0 := fun j hj h => by
    rcases Classical.em ((s.lk k).h j = 0) with h0 | h0
    · exact h0
    · have := hind_false.mp hh j ((hs.row k).hold j h0).2 hj h0
      rcases h with h | h <;> simp [conf, h] at this
  refine ⟨fun j hj => hS.own j ⟨hj.low, hj.high, hj.lives⟩, fun j hj o ho hmo => ?_, fun j k' h2 => ?_, fun k' h2 => ?_⟩
  · have := hS.locks j ⟨hj.low, hj.high, hj.lives⟩ o ho hmo
    by_cases e : o.a = k ∧ j = i
    · rw [e.1, e.2] at this ⊢; rw [lk1]; omega
    · rw [lk2 _ _ e]; exact this
  · by_cases e : k' = k ∧ j = i
    · obtain ⟨rfl, rfl⟩ := e
      rw [lk1] at h2
      exact hS.sees hs hl (fun x hx => by rw [no x hx (.inl h2)]; decide)
    · rw [lk2 _ _ e] at h2
      exact hS.held j k' h2
  · refine hS.free k' (fun j => ?_)
    by_cases e : k' = k ∧ j = i
    · obtain ⟨rfl, rfl⟩ := e; omega
    · rw [← lk2 _ _ e]; exact h2 j

theorem doOp_rows (s : St) (i : Nat) (o : Op4) : (s.doOp i o).rows = if o.k = 2 then upd s.rows o.a (some ((s.tx i).regs o.b)) else if o.k = 3 then upd s.rows o.a none else s.rows := by
  simp only [St.doOp]
  by_cases k1 : o.k = 1
  · simp [k1, St.setTx]
  by_cases k2 : o.k = 2
  · simp [k2]
  by_cases k3 : o.k = 3
  · simp [k3]
  by_cases k4 : o.k = 4
  · simp [k4, St.setTx]
  simp [k1, k2, k3, k4, St.setTx]

theorem doOp_work (s : St) (i : Nat) (o : Op4) (p : Pr) (h1 : (s.tx i).regs = p.regs) (h2 : (s.tx i).reads = p.reads) (h3 : (s.tx i).undo = p.undo) (hf : 0 < modeOf o → s.rows o.a = p.f o.a) :
    ((s.doOp i o).tx i).regs = (p.op o).regs ∧ ((s.doOp i o).tx i).reads = (p.op o).reads ∧ ((s.doOp i o).tx i).undo = (p.op o).undo ∧ (0 < modeOf o → (s.doOp i o).rows o.a = (p.op o).f o.a) ∧ ∀ k, k ≠ o.a → (s.doOp i o).rows k = s.rows k ∧ (p.op o).f k = p.f k := by
  have saw : 0 < modeOf o → sawOf s.rows o.a = sawOf p.f o.a := fun h => by simp only [sawOf, hf h]
  by_cases k1 : o.k = 1
  · have := hf (by simp [modeOf, k1])
    have sw := saw (by simp [modeOf, k1])
    simp only [St.doOp, Pr.op, k1, if_true, St.setTx, upd_same, h1, h2, h3, this, sw]
    simp
  by_cases k2 : o.k = 2
  · have sw := saw (by simp [modeOf, k2])
    simp only [St.doOp, Pr.op, k2, St.setTx, h1, h3, sw]
    simp [h2]
    intro k hk
    rw [upd_other _ _ _ _ hk, upd_other _ _ _ _ hk]; exact ⟨rfl, rfl⟩
  by_cases k3 : o.k = 3
  · have sw := saw (by simp [modeOf, k3])
    simp only [St.doOp, Pr.op, k3, St.setTx, h3, sw]
    simp [h1, h2]
    intro k hk
    rw [upd_other _ _ _ _ hk, upd_other _ _ _ _ hk]; exact ⟨rfl, rfl⟩
  have m0 : ¬ 0 < modeOf o := by simp [modeOf, k1, k2, k3]
  by_cases k4 : o.k = 4
  · simp only [St.doOp, Pr.op, k4, St.setTx, h1]
    simp [h2, h3, m0]
  · simp only [St.doOp, Pr.op, k1, k2, k3, k4, if_false, St.setTx]
    simp [h1, h2, h3, m0]

theorem take_next {t : Tx} (h : t.next < t.ops.length) : t.ops.take (t.next + 1) = t.ops.take t.next ++ [t.op] := by
  rw [List.take_succ_eq_append_getElem h]
  simp [Tx.op, List.getD, h]

theorem Ser.doOp {s : St} {D : Int → Option Int} (hs : Inv s) (hS : Ser s D) {i : Nat} (hl : Lives s i) (hn : (s.tx i).next < (s.tx i).ops.length) (hm : modeOf (s.tx i).op ≤ (s.lk (s.tx i).op.a).h i)
    (hst : (s.tx i).op.k = 5 → (s.tx i).regs (s.tx i).op.a ≠ 0) : Ser (s.doOp i (s.tx i).op) D := by
  have hlk := (doOp_lk s i (s.tx i).op).1
  have hnn : (s.doOp i (s.tx i).op).n = s.n := by
    simp only [St.doOp]
    repeat' split
    all_goals rfl
  have sees : 0 < modeOf (s.tx i).op → s.rows (s.tx i).op.a = (s.pr D i).f (s.tx i).op.a := fun h =>
    hS.sees hs hl (fun j hj h2 => by have := hs.whole h2 (fun e => hj e.symm : i ≠ j); omega)
  obtain ⟨a1, a2, a3, a4⟩ := hS.own i hl
  obtain ⟨w1, w2, w3, w4, w5⟩ := doOp_work s i (s.tx i).op (s.pr D i) a1 a2 a3 sees
  obtain ⟨d1, d2, _, _, d5⟩ := doOp_next s i (s.tx i).op
  have tk : ((s.doOp i (s.tx i).op).tx i).ops.take ((s.doOp i (s.tx i).op).tx i).next = (s.tx i).ops.take (s.tx i).next ++ [(s.tx i).op] := by
    rw [d1, d5, take_next hn]
  have pri : (s.doOp i (s.tx i).op).pr D i = (s.pr D i).op (s.tx i).op := by simp only [St.pr, tk, runP_snoc]
  have prj : ∀ j, j ≠ i → (s.doOp i (s.tx i).op).pr D j = s.pr D j := fun j hj => by simp only [St.pr, doOp_tx s _ hj]
  have lives : ∀ j, Lives (s.doOp i (s.tx i).op) j → Lives s j := fun j h => by
    by_cases e : j = i
    · subst e; exact hl
    · exact ⟨h.low, by rw [← hnn]; exact h.high, by rw [← doOp_tx s (s.tx i).op e]; exact h.lives⟩
  have turned : ∀ k, (∀ j, j = i → (s.lk k).h j ≠ 2) → (s.doOp i (s.tx i).op).rows k = s.rows k := by
    intro k hk
    by_cases e : k = (s.tx i).op.a
    · rw [doOp_rows]
      have h2 : (s.tx i).op.k ≠ 2 := fun h => by
        have : modeOf (s.tx i).op = 2 := by simp [modeOf, h]
        rw [this, ← e] at hm
        have := hk i rfl
        rcases (hs.row k).mode i with h0 | h0 | h0 <;> omega
      have h3 : (s.tx i).op.k ≠ 3 := fun h => by
        have : modeOf (s.tx i).op = 2 := by simp [modeOf, h]
        rw [this, ← e] at hm
        have := hk i rfl
        rcases (hs.row k).mode i with h0 | h0 | h0 <;> omega
      simp [h2, h3]
    · exact (w5 k e).1
  refine ⟨fun j hj => ?_, fun j hj o ho hmo => ?_, fun j k h2 => ?_, fun k h2 => ?_⟩
  · by_cases e : j = i
    · subst e
      rw [pri, tk]
      refine ⟨w1, w2, w3, clean_snoc a4 (fun h5 => ?_)⟩
      have := hst h5
      rw [a1] at this
      exact this
    · rw [prj j e, doOp_tx s _ e]
      exact hS.own j (lives j hj)
  · rw [hlk]
    by_cases e : j = i
    · subst e
      rw [tk, List.mem_append, List.mem_singleton] at ho
      rcases ho with ho | rfl
      · exact hS.locks j hl o ho hmo
      · exact hm
    · rw [doOp_tx s _ e] at ho
      exact hS.locks j (lives j hj) o ho hmo
  · rw [hlk] at h2
    by_cases e : j = i
    · subst e
      rw [pri]
      by_cases ek : k = (s.tx j).op.a
      · by_cases h0 : 0 < modeOf (s.tx j).op
        · rw [ek]; exact w4 h0
        · have k2 : (s.tx j).op.k ≠ 2 := fun h => h0 (by simp [modeOf, h])
          have k3 : (s.tx j).op.k ≠ 3 := fun h => h0 (by simp [modeOf, h])
          have r : (s.doOp j (s.tx j).op).rows = s.rows := by rw [doOp_rows]; simp [k2, k3]
          have f : ((s.pr D j).op (s.tx j).op).f = (s.pr D j).f := by
            simp only [Pr.op]
            repeat' split
            all_goals first | rfl | contradiction
          rw [r, f]
          exact hS.held j k h2
      · rw [(w5 k ek).1, (w5 k ek).2]
        exact hS.held j k h2
    · rw [prj j e, turned k (fun x hx hx2 => by
        subst hx
        have := hs.whole h2 (fun e' => e e'.symm : x ≠ j)
        omega)]
      exact hS.held j k h2
  · rw [hlk] at h2
    rw [turned k (fun x _ => h2 x)]
    exact hS.free k h2

end Go.Proofs.YtmcajfefagdbnaaGreat

namespace Go.Proofs.YtmcajfefagdbnaaGreat

theorem doOp_wins (s : St) (i : Nat) (o : Op4) : (s.doOp i o).wins = s.wins := by
  simp only [St.doOp]
  repeat' split
  all_goals rfl

/-- A step commits, or no one has won by it. -/
theorem go_commits (s : St) (i : Nat) : ((s.go i).1.wins = s.wins ∧ (((s.go i).1.tx i).state = (s.tx i).state ∨ (((s.go i).1.tx i).state = 2 ∧ (s.tx i).op.k = 5 ∧ (s.tx i).next ≠ (s.tx i).ops.length) ∨ (((s.go i).1.tx i).state = 3 ∧ s.crowded (s.tx i).op.a = true ∧ 0 < modeOf (s.tx i).op ∧ (s.tx i).next ≠ (s.tx i).ops.length))) ∨
    ((s.tx i).wounded = false ∧ (s.tx i).waits = none ∧ (s.tx i).next = (s.tx i).ops.length ∧ (s.go i).1 = s.commit i) := by
  simp only [St.go]
  split
  · exact .inl ⟨rfl, .inl (again_self s i).2.1⟩
  rename_i hw
  split
  · exact .inl ⟨rfl, .inl rfl⟩
  rename_i hn
  split
  · rename_i hl
    exact .inr ⟨by simpa using hw, by simpa using hn, hl, rfl⟩
  rename_i hl
  have act : ∀ (s' : St), s'.tx = s.tx → s'.wins = s.wins → ((s'.actOn i (s.tx i).op).1.wins = s.wins ∧ (((s'.actOn i (s.tx i).op).1.tx i).state = (s.tx i).state ∨ (((s'.actOn i (s.tx i).op).1.tx i).state = 2 ∧ (s.tx i).op.k = 5 ∧ (s.tx i).next ≠ (s.tx i).ops.length) ∨ (((s'.actOn i (s.tx i).op).1.tx i).state = 3 ∧ s.crowded (s.tx i).op.a = true ∧ 0 < modeOf (s.tx i).op ∧ (s.tx i).next ≠ (s.tx i).ops.length))) := by
    intro s' h1 h2
    simp only [St.actOn]
    split
    · rename_i h5
      exact ⟨h2, .inr (.inl ⟨(fell_self s' i 2).2.1, h5.1, hl⟩)⟩
    · exact ⟨by rw [doOp_wins]; exact h2, .inl (by rw [(doOp_next s' i _).2.1, h1])⟩
  split
  · rename_i hm
    split
    · rename_i hc
      exact .inl ⟨rfl, .inr (.inr ⟨(fell_self s i 3).2.1, hc, hm.1, hl⟩)⟩
    split
    · exact .inl (act _ rfl rfl)
    · exact .inl ⟨rfl, .inl (by simp [St.enq])⟩
  · exact .inl (act s rfl rfl)

theorem Ser.go {s : St} {D : Int → Option Int} (hs : Good s) (hS : Ser s D) {i : Nat} (hl : Lives s i) (hc : ¬ ((s.tx i).wounded = false ∧ (s.tx i).waits = none ∧ (s.tx i).next = (s.tx i).ops.length)) : Ser (s.go i).1 D := by
  have act : ∀ (s' : St), Inv s' → Ser s' D → s'.tx = s.tx → s'.n = s.n → (s.tx i).next ≠ (s.tx i).ops.length → modeOf (s.tx i).op ≤ (s'.lk (s.tx i).op.a).h i → Ser (s'.actOn i (s.tx i).op).1 D := by
    intro s' h1 h2 h3 h4 hne h5
    have hl' : Lives s' i := ⟨hl.low, by rw [h4]; exact hl.high, by rw [h3]; exact hl.lives⟩
    simp only [St.actOn]
    split
    · exact h2.fell h1 hl' 2
    · rename_i h6
      have hf := hs.fits i
      have := h2.doOp h1 hl' (by rw [h3]; omega) (by rw [h3]; exact h5) (fun h7 h8 => h6 ⟨by rw [h3] at h7; exact h7, by rw [h3] at h8 ⊢; exact h8⟩)
      rw [h3] at this
      exact this
  simp only [St.go]
  split
  · exact hS.again hs.inv hl
  rename_i hw
  split
  · exact hS
  rename_i hn
  split
  · rename_i h
    exact absurd ⟨by simpa using hw, by simpa using hn, h⟩ hc
  rename_i hne
  split
  · rename_i hm
    split
    · exact hS.fell hs.inv hl 3
    split
    · rename_i hf
      simp only [Bool.and_eq_true, List.isEmpty_iff, Bool.not_eq_true'] at hf
      refine act _ (hs.inv.grant ⟨hl.low, hl.high⟩ hl.lives (modeOf_pos hm.1) hf.1 hf.2) (hS.grant hs.inv hl (modeOf_pos hm.1) hm.2 hf.2) rfl rfl hne ?_
      simp [St.grant]
    · exact hS.enq i _ _
  · rename_i hm
    refine act s hs.inv hS rfl rfl hne ?_
    rcases modeOf_cases (s.tx i).op with h | h | h
    · rcases (hs.inv.row (s.tx i).op.a).mode i with h0 | h0 | h0 <;> omega
    · omega
    · omega

/-- Transactions one behind the other, each alone. -/
def serD (D0 : Int → Option Int) (ops : Nat → List Op4) (w : List Nat) : Int → Option Int := w.foldl (fun D i => (runP D (ops i)).f) D0

structure Hist (D0 : Int → Option Int) (s : St) : Prop where
  good : Good s
  ser : Ser s (serD D0 (fun i => (s.tx i).ops) s.wins)
  past : ∀ w1 i w2, s.wins = w1 ++ i :: w2 → (s.tx i).reads = (runP (serD D0 (fun i => (s.tx i).ops) w1) (s.tx i).ops).reads ∧ clean (serD D0 (fun i => (s.tx i).ops) w1) (s.tx i).ops ∧ (s.tx i).state = 1 ∧ 1 ≤ i ∧ i ≤ s.n
  once : s.wins.Nodup
  won : ∀ i, (s.tx i).state = 1 → i ∈ s.wins

theorem go_ops (s : St) (i j : Nat) : ((s.go i).1.tx j).ops = (s.tx j).ops := by
  by_cases e : j = i
  · subst e; exact (go_self s j).2
  · exact (base_eq (go_oth s e).base).2.2.1

theorem Hist.go {D0 : Int → Option Int} {s : St} (hh : Hist D0 s) {i : Nat} (hl : Lives s i) : Hist D0 (s.go i).1 := by
  have hops : (fun j => ((s.go i).1.tx j).ops) = fun j => (s.tx j).ops := funext (go_ops s i)
  have hin : ∀ j, j ∈ s.wins → (s.tx j).state = 1 := fun j hj => by
    obtain ⟨w1, w2, e⟩ := List.append_of_mem hj
    exact (hh.past w1 j w2 e).2.2.1
  have hni : i ∉ s.wins := fun h => by have := hin i h; rw [hl.lives] at this; cases this
  have old : ∀ j, j ∈ s.wins → (((s.go i).1.tx j).reads = (s.tx j).reads ∧ ((s.go i).1.tx j).state = (s.tx j).state) := fun j hj => by
    have hji : j ≠ i := fun e => hni (e ▸ hj)
    have hb := base_eq (go_oth s hji).base
    exact ⟨hb.2.2.2.2.2.2.1, hb.2.1⟩
  rcases go_commits s i with ⟨h1, h2⟩ | ⟨h1, h2, h3, h4⟩
  · refine ⟨hh.good.go hl, ?_, ?_, by rw [h1]; exact hh.once, ?_⟩
    · rw [hops, h1]
      refine hh.ser.go hh.good hl ?_
      rintro ⟨c1, c2, c3⟩
      have : (s.go i).1.wins = s.wins ++ [i] := by
        simp only [St.go, c1, c2, c3, Bool.false_eq_true, if_false, Option.isSome_none, if_true]
        rfl
      rw [h1] at this
      have := congrArg List.length this
      simp at this
    · rw [hops, h1]
      intro w1 j w2 e
      have hj : j ∈ s.wins := by rw [e]; simp
      rw [(old j hj).1, (old j hj).2, go_ops, (go_n s i).1]
      exact hh.past w1 j w2 e
    · rw [h1]
      intro j hj
      by_cases e : j = i
      · subst e
        rcases h2 with h2 | ⟨h2, _⟩ | ⟨h2, _⟩
        · rw [h2, hl.lives] at hj; cases hj
        · rw [h2] at hj; cases hj
        · rw [h2] at hj; cases hj
      · rw [(base_eq (go_oth s e).base).2.1] at hj
        exact hh.won j hj
  · have hw : (s.go i).1.wins = s.wins ++ [i] := by rw [h4]; rfl
    have hpr : s.pr (serD D0 (fun j => (s.tx j).ops) s.wins) i = runP (serD D0 (fun j => (s.tx j).ops) s.wins) (s.tx i).ops := by
      simp only [St.pr, h3, List.take_length]
    have hown := hh.ser.own i hl
    have hself : ((s.go i).1.tx i).reads = (s.tx i).reads ∧ ((s.go i).1.tx i).state = 1 := by
      rw [h4]
      simp [St.commit, St.setTx, St.freed, Tx.look]
    refine ⟨hh.good.go hl, ?_, ?_, ?_, ?_⟩
    · rw [hops, hw, h4]
      have := hh.ser.commit hh.good.inv hl
      rw [hpr] at this
      simp only [serD, List.foldl_append, List.foldl_cons, List.foldl_nil] at this ⊢
      exact this
    · rw [hops, hw]
      intro w1 j w2 e
      rw [go_ops, (go_n s i).1]
      by_cases hw2 : w2 = []
      · subst hw2
        obtain ⟨e1, e2⟩ := List.append_inj' e rfl
        simp only [List.cons.injEq, and_true] at e2
        subst e1 e2
        rw [hself.1, hself.2]
        refine ⟨?_, ?_, rfl, hl.low, hl.high⟩
        · rw [hown.2.1, hpr]
        · have := hown.2.2.2
          rw [h3, List.take_length] at this
          exact this
      · have e' := congrArg List.dropLast e
        rw [List.dropLast_concat, List.dropLast_append_of_ne_nil (by simp), List.dropLast_cons_of_ne_nil hw2] at e'
        have hj : j ∈ s.wins := by rw [e']; simp
        rw [(old j hj).1, (old j hj).2]
        exact hh.past w1 j w2.dropLast e'
    · rw [hw, List.nodup_append]
      exact ⟨hh.once, by simp, fun a ha b hb => by simp at hb; subst hb; exact fun e => hni (e ▸ ha)⟩
    · rw [hw]
      intro j hj
      by_cases e : j = i
      · subst e; simp
      · rw [(base_eq (go_oth s e).base).2.1] at hj
        exact List.mem_append_left _ (hh.won j hj)

theorem Hist.stepN {D0 : Int → Option Int} {s : St} (hh : Hist D0 s) (i : Nat) : Hist D0 (s.stepN i) := by
  rcases stepN_cases s i with ⟨h1, h2⟩ | ⟨_, h2⟩
  · rw [h2]; exact hh.go h1
  · rw [h2]; exact hh

theorem Hist.steps {D0 : Int → Option Int} {s : St} (hh : Hist D0 s) (l : List Nat) : Hist D0 (s.steps l) := by
  induction l generalizing s with
  | nil => exact hh
  | cons i l ih => exact ih (hh.stepN i)

/-- When none lives, the rows are what the committed ones made, one behind the other. -/
theorem Hist.done {D0 : Int → Option Int} {s : St} (hh : Hist D0 s) (hd : ∀ i, ¬ Lives s i) : s.rows = serD D0 (fun i => (s.tx i).ops) s.wins := by
  funext k
  refine hh.ser.free k (fun i h => ?_)
  exact hd i (hh.good.inv.live (k := k) (by rw [h]; decide))

/-- Round upon round, the eldest one ends. -/
theorem rounds_end {s : St} (hs : Good s) {e : Nat} (he : Eld s e) (L : List (List Nat)) (hL : ∀ l, l ∈ L → ∀ j, 1 ≤ j → j ≤ s.n → j ∈ l) (hr : rank s e ≤ L.length) : ((L.foldl St.steps s).tx e).state ≠ 0 := by
  have stepn : ∀ (l : List Nat) (s : St), (s.steps l).n = s.n := by
    intro l
    induction l with
    | nil => intro s; rfl
    | cons i l ih =>
      intro s
      show ((s.stepN i).steps l).n = s.n
      rw [ih]
      rcases stepN_cases s i with ⟨_, h2⟩ | ⟨_, h2⟩
      · rw [h2, (go_n s i).1]
      · rw [h2]
  have stays : ∀ (l : List Nat) (s : St), (s.tx e).state ≠ 0 → ((s.steps l).tx e).state ≠ 0 := by
    intro l
    induction l with
    | nil => intro s h; exact h
    | cons i l ih => intro s h; exact ih _ (by rw [state_stays h]; exact h)
  have staysL : ∀ (L : List (List Nat)) (s : St), (s.tx e).state ≠ 0 → ((L.foldl St.steps s).tx e).state ≠ 0 := by
    intro L
    induction L with
    | nil => intro s h; exact h
    | cons l L ih => intro s h; exact ih _ (stays l s h)
  induction L generalizing s with
  | nil =>
    intro h
    have := rank_pos hs.inv h
    simp at hr
    omega
  | cons l L ih =>
    rw [List.foldl_cons]
    by_cases h0 : (s.tx e).state = 0
    · refine ih (hs.steps l) (he.steps l) (fun l' hl' j h1 h2 => hL l' (List.mem_cons_of_mem _ hl') j h1 (by rw [stepn] at h2; exact h2)) ?_
      have := round_rank hs he l (hL l List.mem_cons_self) h0
      simp only [List.length_cons] at hr
      omega
    · exact staysL L _ (stays l s h0)

end Go.Proofs.YtmcajfefagdbnaaGreat

namespace Go.Proofs.YtmcajfefagdbnaaGreat

theorem addKey_len {l : List Int} {k : Int} (h : (!l.contains k && decide (16 ≤ l.length)) = false) (hl : l.length ≤ 16) : (addKey l k).length ≤ 16 := by
  unfold addKey
  split
  · exact hl
  · rename_i hc
    rw [List.length_append]
    simp only [Bool.not_eq_true] at hc
    rw [hc] at h
    simp at h
    simp
    omega

theorem undone_act {s : St} {i : Nat} : (s.undone i).act.length ≤ s.act.length := List.length_filter_le _ _
theorem doOp_act {s : St} {i : Nat} {o : Op4} : (s.doOp i o).act = s.act := by
  unfold St.doOp
  repeat' split
  all_goals rfl

theorem actOn_act {s : St} {i : Nat} {o : Op4} (h : s.act.length ≤ 16) : (s.actOn i o).1.act.length ≤ 16 := by
  unfold St.actOn
  split
  · exact Nat.le_trans (undone_act (s := s) (i := i)) h
  · show (s.doOp i o).act.length ≤ 16
    rw [doOp_act]; exact h

theorem go_act {s : St} {i : Nat} (h : s.act.length ≤ 16) : (s.go i).1.act.length ≤ 16 := by
  unfold St.go
  split
  · exact Nat.le_trans (undone_act (s := s) (i := i)) h
  split
  · exact h
  split
  · exact Nat.le_trans (List.length_filter_le _ _) h
  simp only
  split
  · split
    · exact Nat.le_trans (undone_act (s := s) (i := i)) h
    · rename_i hc
      have hc' : (!s.act.contains (s.tx i).op.a && decide (16 ≤ s.act.length)) = false := by
        have : s.crowded (s.tx i).op.a = false := by simpa using hc
        exact this
      split
      · exact actOn_act (addKey_len hc' h)
      · exact addKey_len hc' h
  · exact actOn_act h

end Go.Proofs.YtmcajfefagdbnaaGreat

namespace Go.Proofs.YtmcajfefagdbnaaGreat

theorem doOp_agains (s : St) (i : Nat) (o : Op4) : ((s.doOp i o).tx i).agains = (s.tx i).agains := by
  unfold St.doOp
  simp only
  repeat' split
  all_goals simp [St.setTx]

theorem fell_agains (s : St) (i : Nat) (z : Int) : ((s.fell i z).tx i).agains = (s.tx i).agains ∧ (s.fell i z).wins = s.wins := by
  constructor
  · simp [St.fell, St.setTx, St.undone, St.freed, Tx.look, Tx.anew]
  · rfl

theorem actOn_ans (s : St) (i : Nat) (o : Op4) (h0 : (s.tx i).state = 0) : (s.actOn i o).2 ≠ 3 ∧ 1 ≤ (s.actOn i o).2 ∧ (s.actOn i o).2 ≤ 6 ∧ (4 ≤ (s.actOn i o).2 → ((s.actOn i o).1.tx i).state ≠ 0) ∧ (¬ 4 ≤ (s.actOn i o).2 → ((s.actOn i o).1.tx i).state = 0) ∧ (s.actOn i o).1.wins = s.wins ∧ ((s.actOn i o).1.tx i).agains = (s.tx i).agains := by
  unfold St.actOn
  split
  · refine ⟨by simp, by simp, by simp, fun _ => ?_, fun h => absurd (by simp) h, (fell_agains s i 2).2, (fell_agains s i 2).1⟩
    rw [(fell_self s i 2).2.1]; omega
  · refine ⟨by simp, by simp, by simp, fun h => absurd h (by simp), fun _ => ?_, doOp_wins s i o, doOp_agains s i o⟩
    rw [(doOp_next s i o).2.1]; exact h0

theorem go_ans (s : St) (i : Nat) (h0 : (s.tx i).state = 0) : 1 ≤ (s.go i).2 ∧ (s.go i).2 ≤ 6 ∧ (4 ≤ (s.go i).2 → ((s.go i).1.tx i).state ≠ 0) ∧ (¬ 4 ≤ (s.go i).2 → ((s.go i).1.tx i).state = 0) ∧ (s.go i).1.wins.length ≤ s.wins.length + 1 ∧ ((s.go i).1.tx i).agains = (s.tx i).agains + (if (s.tx i).wounded then 1 else 0) := by
  unfold St.go
  by_cases hw : (s.tx i).wounded = true
  · rw [if_pos hw, if_pos hw]
    refine ⟨by simp, by simp, fun h => absurd h (by simp), fun _ => ?_, ?_, ?_⟩
    · rw [(again_self s i).2.1]; exact h0
    · show (s.again i).wins.length ≤ _
      exact Nat.le_succ _
    · simp [St.again, St.setTx, St.undone, St.freed, Tx.look, Tx.anew]
  rw [if_neg hw, if_neg hw, Int.add_zero]
  by_cases hq : (s.tx i).waits.isSome = true
  · rw [if_pos hq]
    exact ⟨by simp, by simp, fun h => absurd h (by simp), fun _ => h0, Nat.le_succ _, rfl⟩
  rw [if_neg hq]
  by_cases hn : (s.tx i).next = (s.tx i).ops.length
  · rw [if_pos hn]
    refine ⟨by simp, by simp, fun _ => ?_, fun h => absurd (by simp) h, ?_, ?_⟩
    · rw [(commit_self s i).2.1]; omega
    · show (s.wins ++ [i]).length ≤ _
      simp
    · simp [St.commit, St.setTx, St.freed, Tx.look]
  rw [if_neg hn]
  simp only
  split
  · split
    · refine ⟨by simp, by simp, fun _ => ?_, fun h => absurd (by simp) h, ?_, (fell_agains s i 3).1⟩
      · rw [(fell_self s i 3).2.1]; omega
      · rw [(fell_agains s i 3).2]; exact Nat.le_succ _
    · split
      · have h := actOn_ans (s.grant i (s.tx i).op.a (modeOf (s.tx i).op)) i (s.tx i).op h0
        refine ⟨h.2.1, h.2.2.1, h.2.2.2.1, h.2.2.2.2.1, ?_, h.2.2.2.2.2.2⟩
        rw [h.2.2.2.2.2.1]; exact Nat.le_succ _
      · refine ⟨by simp, by simp, fun h => absurd h (by simp), fun _ => ?_, Nat.le_succ _, ?_⟩
        · simp [St.enq, h0]
        · simp [St.enq]
  · have h := actOn_ans s i (s.tx i).op h0
    refine ⟨h.2.1, h.2.2.1, h.2.2.2.1, h.2.2.2.2.1, ?_, h.2.2.2.2.2.2⟩
    rw [h.2.2.2.2.2.1]; exact Nat.le_succ _

/-- How many live. -/
def alive (s : St) : Nat := ((List.range' 1 s.n).filter fun i => (s.tx i).state == 0).length

theorem filter_one {p q : Nat → Bool} {i : Nat} (hp : p i = true) (hq : q i = false) : ∀ (l : List Nat), l.Nodup → (∀ j ∈ l, j ≠ i → p j = q j) → (i ∈ l → (l.filter p).length = (l.filter q).length + 1) ∧ (i ∉ l → (l.filter p).length = (l.filter q).length)
  | [], _, _ => ⟨fun h => (by cases h), fun _ => rfl⟩
  | x :: l, hn, h => by
    obtain ⟨h1, h2⟩ := List.nodup_cons.1 hn
    obtain ⟨i1, i2⟩ := filter_one hp hq l h2 (fun j hj => h j (by simp [hj]))
    by_cases e : x = i
    · subst e
      constructor
      · intro _
        rw [List.filter_cons_of_pos hp, List.filter_cons_of_neg (by simp [hq]), List.length_cons, i2 h1]
      · intro hc; exact absurd (by simp) hc
    · have hx := h x (by simp) e
      constructor
      · intro hi
        have hi' : i ∈ l := by
          rcases List.mem_cons.1 hi with h | h
          · exact absurd h.symm e
          · exact h
        cases hpx : p x
        · rw [List.filter_cons_of_neg (by simp [hpx]), List.filter_cons_of_neg (by rw [← hx]; simp [hpx])]; exact i1 hi'
        · rw [List.filter_cons_of_pos hpx, List.filter_cons_of_pos (by rw [← hx]; exact hpx), List.length_cons, List.length_cons, i1 hi']
      · intro hi
        have hi' : i ∉ l := fun x => hi (by simp [x])
        cases hpx : p x
        · rw [List.filter_cons_of_neg (by simp [hpx]), List.filter_cons_of_neg (by rw [← hx]; simp [hpx])]; exact i2 hi'
        · rw [List.filter_cons_of_pos hpx, List.filter_cons_of_pos (by rw [← hx]; exact hpx), List.length_cons, List.length_cons, i2 hi']

theorem alive_go {s : St} {i : Nat} (hl : Lives s i) : (alive (s.go i).1 : Int) = (if 4 ≤ (s.go i).2 then (alive s : Int) - 1 else (alive s : Int)) := by
  obtain ⟨a1, a2, a3, a4, _⟩ := go_ans s i hl.lives
  have hoth : ∀ j, j ≠ i → ((s.go i).1.tx j).state = (s.tx j).state := fun j hj => (base_eq (go_oth s hj).base).2.1
  have hn := (go_n s i).1
  unfold alive
  rw [hn]
  by_cases h : 4 ≤ (s.go i).2
  · rw [if_pos h]
    have := (filter_one (p := fun j => (s.tx j).state == 0) (q := fun j => ((s.go i).1.tx j).state == 0) (i := i) (by simp [hl.lives]) (by simpa using a3 h) (List.range' 1 s.n) List.nodup_range' (fun j _ hj => by rw [hoth j hj])).1 (by rw [List.mem_range'_1]; have := hl.low; have := hl.high; omega)
    omega
  · rw [if_neg h]
    congr 2
    apply List.filter_congr
    intro j _
    by_cases e : j = i
    · subst e; rw [a4 h, hl.lives]
    · rw [hoth j e]

theorem alive_le (s : St) : alive s ≤ s.n := by
  unfold alive
  exact Nat.le_trans (List.length_filter_le _ _) (by simp)

theorem alive_pos {s : St} {i : Nat} (hl : Lives s i) : 1 ≤ alive s := by
  unfold alive
  exact List.length_pos_of_mem (a := i) (List.mem_filter.2 ⟨by rw [List.mem_range'_1]; have := hl.low; have := hl.high; omega, by simp [hl.lives]⟩)

end Go.Proofs.YtmcajfefagdbnaaGreat
