import Derived.Test.YtmcajfefagdbnaaGreatQ09
import Derived.Test.YtmcajfefagdbnaaGreatQ10
import Derived.Deep.AppendLies
import Derived.Test.YtmcajfefagdbnaaGreatQ03
import Derived.Deep.RegionHeld3
import Derived.Deep.DrawnRows
import Derived.WalkSpells
namespace Go.Proofs.YtmcajfefagdbnaaGreat
theorem freed_keeps {n : Nat} {E : Nat → Nat → Prop} {l : Lk} (hr : RowOk n E l) {i j : Nat} (hne : j ≠ i) : (l.freed n i).h j = l.h j ∨ (l.h j < (l.freed n i).h j ∧ (j, (l.freed n i).h j) ∈ l.q) := by
 rcases settle_holds n (l.drop i).h (l.drop i).q (drop_once i hr.once) j with ⟨h1, _⟩ | ⟨h1, _⟩
 ·left; show (l.freed n i).h j = _; simp only [Lk.freed]; rw [h1]; simp only [Lk.drop, upd_other _ _ _ _ hne]
 ·right
  have := (List.mem_filter.mp h1).1
  exact ⟨hr.want _ this, this⟩
theorem Ser.freed {s s' : St} {D D' : Int → Option Int} (hs : Inv s) (hs' : Inv s') (hS : Ser s D) {i : Nat} (hn : s'.n = s.n) (hlk : ∀ k, s'.lk k = (s.lk k).freed s.n i)
  (hb : ∀ j, j ≠ i → (s'.tx j).base = (s.tx j).base) (hi : Lives s' i → (s'.tx i).next = 0 ∧ (s'.tx i).regs = (fun _ => 0) ∧ (s'.tx i).reads = [] ∧ (s'.tx i).undo = [])
  (ha : ∀ k, (∀ j, j ≠ i → (s.lk k).h j ≠ 2) → s'.rows k = D' k) (hr : ∀ k j, j ≠ i → (s.lk k).h j = 2 → s'.rows k = s.rows k) (hd : ∀ k, D k ≠ D' k → (s.lk k).h i = 2) : Ser s' D' := by
 have lives : ∀ j, j ≠ i → Lives s' j → Lives s j := fun j hj h => ⟨h.low, by rw [← hn]; exact h.high, by rw [← (base_eq (hb j hj)).2.1]; exact h.lives⟩
 have opsj : ∀ j, j ≠ i → (s'.tx j).ops.take (s'.tx j).next = (s.tx j).ops.take (s.tx j).next := fun j hj => by
  obtain ⟨_, _, b3, b4, _⟩ := base_eq (hb j hj)
  rw [b3, b4]
 have touch : ∀ j, j ≠ i → Lives s j → ∀ o, o ∈ (s.tx j).ops.take (s.tx j).next → 0 < modeOf o → D o.a = D' o.a := by
  intro j hj hl o ho hm
  rcases Classical.em (D o.a = D' o.a) with h | h
  ·exact h
  ·have h2 := hs.whole (hd _ h) hj
   have := hS.locks j hl o ho hm
   omega
 have keeps : ∀ k j, j ≠ i → (s.lk k).h j = 2 → (s'.lk k).h j = 2 := by
  intro k j hj h2
  rw [hlk k]
  rcases freed_keeps (hs.row k) hj (n := s.n) with h | ⟨h, h3⟩
  ·rw [h, h2]
  ·have := ((hs.row k).qmode _ h3).2
   simp only at this
   omega
 have pr : ∀ j, j ≠ i → s'.pr D' j = runP D' ((s.tx j).ops.take (s.tx j).next) := fun j hj => by simp only [St.pr, opsj j hj]
 refine ⟨fun j hj => ?_, fun j hj o ho hm => ?_, fun j k h2 => ?_, fun k h2 => ?_⟩
 ·by_cases e : j = i
  ·subst e
   obtain ⟨h1, h2, h3, h4⟩ := hi hj
   simp only [St.pr, h1, h2, h3, h4, List.take_zero]
   exact ⟨rfl, rfl, rfl, clean_nil _⟩
  ·have hl := lives j e hj
   obtain ⟨a1, a2, a3, a4⟩ := hS.own j hl
   obtain ⟨r1, r2, r3, _⟩ := runP_same D D' _ (touch j e hl)
   obtain ⟨_, _, b3, b4, _, b6, b7, b8⟩ := base_eq (hb j e)
   rw [pr j e, r1, r2, r3, b6, b7, b8, opsj j e]
   exact ⟨a1, a2, a3, clean_same (touch j e hl) a4⟩
 ·by_cases e : j = i
  ·subst e
   rw [(hi hj).1] at ho
   cases ho
  ·rw [opsj j e] at ho
   have := hS.locks j (lives j e hj) o ho hm
   rw [hlk]
   rcases freed_keeps (hs.row o.a) e (n := s.n) with h | ⟨h, _⟩ <;> omega
 ·have e : j ≠ i := by
   intro e; subst e
   rw [hlk, freed_no_h _ _ _ (hs.row k).once] at h2
   cases h2
  have hl := lives j e (hs'.live (k := k) (by rw [h2]; decide))
  rw [pr j e]
  by_cases h : (s.lk k).h j = 2
  ·rw [hr k j e h, hS.held j k h]
   refine ((runP_same D D' _ (touch j e hl)).2.2.2 k ?_).symm
   rcases Classical.em (D k = D' k) with h3 | h3
   ·exact h3
   ·have := hs.whole (hd _ h3) e
    omega
  ·rw [ha k ?_]
   ·refine (runP_not D' _ k (fun o ho hm => ?_)).1.symm
    intro e'
    have := hS.locks j hl o ho (by omega)
    rw [e', hm] at this
    rcases (hs.row k).mode j with h0 | h0 | h0 <;> omega
   ·intro x hx hx2
    have hxj : x ≠ j := fun e' => h (e' ▸ hx2)
    have := keeps k x hx hx2
    have h0 := hs'.whole h2 hxj
    omega
 ·exact ha k (fun j hj hj2 => h2 j (keeps k j hj hj2))
theorem Ser.undone {s s' : St} {D : Int → Option Int} (hs : Inv s) (hs' : Inv s') (hS : Ser s D) {i : Nat} (hl : Lives s i) (hn : s'.n = s.n) (hlk : ∀ k, s'.lk k = (s.lk k).freed s.n i)
  (hb : ∀ j, j ≠ i → (s'.tx j).base = (s.tx j).base) (hi : Lives s' i → (s'.tx i).next = 0 ∧ (s'.tx i).regs = (fun _ => 0) ∧ (s'.tx i).reads = [] ∧ (s'.tx i).undo = [])
  (hrows : s'.rows = back s.rows (s.tx i).undo) : Ser s' D := by
 have hu := (hS.own i hl).2.2.1
 refine hS.freed hs hs' hn hlk hb hi (fun k h => ?_) (fun k j hj h2 => ?_) (fun k h => absurd rfl h)
 ·rw [hrows, hu, back_at _ _ (s.pr D i).f k (hS.sees hs hl h)]
  exact congrFun (runP_back D _) k
 ·rw [hrows, hu]
  have h0 := hs.whole h2 (fun e => hj e.symm : i ≠ j)
  exact back_not _ _ _ (hS.unwritten hl (by rw [h0]; decide) hs).2
theorem Ser.again {s : St} {D : Int → Option Int} (hs : Inv s) (hS : Ser s D) {i : Nat} (hl : Lives s i) : Ser (s.again i) D := by
 refine hS.undone hs (hs.again i) hl rfl (fun k => rfl) (fun j hj => ?_) (fun _ => ?_) rfl
 ·exact ((undone_oth s hj).eq (s'' := s.again i) (setTx_tx _ _ hj)).base
 ·simp [St.again, St.setTx, St.undone, St.freed, Tx.look, Tx.anew]
theorem Ser.fell {s : St} {D : Int → Option Int} (hs : Inv s) (hS : Ser s D) {i : Nat} (hl : Lives s i) (z : Int) : Ser (s.fell i z) D := by
 refine hS.undone hs (hs.fell i z) hl rfl (fun k => rfl) (fun j hj => ?_) (fun _ => ?_) rfl
 ·exact (fell_oth s z hj).base
 ·simp [St.fell, St.setTx, St.undone, St.freed, Tx.look, Tx.anew]
theorem Ser.commit {s : St} {D : Int → Option Int} (hs : Inv s) (hS : Ser s D) {i : Nat} (hl : Lives s i) : Ser (s.commit i) (s.pr D i).f := by
 refine hS.freed hs (hs.commit hl.high).1 rfl (fun k => rfl) (fun j hj => ?_) (fun h => ?_) (fun k h => hS.sees hs hl h) (fun k j _ _ => rfl) (fun k h => ?_)
 ·exact (freed_oth s _ i j (upd_other _ _ _ _ hj)).base
 ·have := h.lives
  rw [(commit_self s i).2.1] at this
  cases this
 ·rcases Classical.em ((s.lk k).h i = 2) with h2 | h2
  ·exact h2
  ·exact absurd (hS.unwritten hl h2 hs).1.symm h
theorem Ser.same {s s' : St} {D : Int → Option Int} (hS : Ser s D) (hn : s'.n = s.n) (hr : s'.rows = s.rows) (hh : ∀ k, (s'.lk k).h = (s.lk k).h) (hb : ∀ j, (s'.tx j).base = (s.tx j).base) : Ser s' D := by
 have lives : ∀ j, Lives s' j → Lives s j := fun j h => ⟨h.low, by rw [← hn]; exact h.high, by rw [← (base_eq (hb j)).2.1]; exact h.lives⟩
 have pr : ∀ j, s'.pr D j = s.pr D j := fun j => by
  obtain ⟨_, _, b3, b4, _⟩ := base_eq (hb j)
  simp only [St.pr, b3, b4]
 refine ⟨fun j hj => ?_, fun j hj o ho hm => ?_, fun j k h2 => ?_, fun k h2 => ?_⟩
 ·obtain ⟨_, _, b3, b4, _, b6, b7, b8⟩ := base_eq (hb j)
  rw [pr, b6, b7, b8, b3, b4]
  exact hS.own j (lives j hj)
 ·obtain ⟨_, _, b3, b4, _⟩ := base_eq (hb j)
  rw [b3, b4] at ho
  rw [hh]
  exact hS.locks j (lives j hj) o ho hm
 ·rw [hh] at h2
  rw [hr, pr]
  exact hS.held j k h2
 ·rw [hr]
  exact hS.free k (fun i => by rw [← hh]; exact h2 i)
theorem enq_base (s : St) (i : Nat) (k m : Int) (j : Nat) : ((s.enq i k m).tx j).base = (s.tx j).base := by
 simp only [St.enq]
 split
 ·rfl
 split <;> rfl
theorem Ser.enq {s : St} {D : Int → Option Int} (hS : Ser s D) (i : Nat) (k m : Int) : Ser (s.enq i k m) D := by
 refine hS.same rfl rfl (fun k' => ?_) (enq_base s i k m)
 by_cases e : k' = k
 ·subst e; simp [St.enq]
 ·simp [St.enq, upd_other _ _ _ _ e]
theorem Ser.grant {s : St} {D : Int → Option Int} (hs : Inv s) (hS : Ser s D) {i : Nat} (hl : Lives s i) {k m : Int} (hm : m = 1 ∨ m = 2) (hlt : (s.lk k).h i < m) (hh : hind s.n (s.lk k).h i m = false) : Ser (s.grant i k m) D := by
 have lk1 : ((s.grant i k m).lk k).h i = m := by simp [St.grant]
 have lk2 : ∀ k' j, ¬ (k' = k ∧ j = i) → ((s.grant i k m).lk k').h j = (s.lk k').h j := fun k' j h => by
  by_cases e : k' = k
  ·subst e
   have : j ≠ i := fun e => h ⟨rfl, e⟩
   simp [St.grant, upd_other _ _ _ _ this]
  ·simp [St.grant, upd_other _ _ _ _ e]
 have no : ∀ j, j ≠ i → m = 2 ∨ (s.lk k).h j = 2 → (s.lk k).h j = 0 := fun j hj h => by
  rcases Classical.em ((s.lk k).h j = 0) with h0 | h0
  ·exact h0
  ·have := hind_false.mp hh j ((hs.row k).hold j h0).2 hj h0
   rcases h with h | h <;> simp [conf, h] at this
 refine ⟨fun j hj => hS.own j ⟨hj.low, hj.high, hj.lives⟩, fun j hj o ho hmo => ?_, fun j k' h2 => ?_, fun k' h2 => ?_⟩
 ·have := hS.locks j ⟨hj.low, hj.high, hj.lives⟩ o ho hmo
  by_cases e : o.a = k ∧ j = i
  ·rw [e.1, e.2] at this ⊢; rw [lk1]; omega
  ·rw [lk2 _ _ e]; exact this
 ·by_cases e : k' = k ∧ j = i
  ·obtain ⟨rfl, rfl⟩ := e
   rw [lk1] at h2
   exact hS.sees hs hl (fun x hx => by rw [no x hx (.inl h2)]; decide)
  ·rw [lk2 _ _ e] at h2
   exact hS.held j k' h2
 ·refine hS.free k' (fun j => ?_)
  by_cases e : k' = k ∧ j = i
  ·obtain ⟨rfl, rfl⟩ := e; omega
  ·rw [← lk2 _ _ e]; exact h2 j
theorem doOp_rows (s : St) (i : Nat) (o : Op4) : (s.doOp i o).rows = if o.k = 2 then upd s.rows o.a (some ((s.tx i).regs o.b)) else if o.k = 3 then upd s.rows o.a none else s.rows := by
 simp only [St.doOp]
 by_cases k1 : o.k = 1
 ·simp [k1, St.setTx]
 by_cases k2 : o.k = 2
 ·simp [k2]
 by_cases k3 : o.k = 3
 ·simp [k3]
 by_cases k4 : o.k = 4
 ·simp [k4, St.setTx]
 simp [k1, k2, k3, k4, St.setTx]
theorem doOp_work (s : St) (i : Nat) (o : Op4) (p : Pr) (h1 : (s.tx i).regs = p.regs) (h2 : (s.tx i).reads = p.reads) (h3 : (s.tx i).undo = p.undo) (hf : 0 < modeOf o → s.rows o.a = p.f o.a) :
  ((s.doOp i o).tx i).regs = (p.op o).regs ∧ ((s.doOp i o).tx i).reads = (p.op o).reads ∧ ((s.doOp i o).tx i).undo = (p.op o).undo ∧ (0 < modeOf o → (s.doOp i o).rows o.a = (p.op o).f o.a) ∧ ∀ k, k ≠ o.a → (s.doOp i o).rows k = s.rows k ∧ (p.op o).f k = p.f k := by
 have saw : 0 < modeOf o → sawOf s.rows o.a = sawOf p.f o.a := fun h => by simp only [sawOf, hf h]
 by_cases k1 : o.k = 1
 ·have := hf (by simp [modeOf, k1])
  have sw := saw (by simp [modeOf, k1])
  simp only [St.doOp, Pr.op, k1, if_true, St.setTx, upd_same, h1, h2, h3, this, sw]
  simp
 by_cases k2 : o.k = 2
 ·have sw := saw (by simp [modeOf, k2])
  simp only [St.doOp, Pr.op, k2, St.setTx, h1, h3, sw]
  simp [h2]
  intro k hk
  rw [upd_other _ _ _ _ hk, upd_other _ _ _ _ hk]; exact ⟨rfl, rfl⟩
 by_cases k3 : o.k = 3
 ·have sw := saw (by simp [modeOf, k3])
  simp only [St.doOp, Pr.op, k3, St.setTx, h3, sw]
  simp [h1, h2]
  intro k hk
  rw [upd_other _ _ _ _ hk, upd_other _ _ _ _ hk]; exact ⟨rfl, rfl⟩
 have m0 : ¬ 0 < modeOf o := by simp [modeOf, k1, k2, k3]
 by_cases k4 : o.k = 4
 ·simp only [St.doOp, Pr.op, k4, St.setTx, h1]
  simp [h2, h3, m0]
 ·simp only [St.doOp, Pr.op, k1, k2, k3, k4, if_false, St.setTx]
  simp [h1, h2, h3, m0]
theorem take_next {t : Tx} (h : t.next < t.ops.length) : t.ops.take (t.next + 1) = t.ops.take t.next ++ [t.op] := by
 rw [List.take_succ_eq_append_getElem h]
 simp [Tx.op, List.getD, h]
theorem Ser.doOp {s : St} {D : Int → Option Int} (hs : Inv s) (hS : Ser s D) {i : Nat} (hl : Lives s i) (hn : (s.tx i).next < (s.tx i).ops.length) (hm : modeOf (s.tx i).op ≤ (s.lk (s.tx i).op.a).h i)
  (hst : (s.tx i).op.k = 5 → (s.tx i).regs (s.tx i).op.a ≠ 0) : Ser (s.doOp i (s.tx i).op) D := by
 have hlk := (doOp_lk s i (s.tx i).op).1
 have hnn : (s.doOp i (s.tx i).op).n = s.n := by
  simp only [St.doOp]
  repeat' split
  all_goals rfl
 have sees : 0 < modeOf (s.tx i).op → s.rows (s.tx i).op.a = (s.pr D i).f (s.tx i).op.a := fun h =>
  hS.sees hs hl (fun j hj h2 => by have := hs.whole h2 (fun e => hj e.symm : i ≠ j); omega)
 obtain ⟨a1, a2, a3, a4⟩ := hS.own i hl
 obtain ⟨w1, w2, w3, w4, w5⟩ := doOp_work s i (s.tx i).op (s.pr D i) a1 a2 a3 sees
 obtain ⟨d1, d2, _, _, d5⟩ := doOp_next s i (s.tx i).op
 have tk : ((s.doOp i (s.tx i).op).tx i).ops.take ((s.doOp i (s.tx i).op).tx i).next = (s.tx i).ops.take (s.tx i).next ++ [(s.tx i).op] := by
  rw [d1, d5, take_next hn]
 have pri : (s.doOp i (s.tx i).op).pr D i = (s.pr D i).op (s.tx i).op := by simp only [St.pr, tk, runP_snoc]
 have prj : ∀ j, j ≠ i → (s.doOp i (s.tx i).op).pr D j = s.pr D j := fun j hj => by simp only [St.pr, doOp_tx s _ hj]
 have lives : ∀ j, Lives (s.doOp i (s.tx i).op) j → Lives s j := fun j h => by
  by_cases e : j = i
  ·subst e; exact hl
  ·exact ⟨h.low, by rw [← hnn]; exact h.high, by rw [← doOp_tx s (s.tx i).op e]; exact h.lives⟩
 have turned : ∀ k, (∀ j, j = i → (s.lk k).h j ≠ 2) → (s.doOp i (s.tx i).op).rows k = s.rows k := by
  intro k hk
  by_cases e : k = (s.tx i).op.a
  ·rw [doOp_rows]
   have h2 : (s.tx i).op.k ≠ 2 := fun h => by
    have : modeOf (s.tx i).op = 2 := by simp [modeOf, h]
    rw [this, ← e] at hm
    have := hk i rfl
    rcases (hs.row k).mode i with h0 | h0 | h0 <;> omega
   have h3 : (s.tx i).op.k ≠ 3 := fun h => by
    have : modeOf (s.tx i).op = 2 := by simp [modeOf, h]
    rw [this, ← e] at hm
    have := hk i rfl
    rcases (hs.row k).mode i with h0 | h0 | h0 <;> omega
   simp [h2, h3]
  ·exact (w5 k e).1
 refine ⟨fun j hj => ?_, fun j hj o ho hmo => ?_, fun j k h2 => ?_, fun k h2 => ?_⟩
 ·by_cases e : j = i
  ·subst e
   rw [pri, tk]
   refine ⟨w1, w2, w3, clean_snoc a4 (fun h5 => ?_)⟩
   have := hst h5
   rw [a1] at this
   exact this
  ·rw [prj j e, doOp_tx s _ e]
   exact hS.own j (lives j hj)
 ·rw [hlk]
  by_cases e : j = i
  ·subst e
   rw [tk, List.mem_append, List.mem_singleton] at ho
   rcases ho with ho | rfl
   ·exact hS.locks j hl o ho hmo
   ·exact hm
  ·rw [doOp_tx s _ e] at ho
   exact hS.locks j (lives j hj) o ho hmo
 ·rw [hlk] at h2
  by_cases e : j = i
  ·subst e
   rw [pri]
   by_cases ek : k = (s.tx j).op.a
   ·by_cases h0 : 0 < modeOf (s.tx j).op
    ·rw [ek]; exact w4 h0
    ·have k2 : (s.tx j).op.k ≠ 2 := fun h => h0 (by simp [modeOf, h])
     have k3 : (s.tx j).op.k ≠ 3 := fun h => h0 (by simp [modeOf, h])
     have r : (s.doOp j (s.tx j).op).rows = s.rows := by rw [doOp_rows]; simp [k2, k3]
     have f : ((s.pr D j).op (s.tx j).op).f = (s.pr D j).f := by
      simp only [Pr.op]
      repeat' split
      all_goals first | rfl | contradiction
     rw [r, f]
     exact hS.held j k h2
   ·rw [(w5 k ek).1, (w5 k ek).2]
    exact hS.held j k h2
  ·rw [prj j e, turned k (fun x hx hx2 => by
    subst hx
    have := hs.whole h2 (fun e' => e e'.symm : x ≠ j)
    omega)]
   exact hS.held j k h2
 ·rw [hlk] at h2
  rw [turned k (fun x _ => h2 x)]
  exact hS.free k h2
end Go.Proofs.YtmcajfefagdbnaaGreat
namespace Go.Proofs.YtmcajfefagdbnaaGreat
open Go Go.RowKit Go.Maps
theorem MapAt.trim {P : Program} {k : TypeId} {κ : Type} {T : KeyTy P k κ} {w : World} {b n : Nat} {g : κ → Option Value} (h : MapAt T w b n g) (ks : List κ) (hk : ∀ a, T.ok a → (g a).isSome = true → a ∈ ks) : MapAt T w b ks.length g := by
 obtain ⟨D, ⟨es, clock, hb, F, hs, rfl⟩, hS⟩ := h
 refine ⟨_, ⟨es, clock, hb, F, ?_, rfl⟩, hS⟩
 letI : DecidableEq Value := fun a b => Classical.propDecidable (a = b)
 have h1 := nodup_len (es.toList.map (·.key)) (ks.map T.va) F.stamped.2.2 (fun v hv => by
  obtain ⟨x, hx, rfl⟩ := List.mem_map.1 hv
  obtain ⟨y, hy⟩ := F.reads x hx
  have hkey := WideElems.rd_key hy
  obtain ⟨a, ha, e⟩ := T.inv _ _ hkey
  refine List.mem_map.2 ⟨a, hk a ha ?_, e.symm⟩
  rw [← hS.has ha]
  rw [e, T.key a ha] at hkey
  have hl : T.lit a = y.1 := by simpa using hkey
  rw [has_eq, List.any_eq_true]
  refine ⟨y, mem_sorted.2 (List.mem_map.2 ⟨x, hx, WideElems.rg_of hy⟩), ?_⟩
  rw [hl]
  exact WideAt.sameKey_self (by rw [← hl]; exact T.isKey ha))
 simpa using h1
end Go.Proofs.YtmcajfefagdbnaaGreat
namespace Go.Proofs.YtmcajfefagdbnaaGreat
open Go Go.RowKit
theorem mem_range1 {i n : Nat} : i ∈ List.range' 1 n ↔ 1 ≤ i ∧ i ≤ n := by rw [List.mem_range'_1]; omega
theorem alive_admit {s : St} (l : List Op4) : alive (s.admit l) = alive s + 1 := by
 unfold alive
 show (((List.range' 1 (s.n + 1)).filter fun i => ((upd s.tx (s.n + 1) _) i).state == 0).length) = _
 rw [List.range'_concat, List.filter_append, List.length_append]
 congr 1
 ·congr 1
  apply List.filter_congr
  intro i hi
  rw [mem_range1] at hi
  rw [upd_other _ _ _ _ (by omega)]
 ·simp [upd, Nat.add_comm]
theorem admit_tx (s : St) (l : List Op4) {i : Nat} (h : i ≠ s.n + 1) : (s.admit l).tx i = s.tx i := upd_other _ _ _ _ h
theorem Inv.admit {s : St} (hs : Inv s) (l : List Op4) : Inv (s.admit l) := by
 have hh : ∀ k j, (s.lk k).h j ≠ 0 → j ≠ s.n + 1 := fun k j hj => by have := (hs.row k).hold j hj; omega
 have hq : ∀ k j m, (j, m) ∈ (s.lk k).q → j ≠ s.n + 1 := fun k j m hj => by have := ((hs.row k).qmode _ hj).1; simp only at this; omega
 have hnew : (s.admit l).tx (s.n + 1) = ⟨s.clock + 1, 0, l, 0, false, none, 0, fun _ => 0, [], []⟩ := upd_same _ _ _
 refine ⟨fun k => ?_, fun k => ?_, fun k j hj => ?_, fun k j m hj => ?_, fun k j m hj => ?_, fun j k hj => ?_, fun i j h1 h2 h3 => ?_, fun j h1 h2 => ?_, fun j h1 => ?_, hs.actOnce, fun k => ?_⟩
 ·refine (hs.row k).mono (Nat.le_succ _) (fun j i h1 h2 he => ?_)
  have hj : j ≠ s.n + 1 := h1.elim (hh k j) (fun ⟨m, hm⟩ => hq k j m hm)
  obtain ⟨m, hm⟩ := h2
  unfold Elder at he ⊢
  rw [admit_tx s l hj, admit_tx s l (hq k i m hm)]
  exact he
 ·intro i m q e
  have := hs.still k i m q e
  rw [hind_true] at this ⊢
  obtain ⟨j, h1, h2⟩ := this
  exact ⟨j, Nat.le_succ_of_le h1, h2⟩
 ·rw [admit_tx s l (hh k j hj)]; exact hs.holds k j hj
 ·rw [admit_tx s l (hq k j m hj)]; exact hs.queue k j m hj
 ·rw [admit_tx s l (hq k j m hj)]; exact hs.asks k j m hj
 ·by_cases e : j = s.n + 1
  ·subst e; rw [hnew] at hj; cases hj
  ·rw [admit_tx s l e] at hj; exact hs.waits j k hj
 ·have h3' : j ≤ s.n + 1 := h3
  rw [admit_tx s l (show i ≠ s.n + 1 by omega)]
  by_cases e : j = s.n + 1
  ·subst e; rw [hnew]
   have := hs.late i h1 (by omega)
   show (s.tx i).stamp < s.clock + 1
   omega
  ·rw [admit_tx s l e]; exact hs.age i j h1 h2 (by omega)
 ·have h2' : j ≤ s.n + 1 := h2
  show _ ≤ s.clock + 1
  by_cases e : j = s.n + 1
  ·subst e; rw [hnew]; exact Int.le_refl _
  ·rw [admit_tx s l e]; have := hs.late j h1 (by omega); omega
 ·have h1' : s.n + 1 < j := h1
  rw [admit_tx s l (by omega)]; exact hs.later j (by omega)
 ·show k ∈ s.act ↔ (s.lk k).live (s.n + 1) = true
  rw [hs.act k, live_iff, live_iff]
  constructor
  ·rintro (h | ⟨j, h1, h2⟩)
   ·exact .inl h
   ·exact .inr ⟨j, Nat.le_succ_of_le h1, h2⟩
  ·rintro (h | ⟨j, h1, h2⟩)
   ·exact .inl h
   ·exact .inr ⟨j, ((hs.row k).hold j h2).2, h2⟩
end Go.Proofs.YtmcajfefagdbnaaGreat
namespace Go.Proofs.YtmcajfefagdbnaaGreat
open Go Go.RowKit
theorem PSt.ptr {L : Lay} {bs : Nat → Nat} {A : List Nat} {ow : Ow} {m : Nat} {mu lv : Int} {s : St} {w : World} (h : PSt L bs A ow m mu lv s w) {i : Nat} (h1 : 1 ≤ i) (hi : i ≤ s.n) :
  ∃ g off c, w.cell? ⟨L.p, 4, none⟩ = some (.slice (some ⟨g, off, none⟩) s.n c) ∧ w.cell? ⟨g, off + (i - 1), none⟩ = some (.pointer (some ⟨bs i, 0, none⟩)) := by
 obtain ⟨u, tv, wv, _, _, _, _, b4, b5⟩ := h.cells
 rcases b5.1.2 with ⟨_, h0⟩ | ⟨g, off, c, cur, rfl, _⟩
 ·omega
 ·refine ⟨g, off, c, b4, b5.1.cell (i - 1) ?_⟩
  have : i - 1 + 1 = i := by omega
  simp [txPtrs, show i - 1 < s.n by omega, this]
set_option maxHeartbeats 800000 in
theorem find_some (p g off n c : Nat) (i b : Nat) (w : World) (h1 : w.cell? ⟨p, 4, none⟩ = some (.slice (some ⟨g, off, none⟩) n c)) (h2 : w.cell? ⟨g, off + (i - 1), none⟩ = some (.pointer (some ⟨b, 0, none⟩))) (hi : 1 ≤ i) (hn : i ≤ n) (hmax : n ≤ 1099511627776) :
  Calls Tryz.prog 63 #[.pointer (some ⟨p, 0, none⟩), .int .i64 (i : Int)] w fun e w' => e = .returned (.pointer (some ⟨b, 0, none⟩)) ∧ w' = w := by
 obtain ⟨k, rfl⟩ : ∃ k, i = k + 1 := ⟨i - 1, by omega⟩
 rw [show k + 1 - 1 = k from by omega] at h2
 have hlt : ¬ (((k + 1 : Nat) : Int) < 1) := by omega
 have hgt : ¬ (((k + 1 : Nat) : Int) > n) := by omega
 rw [show ((k + 1 : Nat) : Int) = (k : Int) + 1 from by omega]
 go_enter Tryz.func63, Tryz.ntmps63
 go_wp2_with fail
 all_goals first
  | (go_ret; exact ⟨rfl, rfl⟩)
  | (exfalso; omega)
set_option maxHeartbeats 800000 in
theorem find_none (p : Nat) (ao : Option Addr) (n c : Nat) (id : Int) (w : World) (h1 : w.cell? ⟨p, 4, none⟩ = some (.slice ao n c)) (hi : id < 1 ∨ (n : Int) < id) :
  Calls Tryz.prog 63 #[.pointer (some ⟨p, 0, none⟩), .int .i64 id] w fun e w' => e = .returned (.pointer none) ∧ w' = w := by
 go_enter Tryz.func63, Tryz.ntmps63
 go_wp2_with fail
 all_goals first
  | (go_ret; exact ⟨rfl, rfl⟩)
  | (exfalso; omega)
  | (exfalso; simp_all; omega)
end Go.Proofs.YtmcajfefagdbnaaGreat
namespace Go.Proofs.YtmcajfefagdbnaaGreat
open Go Go.RowKit
attribute [local go_sem ↓] Go.wp_at_zero Go.wp_at_succ
theorem from4 {w : World} {b o : Nat} {x0 x1 x2 x3 : Value} (h0 : w.cell? ⟨b, o, none⟩ = some x0) (h1 : w.cell? ⟨b, o + 1, none⟩ = some x1) (h2 : w.cell? ⟨b, o + 2, none⟩ = some x2) (h3 : w.cell? ⟨b, o + 3, none⟩ = some x3)
  (g0 : x0.oneCell' = true) (g1 : x1.oneCell' = true) (g2 : x2.oneCell' = true) (g3 : x3.oneCell' = true) (c : Nat) : FromMem w 1 (.slice (some ⟨b, o, none⟩) 4 c) 4 [x0, x1, x2, x3] := by
 refine ⟨⟨some ⟨b, o, none⟩, c, rfl, fun h => by simp at h, ?_⟩, rfl, ?_⟩
 ·intro ad had j u hu
  obtain rfl := Option.some.inj had
  rw [Addr.add_lit]
  match j, hu with
  | 0, hu => simp at hu; subst hu; exact h0
  | 1, hu => simp at hu; subst hu; exact h1
  | 2, hu => simp at hu; subst hu; exact h2
  | 3, hu => simp at hu; subst hu; exact h3
  | j + 4, hu => simp at hu
 ·intro u hu
  simp at hu
  rcases hu with rfl | rfl | rfl | rfl <;> assumption
def ToldPre (b H : Nat) (nm ov rv dv : Value) (st sa ag ne : Int) (wo wa : Bool) (r0 r1 r2 r3 : Int) (nr : Nat) (sc : List Value) (W : World) : Prop :=
 W.heap[b]? = some (.cells #[nm, ov, .int .i64 st, .int .i64 sa, .int .i64 ag, .int .i64 ne, .bool wo, .bool wa, .int .i64 r0, .int .i64 r1, .int .i64 r2, .int .i64 r3, rv, dv] 146 (0, 0)) ∧ b ≠ H ∧ ∃ cs : Array Value, cs.size = 8 ∧ W.heap[H]? = some (.cells cs 69 (0, 0)) ∧ RowAt W 105 3 rv nr sc ∧ (∀ k, rv.ownBlock = some k → k ≠ H) ∧ (∀ u ∈ sc, u.oneCell' = true) ∧ nr ≤ 12
section
variable {b H : Nat} {nm ov rv dv : Value} {st sa ag ne : Int} {wo wa : Bool} {r0 r1 r2 r3 : Int} {nr : Nat} {sc : List Value}
theorem ToldPre.kept {W W' : World} (hk : Kept NoBlk W W') (h : ToldPre b H nm ov rv dv st sa ag ne wo wa r0 r1 r2 r3 nr sc W) : ToldPre b H nm ov rv dv st sa ag ne wo wa r0 r1 r2 r3 nr sc W' := by
 obtain ⟨h1, hn, cs, hs, h2, h3, h4, h5, h6⟩ := h
 exact ⟨hk.heap h1 (fun x => x), hn, cs, hs, hk.heap h2 (fun x => x), h3.kept hk (fun _ _ x => x), h4, h5, h6⟩
theorem ToldPre.drew {W : World} (h : ToldPre b H nm ov rv dv st sa ag ne wo wa r0 r1 r2 r3 nr sc W) : ToldPre b H nm ov rv dv st sa ag ne wo wa r0 r1 r2 r3 nr sc W.drew := h
theorem ToldPre.setCell {W : World} (o : Nat) (v : Value) (h : ToldPre b H nm ov rv dv st sa ag ne wo wa r0 r1 r2 r3 nr sc W) : ToldPre b H nm ov rv dv st sa ag ne wo wa r0 r1 r2 r3 nr sc (W.setCell ⟨H, o, none⟩ v) := by
 obtain ⟨h1, hn, cs, hs, h2, h3, h4, h5, h6⟩ := h
 exact ⟨by rw [block_setCell_other (by exact hn)]; exact h1, hn, _, by simpa using hs, block_setCell h2 v, h3.of_block (fun k hk => block_setCell_other (by exact h4 k hk) v), h4, h5, h6⟩
theorem ToldPre.cells {w' : World} (h : ToldPre b H nm ov rv dv st sa ag ne wo wa r0 r1 r2 r3 nr sc w') : w'.cell? ⟨b, 2, none⟩ = some (.int .i64 st) ∧ w'.cell? ⟨b, 3, none⟩ = some (.int .i64 sa) ∧ w'.cell? ⟨b, 4, none⟩ = some (.int .i64 ag) ∧ w'.cell? ⟨b, 5, none⟩ = some (.int .i64 ne) ∧ w'.cell? ⟨b, 6, none⟩ = some (.bool wo) ∧ w'.cell? ⟨b, 7, none⟩ = some (.bool wa) ∧ w'.cell? ⟨b, 12, none⟩ = some rv ∧ ToldPre b H nm ov rv dv st sa ag ne wo wa r0 r1 r2 r3 nr sc w' := by
 have h1 := h.1
 refine ⟨?_, ?_, ?_, ?_, ?_, ?_, ?_, h⟩ <;> (rw [cell_at h1]; rfl)
theorem ToldPre.held {w' : World} (h : w'.cell? ⟨b, 2, none⟩ = some (.int .i64 st) ∧ w'.cell? ⟨b, 3, none⟩ = some (.int .i64 sa) ∧ w'.cell? ⟨b, 4, none⟩ = some (.int .i64 ag) ∧ w'.cell? ⟨b, 5, none⟩ = some (.int .i64 ne) ∧ w'.cell? ⟨b, 6, none⟩ = some (.bool wo) ∧ w'.cell? ⟨b, 7, none⟩ = some (.bool wa) ∧ w'.cell? ⟨b, 12, none⟩ = some rv ∧ ToldPre b H nm ov rv dv st sa ag ne wo wa r0 r1 r2 r3 nr sc w') : ToldPre b H nm ov rv dv st sa ag ne wo wa r0 r1 r2 r3 nr sc w' := h.2.2.2.2.2.2.2
theorem ToldPre.from4 {W : World} (h : ToldPre b H nm ov rv dv st sa ag ne wo wa r0 r1 r2 r3 nr sc W) : FromMem W 1 (.slice (some ⟨b, 8, none⟩) 4 4) 4 [.int .i64 r0, .int .i64 r1, .int .i64 r2, .int .i64 r3] := by
 have h1 := h.1
 refine YtmcajfefagdbnaaGreat.from4 ?_ ?_ ?_ ?_ rfl rfl rfl rfl _ <;> (rw [cell_at h1]; rfl)
theorem ToldPre.reads {W : World} (h : ToldPre b H nm ov rv dv st sa ag ne wo wa r0 r1 r2 r3 nr sc W) : FromMem W 3 rv nr sc := by
 obtain ⟨_, _, cs, hs, h2, h3, h4, h5, h6⟩ := h
 exact h3.mem h5
theorem ToldPre.room {W : World} (h : ToldPre b H nm ov rv dv st sa ag ne wo wa r0 r1 r2 r3 nr sc W) : (∃ x, W.cell? ⟨H, 0, none⟩ = some x) ∧ (∃ x, W.cell? ⟨H, 1, none⟩ = some x) ∧ (∃ x, W.cell? ⟨H, 2, none⟩ = some x) ∧ (∃ x, W.cell? ⟨H, 3, none⟩ = some x) ∧
  (∃ x, W.cell? ⟨H, 4, none⟩ = some x) ∧ (∃ x, W.cell? ⟨H, 5, none⟩ = some x) ∧ (∃ x, W.cell? ⟨H, 6, none⟩ = some x) ∧ (∃ x, W.cell? ⟨H, 7, none⟩ = some x) ∧ ∀ o, W.frozen? ⟨H, o, none⟩ = false := by
 obtain ⟨_, _, cs, hs, h2, _⟩ := h
 have hc : ∀ j, j < 8 → ∃ x, W.cell? ⟨H, j, none⟩ = some x := fun j hj => ⟨cs[j]'(by omega), by rw [cell_at h2]; exact Array.getElem?_eq_getElem _⟩
 exact ⟨hc 0 (by omega), hc 1 (by omega), hc 2 (by omega), hc 3 (by omega), hc 4 (by omega), hc 5 (by omega), hc 6 (by omega), hc 7 (by omega), fun o => frozen_at h2 o⟩
end
set_option maxRecDepth 100000 in
set_option maxHeartbeats 3200000 in
theorem told_any (b : Nat) (nm ov rv dv : Value) (st sa ag ne : Int) (wo wa : Bool) (r0 r1 r2 r3 : Int) (nr : Nat) (sc : List Value) (w : World)
  (h : w.heap[b]? = some (.cells #[nm, ov, .int .i64 st, .int .i64 sa, .int .i64 ag, .int .i64 ne, .bool wo, .bool wa, .int .i64 r0, .int .i64 r1, .int .i64 r2, .int .i64 r3, rv, dv] 146 (0, 0))) (hr : RowAt w 105 3 rv nr sc) (hs1 : ∀ u ∈ sc, u.oneCell' = true) (hn12 : nr ≤ 12) :
  Calls Tryz.prog 64 #[.pointer (some ⟨b, 0, none⟩)] w fun e w' => ∃ g k, e = .returned (.agg #[.int .i64 st, .int .i64 sa, .int .i64 ne, .bool wo, .bool wa, .int .i64 ag, .slice (some ⟨g, 0, none⟩) 4 4, .slice (some ⟨k, 0, none⟩) nr nr]) ∧
   w.heap.size ≤ g ∧ w.heap.size ≤ k ∧ w'.heap[g]? = some (.cells #[.int .i64 r0, .int .i64 r1, .int .i64 r2, .int .i64 r3] 3 (0, 0)) ∧ w'.heap[k]? = some (.cells sc.toArray 105 (0, 0)) ∧ Kept NoBlk w w' := by
 have hb := lt_of_block h
 have hp0 : ToldPre b w.heap.size nm ov rv dv st sa ag ne wo wa r0 r1 r2 r3 nr sc (w.alloc (.cells #[.int .i64 0, .int .i64 0, .int .i64 0, .bool false, .bool false, .int .i64 0, .slice none 0 0, .slice none 0 0] 69)) :=
  ⟨block_alloc_old _ h, by omega, _, rfl, block_alloc_new w _, hr.kept ((Kept.refl NoBlk w).alloc _) (fun _ _ x => x), fun k hk => by have := hr.lt k hk; omega, hs1, hn12⟩
 obtain ⟨ar, cr, rfl, _, _⟩ := hr.form
 have HN12 : Hid (nr ≤ 1048576) := by unfold Hid; omega
 clear h hr hs1 hn12
 have hsz : (w.alloc (.cells #[.int .i64 0, .int .i64 0, .int .i64 0, .bool false, .bool false, .int .i64 0, .slice none 0 0, .slice none 0 0] 69)).heap.size = w.heap.size + 1 := by simp
 go_enter Tryz.func64, Tryz.ntmps64
 go_wp2_with fail
 have HK0 : Hid (Kept NoBlk w (w.alloc (.cells #[.int .i64 0, .int .i64 0, .int .i64 0, .bool false, .bool false, .int .i64 0, .slice none 0 0, .slice none 0 0] 69))) := (Kept.refl _ _).alloc _
 generalize (w.alloc (.cells #[.int .i64 0, .int .i64 0, .int .i64 0, .bool false, .bool false, .int .i64 0, .slice none 0 0, .slice none 0 0] 69)) = W0 at *
 have hlt : Hid (w.heap.size < W0.heap.size) := by unfold Hid; omega
 generalize hH : w.heap.size = H at *
 have HH : Hid _ := hH
 clear hH
 clear hsz hb
 go_region_held3 (fun w' => w'.cell? ⟨b, 2, none⟩ = some (.int .i64 st) ∧ w'.cell? ⟨b, 3, none⟩ = some (.int .i64 sa) ∧ w'.cell? ⟨b, 4, none⟩ = some (.int .i64 ag) ∧ w'.cell? ⟨b, 5, none⟩ = some (.int .i64 ne) ∧ w'.cell? ⟨b, 6, none⟩ = some (.bool wo) ∧ w'.cell? ⟨b, 7, none⟩ = some (.bool wa) ∧ w'.cell? ⟨b, 12, none⟩ = some (.slice ar nr cr) ∧ ToldPre b H nm ov (.slice ar nr cr) dv st sa ag ne wo wa r0 r1 r2 r3 nr sc w')
  ((refine ToldPre.cells ?_; first | (refine ToldPre.setCell _ _ ?_; (repeat (refine ToldPre.setCell _ _ ?_)); exact ToldPre.held (by assumption)) | exact ToldPre.kept hk2 (ToldPre.held (by assumption)) | exact ToldPre.kept hk1 (ToldPre.drew hp0) | exact ToldPre.drew hp0))
  (first
   | (go_at_call 68; refine (freshInt _ 4 [.int .i64 r0, .int .i64 r1, .int .i64 r2, .int .i64 r3] _ (ToldPre.from4 (by first | assumption | exact ToldPre.held (by assumption))) (by omega)).mono ?_; rintro e w1 ⟨rfl, hg1, hk1⟩; obtain ⟨⟨x0, z0⟩, ⟨x1, z1⟩, ⟨x2, z2⟩, ⟨x3, z3⟩, ⟨x4, z4⟩, ⟨x5, z5⟩, ⟨x6, z6⟩, ⟨x7, z7⟩, zf⟩ := ToldPre.room (ToldPre.kept hk1 (by first | assumption | exact ToldPre.held (by assumption))))
   | (go_at_call 98; refine (freshSeen _ nr sc _ (ToldPre.reads (by first | assumption | exact ToldPre.held (by assumption))) HN12.out).mono ?_; rintro e w2 ⟨rfl, hg2, hk2⟩; obtain ⟨⟨y0, z0⟩, ⟨y1, z1⟩, ⟨y2, z2⟩, ⟨y3, z3⟩, ⟨y4, z4⟩, ⟨y5, z5⟩, ⟨y6, z6⟩, ⟨y7, z7⟩, zf⟩ := ToldPre.room (ToldPre.kept hk2 (by first | assumption | exact ToldPre.held (by assumption)))))
 go_wp2
 have e1 : W0.heap.size ≤ w1.heap.size := hk1.size
 have n1 : W0.heap.size ≠ H := by have := hlt.out; omega
 have n2 : w1.heap.size ≠ H := by have := hlt.out; omega
 refine bodyPost_ret (v := .agg #[.int .i64 st, .int .i64 sa, .int .i64 ne, .bool wo, .bool wa, .int .i64 ag, .slice (some ⟨W0.heap.size, 0, none⟩) 4 4, .slice (some ⟨w1.heap.size, 0, none⟩) nr nr]) (by simp [results, Tryz.results64, go_sem, z0, z1, z2, z3, z4, z5, z6, z7]) rfl ?_
 refine ⟨W0.heap.size, w1.heap.size, rfl, by have := hlt.out; have := HH.out; omega, by have := hlt.out; have := HH.out; omega, ?_, ?_, ?_⟩
 ·repeat rw [block_setCell_other (by exact n1)]
  exact hk2.heap hg1 (fun x => x)
 ·repeat rw [block_setCell_other (by exact n2)]
  exact hg2
 ·repeat (refine Kept.setCell ?_ (by right; exact Nat.le_of_eq HH.out) _)
  exact (HK0.out.drew.trans' hk1).trans' hk2
end Go.Proofs.YtmcajfefagdbnaaGreat
