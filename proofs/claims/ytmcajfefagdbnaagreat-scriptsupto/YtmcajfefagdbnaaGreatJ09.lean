import Derived.Test.YtmcajfefagdbnaaGreatJ07
import Derived.Test.YtmcajfefagdbnaaGreatJ06
import Derived.Test.YtmcajfefagdbnaaGreatJ04
namespace Go.Proofs.YtmcajfefagdbnaaGreat
def Elder (tx : Nat → Tx) (j i : Nat) : Prop := (tx j).stamp < (tx i).stamp ∨ (tx j).wounded = true
structure Inv (s : St) : Prop where
 row : ∀ k, RowOk s.n (Elder s.tx) (s.lk k)
 still : ∀ k, RowStill s.n (s.lk k)
 holds : ∀ k j, (s.lk k).h j ≠ 0 → (s.tx j).state = 0
 queue : ∀ k j m, (j, m) ∈ (s.lk k).q → (s.tx j).state = 0 ∧ (s.tx j).waits = some k
 asks : ∀ k j m, (j, m) ∈ (s.lk k).q → (s.tx j).next < (s.tx j).ops.length ∧ (s.tx j).op.a = k ∧ modeOf (s.tx j).op = m
 waits : ∀ j k, (s.tx j).waits = some k → ∃ m, (j, m) ∈ (s.lk k).q
 age : ∀ i j, 1 ≤ i → i < j → j ≤ s.n → (s.tx i).stamp < (s.tx j).stamp
 late : ∀ j, 1 ≤ j → j ≤ s.n → (s.tx j).stamp ≤ s.clock
 later : ∀ j, s.n < j → (s.tx j).waits = none
 actOnce : s.act.Nodup
 act : ∀ k, k ∈ s.act ↔ (s.lk k).live s.n = true
theorem live_iff (l : Lk) (n : Nat) : l.live n = true ↔ l.q ≠ [] ∨ ∃ j, j ≤ n ∧ l.h j ≠ 0 := by
 simp only [Lk.live, Bool.or_eq_true, Bool.not_eq_true', List.any_eq_true, List.mem_range, bne_iff_ne, ne_eq]
 constructor
 ·rintro (h | ⟨j, h1, h2⟩)
  ·left; intro e; rw [e] at h; simp at h
  ·right; exact ⟨j, by omega, h2⟩
 ·rintro (h | ⟨j, h1, h2⟩)
  ·left; cases hq : l.q
   ·exact absurd hq h
   ·rfl
  ·right; exact ⟨j, by omega, h2⟩
def Out (s : St) (i : Nat) : Prop := ∀ k, (s.lk k).h i = 0 ∧ ∀ m, (i, m) ∉ (s.lk k).q
theorem Inv.not_waiting {s : St} (hs : Inv s) {i : Nat} (hw : (s.tx i).waits = none) (k : Int) (m : Int) : (i, m) ∉ (s.lk k).q := fun hm => by
 have := (hs.queue k i m hm).2
 rw [hw] at this; cases this
theorem look_waits (t : Tx) (lk : Int → Lk) (j : Nat) (k : Int) : (t.look lk j).waits = some k ↔ t.waits = some k ∧ ∃ m, (j, m) ∈ (lk k).q := by
 simp only [Tx.look]
 cases hw : t.waits with
 | none => simp
 | some k' =>
  simp only
  split
  ·rename_i hh
   simp only [List.any_eq_true, beq_iff_eq] at hh
   constructor
   ·intro e
    simp only [Option.some.injEq] at e
    subst e
    obtain ⟨x, h1, h2⟩ := hh
    exact ⟨rfl, x.2, by rw [← h2]; exact h1⟩
   ·rintro ⟨e, _⟩; exact e
  ·rename_i hh
   constructor
   ·intro e; cases e
   ·rintro ⟨e, m, hm⟩
    simp only [Option.some.injEq] at e
    subst e
    exact absurd (List.any_eq_true.mpr ⟨(j, m), hm, by simp⟩) hh
theorem Inv.freed {s : St} (hs : Inv s) (i : Nat) (t : Tx) (r : Int → Option Int) (w : List Nat) (ht : t.stamp = (s.tx i).stamp) (hin : s.n < i → t.waits = none) :
  Inv (St.freed { s with rows := r, tx := upd s.tx i t, wins := w } i) ∧ Out (St.freed { s with rows := r, tx := upd s.tx i t, wins := w } i) i := by
 have st : ∀ j, (upd s.tx i t j).stamp = (s.tx j).stamp := fun j => by
  by_cases e : j = i
  ·subst e; simp [ht]
  ·rw [upd_other _ _ _ _ e]
 have once : ∀ k, ((s.lk k).q.map (·.1)).Nodup := fun k => (hs.row k).once
 have hq : ∀ k j m, (j, m) ∈ ((s.lk k).freed s.n i).q → (j, m) ∈ (s.lk k).q ∧ j ≠ i := fun k j m hm => freed_q hm
 have hh : ∀ k j, ((s.lk k).freed s.n i).h j ≠ 0 → j ≠ i ∧ (((s.lk k).freed s.n i).h j = (s.lk k).h j ∨ (j, ((s.lk k).freed s.n i).h j) ∈ (s.lk k).q) := fun k j hj => freed_h (once k) hj
 refine ⟨⟨fun k => ?_, fun k => settle_still _ _ _, fun k j hj => ?_, fun k j m hm => ?_, fun k j m hm => ?_, fun j k hw => ?_, fun a b h1 h2 h3 => ?_, fun j h1 h2 => ?_, fun j hj => ?_, ?_, fun k => ?_⟩, fun k => ?_⟩
 ·refine ((hs.row k).freed i).mono (Nat.le_refl _) ?_
  intro j p hj hp he
  have hji : j ≠ i := by
   rcases hj with hj | ⟨m, hm⟩
   ·exact (hh k j hj).1
   ·exact (hq k j m hm).2
  simp only [Elder, St.freed, Tx.look]
  rw [st, st]
  rw [upd_other _ _ _ _ hji]
  exact he
 ·have h1 := hh k j hj
  simp only [St.freed, Tx.look]
  rw [upd_other _ _ _ _ h1.1]
  rcases h1.2 with h2 | h2
  ·rw [show (St.freed { s with rows := r, tx := upd s.tx i t, wins := w } i).lk k = (s.lk k).freed s.n i from rfl, h2] at hj
   exact hs.holds k j hj
  ·exact (hs.queue k j _ h2).1
 ·have h1 := hq k j m hm
  have h2 := hs.queue k j m h1.1
  refine ⟨?_, ?_⟩
  ·simp only [St.freed, Tx.look]
   rw [upd_other _ _ _ _ h1.2]
   exact h2.1
  ·simp only [St.freed]
   rw [look_waits, upd_other _ _ _ _ h1.2]
   exact ⟨h2.2, m, hm⟩
 ·have h1 := hq k j m hm
  have h2 := hs.asks k j m h1.1
  simp only [St.freed, Tx.look]
  rw [upd_other _ _ _ _ h1.2]
  exact h2
 ·simp only [St.freed] at hw
  rw [look_waits] at hw
  exact hw.2
 ·simp only [St.freed, Tx.look]
  rw [st, st]
  exact hs.age a b h1 h2 h3
 ·simp only [St.freed, Tx.look]
  rw [st]
  exact hs.late j h1 h2
 ·cases hw : ((St.freed { s with rows := r, tx := upd s.tx i t, wins := w } i).tx j).waits with
  | none => rfl
  | some k =>
   exfalso
   simp only [St.freed] at hw
   rw [look_waits] at hw
   by_cases e : j = i
   ·subst e; simp only [upd_same] at hw; rw [hin hj] at hw; cases hw.1
   ·rw [upd_other _ _ _ _ e, hs.later j hj] at hw; cases hw.1
 ·exact List.Sublist.nodup List.filter_sublist hs.actOnce
 ·simp only [St.freed, List.mem_filter]
  constructor
  ·exact fun h => h.2
  ·intro h
   refine ⟨(hs.act k).mpr ?_, h⟩
   rw [live_iff] at h ⊢
   rcases h with h | ⟨j, h1, h2⟩
   ·left
    cases hc : ((s.lk k).freed s.n i).q with
    | nil => exact absurd hc h
    | cons x l =>
     have := (hq k x.1 x.2 (by rw [hc]; exact List.mem_cons_self)).1
     intro e; rw [e] at this; cases this
   ·rcases (hh k j h2).2 with h3 | h3
    ·right; rw [h3] at h2; exact ⟨j, h1, h2⟩
    ·left; intro e; rw [e] at h3; cases h3
 ·exact ⟨freed_no_h _ _ _ (once k), freed_no _ _ _⟩
theorem Inv.turn {s s' : St} (hs : Inv s) (hn : s'.n = s.n) (hl : s'.lk = s.lk) (ha : s'.act = s.act) (hc : s'.clock = s.clock)
  (h1 : ∀ j, (s'.tx j).stamp = (s.tx j).stamp) (h2 : ∀ j, (s'.tx j).state = (s.tx j).state ∨ Out s j) (h3 : ∀ j, ((s.tx j).wounded = true → (s'.tx j).wounded = true) ∨ Out s j) (h4 : ∀ j, (s'.tx j).waits = (s.tx j).waits)
  (h5 : ∀ j, (s'.tx j).ops = (s.tx j).ops ∧ (s'.tx j).next = (s.tx j).next ∨ (s.tx j).waits = none) : Inv s' := by
 refine ⟨fun k => ?_, fun k => ?_, fun k j hj => ?_, fun k j m hm => ?_, fun k j m hm => ?_, fun j k hw => ?_, fun a b g1 g2 g3 => ?_, fun j g1 g2 => ?_, fun j hj => ?_, ?_, fun k => ?_⟩
 ·rw [hn, hl]
  refine (hs.row k).mono (Nat.le_refl _) ?_
  intro j p hj hp he
  simp only [Elder, h1]
  rcases he with he | he
  ·exact .inl he
  ·rcases h3 j with h3 | h3
   ·exact .inr (h3 he)
   ·exfalso
    rcases hj with hj | ⟨m, hm⟩
    ·exact hj (h3 k).1
    ·exact (h3 k).2 m hm
 ·rw [hn, hl]; exact hs.still k
 ·rw [hl] at hj
  rcases h2 j with h2 | h2
  ·rw [h2]; exact hs.holds k j hj
  ·exact absurd (h2 k).1 hj
 ·rw [hl] at hm
  rw [h4]
  rcases h2 j with h2 | h2
  ·rw [h2]; exact hs.queue k j m hm
  ·exact absurd hm ((h2 k).2 m)
 ·rw [hl] at hm
  rcases h5 j with ⟨e1, e2⟩ | e
  ·simp only [Tx.op]; rw [e1, e2]; exact hs.asks k j m hm
  ·exact absurd hm (hs.not_waiting e k m)
 ·rw [h4] at hw; rw [hl]; exact hs.waits j k hw
 ·rw [h1, h1]; rw [hn] at g3; exact hs.age a b g1 g2 g3
 ·rw [h1, hc]; rw [hn] at g2; exact hs.late j g1 g2
 ·rw [h4]; rw [hn] at hj; exact hs.later j hj
 ·rw [ha]; exact hs.actOnce
 ·rw [ha, hl, hn]; exact hs.act k
theorem addKey_mem (l : List Int) (k k' : Int) : k' ∈ addKey l k ↔ k' ∈ l ∨ k' = k := by
 simp only [addKey]
 split
 ·rename_i h
  simp only [List.contains_eq_mem, decide_eq_true_eq] at h
  constructor
  ·exact .inl
  ·rintro (h1 | rfl)
   ·exact h1
   ·exact h
 ·simp
theorem addKey_once (l : List Int) (k : Int) (h : l.Nodup) : (addKey l k).Nodup := by
 simp only [addKey]
 split
 ·exact h
 ·rename_i hk
  simp only [List.contains_eq_mem, decide_eq_true_eq] at hk
  rw [List.nodup_append]
  exact ⟨h, by simp, by intro a ha b hb; simp at hb; subst hb; exact fun e => hk (e ▸ ha)⟩
theorem Inv.grant {s : St} (hs : Inv s) {i : Nat} {k m : Int} (hi : 1 ≤ i ∧ i ≤ s.n) (hlive : (s.tx i).state = 0) (hm : m = 1 ∨ m = 2) (hq : (s.lk k).q = []) (hh : hind s.n (s.lk k).h i m = false) : Inv (s.grant i k m) := by
 have hf := hind_false.mp hh
 have lk1 : (s.grant i k m).lk k = ⟨upd (s.lk k).h i m, (s.lk k).q⟩ := by simp [St.grant]
 have lk2 : ∀ k', k' ≠ k → (s.grant i k m).lk k' = s.lk k' := fun k' e => by simp [St.grant, upd_other _ _ _ _ e]
 have m0 : m ≠ 0 := by omega
 have hr := hs.row k
 have row1 : RowOk s.n (Elder s.tx) ⟨upd (s.lk k).h i m, (s.lk k).q⟩ := by
  refine ⟨fun j hj => ?_, fun j => ?_, hr.qmode, hr.once, fun a b hab ha hb => ?_, fun l1 p mp l2 e => ?_, fun x hx => ?_⟩
  ·by_cases e : j = i
   ·subst e; exact hi
   ·exact hr.hold j (by simpa [upd_other _ _ _ _ e] using hj)
  ·by_cases e : j = i
   ·subst e; simp only [upd_same]; exact .inr hm
   ·simp only [upd_other _ _ _ _ e]; exact hr.mode j
  ·by_cases ea : a = i
   ·subst ea
    have eb : b ≠ a := fun x => hab x.symm
    simp only [upd_same, upd_other _ _ _ _ eb] at hb ⊢
    rw [conf_comm]
    exact hf b (hr.hold b hb).2 eb hb
   ·by_cases eb : b = i
    ·subst eb
     simp only [upd_same, upd_other _ _ _ _ ea] at ha ⊢
     exact hf a (hr.hold a ha).2 ea ha
    ·simp only [upd_other _ _ _ _ ea, upd_other _ _ _ _ eb] at ha hb ⊢
     exact hr.apart a b hab ha hb
  ·simp only [hq] at e; cases l1 <;> cases e
  ·simp only [hq] at hx; cases hx
 refine ⟨fun k' => ?_, fun k' => ?_, fun k' j hj => ?_, fun k' j m' hm' => ?_, fun k' j m' hm' => ?_, fun j k' hw => ?_, hs.age, hs.late, hs.later, addKey_once _ _ hs.actOnce, fun k' => ?_⟩
 ·by_cases e : k' = k
  ·subst e; rw [lk1]; exact row1
  ·rw [lk2 k' e]; exact hs.row k'
 ·by_cases e : k' = k
  ·subst e; rw [lk1]; intro a b c hc; simp only [hq] at hc; cases hc
  ·rw [lk2 k' e]; exact hs.still k'
 ·by_cases e : k' = k
  ·subst e
   rw [lk1] at hj
   by_cases ej : j = i
   ·subst ej; exact hlive
   ·simp only [upd_other _ _ _ _ ej] at hj; exact hs.holds k' j hj
  ·rw [lk2 k' e] at hj; exact hs.holds k' j hj
 ·have : (j, m') ∈ (s.lk k').q := by
   by_cases e : k' = k
   ·subst e; rw [lk1] at hm'; exact hm'
   ·rw [lk2 k' e] at hm'; exact hm'
  exact hs.queue k' j m' this
 ·have : (j, m') ∈ (s.lk k').q := by
   by_cases e : k' = k
   ·subst e; rw [lk1] at hm'; exact hm'
   ·rw [lk2 k' e] at hm'; exact hm'
  exact hs.asks k' j m' this
 ·obtain ⟨m', h1⟩ := hs.waits j k' hw
  refine ⟨m', ?_⟩
  by_cases e : k' = k
  ·subst e; rw [lk1]; exact h1
  ·rw [lk2 k' e]; exact h1
 ·show k' ∈ addKey s.act k ↔ _
  rw [addKey_mem]
  by_cases e : k' = k
  ·subst e
   rw [lk1, live_iff]
   simp only [or_true, true_iff]
   exact .inr ⟨i, hi.2, by simpa using m0⟩
  ·rw [lk2 k' e]
   simp only [e, or_false]
   exact hs.act k'
theorem Inv.enq {s : St} (hs : Inv s) {i : Nat} {k m : Int} (hi : 1 ≤ i ∧ i ≤ s.n) (hlive : (s.tx i).state = 0) (hw : (s.tx i).waits = none) (hm : m = 1 ∨ m = 2) (hwant : (s.lk k).h i < m)
  (hask : (s.tx i).next < (s.tx i).ops.length ∧ (s.tx i).op.a = k ∧ modeOf (s.tx i).op = m)
  (hh : (s.lk k).q ≠ [] ∨ hind s.n (s.lk k).h i m = true) : Inv (s.enq i k m) := by
 have lk1 : (s.enq i k m).lk k = ⟨(s.lk k).h, (s.lk k).q ++ [(i, m)]⟩ := by simp [St.enq]
 have lk2 : ∀ k', k' ≠ k → (s.enq i k m).lk k' = s.lk k' := fun k' e => by simp [St.enq, upd_other _ _ _ _ e]
 have hr := hs.row k
 have nq : ∀ m', (i, m') ∉ (s.lk k).q := hs.not_waiting hw k
 have stamp : ∀ j, ((s.enq i k m).tx j).stamp = (s.tx j).stamp := fun j => by simp only [St.enq]; split; rfl; split <;> rfl
 have state : ∀ j, ((s.enq i k m).tx j).state = (s.tx j).state := fun j => by simp only [St.enq]; split; rfl; split <;> rfl
 have ops : ∀ j, ((s.enq i k m).tx j).ops = (s.tx j).ops := fun j => by simp only [St.enq]; split; rfl; split <;> rfl
 have next : ∀ j, ((s.enq i k m).tx j).next = (s.tx j).next := fun j => by simp only [St.enq]; split; rfl; split <;> rfl
 have wound : ∀ j, (s.tx j).wounded = true → ((s.enq i k m).tx j).wounded = true := fun j h => by simp only [St.enq]; split; exact h; split; rfl; exact h
 have wi : ((s.enq i k m).tx i).waits = some k := by simp [St.enq]
 have wj : ∀ j, j ≠ i → ((s.enq i k m).tx j).waits = (s.tx j).waits := fun j e => by simp only [St.enq, e, if_false]; split <;> rfl
 have eld : ∀ j p, Elder s.tx j p → Elder (s.enq i k m).tx j p := fun j p h => by
  simp only [Elder, stamp]
  exact h.imp id (wound j)
 have row1 : RowOk s.n (Elder (s.enq i k m).tx) ⟨(s.lk k).h, (s.lk k).q ++ [(i, m)]⟩ := by
  refine ⟨hr.hold, hr.mode, fun x hx => ?_, ?_, hr.apart, fun l1 p mp l2 e j hj hc => ?_, fun x hx => ?_⟩
  ·simp only [List.mem_append, List.mem_singleton] at hx
   rcases hx with hx | rfl
   ·exact hr.qmode x hx
   ·exact ⟨hi, hm⟩
  ·simp only [List.map_append, List.map_cons, List.map_nil]
   rw [List.nodup_append]
   refine ⟨hr.once, by simp, fun a ha b hb => ?_⟩
   simp only [List.mem_singleton] at hb
   subst hb
   intro e
   subst e
   obtain ⟨x, h1, h2⟩ := List.mem_map.mp ha
   exact nq x.2 (by rw [← h2]; exact h1)
  ·simp only at e hc
   rcases List.append_eq_append_iff.mp e with ⟨a, h1, h2⟩ | ⟨a, h1, h2⟩
   ·cases a with
    | nil =>
     simp only [List.append_nil, List.nil_append, List.cons.injEq, Prod.mk.injEq] at h1 h2
     obtain ⟨⟨rfl, rfl⟩, rfl⟩ := h2
     subst h1
     by_cases hst : (s.tx i).stamp < (s.tx j).stamp
     ·right
      have hhit : s.hit i k m j = true := by
       simp only [St.hit, Bool.and_eq_true, Bool.or_eq_true, bne_iff_ne, ne_eq, decide_eq_true_eq, List.any_eq_true, beq_iff_eq]
       refine ⟨⟨hj, hst⟩, ?_⟩
       rcases hc with ⟨h3, h4⟩ | ⟨m', h3, h4⟩
       ·exact .inl ⟨h3, h4⟩
       ·exact .inr ⟨(j, m'), h3, rfl, h4⟩
      simp only [St.enq, if_neg hj, hhit, if_true]
     ·left
      rw [stamp, stamp]
      have hjn : 1 ≤ j ∧ j ≤ s.n := by
       rcases hc with ⟨h3, h4⟩ | ⟨m', h3, h4⟩
       ·exact hr.hold j h3
       ·exact (hr.qmode _ h3).1
      rcases Nat.lt_or_ge i j with h | h
      ·exact absurd (hs.age i j hi.1 h hjn.2) hst
      ·exact hs.age j i hjn.1 (by omega) hi.2
    | cons b a =>
     simp only [List.cons_append, List.cons.injEq] at h2
     exact absurd h2.2 (by simp)
   ·cases a with
    | nil =>
     simp only [List.append_nil, List.nil_append, List.cons.injEq, Prod.mk.injEq] at h1 h2
     obtain ⟨⟨rfl, rfl⟩, rfl⟩ := h2
     subst h1
     by_cases hst : (s.tx p).stamp < (s.tx j).stamp
     ·right
      have hhit : s.hit p k mp j = true := by
       simp only [St.hit, Bool.and_eq_true, Bool.or_eq_true, bne_iff_ne, ne_eq, decide_eq_true_eq, List.any_eq_true, beq_iff_eq]
       refine ⟨⟨hj, hst⟩, ?_⟩
       rcases hc with ⟨h3, h4⟩ | ⟨m', h3, h4⟩
       ·exact .inl ⟨h3, h4⟩
       ·exact .inr ⟨(j, m'), h3, rfl, h4⟩
      simp only [St.enq, if_neg hj, hhit, if_true]
     ·left
      rw [stamp, stamp]
      have hjn : 1 ≤ j ∧ j ≤ s.n := by
       rcases hc with ⟨h3, h4⟩ | ⟨m', h3, h4⟩
       ·exact hr.hold j h3
       ·exact (hr.qmode _ h3).1
      rcases Nat.lt_or_ge p j with h | h
      ·exact absurd (hs.age p j hi.1 h hjn.2) hst
      ·exact hs.age j p hjn.1 (by omega) hi.2
    | cons b a =>
     simp only [List.cons_append, List.cons.injEq] at h2
     obtain ⟨rfl, h2⟩ := h2
     exact eld j p (hr.edge l1 p mp a h1 j hj hc)
  ·simp only [List.mem_append, List.mem_singleton] at hx
   rcases hx with hx | rfl
   ·exact hr.want x hx
   ·exact hwant
 refine ⟨fun k' => ?_, fun k' => ?_, fun k' j hj => ?_, fun k' j m' hm' => ?_, fun k' j m' hm' => ?_, fun j k' hw' => ?_, fun a b g1 g2 g3 => ?_, fun j g1 g2 => ?_, fun j hj => ?_, addKey_once _ _ hs.actOnce, fun k' => ?_⟩
 ·by_cases e : k' = k
  ·subst e; rw [lk1]; exact row1
  ·rw [lk2 k' e]; exact (hs.row k').mono (Nat.le_refl _) (fun j p _ _ h => eld j p h)
 ·by_cases e : k' = k
  ·subst e
   rw [lk1]
   intro a b c hc
   cases hq : (s.lk k').q with
   | nil =>
    rw [hq] at hc hh
    simp only [List.nil_append, List.cons.injEq, Prod.mk.injEq] at hc
    obtain ⟨⟨rfl, rfl⟩, _⟩ := hc
    rcases hh with hh | hh
    ·exact absurd rfl hh
    ·exact hh
   | cons x l =>
    rw [hq] at hc
    simp only [List.cons_append, List.cons.injEq] at hc
    obtain ⟨rfl, _⟩ := hc
    exact hs.still k' a b l hq
  ·rw [lk2 k' e]; exact hs.still k'
 ·rw [state]
  by_cases e : k' = k
  ·subst e; rw [lk1] at hj; exact hs.holds k' j hj
  ·rw [lk2 k' e] at hj; exact hs.holds k' j hj
 ·rw [state]
  by_cases e : k' = k
  ·subst e
   rw [lk1] at hm'
   simp only [List.mem_append, List.mem_singleton, Prod.mk.injEq] at hm'
   rcases hm' with hm' | ⟨rfl, rfl⟩
   ·have hji : j ≠ i := fun e => nq m' (e ▸ hm')
    rw [wj j hji]; exact hs.queue k' j m' hm'
   ·exact ⟨hlive, wi⟩
  ·rw [lk2 k' e] at hm'
   have hji : j ≠ i := fun e => hs.not_waiting hw k' m' (e ▸ hm')
   rw [wj j hji]; exact hs.queue k' j m' hm'
 ·simp only [Tx.op]
  rw [ops, next]
  by_cases e : k' = k
  ·subst e
   rw [lk1] at hm'
   simp only [List.mem_append, List.mem_singleton, Prod.mk.injEq] at hm'
   rcases hm' with hm' | ⟨rfl, rfl⟩
   ·exact hs.asks k' j m' hm'
   ·exact hask
  ·rw [lk2 k' e] at hm'
   exact hs.asks k' j m' hm'
 ·by_cases ej : j = i
  ·subst ej
   rw [wi] at hw'
   simp only [Option.some.injEq] at hw'
   subst hw'
   exact ⟨m, by rw [lk1]; simp⟩
  ·rw [wj j ej] at hw'
   obtain ⟨m', h1⟩ := hs.waits j k' hw'
   refine ⟨m', ?_⟩
   by_cases e : k' = k
   ·subst e; rw [lk1]; simp [h1]
   ·rw [lk2 k' e]; exact h1
 ·rw [stamp, stamp]; exact hs.age a b g1 g2 g3
 ·rw [stamp]; exact hs.late j g1 g2
 ·have hji : j ≠ i := fun e => by subst e; exact absurd hj (Nat.not_lt.mpr hi.2)
  rw [wj j hji]; exact hs.later j hj
 ·show k' ∈ addKey s.act k ↔ _
  rw [addKey_mem]
  by_cases e : k' = k
  ·subst e
   rw [lk1, live_iff]
   simp only [or_true, true_iff]
   left; simp
  ·rw [lk2 k' e]
   simp only [e, or_false]
   exact hs.act k'
end Go.Proofs.YtmcajfefagdbnaaGreat
namespace Go.Proofs.YtmcajfefagdbnaaGreat
open Go Go.RowKit
theorem wmode (o : Op4) (w : World) : Calls Tryz.prog 81 #[.agg #[.int .i64 o.k, .int .i64 o.a, .int .i64 o.b, .int .i64 o.c]] w fun e w' => e = .returned (.int .i64 (modeOf o)) ∧ Kept NoBlk w w' := by
 go_enter Tryz.func81, Tryz.ntmps81
 go_wp2
 all_goals go_ret
 all_goals refine ⟨?_, (Kept.refl _ _).alloc _⟩
 all_goals simp_all [modeOf]
def getL (l : List Row2) (key : Int) : Option Int := (l.find? (fun r => decide (r.k = key))).map (·.v)
theorem rfind_more {l : List Row2} {p : Row2 → Bool} {k : Nat} (hk : k < l.length) (h : (l.take k).find? p = none) (hp : p (l.getD k Row2.z) = false) : (l.take (k + 1)).find? p = none := by
 rw [List.take_succ_eq_append_getElem hk, List.find?_append, h]
 simp only [List.getD, List.getElem?_eq_getElem hk, Option.getD_some] at hp
 simp [hp]
theorem rfind_hit {l : List Row2} {p : Row2 → Bool} {k : Nat} (hk : k < l.length) (h : (l.take k).find? p = none) (hp : p (l.getD k Row2.z) = true) : l.find? p = some (l.getD k Row2.z) := by
 have e : l = l.take k ++ l[k] :: l.drop (k + 1) := by rw [List.getElem_cons_drop, List.take_append_drop]
 simp only [List.getD, List.getElem?_eq_getElem hk, Option.getD_some] at hp ⊢
 have e2 : l.find? p = (l.take k ++ l[k] :: l.drop (k + 1)).find? p := by rw [← e]
 rw [e2, List.find?_append, h, List.find?_cons, hp]
 rfl
set_option maxHeartbeats 800000 in
theorem wget (p : Nat) (l : List Row2) (v : Value) (key : Int) (w : World) (hp : w.cell? ⟨p, 0, none⟩ = some v) (h : RowsSrc w v l) (hn : l.length ≤ 1099511627776) :
    Calls Tryz.prog 118 #[.pointer (some ⟨p, 0, none⟩), .int .i64 key] w fun e w' => e = .returned (.tuple #[.int .i64 ((getL l key).getD 0), .bool (getL l key).isSome]) ∧ Kept NoBlk w w' := by
  obtain ⟨ao, cp, rfl, h⟩ := h
  generalize hn' : l.length = n at h hn hp ⊢
  have Hn : Hid _ := hn'
  clear hn'
  go_enter Tryz.func118, Tryz.ntmps118
  go_wp2
  go_loopw [6] (fun i wr => ∃ k : Nat, k ≤ n ∧ i = .int .i64 k ∧ (l.take k).find? (fun r => decide (r.k = key)) = none ∧ Kept NoBlk w wr) (fun i _ => n - (intOf i).toNat)
  case atStart => exact ⟨0, Nat.zero_le _, rfl, rfl, Kept.refl _ _⟩
  case round =>
    obtain ⟨k, hk, rfl, hf, hkw⟩ := hrel
    have hp' := hkw.cell0 hp
    have Hk : Hid _ := hkw
    have Hf : Hid _ := hf
    by_cases hlt : k < n
    · have hkl : k < l.length := by rw [Hn.out]; exact hlt
      obtain ⟨b, off, rfl, hat⟩ := h (by omega)
      obtain ⟨g0, g1⟩ := (hat.kept hkw (fun x => x)) k hkl
      have Hkl : Hid _ := hkl
      clear hkl h hat hkw hf hp
      generalize hc : l.getD k Row2.z = c at *
      have Hc : Hid _ := hc
      clear hc
      go_wp2_with fail
      all_goals clear g0 g1 hp'
      all_goals first
        | exact ⟨⟨k + 1, by omega, by go_num, rfind_more Hkl.out Hf.out (by rw [Hc.out]; simp_all), Hk.out⟩, by simp [intOf]; omega⟩
        | (go_ret2
           refine ⟨?_, Hk.out⟩
           have := rfind_hit Hkl.out Hf.out (p := fun r => decide (r.k = key)) (by rw [Hc.out]; simp_all)
           rw [Hc.out] at this
           simp [getL, this])
    · obtain rfl : k = n := by omega
      go_wp2_with fail
      go_ret2
      refine ⟨?_, Hk.out⟩
      have := Hf.out
      rw [← Hn.out, List.take_length] at this
      simp [getL, this]
theorem welder (p g n cap i j ti tj : Nat) (si sj : Int) (w : World) (hp : w.cell? ⟨p, 1, none⟩ = some (.slice (some ⟨g, 0, none⟩) n cap)) (hi : i < n) (hj : j < n) (hn : n ≤ 1099511627776)
  (hx : w.cell? ⟨g, i, none⟩ = some (.pointer (some ⟨ti, 0, none⟩))) (hy : w.cell? ⟨g, j, none⟩ = some (.pointer (some ⟨tj, 0, none⟩))) (hs : w.cell? ⟨ti, 0, none⟩ = some (.int .i64 si)) (ht : w.cell? ⟨tj, 0, none⟩ = some (.int .i64 sj)) :
  Calls Tryz.prog 117 #[.pointer (some ⟨p, 0, none⟩), .int .i64 ((i : Int) + 1), .int .i64 ((j : Int) + 1)] w fun e w' => e = .returned (.bool (decide (si < sj))) ∧ Kept NoBlk w w' := by
 go_enter Tryz.func117, Tryz.ntmps117
 have i0 : (0 : Int) ≤ (i : Int) := by omega
 have j0 : (0 : Int) ≤ (j : Int) := by omega
 have i1 : (i : Int) < (n : Int) := by omega
 have j1 : (j : Int) < (n : Int) := by omega
 go_wp2
 go_quiet (fail)
 go_wp2_with fail
 go_ret
 exact ⟨rfl, (Kept.refl _ _).drewN _⟩
theorem wthere_no (p n cap : Nat) (ao : Option Addr) (id : Int) (w : World) (hp : w.cell? ⟨p, 1, none⟩ = some (.slice ao n cap)) (hi : id < 1 ∨ (n : Int) < id) :
  Calls Tryz.prog 78 #[.pointer (some ⟨p, 0, none⟩), .int .i64 id] w fun e w' => e = .returned (.int .i64 5) ∧ Kept NoBlk w w' := by
 by_cases h1 : id < 1
 ·go_enter Tryz.func78, Tryz.ntmps78
  go_wp2
  go_ret
  exact ⟨rfl, Kept.refl _ _⟩
 ·have h2 : (n : Int) < id := by omega
  clear hi
  go_enter Tryz.func78, Tryz.ntmps78
  go_wp2
  go_ret
  exact ⟨rfl, Kept.refl _ _⟩
theorem wthere (p g n cap i t : Nat) (z : Int) (w : World) (hp : w.cell? ⟨p, 1, none⟩ = some (.slice (some ⟨g, 0, none⟩) n cap)) (hi : i < n) (hn : n ≤ 1099511627776)
  (hx : w.cell? ⟨g, i, none⟩ = some (.pointer (some ⟨t, 0, none⟩))) (hs : w.cell? ⟨t, 1, none⟩ = some (.int .i64 z)) :
  Calls Tryz.prog 78 #[.pointer (some ⟨p, 0, none⟩), .int .i64 ((i : Int) + 1)] w fun e w' => e = .returned (.int .i64 (if z = 0 then 0 else 6)) ∧ Kept NoBlk w w' := by
 have h1 : ¬ ((i : Int) + 1 < 1) := by omega
 have h2 : ¬ ((n : Int) < (i : Int) + 1) := by omega
 by_cases hz : z = 0
 ·subst hz
  go_enter Tryz.func78, Tryz.ntmps78
  go_wp2
  go_ret
  exact ⟨rfl, Kept.refl _ _⟩
 ·have hz' : (z == 0) = false := by simp [hz]
  go_enter Tryz.func78, Tryz.ntmps78
  go_wp2
  go_ret
  exact ⟨by simp, Kept.refl _ _⟩
end Go.Proofs.YtmcajfefagdbnaaGreat
namespace Go.Proofs.YtmcajfefagdbnaaGreat
open Go Go.RowKit
def OpsIn (l : List Op4) : Prop := ∀ o ∈ l, inI o.k ∧ inI o.a ∧ inI o.b ∧ inI o.c
end Go.Proofs.YtmcajfefagdbnaaGreat
