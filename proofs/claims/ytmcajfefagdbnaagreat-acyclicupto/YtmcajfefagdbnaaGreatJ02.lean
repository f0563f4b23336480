import Derived.Test.YtmcajfefagdbnaaGreatJ01
namespace Go.Proofs.YtmcajfefagdbnaaGreat

def Elder (tx : Nat → Tx) (j i : Nat) : Prop := (tx j).stamp < (tx i).stamp ∨ (tx j).wounded = true

structure Inv (s : St) : Prop where
  row : ∀ k, RowOk s.n (Elder s.tx) (s.lk k)
  still : ∀ k, RowStill s.n (s.lk k)
  holds : ∀ k j, (s.lk k).h j ≠ 0 → (s.tx j).state = 0
  queue : ∀ k j m, (j, m) ∈ (s.lk k).q → (s.tx j).state = 0 ∧ (s.tx j).waits = some k
  asks : ∀ k j m, (j, m) ∈ (s.lk k).q → (s.tx j).next < (s.tx j).ops.length ∧ (s.tx j).op.a = k ∧ modeOf (s.tx j).op = m
  waits : ∀ j k, (s.tx j).waits = some k → ∃ m, (j, m) ∈ (s.lk k).q
  age : ∀ i j, 1 ≤ i → i < j → j ≤ s.n → (s.tx i).stamp < (s.tx j).stamp
  late : ∀ j, 1 ≤ j → j ≤ s.n → (s.tx j).stamp ≤ s.clock
  later : ∀ j, s.n < j → (s.tx j).waits = none
  actOnce : s.act.Nodup
  act : ∀ k, k ∈ s.act ↔ (s.lk k).live s.n = true

theorem live_iff (l : Lk) (n : Nat) : l.live n = true ↔ l.q ≠ [] ∨ ∃ j, j ≤ n ∧ l.h j ≠ 0 := by
  simp only [Lk.live, Bool.or_eq_true, Bool.not_eq_true', List.any_eq_true, List.mem_range, bne_iff_ne, ne_eq]
  constructor
  · rintro (h | ⟨j, h1, h2⟩)
    · left; intro e; rw [e] at h; simp at h
    · right; exact ⟨j, by omega, h2⟩
  · rintro (h | ⟨j, h1, h2⟩)
    · left; cases hq : l.q
      · exact absurd hq h
      · rfl
    · right; exact ⟨j, by omega, h2⟩

/-- One is in no row. -/
def Out (s : St) (i : Nat) : Prop := ∀ k, (s.lk k).h i = 0 ∧ ∀ m, (i, m) ∉ (s.lk k).q

theorem Inv.not_waiting {s : St} (hs : Inv s) {i : Nat} (hw : (s.tx i).waits = none) (k : Int) (m : Int) : (i, m) ∉ (s.lk k).q := fun hm => by
  have := (hs.queue k i m hm).2
  rw [hw] at this; cases this

theorem look_waits (t : Tx) (lk : Int → Lk) (j : Nat) (k : Int) : (t.look lk j).waits = some k ↔ t.waits = some k ∧ ∃ m, (j, m) ∈ (lk k).q := by
  simp only [Tx.look]
  cases hw : t.waits with
  | none => simp
  | some k' =>
    simp only
    split
    · rename_i hh
      simp only [List.any_eq_true, beq_iff_eq] at hh
      constructor
      · intro e
        simp only [Option.some.injEq] at e
        subst e
        obtain ⟨x, h1, h2⟩ := hh
        exact ⟨rfl, x.2, by rw [← h2]; exact h1⟩
      · rintro ⟨e, _⟩; exact e
    · rename_i hh
      constructor
      · intro e; cases e
      · rintro ⟨e, m, hm⟩
        simp only [Option.some.injEq] at e
        subst e
        exact absurd (List.any_eq_true.mpr ⟨(j, m), hm, by simp⟩) hh

/-- A transaction lets all go, having turned as it likes (but for its stamp). -/
theorem Inv.freed {s : St} (hs : Inv s) (i : Nat) (t : Tx) (r : Int → Option Int) (w : List Nat) (ht : t.stamp = (s.tx i).stamp) (hin : s.n < i → t.waits = none) :
    Inv (St.freed { s with rows := r, tx := upd s.tx i t, wins := w } i) ∧ Out (St.freed { s with rows := r, tx := upd s.tx i t, wins := w } i) i := by
  have st : ∀ j, (upd s.tx i t j).stamp = (s.tx j).stamp := fun j => by
    by_cases e : j = i
    · subst e; simp [ht]
    · rw [upd_other _ _ _ _ e]
  have once : ∀ k, ((s.lk k).q.map (·.1)).Nodup := fun k => (hs.row k).once
  have hq : ∀ k j m, (j, m) ∈ ((s.lk k).freed s.n i).q → (j, m) ∈ (s.lk k).q ∧ j ≠ i := fun k j m hm => freed_q hm
  have hh : ∀ k j, ((s.lk k).freed s.n i).h j ≠ 0 → j ≠ i ∧ (((s.lk k).freed s.n i).h j = (s.lk k).h j ∨ (j, ((s.lk k).freed s.n i).h j) ∈ (s.lk k).q) := fun k j hj => freed_h (once k) hj
  refine ⟨⟨fun k => ?_, fun k => settle_still _ _ _, fun k j hj => ?_, fun k j m hm => ?_, fun k j m hm => ?_, fun j k hw => ?_, fun a b h1 h2 h3 => ?_, fun j h1 h2 => ?_, fun j hj => ?_, ?_, fun k => ?_⟩, fun k => ?_⟩
  · refine ((hs.row k).freed i).mono (Nat.le_refl _) ?_
    intro j p hj hp he
    have hji : j ≠ i := by
      rcases hj with hj | ⟨m, hm⟩
      · exact (hh k j hj).1
      · exact (hq k j m hm).2
    simp only [Elder, St.freed, Tx.look]
    rw [st, st]
    rw [upd_other _ _ _ _ hji]
    exact he
  · have h1 := hh k j hj
    simp only [St.freed, Tx.look]
    rw [upd_other _ _ _ _ h1.1]
    rcases h1.2 with h2 | h2
    · rw [show (St.freed { s with rows := r, tx := upd s.tx i t, wins := w } i).lk k = (s.lk k).freed s.n i from rfl, h2] at hj
      exact hs.holds k j hj
    · exact (hs.queue k j _ h2).1
  · have h1 := hq k j m hm
    have h2 := hs.queue k j m h1.1
    refine ⟨?_, ?_⟩
    · simp only [St.freed, Tx.look]
      rw [upd_other _ _ _ _ h1.2]
      exact h2.1
    · simp only [St.freed]
      rw [look_waits, upd_other _ _ _ _ h1.2]
      exact ⟨h2.2, m, hm⟩
  · have h1 := hq k j m hm
    have h2 := hs.asks k j m h1.1
    simp only [St.freed, Tx.look]
    rw [upd_other _ _ _ _ h1.2]
    exact h2
  · simp only [St.freed] at hw
    rw [look_waits] at hw
    exact hw.2
  · simp only [St.freed, Tx.look]
    rw [st, st]
    exact hs.age a b h1 h2 h3
  · simp only [St.freed, Tx.look]
    rw [st]
    exact hs.late j h1 h2
  · cases hw : ((St.freed { s with rows := r, tx := upd s.tx i t, wins := w } i).tx j).waits with
    | none => rfl
    | some k =>
      exfalso
      simp only [St.freed] at hw
      rw [look_waits] at hw
      by_cases e : j = i
      · subst e; simp only [upd_same] at hw; rw [hin hj] at hw; cases hw.1
      · rw [upd_other _ _ _ _ e, hs.later j hj] at hw; cases hw.1
  · exact List.Sublist.nodup List.filter_sublist hs.actOnce
  · simp only [St.freed, List.mem_filter]
    constructor
    · exact fun h => h.2
    · intro h
      refine ⟨(hs.act k).mpr ?_, h⟩
      rw [live_iff] at h ⊢
      rcases h with h | ⟨j, h1, h2⟩
      · left
        cases hc : ((s.lk k).freed s.n i).q with
        | nil => exact absurd hc h
        | cons x l =>
          have := (hq k x.1 x.2 (by rw [hc]; exact List.mem_cons_self)).1
          intro e; rw [e] at this; cases this
      · rcases (hh k j h2).2 with h3 | h3
        · right; rw [h3] at h2; exact ⟨j, h1, h2⟩
        · left; intro e; rw [e] at h3; cases h3
  · exact ⟨freed_no_h _ _ _ (once k), freed_no _ _ _⟩

/-- Changes that touch no lock. -/
theorem Inv.turn {s s' : St} (hs : Inv s) (hn : s'.n = s.n) (hl : s'.lk = s.lk) (ha : s'.act = s.act) (hc : s'.clock = s.clock)
    (h1 : ∀ j, (s'.tx j).stamp = (s.tx j).stamp) (h2 : ∀ j, (s'.tx j).state = (s.tx j).state ∨ Out s j) (h3 : ∀ j, ((s.tx j).wounded = true → (s'.tx j).wounded = true) ∨ Out s j) (h4 : ∀ j, (s'.tx j).waits = (s.tx j).waits)
    (h5 : ∀ j, (s'.tx j).ops = (s.tx j).ops ∧ (s'.tx j).next = (s.tx j).next ∨ (s.tx j).waits = none) : Inv s' := by
  refine ⟨fun k => ?_, fun k => ?_, fun k j hj => ?_, fun k j m hm => ?_, fun k j m hm => ?_, fun j k hw => ?_, fun a b g1 g2 g3 => ?_, fun j g1 g2 => ?_, fun j hj => ?_, ?_, fun k => ?_⟩
  · rw [hn, hl]
    refine (hs.row k).mono (Nat.le_refl _) ?_
    intro j p hj hp he
    simp only [Elder, h1]
    rcases he with he | he
    · exact .inl he
    · rcases h3 j with h3 | h3
      · exact .inr (h3 he)
      · exfalso
        rcases hj with hj | ⟨m, hm⟩
        · exact hj (h3 k).1
        · exact (h3 k).2 m hm
  · rw [hn, hl]; exact hs.still k
  · rw [hl] at hj
    rcases h2 j with h2 | h2
    · rw [h2]; exact hs.holds k j hj
    · exact absurd (h2 k).1 hj
  · rw [hl] at hm
    rw [h4]
    rcases h2 j with h2 | h2
    · rw [h2]; exact hs.queue k j m hm
    · exact absurd hm ((h2 k).2 m)
  · rw [hl] at hm
    rcases h5 j with ⟨e1, e2⟩ | e
    · simp only [Tx.op]; rw [e1, e2]; exact hs.asks k j m hm
    · exact absurd hm (hs.not_waiting e k m)
  · rw [h4] at hw; rw [hl]; exact hs.waits j k hw
  · rw [h1, h1]; rw [hn] at g3; exact hs.age a b g1 g2 g3
  · rw [h1, hc]; rw [hn] at g2; exact hs.late j g1 g2
  · rw [h4]; rw [hn] at hj; exact hs.later j hj
  · rw [ha]; exact hs.actOnce
  · rw [ha, hl, hn]; exact hs.act k

theorem addKey_mem (l : List Int) (k k' : Int) : k' ∈ addKey l k ↔ k' ∈ l ∨ k' = k := by
  simp only [addKey]
  split
  · rename_i h
    simp only [List.contains_eq_mem, decide_eq_true_eq] at h
    constructor
    · exact .inl
    · rintro (h1 | rfl)
      · exact h1
      · exact h
  · simp

theorem addKey_once (l : List Int) (k : Int) (h : l.Nodup) : (addKey l k).Nodup := by
  simp only [addKey]
  split
  · exact h
  · rename_i hk
    simp only [List.contains_eq_mem, decide_eq_true_eq] at hk
    rw [List.nodup_append]
    exact ⟨h, by simp, by intro a ha b hb; simp at hb; subst hb; exact fun e => hk (e ▸ ha)⟩

theorem Inv.grant {s : St} (hs : Inv s) {i : Nat} {k m : Int} (hi : 1 ≤ i ∧ i ≤ s.n) (hlive : (s.tx i).state = 0) (hm : m = 1 ∨ m = 2) (hq : (s.lk k).q = []) (hh : hind s.n (s.lk k).h i m = false) : Inv (s.grant i k m) := by
  have hf := hind_false.mp hh
  have lk1 : (s.grant i k m).lk k = ⟨upd (s.lk k).h i m, (s.lk k).q⟩ := by simp [St.grant]
  have lk2 : ∀ k', k' ≠ k → (s.grant i k m).lk k' = s.lk k' := fun k' e => by simp [St.grant, upd_other _ _ _ _ e]
  have m0 : m ≠ 0 := by omega
  have hr := hs.row k
  have row1 : RowOk s.n (Elder s.tx) ⟨upd (s.lk k).h i m, (s.lk k).q⟩ := by
    refine ⟨fun j hj => ?_, fun j => ?_, hr.qmode, hr.once, fun a b hab ha hb => ?_, fun l1 p mp l2 e => ?_, fun x hx => ?_⟩
    · by_cases e : j = i
      · subst e; exact hi
      · exact hr.hold j (by simpa [upd_other _ _ _ _ e] using hj)
    · by_cases e : j = i
      · subst e; simp only [upd_same]; exact .inr hm
      · simp only [upd_other _ _ _ _ e]; exact hr.mode j
    · by_cases ea : a = i
      · subst ea
        have eb : b ≠ a := fun x => hab x.symm
        simp only [upd_same, upd_other _ _ _ _ eb] at hb ⊢
        rw [conf_comm]
        exact hf b (hr.hold b hb).2 eb hb
      · by_cases eb : b = i
        · subst eb
          simp only [upd_same, upd_other _ _ _ _ ea] at ha ⊢
          exact hf a (hr.hold a ha).2 ea ha
        · simp only [upd_other _ _ _ _ ea, upd_other _ _ _ _ eb] at ha hb ⊢
          exact hr.apart a b hab ha hb
    · simp only [hq] at e; cases l1 <;> cases e
    · simp only [hq] at hx; cases hx
  refine ⟨fun k' => ?_, fun k' => ?_, fun k' j hj => ?_, fun k' j m' hm' => ?_, fun k' j m' hm' => ?_, fun j k' hw => ?_, hs.age, hs.late, hs.later, addKey_once _ _ hs.actOnce, fun k' => ?_⟩
  · by_cases e : k' = k
    · subst e; rw [lk1]; exact row1
    · rw [lk2 k' e]; exact hs.row k'
  · by_cases e : k' = k
    · subst e; rw [lk1]; intro a b c hc; simp only [hq] at hc; cases hc
    · rw [lk2 k' e]; exact hs.still k'
  · by_cases e : k' = k
    · subst e
      rw [lk1] at hj
      by_cases ej : j = i
      · subst ej; exact hlive
      · simp only [upd_other _ _ _ _ ej] at hj; exact hs.holds k' j hj
    · rw [lk2 k' e] at hj; exact hs.holds k' j hj
  · have : (j, m') ∈ (s.lk k').q := by
      by_cases e : k' = k
      · subst e; rw [lk1] at hm'; exact hm'
      · rw [lk2 k' e] at hm'; exact hm'
    exact hs.queue k' j m' this
  · have : (j, m') ∈ (s.lk k').q := by
      by_cases e : k' = k
      · subst e; rw [lk1] at hm'; exact hm'
      · rw [lk2 k' e] at hm'; exact hm'
    exact hs.asks k' j m' this
  · obtain ⟨m', h1⟩ := hs.waits j k' hw
    refine ⟨m', ?_⟩
    by_cases e : k' = k
    · subst e; rw [lk1]; exact h1
    · rw [lk2 k' e]; exact h1
  · show k' ∈ addKey s.act k ↔ _
    rw [addKey_mem]
    by_cases e : k' = k
    · subst e
      rw [lk1, live_iff]
      simp only [or_true, true_iff]
      exact .inr ⟨i, hi.2, by simpa using m0⟩
    · rw [lk2 k' e]
      simp only [e, or_false]
      exact hs.act k'

theorem Inv.enq {s : St} (hs : Inv s) {i : Nat} {k m : Int} (hi : 1 ≤ i ∧ i ≤ s.n) (hlive : (s.tx i).state = 0) (hw : (s.tx i).waits = none) (hm : m = 1 ∨ m = 2) (hwant : (s.lk k).h i < m)
    (hask : (s.tx i).next < (s.tx i).ops.length ∧ (s.tx i).op.a = k ∧ modeOf (s.tx i).op = m)
    (hh : (s.lk k).q ≠ [] ∨ hind s.n (s.lk k).h i m = true) : Inv (s.enq i k m) := by
  have lk1 : (s.enq i k m).lk k = ⟨(s.lk k).h, (s.lk k).q ++ [(i, m)]⟩ := by simp [St.enq]
  have lk2 : ∀ k', k' ≠ k → (s.enq i k m).lk k' = s.lk k' := fun k' e => by simp [St.enq, upd_other _ _ _ _ e]
  have hr := hs.row k
  have nq : ∀ m', (i, m') ∉ (s.lk k).q := hs.not_waiting hw k
  have stamp : ∀ j, ((s.enq i k m).tx j).stamp = (s.tx j).stamp := fun j => by simp only [St.enq]; split; rfl; split <;> rfl
  have state : ∀ j, ((s.enq i k m).tx j).state = (s.tx j).state := fun j => by simp only [St.enq]; split; rfl; split <;> rfl
  have ops : ∀ j, ((s.enq i k m).tx j).ops = (s.tx j).ops := fun j => by simp only [St.enq]; split; rfl; split <;> rfl
  have next : ∀ j, ((s.enq i k m).tx j).next = (s.tx j).next := fun j => by simp only [St.enq]; split; rfl; split <;> rfl
  have wound : ∀ j, (s.tx j).wounded = true → ((s.enq i k m).tx j).wounded = true := fun j h => by simp only [St.enq]; split; exact h; split; rfl; exact h
  have wi : ((s.enq i k m).tx i).waits = some k := by simp [St.enq]
  have wj : ∀ j, j ≠ i → ((s.enq i k m).tx j).waits = (s.tx j).waits := fun j e => by simp only [St.enq, e, if_false]; split <;> rfl
  have eld : ∀ j p, Elder s.tx j p → Elder (s.enq i k m).tx j p := fun j p h => by
    simp only [Elder, stamp]
    exact h.imp id (wound j)
  have row1 : RowOk s.n (Elder (s.enq i k m).tx) ⟨(s.lk k).h, (s.lk k).q ++ [(i, m)]⟩ := by
    refine ⟨hr.hold, hr.mode, fun x hx => ?_, ?_, hr.apart, fun l1 p mp l2 e j hj hc => ?_, fun x hx => ?_⟩
    · simp only [List.mem_append, List.mem_singleton] at hx
      rcases hx with hx | rfl
      · exact hr.qmode x hx
      · exact ⟨hi, hm⟩
    · simp only [List.map_append, List.map_cons, List.map_nil]
      rw [List.nodup_append]
      refine ⟨hr.once, by simp, fun a ha b hb => ?_⟩
      simp only [List.mem_singleton] at hb
      subst hb
      intro e
      subst e
      obtain ⟨x, h1, h2⟩ := List.mem_map.mp ha
      exact nq x.2 (by rw [← h2]; exact h1)
    · simp only at e hc
      rcases List.append_eq_append_iff.mp e with ⟨a, h1, h2⟩ | ⟨a, h1, h2⟩
      · cases a with
        | nil =>
          simp only [List.append_nil, List.nil_append, List.cons.injEq, Prod.mk.injEq] at h1 h2
          obtain ⟨⟨rfl, rfl⟩, rfl⟩ := h2
          subst h1
          by_cases hst : (s.tx i).stamp < (s.tx j).stamp
          · right
            have hhit : s.hit i k m j = true := by
              simp only [St.hit, Bool.and_eq_true, Bool.or_eq_true, bne_iff_ne, ne_eq, decide_eq_true_eq, List.any_eq_true, beq_iff_eq]
              refine ⟨⟨hj, hst⟩, ?_⟩
              rcases hc with ⟨h3, h4⟩ | ⟨m', h3, h4⟩
              · exact .inl ⟨h3, h4⟩
              · exact .inr ⟨(j, m'), h3, rfl, h4⟩
            simp only [St.enq, if_neg hj, hhit, if_true]
          · left
            rw [stamp, stamp]
            have hjn : 1 ≤ j ∧ j ≤ s.n := by
              rcases hc with ⟨h3, h4⟩ | ⟨m', h3, h4⟩
              · exact hr.hold j h3
              · exact (hr.qmode _ h3).1
            rcases Nat.lt_or_ge i j with h | h
            · exact absurd (hs.age i j hi.1 h hjn.2) hst
            · exact hs.age j i hjn.1 (by omega) hi.2
        | cons b a =>
          simp only [List.cons_append, List.cons.injEq] at h2
          exact absurd h2.2 (by simp)
      · cases a with
        | nil =>
          simp only [List.append_nil, List.nil_append, List.cons.injEq, Prod.mk.injEq] at h1 h2
          obtain ⟨⟨rfl, rfl⟩, rfl⟩ := h2
          subst h1
          by_cases hst : (s.tx p).stamp < (s.tx j).stamp
          · right
            have hhit : s.hit p k mp j = true := by
              simp only [St.hit, Bool.and_eq_true, Bool.or_eq_true, bne_iff_ne, ne_eq, decide_eq_true_eq, List.any_eq_true, beq_iff_eq]
              refine ⟨⟨hj, hst⟩, ?_⟩
              rcases hc with ⟨h3, h4⟩ | ⟨m', h3, h4⟩
              · exact .inl ⟨h3, h4⟩
              · exact .inr ⟨(j, m'), h3, rfl, h4⟩
            simp only [St.enq, if_neg hj, hhit, if_true]
          · left
            rw [stamp, stamp]
            have hjn : 1 ≤ j ∧ j ≤ s.n := by
              rcases hc with ⟨h3, h4⟩ | ⟨m', h3, h4⟩
              · exact hr.hold j h3
              · exact (hr.qmode _ h3).1
            rcases Nat.lt_or_ge p j with h | h
            · exact absurd (hs.age p j hi.1 h hjn.2) hst
            · exact hs.age j p hjn.1 (by omega) hi.2
        | cons b a =>
          simp only [List.cons_append, List.cons.injEq] at h2
          obtain ⟨rfl, h2⟩ := h2
          exact eld j p (hr.edge l1 p mp a h1 j hj hc)
    · simp only [List.mem_append, List.mem_singleton] at hx
      rcases hx with hx | rfl
      · exact hr.want x hx
      · exact hwant
  refine ⟨fun k' => ?_, fun k' => ?_, fun k' j hj => ?_, fun k' j m' hm' => ?_, fun k' j m' hm' => ?_, fun j k' hw' => ?_, fun a b g1 g2 g3 => ?_, fun j g1 g2 => ?_, fun j hj => ?_, addKey_once _ _ hs.actOnce, fun k' => ?_⟩
  · by_cases e : k' = k
    · subst e; rw [lk1]; exact row1
    · rw [lk2 k' e]; exact (hs.row k').mono (Nat.le_refl _) (fun j p _ _ h => eld j p h)
  · by_cases e : k' = k
    · subst e
      rw [lk1]
      intro a b c hc
      cases hq : (s.lk k').q with
      | nil =>
        rw [hq] at hc hh
        simp only [List.nil_append, List.cons.injEq, Prod.mk.injEq] at hc
        obtain ⟨⟨rfl, rfl⟩, _⟩ := hc
        rcases hh with hh | hh
        · exact absurd rfl hh
        · exact hh
      | cons x l =>
        rw [hq] at hc
        simp only [List.cons_append, List.cons.injEq] at hc
        obtain ⟨rfl, _⟩ := hc
        exact hs.still k' a b l hq
    · rw [lk2 k' e]; exact hs.still k'
  · rw [state]
    by_cases e : k' = k
    · subst e; rw [lk1] at hj; exact hs.holds k' j hj
    · rw [lk2 k' e] at hj; exact hs.holds k' j hj
  · rw [state]
    by_cases e : k' = k
    · subst e
      rw [lk1] at hm'
      simp only [List.mem_append, List.mem_singleton, Prod.mk.injEq] at hm'
      rcases hm' with hm' | ⟨rfl, rfl⟩
      · have hji : j ≠ i := fun e => nq m' (e ▸ hm')
        rw [wj j hji]; exact hs.queue k' j m' hm'
      · exact ⟨hlive, wi⟩
    · rw [lk2 k' e] at hm'
      have hji : j ≠ i := fun e => hs.not_waiting hw k' m' (e ▸ hm')
      rw [wj j hji]; exact hs.queue k' j m' hm'
  · simp only [Tx.op]
    rw [ops, next]
    by_cases e : k' = k
    · subst e
      rw [lk1] at hm'
      simp only [List.mem_append, List.mem_singleton, Prod.mk.injEq] at hm'
      rcases hm' with hm' | ⟨rfl, rfl⟩
      · exact hs.asks k' j m' hm'
      · exact hask
    · rw [lk2 k' e] at hm'
      exact hs.asks k' j m' hm'
  · by_cases ej : j = i
    · subst ej
      rw [wi] at hw'
      simp only [Option.some.injEq] at hw'
      subst hw'
      exact ⟨m, by rw [lk1]; simp⟩
    · rw [wj j ej] at hw'
      obtain ⟨m', h1⟩ := hs.waits j k' hw'
      refine ⟨m', ?_⟩
      by_cases e : k' = k
      · subst e; rw [lk1]; simp [h1]
      · rw [lk2 k' e]; exact h1
  · rw [stamp, stamp]; exact hs.age a b g1 g2 g3
  · rw [stamp]; exact hs.late j g1 g2
  · have hji : j ≠ i := fun e => by subst e; exact absurd hj (Nat.not_lt.mpr hi.2)
    rw [wj j hji]; exact hs.later j hj
  · show k' ∈ addKey s.act k ↔ _
    rw [addKey_mem]
    by_cases e : k' = k
    · subst e
      rw [lk1, live_iff]
      simp only [or_true, true_iff]
      left; simp
    · rw [lk2 k' e]
      simp only [e, or_false]
      exact hs.act k'

end Go.Proofs.YtmcajfefagdbnaaGreat

namespace Go.Proofs.YtmcajfefagdbnaaGreat

theorem modeOf_cases (o : Op4) : modeOf o = 0 ∨ modeOf o = 1 ∨ modeOf o = 2 := by
  simp only [modeOf]; split; simp; split <;> simp

theorem modeOf_pos {o : Op4} (h : 0 < modeOf o) : modeOf o = 1 ∨ modeOf o = 2 := by
  rcases modeOf_cases o with e | e
  · omega
  · exact e

theorem Inv.undone {s : St} (hs : Inv s) (i : Nat) : Inv (s.undone i) ∧ Out (s.undone i) i := hs.freed i (s.tx i).anew (back s.rows (s.tx i).undo) s.wins rfl (fun _ => rfl)

theorem Inv.setTx {s : St} (hs : Inv s) (i : Nat) (f : Tx → Tx) (h1 : (f (s.tx i)).stamp = (s.tx i).stamp) (h2 : (f (s.tx i)).state = (s.tx i).state ∨ Out s i) (h3 : (f (s.tx i)).wounded = (s.tx i).wounded) (h4 : (f (s.tx i)).waits = (s.tx i).waits)
    (h5 : (f (s.tx i)).ops = (s.tx i).ops ∧ (f (s.tx i)).next = (s.tx i).next ∨ (s.tx i).waits = none) (r : Int → Option Int) : Inv { s.setTx i f with rows := r } := by
  have k0 : ({ s.setTx i f with rows := r } : St).tx i = f (s.tx i) := upd_same _ _ _
  have k1 : ∀ j, j ≠ i → ({ s.setTx i f with rows := r } : St).tx j = s.tx j := fun j e => upd_other _ _ _ _ e
  refine hs.turn rfl rfl rfl rfl (fun j => ?_) (fun j => ?_) (fun j => ?_) (fun j => ?_) (fun j => ?_)
  · by_cases e : j = i
    · rw [e, k0]; exact h1
    · rw [k1 j e]
  · by_cases e : j = i
    · rw [e, k0]; exact h2
    · rw [k1 j e]; exact .inl rfl
  · by_cases e : j = i
    · rw [e, k0]; exact .inl (fun h => by rw [h3]; exact h)
    · rw [k1 j e]; exact .inl (fun h => h)
  · by_cases e : j = i
    · rw [e, k0]; exact h4
    · rw [k1 j e]
  · by_cases e : j = i
    · rw [e, k0]; exact h5
    · rw [k1 j e]; exact .inl ⟨rfl, rfl⟩

theorem Inv.setTx' {s : St} (hs : Inv s) (i : Nat) (f : Tx → Tx) (h1 : (f (s.tx i)).stamp = (s.tx i).stamp) (h2 : (f (s.tx i)).state = (s.tx i).state ∨ Out s i) (h3 : (f (s.tx i)).wounded = (s.tx i).wounded) (h4 : (f (s.tx i)).waits = (s.tx i).waits)
    (h5 : (f (s.tx i)).ops = (s.tx i).ops ∧ (f (s.tx i)).next = (s.tx i).next ∨ (s.tx i).waits = none) : Inv (s.setTx i f) := hs.setTx i f h1 h2 h3 h4 h5 s.rows

theorem Inv.again {s : St} (hs : Inv s) (i : Nat) : Inv (s.again i) := (hs.undone i).1.setTx' i _ rfl (.inl rfl) rfl rfl (.inl ⟨rfl, rfl⟩)
theorem Inv.fell {s : St} (hs : Inv s) (i : Nat) (z : Int) : Inv (s.fell i z) := (hs.undone i).1.setTx' i _ rfl (.inr (hs.undone i).2) rfl rfl (.inl ⟨rfl, rfl⟩)

theorem Inv.commit {s : St} (hs : Inv s) {i : Nat} (hi : i ≤ s.n) : Inv (s.commit i) ∧ Out (s.commit i) i :=
  hs.freed i { s.tx i with state := 1 } s.rows (s.wins ++ [i]) rfl (fun h => absurd h (Nat.not_lt.mpr hi))

theorem Inv.doOp {s : St} (hs : Inv s) (i : Nat) (o : Op4) (hw : (s.tx i).waits = none) : Inv (s.doOp i o) := by
  simp only [St.doOp]
  split
  · exact hs.setTx' i _ rfl (.inl rfl) rfl rfl (.inr hw)
  split
  · exact hs.setTx i _ rfl (.inl rfl) rfl rfl (.inr hw) _
  split
  · exact hs.setTx i _ rfl (.inl rfl) rfl rfl (.inr hw) _
  split
  · exact hs.setTx' i _ rfl (.inl rfl) rfl rfl (.inr hw)
  · exact hs.setTx' i _ rfl (.inl rfl) rfl rfl (.inr hw)

theorem Inv.actOn {s : St} (hs : Inv s) (i : Nat) (o : Op4) (hw : (s.tx i).waits = none) : Inv (s.actOn i o).1 := by
  simp only [St.actOn]
  split
  · exact hs.fell i 2
  · exact hs.doOp i o hw

theorem Inv.go {s : St} (hs : Inv s) {i : Nat} (hi : 1 ≤ i ∧ i ≤ s.n) (hl : (s.tx i).state = 0) (hx : (s.tx i).next ≤ (s.tx i).ops.length) : Inv (s.go i).1 := by
  simp only [St.go]
  split
  · exact hs.again i
  split
  · exact hs
  split
  · exact (hs.commit hi.2).1
  rename_i hw hn
  have hw' : (s.tx i).waits = none := by simpa using hw
  split
  · rename_i hm
    split
    · exact hs.fell i 3
    split
    · rename_i hf
      simp only [Bool.and_eq_true, List.isEmpty_iff, Bool.not_eq_true'] at hf
      exact (hs.grant hi hl (modeOf_pos hm.1) hf.1 hf.2).actOn i _ hw'
    · rename_i hf
      simp only [Bool.and_eq_true, List.isEmpty_iff, Bool.not_eq_true', not_and, Bool.not_eq_false] at hf
      refine hs.enq hi hl hw' (modeOf_pos hm.1) hm.2 ⟨by omega, rfl, rfl⟩ ?_
      by_cases hq : (s.lk (s.tx i).op.a).q = []
      · exact .inr (hf hq)
      · exact .inl hq
  · exact hs.actOn i _ hw'

/-- What stands of a transaction, but its wound and what it waits for. -/
def Tx.base (t : Tx) : Tx := { t with wounded := false, waits := none }

/-- What a step of i does to another one. -/
structure Oth (s s' : St) (i j : Nat) : Prop where
  base : (s'.tx j).base = (s.tx j).base
  wound : (s'.tx j).wounded = (s.tx j).wounded ∨ ((s'.tx j).wounded = true ∧ (s.tx i).stamp < (s.tx j).stamp)
  waits : (s'.tx j).waits = (s.tx j).waits ∨ (s'.tx j).waits = none

theorem look_oth (t : Tx) (lk : Int → Lk) (j : Nat) : (t.look lk j).base = t.base ∧ (t.look lk j).wounded = t.wounded ∧ ((t.look lk j).waits = t.waits ∨ (t.look lk j).waits = none) := by
  refine ⟨rfl, rfl, ?_⟩
  simp only [Tx.look]
  cases t.waits with
  | none => exact .inl rfl
  | some k => simp only; split; exact .inl rfl; exact .inr rfl

theorem freed_oth (s s' : St) (i j : Nat) (h : s'.tx j = s.tx j) : Oth s (s'.freed i) i j := by
  have := look_oth (s'.tx j) (fun k => (s'.lk k).freed s'.n i) j
  rw [h] at this
  simp only [St.freed]
  exact ⟨by show (Tx.look _ _ _).base = _; rw [h]; exact this.1, by left; show (Tx.look _ _ _).wounded = _; rw [h]; exact this.2.1, by show (Tx.look _ _ _).waits = _ ∨ (Tx.look _ _ _).waits = _; rw [h]; exact this.2.2⟩

theorem undone_oth (s : St) {i j : Nat} (h : j ≠ i) : Oth s (s.undone i) i j := freed_oth s _ i j (upd_other _ _ _ _ h)
theorem setTx_tx (s : St) {i j : Nat} (f : Tx → Tx) (h : j ≠ i) : (s.setTx i f).tx j = s.tx j := upd_other _ _ _ _ h
theorem Oth.eq {s s' s'' : St} {i j : Nat} (h : Oth s s' i j) (e : s''.tx j = s'.tx j) : Oth s s'' i j := ⟨by rw [e]; exact h.base, by rw [e]; exact h.wound, by rw [e]; exact h.waits⟩
theorem Oth.refl {s s' : St} {i j : Nat} (e : s'.tx j = s.tx j) : Oth s s' i j := ⟨by rw [e], by rw [e]; exact .inl rfl, by rw [e]; exact .inl rfl⟩

theorem doOp_tx (s : St) {i j : Nat} (o : Op4) (h : j ≠ i) : (s.doOp i o).tx j = s.tx j := by
  simp only [St.doOp]
  split
  · exact upd_other _ _ _ _ h
  split
  · exact upd_other _ _ _ _ h
  split
  · exact upd_other _ _ _ _ h
  split <;> exact upd_other _ _ _ _ h

theorem fell_oth (s : St) {i j : Nat} (z : Int) (h : j ≠ i) : Oth s (s.fell i z) i j := (undone_oth s h).eq (setTx_tx _ _ h)

theorem actOn_oth (s : St) {i j : Nat} (o : Op4) (h : j ≠ i) : Oth s (s.actOn i o).1 i j := by
  simp only [St.actOn]
  split
  · exact fell_oth s 2 h
  · exact Oth.refl (doOp_tx s o h)

theorem go_oth (s : St) {i j : Nat} (h : j ≠ i) : Oth s (s.go i).1 i j := by
  simp only [St.go]
  split
  · exact (undone_oth s h).eq (s'' := s.again i) (setTx_tx _ _ h)
  split
  · exact Oth.refl rfl
  split
  · exact freed_oth s _ i j (upd_other _ _ _ _ h)
  split
  · split
    · exact fell_oth s 3 h
    split
    · have := actOn_oth (s.grant i (s.tx i).op.a (modeOf (s.tx i).op)) (s.tx i).op h
      exact ⟨this.base, this.wound, this.waits⟩
    · simp only [St.enq]
      constructor
      · simp only [if_neg h]; split <;> rfl
      · simp only [if_neg h]
        split
        · rename_i hh
          simp only [St.hit, Bool.and_eq_true, decide_eq_true_eq] at hh
          exact .inr ⟨rfl, hh.1.2⟩
        · exact .inl rfl
      · simp only [if_neg h]; split <;> exact .inl rfl
  · exact actOn_oth s _ h

theorem freed_tx_self (s : St) (i : Nat) : ((s.freed i).tx i).base = (s.tx i).base ∧ ((s.freed i).tx i).wounded = (s.tx i).wounded := ⟨rfl, rfl⟩

/-- What no step turns in its own transaction. -/
theorem go_self (s : St) (i : Nat) : ((s.go i).1.tx i).stamp = (s.tx i).stamp ∧ ((s.go i).1.tx i).ops = (s.tx i).ops := by
  have ha : ∀ s' o, (((St.actOn s' i o).1.tx i).stamp = (s'.tx i).stamp ∧ ((St.actOn s' i o).1.tx i).ops = (s'.tx i).ops) := by
    intro s' o
    simp only [St.actOn]
    split
    · simp [St.fell, St.setTx, St.undone, St.freed, Tx.look, Tx.anew]
    · simp only [St.doOp]
      repeat' split
      all_goals simp [St.setTx]
  simp only [St.go]
  split
  · simp [St.again, St.setTx, St.undone, St.freed, Tx.look, Tx.anew]
  split
  · exact ⟨rfl, rfl⟩
  split
  · simp [St.commit, St.setTx, St.freed, Tx.look]
  split
  · split
    · simp [St.fell, St.setTx, St.undone, St.freed, Tx.look, Tx.anew]
    split
    · exact ha _ _
    · simp [St.enq]
  · exact ha _ _

theorem go_n (s : St) (i : Nat) : (s.go i).1.n = s.n ∧ (s.go i).1.clock = s.clock := by
  have ha : ∀ s' o, (St.actOn s' i o).1.n = s'.n ∧ (St.actOn s' i o).1.clock = s'.clock := by
    intro s' o
    simp only [St.actOn]
    split
    · exact ⟨rfl, rfl⟩
    · simp only [St.doOp]
      repeat' split
      all_goals exact ⟨rfl, rfl⟩
  simp only [St.go]
  split
  · exact ⟨rfl, rfl⟩
  split
  · exact ⟨rfl, rfl⟩
  split
  · exact ⟨rfl, rfl⟩
  split
  · split
    · exact ⟨rfl, rfl⟩
    split
    · exact ha _ _
    · exact ⟨rfl, rfl⟩
  · exact ha _ _

theorem modeOf_stop {o : Op4} (h : 0 < modeOf o) : o.k ≠ 5 := by
  intro e
  simp [modeOf, e] at h

theorem doOp_lk (s : St) (i : Nat) (o : Op4) : (s.doOp i o).lk = s.lk ∧ (s.doOp i o).act = s.act := by
  simp only [St.doOp]
  repeat' split
  all_goals exact ⟨rfl, rfl⟩

theorem actOn_lk (s : St) (i : Nat) (o : Op4) (k : Int) : (s.actOn i o).1.lk k = s.lk k ∨ (s.actOn i o).1.lk k = (s.lk k).freed s.n i := by
  simp only [St.actOn]
  split
  · exact .inr rfl
  · exact .inl (by rw [(doOp_lk s i o).1])

/-- What a step of i does to a row. -/
theorem go_lk (s : St) (i : Nat) (k : Int) : (s.go i).1.lk k = s.lk k ∨ (s.go i).1.lk k = (s.lk k).freed s.n i ∨
    (∃ m, (s.lk k).q = [] ∧ (s.lk k).h i < m ∧ (s.go i).1.lk k = ⟨upd (s.lk k).h i m, (s.lk k).q⟩) ∨ (∃ m, (s.go i).1.lk k = ⟨(s.lk k).h, (s.lk k).q ++ [(i, m)]⟩) := by
  simp only [St.go]
  split
  · exact .inr (.inl rfl)
  split
  · exact .inl rfl
  split
  · exact .inr (.inl rfl)
  split
  · rename_i hm
    split
    · exact .inr (.inl rfl)
    split
    · rename_i hf
      simp only [Bool.and_eq_true, List.isEmpty_iff, Bool.not_eq_true'] at hf
      simp only [St.actOn, modeOf_stop hm.1, false_and, if_false]
      rw [(doOp_lk _ _ _).1]
      by_cases e : k = (s.tx i).op.a
      · subst e
        exact .inr (.inr (.inl ⟨_, hf.1, hm.2, upd_same _ _ _⟩))
      · exact .inl (upd_other _ _ _ _ e)
    · by_cases e : k = (s.tx i).op.a
      · subst e
        exact .inr (.inr (.inr ⟨_, upd_same _ _ _⟩))
      · exact .inl (upd_other _ _ _ _ e)
  · rcases actOn_lk s i (s.tx i).op k with h | h
    · exact .inl h
    · exact .inr (.inl h)

theorem go_wounded (s : St) (i : Nat) (hw : (s.tx i).wounded = true) : s.go i = (s.again i, 3) := by simp only [St.go, hw, if_true]

theorem doOp_next (s : St) (i : Nat) (o : Op4) : ((s.doOp i o).tx i).next = (s.tx i).next + 1 ∧ ((s.doOp i o).tx i).state = (s.tx i).state ∧ ((s.doOp i o).tx i).wounded = (s.tx i).wounded ∧ ((s.doOp i o).tx i).waits = (s.tx i).waits ∧ ((s.doOp i o).tx i).ops = (s.tx i).ops := by
  simp only [St.doOp]
  repeat' split
  all_goals simp [St.setTx]

theorem again_self (s : St) (i : Nat) : ((s.again i).tx i).next = 0 ∧ ((s.again i).tx i).state = (s.tx i).state ∧ ((s.again i).tx i).wounded = false ∧ ((s.again i).tx i).waits = none ∧ ((s.again i).tx i).ops = (s.tx i).ops := by
  simp [St.again, St.setTx, St.undone, St.freed, Tx.look, Tx.anew]

theorem fell_self (s : St) (i : Nat) (z : Int) : ((s.fell i z).tx i).next = 0 ∧ ((s.fell i z).tx i).state = z ∧ ((s.fell i z).tx i).wounded = false ∧ ((s.fell i z).tx i).waits = none ∧ ((s.fell i z).tx i).ops = (s.tx i).ops := by
  simp [St.fell, St.setTx, St.undone, St.freed, Tx.look, Tx.anew]

theorem commit_self (s : St) (i : Nat) : ((s.commit i).tx i).next = (s.tx i).next ∧ ((s.commit i).tx i).state = 1 ∧ ((s.commit i).tx i).ops = (s.tx i).ops := by
  simp [St.commit, St.setTx, St.freed, Tx.look]

end Go.Proofs.YtmcajfefagdbnaaGreat
