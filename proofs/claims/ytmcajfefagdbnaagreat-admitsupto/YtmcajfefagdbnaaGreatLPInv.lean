import Derived.Test.YtmcajfefagdbnaaGreatLPTick
import Derived.Test.YtmcajfefagdbnaaGreatJ20
import Derived.Test.YtmcajfefagdbnaaGreatJ19
import Derived.Test.YtmcajfefagdbnaaGreatJ21
import Derived.Test.YtmcajfefagdbnaaGreatJ22
import Derived.Deep.AppendLies
namespace Go.Proofs.YtmcajfefagdbnaaGreat
open Go Go.RowKit

/-- A transaction that has made no step. -/
structure Quiet (t : Tx) (st : Int) : Prop where
  stamp : t.stamp = st
  state : t.state = 0
  next : t.next = 0
  wounded : t.wounded = false
  waits : t.waits = none
  agains : t.agains = 0
  regs : ∀ i, t.regs i = 0
  reads : t.reads = []

def ptrs (bs : List Nat) : List Value := bs.map fun b => .pointer (some ⟨b, 0, none⟩)
theorem ptrs_snoc (bs : List Nat) (t : Nat) : ptrs (bs ++ [t]) = ptrs bs ++ [.pointer (some ⟨t, 0, none⟩)] := by simp [ptrs]

/-- The program's store, its blocks among S. -/
structure PInv (S : Nat → Prop) (p : Nat) (c : Int) (sts : List Int) (w : World) : Prop where
  lt : ∀ k, S k → k < w.heap.size
  c0 : 0 ≤ c
  c1 : c ≤ 1099511627776
  few : sts.length ≤ 12
  body : ∃ (L : Lay) (bs : Nat → Nat) (ow : Ow) (m : Nat) (s : St), L.p = p ∧ (∀ k, OwnP ow k → S k) ∧ PSt L bs (List.range' 1 sts.length) ow m 0 ((sts.length : Nat) : Int) s w ∧ s.clock = c ∧ s.n = sts.length ∧ ∀ i, i < sts.length → Quiet (s.tx (i + 1)) (sts.getD i 0)

theorem PInv.of_same {S : Nat → Prop} {p : Nat} {c : Int} {sts : List Int} {w w' : World} (h : PInv S p c sts w) (hs : w.heap.size ≤ w'.heap.size) (hb : ∀ k, S k → w'.heap[k]? = w.heap[k]?) : PInv S p c sts w' := by
  obtain ⟨L, bs, ow, m, s, h1, h2, h3, h4, h5, h6⟩ := h.body
  exact ⟨fun k hk => Nat.lt_of_lt_of_le (h.lt k hk) hs, h.c0, h.c1, h.few, L, bs, ow, m, s, h1, h2, h3.of_same hs (fun k hk => hb k (h2 k hk)), h4, h5, h6⟩

theorem PInv.kept {S S' : Nat → Prop} {p : Nat} {c : Int} {sts : List Int} {w w' : World} (h : PInv S p c sts w) (hk : Kept S' w w') (hd : ∀ k, S k → ¬ S' k) : PInv S p c sts w' :=
  h.of_same hk.size (fun k hs => hk.block k (h.lt k hs) (hd k hs))

theorem PInv.own {S : Nat → Prop} {p : Nat} {c : Int} {sts : List Int} {w : World} (h : PInv S p c sts w) : S p := by
  obtain ⟨L, bs, ow, m, s, h1, h2, h3, _⟩ := h.body
  subst h1
  exact h2 _ h3.ownP

def tickErr (c n : Int) : Int := if n < 0 ∨ 1099511627776 - c < n then 4 else 0
def tickClk (c n : Int) : Int := if n < 0 ∨ 1099511627776 - c < n then c else c + n

theorem ptick_inv (S : Nat → Prop) (p : Nat) (c n : Int) (sts : List Int) (w : World) (h : PInv S p c sts w) :
    Calls Tryz.prog 41 #[.pointer (some ⟨p, 0, none⟩), .int .i64 n] w fun e w' => e = .returned (.int .i64 (tickErr c n)) ∧ PInv S p (tickClk c n) sts w' ∧ Kept S w w' := by
  obtain ⟨L, bs, ow, m, s, rfl, h2, h3, rfl, h5, h6⟩ := h.body
  obtain ⟨u, tv, wv, b1, _, _⟩ := h3.body
  have fin : ∀ (c' : Int) (w' : World), 0 ≤ c' → c' ≤ 1099511627776 → Kept (Blk L.p) w w' → (∀ u tv wv, w.heap[L.p]? = some (.cells #[.int .i32 0, u, .int .i64 s.clock, .map (some L.vb), tv, .int .i64 ((sts.length : Nat) : Int), .map (some L.hb), .map (some L.qb), wv] 127 (0, 0)) → w'.heap[L.p]? = some (.cells #[.int .i32 0, u, .int .i64 c', .map (some L.vb), tv, .int .i64 ((sts.length : Nat) : Int), .map (some L.hb), .map (some L.qb), wv] 127 (0, 0))) → PInv S L.p c' sts w' ∧ Kept S w w' := by
    intro c' w' d0 d1 hk hp
    exact ⟨⟨fun k hs => Nat.lt_of_lt_of_le (h.lt k hs) hk.size, d0, d1, h.few, L, bs, ow, m, { s with clock := c' }, rfl, h2, h3.turnP hk hp, rfl, h5, h6⟩, hk.mono (fun k x => by unfold Blk at x; subst x; exact h2 _ h3.ownP)⟩
  by_cases hn : n < 0 ∨ 1099511627776 - s.clock < n
  · have e1 : tickErr s.clock n = 4 := by simp [tickErr, hn]
    have e2 : tickClk s.clock n = s.clock := by simp [tickClk, hn]
    rw [e1, e2]
    refine (ptick_no L.p n s.clock _ _ _ _ _ _ _ w b1 h.c0 h.c1 hn).mono ?_
    rintro e w' ⟨rfl, rfl⟩
    exact ⟨rfl, fin s.clock _ h.c0 h.c1 ((Kept.set1 w L.p 0 _).trans' (Kept.set1 _ L.p 0 _)) (fun _ _ _ hb => block_setCell (block_setCell hb _) _)⟩
  · have e1 : tickErr s.clock n = 0 := by simp [tickErr, hn]
    have e2 : tickClk s.clock n = s.clock + n := by simp [tickClk, hn]
    rw [e1, e2]
    refine (ptick_ok L.p n s.clock _ _ _ _ _ _ _ w b1 h.c0 h.c1 (by omega) (by omega)).mono ?_
    rintro e w' ⟨rfl, rfl⟩
    exact ⟨rfl, fin (s.clock + n) _ (by have := h.c0; omega) (by omega) (((Kept.set1 w L.p 0 _).trans' (Kept.set1 _ L.p 2 _)).trans' (Kept.set1 _ L.p 0 _)) (fun _ _ _ hb => block_setCell (block_setCell (block_setCell hb _) _) _)⟩

def admNum (l : List Op4) (sts : List Int) (c : Int) : Int := if admErr l sts.length c = 0 then (sts.length : Int) + 1 else 0
def admSts (l : List Op4) (sts : List Int) (c : Int) : List Int := if admErr l sts.length c = 0 then sts ++ [c + 1] else sts
def admClk (l : List Op4) (sts : List Int) (c : Int) : Int := if admErr l sts.length c = 0 then c + 1 else c

theorem admErr_zero' {l : List Op4} {m : Nat} {c : Int} (h : admErr l m c = 0) : l.length ≤ 12 ∧ m < 12 ∧ c < 1099511627776 := by
  unfold admErr at h
  split at h
  · omega
  · split at h
    · omega
    · split at h
      · omega
      · split at h
        · omega
        · exact ⟨by omega, by omega, by omega⟩

theorem padmit_inv (S : Nat → Prop) (p b off cap : Nat) (c : Int) (sts : List Int) (l : List Op4) (w : World) (h : PInv S p c sts w) (ho : OpsAt w b off l) (hb : ¬ S b) (hl : l.length ≤ 1048576) (hin : OpsIn l) :
    Calls Tryz.prog 36 #[.pointer (some ⟨p, 0, none⟩), .slice (some ⟨b, off, none⟩) l.length cap] w fun e w' => e = .returned (.tuple #[.int .i64 (admNum l sts c), .int .i64 (admErr l sts.length c)]) ∧ Kept S w w' ∧
      ∃ S', PInv S' p (admClk l sts c) (admSts l sts c) w' ∧ ∀ k, S' k → S k ∨ w.heap.size ≤ k := by
  obtain ⟨L, bs, ow, m, s, rfl, h2, h3, rfl, h5, h6⟩ := h.body
  have hsrc : OpsSrc w (.slice (some ⟨b, off, none⟩) l.length cap) l := ⟨_, cap, rfl, fun _ => ⟨b, off, rfl, ho⟩⟩
  have hno : ∀ k, (Value.slice (some ⟨b, off, none⟩) l.length cap).ownBlock = some k → ¬ OwnP ow k := fun k hk e => by
    simp only [Value.ownBlock, Option.some.injEq] at hk
    subst hk
    exact hb (h2 _ e)
  by_cases he : admErr l sts.length s.clock = 0
  · obtain ⟨e1, e2, e3⟩ := admErr_zero' he
    have n1 : admNum l sts s.clock = (sts.length : Int) + 1 := by simp [admNum, he]
    have n2 : admSts l sts s.clock = sts ++ [s.clock + 1] := by simp [admSts, he]
    have n3 : admClk l sts s.clock = s.clock + 1 := by simp [admClk, he]
    rw [n1, n2, n3, he]
    refine (pAdmit_ok h3 _ l hsrc hno (fun o ho => ⟨(hin o ho).2.1, (hin o ho).2.2.1, (hin o ho).2.2.2⟩) h.c0 (by rw [h5]; omega) (by simp; omega) he).mono ?_
    rintro e w' ⟨rfl, ⟨t, ow', g1, g2⟩, g3⟩
    have hlen : (sts ++ [s.clock + 1]).length = sts.length + 1 := by simp
    refine ⟨by rw [h5], g3.mono (fun k x => h2 k x), fun k => S k ∨ OwnP ow' k, ⟨?_, by have := h.c0; omega, by omega, by rw [hlen]; omega, L, upd bs (s.n + 1) t, ow', m, s.admit l, rfl, fun k hk => .inr hk, ?_, rfl, by rw [hlen, ← h5]; rfl, fun i hi => ?_⟩, ?_⟩
    · rintro k (hk | hk)
      · have := h.lt k hk; have := g3.size; omega
      · exact g1.lt k hk
    · rw [hlen, List.range'_concat, show 1 + 1 * sts.length = s.n + 1 by rw [h5]; omega]
      exact g1
    · rw [hlen] at hi
      by_cases ei : i = sts.length
      · subst ei
        rw [show (sts ++ [s.clock + 1]).getD sts.length 0 = s.clock + 1 from by simp [List.getD]]
        have : (s.admit l).tx (sts.length + 1) = ⟨s.clock + 1, 0, l, 0, false, none, 0, fun _ => 0, [], []⟩ := by rw [← h5]; exact upd_same _ _ _
        rw [this]
        exact ⟨rfl, rfl, rfl, rfl, rfl, rfl, fun _ => rfl, rfl⟩
      · rw [show (sts ++ [s.clock + 1]).getD i 0 = sts.getD i 0 from by simp [List.getD, List.getElem?_append_left (show i < sts.length by omega)]]
        have : (s.admit l).tx (i + 1) = s.tx (i + 1) := upd_other _ _ _ _ (by rw [h5]; omega)
        rw [this]
        exact h6 i (by omega)
    · rintro k (hk | hk)
      · exact .inl hk
      · by_cases hlt : k < w.heap.size
        · left
          refine h2 k ?_
          unfold OwnP at hk ⊢
          rw [← g2 k hlt]
          exact hk
        · right; omega
  · have n1 : admNum l sts s.clock = 0 := by simp [admNum, he]
    have n2 : admSts l sts s.clock = sts := by simp [admSts, he]
    have n3 : admClk l sts s.clock = s.clock := by simp [admClk, he]
    rw [n1, n2, n3]
    refine (pAdmit_err h3 _ l hsrc hno hl he).mono ?_
    rintro e w' ⟨rfl, hp, hk⟩
    exact ⟨rfl, hk.mono (fun k x => h2 k x), S, ⟨fun k hs => Nat.lt_of_lt_of_le (h.lt k hs) hk.size, h.c0, h.c1, h.few, L, bs, ow, m, s, rfl, h2, hp, rfl, h5, h6⟩, fun k hk => .inl hk⟩

/-- What Txn tells of a transaction that has made no step. -/
theorem ptxn_inv (S : Nat → Prop) (p : Nat) (c id : Int) (sts : List Int) (w : World) (h : PInv S p c sts w) :
    Calls Tryz.prog 23 #[.pointer (some ⟨p, 0, none⟩), .int .i64 id] w fun e w' => PInv S p c sts w' ∧ Kept S w w' ∧
      (((id < 1 ∨ (sts.length : Int) < id) ∧ e = .returned (.tuple #[.agg #[.int .i64 0, .int .i64 0, .int .i64 0, .bool false, .bool false, .int .i64 0, .slice none 0 0, .slice none 0 0], .int .i64 5])) ∨
       (∃ i a k, i < sts.length ∧ id = (i : Int) + 1 ∧ e = .returned (.tuple #[.agg #[.int .i64 (sts.getD i 0), .int .i64 0, .int .i64 0, .bool false, .bool false, .int .i64 0, .slice (some ⟨a, 0, none⟩) 4 4, .slice (some ⟨k, 0, none⟩) 0 0], .int .i64 0]) ∧
         w.heap.size ≤ a ∧ w.heap.size ≤ k ∧ w'.heap[a]? = some (.cells #[.int .i64 0, .int .i64 0, .int .i64 0, .int .i64 0] 3 (0, 0)) ∧ w'.heap[k]? = some (.cells #[] 105 (0, 0)))) := by
  obtain ⟨L, bs, ow, m, s, rfl, h2, h3, rfl, h5, h6⟩ := h.body
  have fin : ∀ (w' : World), PSt L bs (List.range' 1 sts.length) ow m 0 ((sts.length : Nat) : Int) s w' → Kept (OwnP ow) w w' → PInv S L.p s.clock sts w' ∧ Kept S w w' := fun w' hp hk =>
    ⟨⟨fun k hs => Nat.lt_of_lt_of_le (h.lt k hs) hk.size, h.c0, h.c1, h.few, L, bs, ow, m, s, rfl, h2, hp, rfl, h5, h6⟩, hk.mono (fun k x => h2 k x)⟩
  by_cases hi : id < 1 ∨ (sts.length : Int) < id
  · refine (pTxn_none h3 id (by rw [h5]; exact hi)).mono ?_
    rintro e w' ⟨rfl, hp, hk⟩
    obtain ⟨f1, f2⟩ := fin w' hp hk
    exact ⟨f1, f2, .inl ⟨hi, rfl⟩⟩
  · obtain ⟨i, rfl⟩ : ∃ i : Nat, id = (i : Int) + 1 := ⟨(id - 1).toNat, by omega⟩
    have hil : i < sts.length := by omega
    have q := h6 i hil
    have := pTxn_some h3 (i + 1) ⟨by omega, by rw [h5]; omega⟩
    refine this.mono ?_
    rintro e w' ⟨a, k, rfl, ha, hk, hga, hgk, hp, hkk⟩
    obtain ⟨f1, f2⟩ := fin w' hp hkk
    rw [q.stamp, q.state, q.next, q.wounded, q.waits, q.agains, q.reads]
    rw [q.regs, q.regs, q.regs, q.regs] at hga
    rw [q.reads] at hgk
    exact ⟨f1, f2, .inr ⟨i, a, k, hil, rfl, rfl, ha, hk, hga, hgk⟩⟩

/-- The program's store when it has been made, its blocks between two marks. -/
def PNewAt (lo hi p n : Nat) (l : List Row2) (w : World) : Prop := ∃ (L : Lay) (ow : Ow), L.p = p ∧ (∀ k, OwnP ow k → lo ≤ k ∧ k < hi) ∧ PSt L (fun _ => 0) [] ow n 0 0 (St.born (rowsF l)) w

theorem PNewAt.kept {lo hi p n : Nat} {l : List Row2} {w w' : World} {S : Nat → Prop} (h : PNewAt lo hi p n l w) (hk : Kept S w w') (hd : ∀ k, lo ≤ k → k < hi → ¬ S k) : PNewAt lo hi p n l w' := by
  obtain ⟨L, ow, h1, h2, h3⟩ := h
  exact ⟨L, ow, h1, h2, h3.kept hk (fun k hk' => hd k (h2 k hk').1 (h2 k hk').2)⟩

theorem PNewAt.lt {lo hi p n : Nat} {l : List Row2} {w : World} (h : PNewAt lo hi p n l w) : lo ≤ p ∧ p < hi := by
  obtain ⟨L, ow, rfl, h2, h3⟩ := h
  exact h2 _ h3.ownP

theorem PNewAt.mono {lo lo' hi p n : Nat} {l : List Row2} {w : World} (h : PNewAt lo hi p n l w) (hl : lo' ≤ lo) : PNewAt lo' hi p n l w := by
  obtain ⟨L, ow, h1, h2, h3⟩ := h
  exact ⟨L, ow, h1, fun k hk => ⟨Nat.le_trans hl (h2 k hk).1, (h2 k hk).2⟩, h3⟩

theorem PNewAt.inv {lo hi p n : Nat} {l : List Row2} {w : World} (h : PNewAt lo hi p n l w) : ∃ S : Nat → Prop, PInv S p 0 [] w ∧ ∀ k, S k → lo ≤ k ∧ k < hi := by
  obtain ⟨L, ow, rfl, h2, h3⟩ := h
  exact ⟨OwnP ow, ⟨fun k hk => h3.lt k hk, by omega, by omega, by simp, L, fun _ => 0, ow, n, St.born (rowsF l), rfl, fun _ x => x, h3, rfl, rfl, fun i hi => by simp at hi⟩, h2⟩
end Go.Proofs.YtmcajfefagdbnaaGreat
