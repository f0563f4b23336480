import Derived.Test.YtmcajfefagdbnaaGreatQ04
import Derived.Test.YtmcajfefagdbnaaGreatQ03
import Derived.RegionTactic
import Derived.BigRegion
namespace Go.Proofs.YtmcajfefagdbnaaGreat
open Go Go.RowKit
set_option maxHeartbeats 800000 in
theorem allAllowed_nil (ao : Option Addr) (cap : Nat) (w : World) :
  Calls Tryz.prog 106 #[.slice ao 0 cap] w fun e w' => e = .returned (.bool true) ∧ Kept NoBlk w w' := by
 go_enter Tryz.func106, Tryz.ntmps106
 go_wp2_with fail
 go_loopw [7] (fun i wr => i = .int .i64 0 ∧ wr = w) (fun _ _ => 0)
 case atStart => exact ⟨rfl, rfl⟩
 case round =>
  obtain ⟨rfl, rfl⟩ := hrel
  go_wp2_with fail
  go_ret
  exact ⟨rfl, Kept.refl _ _⟩
theorem OpsSrc.keptB {S : Nat → Prop} {w w' : World} {v : Value} {l : List Op4} (h : OpsSrc w v l) (hk : Kept S w w') (hn : ∀ k, v.ownBlock = some k → ¬ S k) : OpsSrc w' v l := by
 obtain ⟨ao, c, rfl, h⟩ := h
 refine ⟨ao, c, rfl, fun h0 => ?_⟩
 obtain ⟨b, off, rfl, ho⟩ := h h0
 exact ⟨b, off, rfl, ho.kept hk (hn b rfl)⟩
theorem allAllowed_src (v : Value) (l : List Op4) (w : World) (h : OpsSrc w v l) (hl : l.length ≤ 1048576) :
  Calls Tryz.prog 106 #[v] w fun e w' => e = .returned (.bool (l.all Op4.ok)) ∧ Kept NoBlk w w' := by
 obtain ⟨ao, c, rfl, h⟩ := h
 rcases Nat.eq_zero_or_pos l.length with h0 | h0
 ·rw [h0, List.eq_nil_of_length_eq_zero h0]
  exact allAllowed_nil ao c w
 ·obtain ⟨b, off, rfl, ho⟩ := h h0
  exact allAllowed_some b off c l w ho hl
set_option maxHeartbeats 1600000 in
theorem refusal_src (p : Nat) (v : Value) (l : List Op4) (m : Nat) (c : Int) (w : World) (h : OpsSrc w v l) (hl : l.length ≤ 1048576)
  (h2 : w.cell? ⟨p, 2, none⟩ = some (.int .i64 c)) (h5 : w.cell? ⟨p, 5, none⟩ = some (.int .i64 m)) :
  Calls Tryz.prog 73 #[.pointer (some ⟨p, 0, none⟩), v] w fun e w' => e = .returned (.int .i64 (admErr l m c)) ∧ Kept NoBlk w w' := by
 have hal : ∀ W : World, Kept NoBlk w W → Calls Tryz.prog 106 #[v] W fun e w' => e = .returned (.bool (l.all Op4.ok)) ∧ Kept NoBlk W w' := fun W hW => allAllowed_src v l W (h.keptB hW (fun _ _ x => x)) hl
 obtain ⟨ao, cap, rfl, _⟩ := h
 by_cases h1 : 12 < l.length
 ·have he : admErr l m c = 2 := by simp [admErr, h1]
  rw [he]
  clear he hal h2 h5
  go_enter Tryz.func73, Tryz.ntmps73
  go_wp2_with fail
  go_ret
  exact ⟨rfl, Kept.refl _ _⟩
 have HO : Hid (Calls Tryz.prog 106 #[.slice ao l.length cap] w fun e w' => e = .returned (.bool (l.all Op4.ok)) ∧ Kept NoBlk w w') := hal w (Kept.refl _ _)
 clear hal
 go_enter Tryz.func73, Tryz.ntmps73
 go_wp2_with fail
 refine HO.out.mono ?_
 rintro e w' ⟨rfl, hk⟩
 cases ha : l.all Op4.ok
 ·have he : Hid (admErr l m c = 1) := by simp [Hid, admErr, h1, ha]
  clear ha
  go_wp2_with fail
  go_ret
  exact ⟨ret_int he.out.symm, hk⟩
 ·have hm := hk.cell0 h5
  have hc := hk.cell0 h2
  have he : Hid (admErr l m c = if 12 ≤ m then 3 else if 1099511627776 ≤ c then 4 else 0) := by simp [Hid, admErr, h1, ha]
  have HK : Hid _ := hk
  clear ha hk h2 h5
  by_cases h3 : 12 ≤ m
  ·go_wp2_with fail
   go_ret
   exact ⟨ret_int (by rw [he.out, if_pos h3]), HK.out⟩
  ·by_cases h4 : 1099511627776 ≤ c
   ·go_wp2_with fail
    go_ret
    exact ⟨ret_int (by rw [he.out, if_neg h3, if_pos h4]), HK.out⟩
   ·go_wp2_with fail
    go_ret
    exact ⟨ret_int (by rw [he.out, if_neg h3, if_neg (by omega)]), HK.out⟩
set_option maxHeartbeats 800000 in
theorem newTransaction_src (nm : Int) (x : Value) (l : List Op4) (st : Int) (w : World) (hx : OpsSrc w x l) (hl : l.length ≤ 1048576) :
  Calls Tryz.prog 74 #[.int .i64 nm, x, .int .i64 st] w fun e w' => ∃ t g, e = .returned (.pointer (some ⟨t, 0, none⟩)) ∧ w.heap.size ≤ t ∧ w.heap.size ≤ g ∧ t ≠ g ∧
   w'.heap[t]? = some (.cells #[.int .i64 nm, .slice (some ⟨g, 0, none⟩) l.length l.length, .int .i64 st, .int .i64 0, .int .i64 0, .int .i64 0, .bool false, .bool false, .int .i64 0, .int .i64 0, .int .i64 0, .int .i64 0, .slice none 0 0, .slice none 0 0] 146 (0, 0)) ∧
   w'.heap[g]? = some (.cells (opCells l).toArray 114 (0, 0)) ∧ Kept NoBlk w w' := by
 have HX : Hid _ := hx.mem
 clear hx
 go_enter Tryz.func74, Tryz.ntmps74
 go_wp2_with fail
 refine (freshOp x l.length (opCells l) w HX.out hl).mono ?_
 rintro e w1 ⟨rfl, hg, hk⟩
 have HG : Hid _ := hg
 have HK : Hid _ := hk
 clear hg hk
 go_wp2_with fail
 go_ret
 have := lt_of_block HG.out
 exact ⟨w1.heap.size, w.heap.size, rfl, HK.out.size, Nat.le_refl _, by omega, block_alloc_new w1 _, block_alloc_old _ HG.out, HK.out.alloc _⟩
end Go.Proofs.YtmcajfefagdbnaaGreat
namespace Go.Proofs.YtmcajfefagdbnaaGreat
open Go Go.RowKit
def KCutP1 {X : Type} (f : X → Act) (R : X → World → Prop) (a : Act) (w : World) : Prop := ∃ x, a = f x ∧ R x w
def KCutP0 (f : Act) (R : World → Prop) (a : Act) (w : World) : Prop := a = f ∧ R w
theorem kcut0 {P : Program} {c : Code} {K : Act → World → Prop} {Q : Exit → Act → World → Prop} {a : Act} {w : World} (f : Act) (R : World → Prop) (h1 : c.wp P (Exit.then (KCutP0 f R) Q) a w) (h2 : ∀ w', R w' → Exit.then K Q .normal f w') : c.wp P (Exit.then K Q) a w :=
 Code.wp_mono (by intro e a w h; cases e <;> first | exact h | (obtain ⟨rfl, h⟩ := h; exact h2 _ h)) h1
theorem kcut1 {P : Program} {c : Code} {K : Act → World → Prop} {Q : Exit → Act → World → Prop} {a : Act} {w : World} {X : Type} (f : X → Act) (R : X → World → Prop) (h1 : c.wp P (Exit.then (KCutP1 f R) Q) a w) (h2 : ∀ x w', R x w' → Exit.then K Q .normal (f x) w') : c.wp P (Exit.then K Q) a w :=
 Code.wp_mono (by intro e a w h; cases e <;> first | exact h | (obtain ⟨x, rfl, h⟩ := h; exact h2 _ _ h)) h1
def pickI (c n : Int) : Int := (if c < 0 then -(c + 1) else c) % n
theorem pickI_ge (c : Int) {n : Int} (h : 0 < n) : 0 ≤ pickI c n := Int.emod_nonneg _ (by omega)
theorem pickI_lt (c : Int) {n : Int} (h : 0 < n) : pickI c n < n := Int.emod_lt_of_pos _ h
set_option maxHeartbeats 800000 in
theorem pick_any (c n : Int) (w : World) (hc : -9223372036854775808 ≤ c ∧ c ≤ 9223372036854775807) (hn : 0 < n ∧ n ≤ 1048576) :
  Calls Tryz.prog 34 #[.int .i64 c, .int .i64 n] w fun e w' => e = .returned (.int .i64 (pickI c n)) ∧ w' = w := by
 by_cases h : c < 0
 ·go_enter Tryz.func34, Tryz.ntmps34
  go_wp2_with fail
  go_ret
  refine ⟨?_, rfl⟩
  unfold pickI
  rw [if_pos h, ← Int.tmod_eq_emod_of_nonneg (by omega), Int.neg_tmod]
  rfl
 ·go_enter Tryz.func34, Tryz.ntmps34
  go_wp2_with fail
  go_ret
  refine ⟨?_, rfl⟩
  unfold pickI
  rw [if_neg (by omega)]
  rfl
end Go.Proofs.YtmcajfefagdbnaaGreat
namespace Go.Proofs.YtmcajfefagdbnaaGreat
def Elder (tx : Nat → Tx) (j i : Nat) : Prop := (tx j).stamp < (tx i).stamp ∨ (tx j).wounded = true
structure Inv (s : St) : Prop where
 row : ∀ k, RowOk s.n (Elder s.tx) (s.lk k)
 still : ∀ k, RowStill s.n (s.lk k)
 holds : ∀ k j, (s.lk k).h j ≠ 0 → (s.tx j).state = 0
 queue : ∀ k j m, (j, m) ∈ (s.lk k).q → (s.tx j).state = 0 ∧ (s.tx j).waits = some k
 asks : ∀ k j m, (j, m) ∈ (s.lk k).q → (s.tx j).next < (s.tx j).ops.length ∧ (s.tx j).op.a = k ∧ modeOf (s.tx j).op = m
 waits : ∀ j k, (s.tx j).waits = some k → ∃ m, (j, m) ∈ (s.lk k).q
 age : ∀ i j, 1 ≤ i → i < j → j ≤ s.n → (s.tx i).stamp < (s.tx j).stamp
 late : ∀ j, 1 ≤ j → j ≤ s.n → (s.tx j).stamp ≤ s.clock
 later : ∀ j, s.n < j → (s.tx j).waits = none
 actOnce : s.act.Nodup
 act : ∀ k, k ∈ s.act ↔ (s.lk k).live s.n = true
theorem live_iff (l : Lk) (n : Nat) : l.live n = true ↔ l.q ≠ [] ∨ ∃ j, j ≤ n ∧ l.h j ≠ 0 := by
 simp only [Lk.live, Bool.or_eq_true, Bool.not_eq_true', List.any_eq_true, List.mem_range, bne_iff_ne, ne_eq]
 constructor
 ·rintro (h | ⟨j, h1, h2⟩)
  ·left; intro e; rw [e] at h; simp at h
  ·right; exact ⟨j, by omega, h2⟩
 ·rintro (h | ⟨j, h1, h2⟩)
  ·left; cases hq : l.q
   ·exact absurd hq h
   ·rfl
  ·right; exact ⟨j, by omega, h2⟩
def Out (s : St) (i : Nat) : Prop := ∀ k, (s.lk k).h i = 0 ∧ ∀ m, (i, m) ∉ (s.lk k).q
theorem Inv.not_waiting {s : St} (hs : Inv s) {i : Nat} (hw : (s.tx i).waits = none) (k : Int) (m : Int) : (i, m) ∉ (s.lk k).q := fun hm => by
 have := (hs.queue k i m hm).2
 rw [hw] at this; cases this
theorem look_waits (t : Tx) (lk : Int → Lk) (j : Nat) (k : Int) : (t.look lk j).waits = some k ↔ t.waits = some k ∧ ∃ m, (j, m) ∈ (lk k).q := by
 simp only [Tx.look]
 cases hw : t.waits with
 | none => simp
 | some k' =>
  simp only
  split
  ·rename_i hh
   simp only [List.any_eq_true, beq_iff_eq] at hh
   constructor
   ·intro e
    simp only [Option.some.injEq] at e
    subst e
    obtain ⟨x, h1, h2⟩ := hh
    exact ⟨rfl, x.2, by rw [← h2]; exact h1⟩
   ·rintro ⟨e, _⟩; exact e
  ·rename_i hh
   constructor
   ·intro e; cases e
   ·rintro ⟨e, m, hm⟩
    simp only [Option.some.injEq] at e
    subst e
    exact absurd (List.any_eq_true.mpr ⟨(j, m), hm, by simp⟩) hh
theorem Inv.freed {s : St} (hs : Inv s) (i : Nat) (t : Tx) (r : Int → Option Int) (w : List Nat) (ht : t.stamp = (s.tx i).stamp) (hin : s.n < i → t.waits = none) :
  Inv (St.freed { s with rows := r, tx := upd s.tx i t, wins := w } i) ∧ Out (St.freed { s with rows := r, tx := upd s.tx i t, wins := w } i) i := by
 have st : ∀ j, (upd s.tx i t j).stamp = (s.tx j).stamp := fun j => by
  by_cases e : j = i
  ·subst e; simp [ht]
  ·rw [upd_other _ _ _ _ e]
 have once : ∀ k, ((s.lk k).q.map (·.1)).Nodup := fun k => (hs.row k).once
 have hq : ∀ k j m, (j, m) ∈ ((s.lk k).freed s.n i).q → (j, m) ∈ (s.lk k).q ∧ j ≠ i := fun k j m hm => freed_q hm
 have hh : ∀ k j, ((s.lk k).freed s.n i).h j ≠ 0 → j ≠ i ∧ (((s.lk k).freed s.n i).h j = (s.lk k).h j ∨ (j, ((s.lk k).freed s.n i).h j) ∈ (s.lk k).q) := fun k j hj => freed_h (once k) hj
 refine ⟨⟨fun k => ?_, fun k => settle_still _ _ _, fun k j hj => ?_, fun k j m hm => ?_, fun k j m hm => ?_, fun j k hw => ?_, fun a b h1 h2 h3 => ?_, fun j h1 h2 => ?_, fun j hj => ?_, ?_, fun k => ?_⟩, fun k => ?_⟩
 ·refine ((hs.row k).freed i).mono (Nat.le_refl _) ?_
  intro j p hj hp he
  have hji : j ≠ i := by
   rcases hj with hj | ⟨m, hm⟩
   ·exact (hh k j hj).1
   ·exact (hq k j m hm).2
  simp only [Elder, St.freed, Tx.look]
  rw [st, st]
  rw [upd_other _ _ _ _ hji]
  exact he
 ·have h1 := hh k j hj
  simp only [St.freed, Tx.look]
  rw [upd_other _ _ _ _ h1.1]
  rcases h1.2 with h2 | h2
  ·rw [show (St.freed { s with rows := r, tx := upd s.tx i t, wins := w } i).lk k = (s.lk k).freed s.n i from rfl, h2] at hj
   exact hs.holds k j hj
  ·exact (hs.queue k j _ h2).1
 ·have h1 := hq k j m hm
  have h2 := hs.queue k j m h1.1
  refine ⟨?_, ?_⟩
  ·simp only [St.freed, Tx.look]
   rw [upd_other _ _ _ _ h1.2]
   exact h2.1
  ·simp only [St.freed]
   rw [look_waits, upd_other _ _ _ _ h1.2]
   exact ⟨h2.2, m, hm⟩
 ·have h1 := hq k j m hm
  have h2 := hs.asks k j m h1.1
  simp only [St.freed, Tx.look]
  rw [upd_other _ _ _ _ h1.2]
  exact h2
 ·simp only [St.freed] at hw
  rw [look_waits] at hw
  exact hw.2
 ·simp only [St.freed, Tx.look]
  rw [st, st]
  exact hs.age a b h1 h2 h3
 ·simp only [St.freed, Tx.look]
  rw [st]
  exact hs.late j h1 h2
 ·cases hw : ((St.freed { s with rows := r, tx := upd s.tx i t, wins := w } i).tx j).waits with
  | none => rfl
  | some k =>
   exfalso
   simp only [St.freed] at hw
   rw [look_waits] at hw
   by_cases e : j = i
   ·subst e; simp only [upd_same] at hw; rw [hin hj] at hw; cases hw.1
   ·rw [upd_other _ _ _ _ e, hs.later j hj] at hw; cases hw.1
 ·exact List.Sublist.nodup List.filter_sublist hs.actOnce
 ·simp only [St.freed, List.mem_filter]
  constructor
  ·exact fun h => h.2
  ·intro h
   refine ⟨(hs.act k).mpr ?_, h⟩
   rw [live_iff] at h ⊢
   rcases h with h | ⟨j, h1, h2⟩
   ·left
    cases hc : ((s.lk k).freed s.n i).q with
    | nil => exact absurd hc h
    | cons x l =>
     have := (hq k x.1 x.2 (by rw [hc]; exact List.mem_cons_self)).1
     intro e; rw [e] at this; cases this
   ·rcases (hh k j h2).2 with h3 | h3
    ·right; rw [h3] at h2; exact ⟨j, h1, h2⟩
    ·left; intro e; rw [e] at h3; cases h3
 ·exact ⟨freed_no_h _ _ _ (once k), freed_no _ _ _⟩
theorem Inv.turn {s s' : St} (hs : Inv s) (hn : s'.n = s.n) (hl : s'.lk = s.lk) (ha : s'.act = s.act) (hc : s'.clock = s.clock)
  (h1 : ∀ j, (s'.tx j).stamp = (s.tx j).stamp) (h2 : ∀ j, (s'.tx j).state = (s.tx j).state ∨ Out s j) (h3 : ∀ j, ((s.tx j).wounded = true → (s'.tx j).wounded = true) ∨ Out s j) (h4 : ∀ j, (s'.tx j).waits = (s.tx j).waits)
  (h5 : ∀ j, (s'.tx j).ops = (s.tx j).ops ∧ (s'.tx j).next = (s.tx j).next ∨ (s.tx j).waits = none) : Inv s' := by
 refine ⟨fun k => ?_, fun k => ?_, fun k j hj => ?_, fun k j m hm => ?_, fun k j m hm => ?_, fun j k hw => ?_, fun a b g1 g2 g3 => ?_, fun j g1 g2 => ?_, fun j hj => ?_, ?_, fun k => ?_⟩
 ·rw [hn, hl]
  refine (hs.row k).mono (Nat.le_refl _) ?_
  intro j p hj hp he
  simp only [Elder, h1]
  rcases he with he | he
  ·exact .inl he
  ·rcases h3 j with h3 | h3
   ·exact .inr (h3 he)
   ·exfalso
    rcases hj with hj | ⟨m, hm⟩
    ·exact hj (h3 k).1
    ·exact (h3 k).2 m hm
 ·rw [hn, hl]; exact hs.still k
 ·rw [hl] at hj
  rcases h2 j with h2 | h2
  ·rw [h2]; exact hs.holds k j hj
  ·exact absurd (h2 k).1 hj
 ·rw [hl] at hm
  rw [h4]
  rcases h2 j with h2 | h2
  ·rw [h2]; exact hs.queue k j m hm
  ·exact absurd hm ((h2 k).2 m)
 ·rw [hl] at hm
  rcases h5 j with ⟨e1, e2⟩ | e
  ·simp only [Tx.op]; rw [e1, e2]; exact hs.asks k j m hm
  ·exact absurd hm (hs.not_waiting e k m)
 ·rw [h4] at hw; rw [hl]; exact hs.waits j k hw
 ·rw [h1, h1]; rw [hn] at g3; exact hs.age a b g1 g2 g3
 ·rw [h1, hc]; rw [hn] at g2; exact hs.late j g1 g2
 ·rw [h4]; rw [hn] at hj; exact hs.later j hj
 ·rw [ha]; exact hs.actOnce
 ·rw [ha, hl, hn]; exact hs.act k
theorem addKey_mem (l : List Int) (k k' : Int) : k' ∈ addKey l k ↔ k' ∈ l ∨ k' = k := by
 simp only [addKey]
 split
 ·rename_i h
  simp only [List.contains_eq_mem, decide_eq_true_eq] at h
  constructor
  ·exact .inl
  ·rintro (h1 | rfl)
   ·exact h1
   ·exact h
 ·simp
theorem addKey_once (l : List Int) (k : Int) (h : l.Nodup) : (addKey l k).Nodup := by
 simp only [addKey]
 split
 ·exact h
 ·rename_i hk
  simp only [List.contains_eq_mem, decide_eq_true_eq] at hk
  rw [List.nodup_append]
  exact ⟨h, by simp, by intro a ha b hb; simp at hb; subst hb; exact fun e => hk (e ▸ ha)⟩
theorem Inv.grant {s : St} (hs : Inv s) {i : Nat} {k m : Int} (hi : 1 ≤ i ∧ i ≤ s.n) (hlive : (s.tx i).state = 0) (hm : m = 1 ∨ m = 2) (hq : (s.lk k).q = []) (hh : hind s.n (s.lk k).h i m = false) : Inv (s.grant i k m) := by
 have hf := hind_false.mp hh
 have lk1 : (s.grant i k m).lk k = ⟨upd (s.lk k).h i m, (s.lk k).q⟩ := by simp [St.grant]
 have lk2 : ∀ k', k' ≠ k → (s.grant i k m).lk k' = s.lk k' := fun k' e => by simp [St.grant, upd_other _ _ _ _ e]
 have m0 : m ≠ 0 := by omega
 have hr := hs.row k
 have row1 : RowOk s.n (Elder s.tx) ⟨upd (s.lk k).h i m, (s.lk k).q⟩ := by
  refine ⟨fun j hj => ?_, fun j => ?_, hr.qmode, hr.once, fun a b hab ha hb => ?_, fun l1 p mp l2 e => ?_, fun x hx => ?_⟩
  ·by_cases e : j = i
   ·subst e; exact hi
   ·exact hr.hold j (by simpa [upd_other _ _ _ _ e] using hj)
  ·by_cases e : j = i
   ·subst e; simp only [upd_same]; exact .inr hm
   ·simp only [upd_other _ _ _ _ e]; exact hr.mode j
  ·by_cases ea : a = i
   ·subst ea
    have eb : b ≠ a := fun x => hab x.symm
    simp only [upd_same, upd_other _ _ _ _ eb] at hb ⊢
    rw [conf_comm]
    exact hf b (hr.hold b hb).2 eb hb
   ·by_cases eb : b = i
    ·subst eb
     simp only [upd_same, upd_other _ _ _ _ ea] at ha ⊢
     exact hf a (hr.hold a ha).2 ea ha
    ·simp only [upd_other _ _ _ _ ea, upd_other _ _ _ _ eb] at ha hb ⊢
     exact hr.apart a b hab ha hb
  ·simp only [hq] at e; cases l1 <;> cases e
  ·simp only [hq] at hx; cases hx
 refine ⟨fun k' => ?_, fun k' => ?_, fun k' j hj => ?_, fun k' j m' hm' => ?_, fun k' j m' hm' => ?_, fun j k' hw => ?_, hs.age, hs.late, hs.later, addKey_once _ _ hs.actOnce, fun k' => ?_⟩
 ·by_cases e : k' = k
  ·subst e; rw [lk1]; exact row1
  ·rw [lk2 k' e]; exact hs.row k'
 ·by_cases e : k' = k
  ·subst e; rw [lk1]; intro a b c hc; simp only [hq] at hc; cases hc
  ·rw [lk2 k' e]; exact hs.still k'
 ·by_cases e : k' = k
  ·subst e
   rw [lk1] at hj
   by_cases ej : j = i
   ·subst ej; exact hlive
   ·simp only [upd_other _ _ _ _ ej] at hj; exact hs.holds k' j hj
  ·rw [lk2 k' e] at hj; exact hs.holds k' j hj
 ·have : (j, m') ∈ (s.lk k').q := by
   by_cases e : k' = k
   ·subst e; rw [lk1] at hm'; exact hm'
   ·rw [lk2 k' e] at hm'; exact hm'
  exact hs.queue k' j m' this
 ·have : (j, m') ∈ (s.lk k').q := by
   by_cases e : k' = k
   ·subst e; rw [lk1] at hm'; exact hm'
   ·rw [lk2 k' e] at hm'; exact hm'
  exact hs.asks k' j m' this
 ·obtain ⟨m', h1⟩ := hs.waits j k' hw
  refine ⟨m', ?_⟩
  by_cases e : k' = k
  ·subst e; rw [lk1]; exact h1
  ·rw [lk2 k' e]; exact h1
 ·show k' ∈ addKey s.act k ↔ _
  rw [addKey_mem]
  by_cases e : k' = k
  ·subst e
   rw [lk1, live_iff]
   simp only [or_true, true_iff]
   exact .inr ⟨i, hi.2, by simpa using m0⟩
  ·rw [lk2 k' e]
   simp only [e, or_false]
   exact hs.act k'
theorem Inv.enq {s : St} (hs : Inv s) {i : Nat} {k m : Int} (hi : 1 ≤ i ∧ i ≤ s.n) (hlive : (s.tx i).state = 0) (hw : (s.tx i).waits = none) (hm : m = 1 ∨ m = 2) (hwant : (s.lk k).h i < m)
  (hask : (s.tx i).next < (s.tx i).ops.length ∧ (s.tx i).op.a = k ∧ modeOf (s.tx i).op = m)
  (hh : (s.lk k).q ≠ [] ∨ hind s.n (s.lk k).h i m = true) : Inv (s.enq i k m) := by
 have lk1 : (s.enq i k m).lk k = ⟨(s.lk k).h, (s.lk k).q ++ [(i, m)]⟩ := by simp [St.enq]
 have lk2 : ∀ k', k' ≠ k → (s.enq i k m).lk k' = s.lk k' := fun k' e => by simp [St.enq, upd_other _ _ _ _ e]
 have hr := hs.row k
 have nq : ∀ m', (i, m') ∉ (s.lk k).q := hs.not_waiting hw k
 have stamp : ∀ j, ((s.enq i k m).tx j).stamp = (s.tx j).stamp := fun j => by simp only [St.enq]; split; rfl; split <;> rfl
 have state : ∀ j, ((s.enq i k m).tx j).state = (s.tx j).state := fun j => by simp only [St.enq]; split; rfl; split <;> rfl
 have ops : ∀ j, ((s.enq i k m).tx j).ops = (s.tx j).ops := fun j => by simp only [St.enq]; split; rfl; split <;> rfl
 have next : ∀ j, ((s.enq i k m).tx j).next = (s.tx j).next := fun j => by simp only [St.enq]; split; rfl; split <;> rfl
 have wound : ∀ j, (s.tx j).wounded = true → ((s.enq i k m).tx j).wounded = true := fun j h => by simp only [St.enq]; split; exact h; split; rfl; exact h
 have wi : ((s.enq i k m).tx i).waits = some k := by simp [St.enq]
 have wj : ∀ j, j ≠ i → ((s.enq i k m).tx j).waits = (s.tx j).waits := fun j e => by simp only [St.enq, e, if_false]; split <;> rfl
 have eld : ∀ j p, Elder s.tx j p → Elder (s.enq i k m).tx j p := fun j p h => by
  simp only [Elder, stamp]
  exact h.imp id (wound j)
 have row1 : RowOk s.n (Elder (s.enq i k m).tx) ⟨(s.lk k).h, (s.lk k).q ++ [(i, m)]⟩ := by
  refine ⟨hr.hold, hr.mode, fun x hx => ?_, ?_, hr.apart, fun l1 p mp l2 e j hj hc => ?_, fun x hx => ?_⟩
  ·simp only [List.mem_append, List.mem_singleton] at hx
   rcases hx with hx | rfl
   ·exact hr.qmode x hx
   ·exact ⟨hi, hm⟩
  ·simp only [List.map_append, List.map_cons, List.map_nil]
   rw [List.nodup_append]
   refine ⟨hr.once, by simp, fun a ha b hb => ?_⟩
   simp only [List.mem_singleton] at hb
   subst hb
   intro e
   subst e
   obtain ⟨x, h1, h2⟩ := List.mem_map.mp ha
   exact nq x.2 (by rw [← h2]; exact h1)
  ·simp only at e hc
   rcases List.append_eq_append_iff.mp e with ⟨a, h1, h2⟩ | ⟨a, h1, h2⟩
   ·cases a with
    | nil =>
     simp only [List.append_nil, List.nil_append, List.cons.injEq, Prod.mk.injEq] at h1 h2
     obtain ⟨⟨rfl, rfl⟩, rfl⟩ := h2
     subst h1
     by_cases hst : (s.tx i).stamp < (s.tx j).stamp
     ·right
      have hhit : s.hit i k m j = true := by
       simp only [St.hit, Bool.and_eq_true, Bool.or_eq_true, bne_iff_ne, ne_eq, decide_eq_true_eq, List.any_eq_true, beq_iff_eq]
       refine ⟨⟨hj, hst⟩, ?_⟩
       rcases hc with ⟨h3, h4⟩ | ⟨m', h3, h4⟩
       ·exact .inl ⟨h3, h4⟩
       ·exact .inr ⟨(j, m'), h3, rfl, h4⟩
      simp only [St.enq, if_neg hj, hhit, if_true]
     ·left
      rw [stamp, stamp]
      have hjn : 1 ≤ j ∧ j ≤ s.n := by
       rcases hc with ⟨h3, h4⟩ | ⟨m', h3, h4⟩
       ·exact hr.hold j h3
       ·exact (hr.qmode _ h3).1
      rcases Nat.lt_or_ge i j with h | h
      ·exact absurd (hs.age i j hi.1 h hjn.2) hst
      ·exact hs.age j i hjn.1 (by omega) hi.2
    | cons b a =>
     simp only [List.cons_append, List.cons.injEq] at h2
     exact absurd h2.2 (by simp)
   ·cases a with
    | nil =>
     simp only [List.append_nil, List.nil_append, List.cons.injEq, Prod.mk.injEq] at h1 h2
     obtain ⟨⟨rfl, rfl⟩, rfl⟩ := h2
     subst h1
     by_cases hst : (s.tx p).stamp < (s.tx j).stamp
     ·right
      have hhit : s.hit p k mp j = true := by
       simp only [St.hit, Bool.and_eq_true, Bool.or_eq_true, bne_iff_ne, ne_eq, decide_eq_true_eq, List.any_eq_true, beq_iff_eq]
       refine ⟨⟨hj, hst⟩, ?_⟩
       rcases hc with ⟨h3, h4⟩ | ⟨m', h3, h4⟩
       ·exact .inl ⟨h3, h4⟩
       ·exact .inr ⟨(j, m'), h3, rfl, h4⟩
      simp only [St.enq, if_neg hj, hhit, if_true]
     ·left
      rw [stamp, stamp]
      have hjn : 1 ≤ j ∧ j ≤ s.n := by
       rcases hc with ⟨h3, h4⟩ | ⟨m', h3, h4⟩
       ·exact hr.hold j h3
       ·exact (hr.qmode _ h3).1
      rcases Nat.lt_or_ge p j with h | h
      ·exact absurd (hs.age p j hi.1 h hjn.2) hst
      ·exact hs.age j p hjn.1 (by omega) hi.2
    | cons b a =>
     simp only [List.cons_append, List.cons.injEq] at h2
     obtain ⟨rfl, h2⟩ := h2
     exact eld j p (hr.edge l1 p mp a h1 j hj hc)
  ·simp only [List.mem_append, List.mem_singleton] at hx
   rcases hx with hx | rfl
   ·exact hr.want x hx
   ·exact hwant
 refine ⟨fun k' => ?_, fun k' => ?_, fun k' j hj => ?_, fun k' j m' hm' => ?_, fun k' j m' hm' => ?_, fun j k' hw' => ?_, fun a b g1 g2 g3 => ?_, fun j g1 g2 => ?_, fun j hj => ?_, addKey_once _ _ hs.actOnce, fun k' => ?_⟩
 ·by_cases e : k' = k
  ·subst e; rw [lk1]; exact row1
  ·rw [lk2 k' e]; exact (hs.row k').mono (Nat.le_refl _) (fun j p _ _ h => eld j p h)
 ·by_cases e : k' = k
  ·subst e
   rw [lk1]
   intro a b c hc
   cases hq : (s.lk k').q with
   | nil =>
    rw [hq] at hc hh
    simp only [List.nil_append, List.cons.injEq, Prod.mk.injEq] at hc
    obtain ⟨⟨rfl, rfl⟩, _⟩ := hc
    rcases hh with hh | hh
    ·exact absurd rfl hh
    ·exact hh
   | cons x l =>
    rw [hq] at hc
    simp only [List.cons_append, List.cons.injEq] at hc
    obtain ⟨rfl, _⟩ := hc
    exact hs.still k' a b l hq
  ·rw [lk2 k' e]; exact hs.still k'
 ·rw [state]
  by_cases e : k' = k
  ·subst e; rw [lk1] at hj; exact hs.holds k' j hj
  ·rw [lk2 k' e] at hj; exact hs.holds k' j hj
 ·rw [state]
  by_cases e : k' = k
  ·subst e
   rw [lk1] at hm'
   simp only [List.mem_append, List.mem_singleton, Prod.mk.injEq] at hm'
   rcases hm' with hm' | ⟨rfl, rfl⟩
   ·have hji : j ≠ i := fun e => nq m' (e ▸ hm')
    rw [wj j hji]; exact hs.queue k' j m' hm'
   ·exact ⟨hlive, wi⟩
  ·rw [lk2 k' e] at hm'
   have hji : j ≠ i := fun e => hs.not_waiting hw k' m' (e ▸ hm')
   rw [wj j hji]; exact hs.queue k' j m' hm'
 ·simp only [Tx.op]
  rw [ops, next]
  by_cases e : k' = k
  ·subst e
   rw [lk1] at hm'
   simp only [List.mem_append, List.mem_singleton, Prod.mk.injEq] at hm'
   rcases hm' with hm' | ⟨rfl, rfl⟩
   ·exact hs.asks k' j m' hm'
   ·exact hask
  ·rw [lk2 k' e] at hm'
   exact hs.asks k' j m' hm'
 ·by_cases ej : j = i
  ·subst ej
   rw [wi] at hw'
   simp only [Option.some.injEq] at hw'
   subst hw'
   exact ⟨m, by rw [lk1]; simp⟩
  ·rw [wj j ej] at hw'
   obtain ⟨m', h1⟩ := hs.waits j k' hw'
   refine ⟨m', ?_⟩
   by_cases e : k' = k
   ·subst e; rw [lk1]; simp [h1]
   ·rw [lk2 k' e]; exact h1
 ·rw [stamp, stamp]; exact hs.age a b g1 g2 g3
 ·rw [stamp]; exact hs.late j g1 g2
 ·have hji : j ≠ i := fun e => by subst e; exact absurd hj (Nat.not_lt.mpr hi.2)
  rw [wj j hji]; exact hs.later j hj
 ·show k' ∈ addKey s.act k ↔ _
  rw [addKey_mem]
  by_cases e : k' = k
  ·subst e
   rw [lk1, live_iff]
   simp only [or_true, true_iff]
   left; simp
  ·rw [lk2 k' e]
   simp only [e, or_false]
   exact hs.act k'
end Go.Proofs.YtmcajfefagdbnaaGreat
namespace Go.Proofs.YtmcajfefagdbnaaGreat
open Go Go.RowKit Go.Sort Go.Lib
theorem isNaN_ok (x : Int) (w : World) : Calls Tryz.prog 138 #[.int .i64 x] w fun e w' => e = .returned (.bool false) ∧ w' = w := by
 go_enter Tryz.func138, Tryz.ntmps138
 go_wp2_with fail
 go_ret
 exact ⟨by simp, rfl⟩
theorem compare_ok (x y : Int) (w : World) : Calls Tryz.prog 103 #[.int .i64 x, .int .i64 y] w fun e w' => e = .returned (.int .i64 (Lib.compareInt x y)) ∧ w' = w := by
 by_cases h1 : x < y
 ·have e : Lib.compareInt x y = -1 := by simp [Lib.compareInt, h1]
  rw [e]
  go_enter Tryz.func103, Tryz.ntmps103
  go_wp2_with (go_at_call 138; refine (isNaN_ok _ _).mono ?_; rintro e w' ⟨rfl, rfl⟩)
  go_ret
  exact ⟨rfl, rfl⟩
 ·by_cases h2 : y < x
  ·have e : Lib.compareInt x y = 1 := by simp [Lib.compareInt, h1, h2]
   rw [e]
   go_enter Tryz.func103, Tryz.ntmps103
   go_wp2_with (go_at_call 138; refine (isNaN_ok _ _).mono ?_; rintro e w' ⟨rfl, rfl⟩)
   go_ret
   exact ⟨rfl, rfl⟩
  ·have e : Lib.compareInt x y = 0 := by simp [Lib.compareInt, h1, h2]
   rw [e]
   go_enter Tryz.func103, Tryz.ntmps103
   go_wp2_with (go_at_call 138; refine (isNaN_ok _ _).mono ?_; rintro e w' ⟨rfl, rfl⟩)
   go_ret
   exact ⟨rfl, rfl⟩
theorem closure_ok (x y : Int × Int) (W : World) : Calls Tryz.prog 102 #[.agg #[.int .i64 x.1, .int .i64 x.2], .agg #[.int .i64 y.1, .int .i64 y.2]] W fun e w' => e = .returned (.int .i64 (Lib.compareInt x.1 y.1)) ∧ ∃ q os', w' = grow (W.drewN q) os' := by
 have hcon := fun W' => compare_ok x.1 y.1 W'
 generalize Lib.compareInt x.1 y.1 = r at hcon ⊢
 go_enter Tryz.func102, Tryz.ntmps102
 go_wp2_with (go_at_call 103; refine (hcon _).mono ?_; rintro e w' ⟨rfl, rfl⟩)
 go_ret
 exact ⟨rfl, 0, _, by rw [alloc_eq_grow, alloc_eq_grow, grow_grow]; rfl⟩
theorem cmpLays (blk off size : Nat) (w : World) : CmpLays Tryz.prog 102 #[] encLk 2 (fun x y => Lib.compareInt x.1 y.1) blk off size w :=
 fun _ _ _ _ x y => closure_ok x y _
theorem len12 (n : Nat) (W : World) (h : n ≤ 12) : Calls Tryz.prog 137 #[.int .u64 n] W fun e w' => (∃ l : Int, e = .returned (.int .i64 l)) ∧ w' = W :=
 (Any.bits_Len Tryz.lays125 n W (by omega) (by omega)).mono fun _ _ ⟨he, hw⟩ => ⟨⟨_, he⟩, hw⟩
theorem ltTxn (x y : Int × Int) : ltOf (fun x y : Int × Int => Lib.compareInt x.1 y.1) x y = decide (x.1 < y.1) := by
 unfold ltOf Lib.compareInt
 by_cases h1 : x.1 < y.1
 ·simp [h1]
 ·by_cases h2 : y.1 < x.1 <;> simp [h1, h2]
theorem swoTxn : SWO (ltOf fun x y : Int × Int => Lib.compareInt x.1 y.1) where
 irrefl x := by rw [ltTxn]; simp
 trans x y z h1 h2 := by rw [ltTxn] at *; simp at *; omega
 ntrans x y z h1 h2 := by rw [ltTxn] at *; simp at *; omega
theorem sortLocks (v : Value) (n : Nat) (l : List (Int × Int)) (w : World) (h : w.ownsRow 0 107 2 v n (lkc l)) (hn : n ≤ 12) :
  Calls Tryz.prog 101 #[v, .func (.func 102) #[] #[]] w fun e w' => ∃ l', e = .returned (.tuple #[]) ∧ l'.Perm l ∧ l'.Pairwise (fun x y => x.1 ≤ y.1) ∧ w'.ownsRow 0 107 2 v n (lkc l') ∧ Kept (fun k => v.ownBlock = some k) w w' := by
 have hl : l.length = n := by have := h.1; rw [lkc_len] at this; omega
 rcases h.2 with ⟨rfl, rfl⟩ | ⟨g, cap, cur, rfl, _, hg, h1, h2, h3, h4⟩
 ·have : l = [] := List.eq_nil_of_length_eq_zero hl
  subst this
  refine (show Calls Tryz.prog 101 #[.slice none 0 0, .func (.func 102) #[] #[]] w _ from AnyF.slices_SortFunc_none Tryz.sortLk none 0 _ w).mono ?_
  rintro e w' ⟨rfl, rfl⟩
  exact ⟨[], rfl, List.Perm.refl _, List.Pairwise.nil, h, Kept.refl _ _⟩
 ·subst hl
  have eg : ∀ args w, (callFunc 102 args).run Tryz.prog w = .ok (.enter 102 args) w := enters_of Tryz.func102 (by kernel_rfl) rfl
  have hH : HoldsK encLk 2 w g 0 l.toArray := by
   unfold HoldsK
   rw [lkc_flat]
   intro j hj
   have hj' : j < (lkc l).length := by simpa using hj
   refine ⟨?_, frozen_at hg _⟩
   rw [cell_at hg, Nat.zero_add]
   have e1 : (cur.toList.take (l.length * 2))[j]? = (lkc l)[j]? := by rw [h4]
   rw [List.getElem?_take_of_lt (by rw [lkc_len] at hj'; exact hj')] at e1
   rw [← Array.getElem?_toList, e1]
   simp [hj']
  have hcon := AnyQ.slices_SortFunc_small_sorted Tryz.sortLk 2 Tryz.isAgg107 Tryz.sizeOf107 encLk (fun _ => rfl) (fun x v hv => by simp [encLk] at hv; rcases hv with rfl | rfl <;> rfl) (fun x y => Lib.compareInt x.1 y.1)
   102 #[] swoTxn g 0 cap l.toArray w eg (cmpLays g 0 l.toArray.size w) hH (lt_of_block hg) (by simpa using hn) len12
  refine (show Calls Tryz.prog 101 #[.slice (some ⟨g, 0, none⟩) l.length cap, .func (.func 102) #[] #[]] w _ from hcon).mono ?_
  rintro e w' ⟨rfl, d', m, os, hp, hs, rfl⟩
  obtain ⟨l'⟩ := d'
  have hsz : l'.length = l.length := by simpa using hp.1
  have hperm : l'.Perm l := by
   have := hp.2.2
   have e1 : l'.take l.length = l' := List.take_of_length_le (by omega)
   have e2 : l.take l.length = l := List.take_of_length_le (by omega)
   simpa [e1, e2] using this
  refine ⟨l', rfl, hperm, ?_, ⟨by rw [lkc_len, hsz], .inr ⟨g, cap, putCells id 0 (lkc l').toArray cur, rfl, Nat.zero_le _, ?_, h1, h2, ?_, ?_⟩⟩, ?_⟩
  ·rw [List.pairwise_iff_getElem]
   intro i j hi hj hij
   have := hs i j (Nat.zero_le _) hij (by simpa [hsz] using hj)
   rw [ltTxn] at this
   simp [hi, hj] at this
   exact this
  ·unfold sortWorldK putRowK
   rw [lkc_flat]
   exact putRow_block id m 0 _ os hg
  ·simp [putCells, h3]
  ·apply List.ext_getElem?
   intro j
   by_cases hj : j < l.length * 2
   ·rw [List.getElem?_take_of_lt hj, Array.getElem?_toList]
    have hj2 : j < (lkc l').length := by rw [lkc_len]; omega
    have hj4 : j < l.length * 2 := hj
    have hj3 : j < cur.size := by
     have : l.length * 2 ≤ cap * 2 := Nat.mul_le_mul_right _ h1
     omega
    simp [putCells, hj2, hj3]
   ·rw [List.getElem?_take_eq_none (by omega), List.getElem?_eq_none (by rw [lkc_len]; omega)]
  ·unfold sortWorldK putRowK
   exact (putRow_kept id w m g 0 _ os).mono (fun k hk => by cases hk; rfl)
end Go.Proofs.YtmcajfefagdbnaaGreat
namespace Go.Proofs.YtmcajfefagdbnaaGreat
open Go Go.RowKit
def slotNat (a : Act) (j : Nat) : Nat := match a.tmps[j]? with | some (Value.int _ i) => i.toNat | _ => 0
def fnOf (x : FuncId × Array Value) : Value := .func (.func x.1) #[] x.2
def dfr (x : FuncId × Array Value) : Deferred := { target := .fn (.func x.1) x.2, args := #[] }
set_option maxHeartbeats 1600000 in
theorem runDeferred_any (t n : Nat) (dv : Value) (cs : List (FuncId × Array Value)) (w : World) (R : Ending → World → Prop) (hd : w.cell? ⟨t, 13, none⟩ = some dv) (hr : RowAt w 1 1 dv n (cs.map fnOf)) (hn : n ≤ 12)
  (hL : ∀ tmps, Leaves Tryz.prog Tryz.f139 tmps R (cs.map dfr).reverse .returning w) :
  Calls Tryz.prog 139 #[.pointer (some ⟨t, 5, none⟩)] w R := by
 have hlen : cs.length = n := by have := hr.1; simpa using this
 obtain ⟨ao, cap, rfl, hnc, hcm⟩ := hr.form
 have hcell : ∀ i, i < n → ∃ d off, ao = some ⟨d, off, none⟩ ∧ w.cell? ⟨d, off + i, none⟩ = some (fnOf (cs.getD i (0, #[]))) := by
  intro i hi
  rcases hr.2 with ⟨h0, h1⟩ | ⟨g, off, cap', cur, h0, _⟩
  ·omega
  ·simp only [Value.slice.injEq] at h0
   obtain ⟨rfl, _, rfl⟩ := h0
   refine ⟨g, off, rfl, hr.cell i ?_⟩
   simp [List.getD, show i < cs.length by omega]
 have HR : True := trivial
 clear hr
 go_enter_defers Tryz.func139, Tryz.ntmps139
 go_wp2_with fail
 refine wp_loop (fun a w' => w' = w ∧ ∃ i x3 x10 x11 x12 x13 x14, i ≤ n ∧ a = { tmps := #[Value.pointer (some { block := t, off := 5 }), undef, undef, x3, Value.pointer (some { block := t, off := 5 }), Value.pointer (some { block := t, off := 5 }),
  Value.pointer (some { block := t, off := 13 }), Value.slice ao n cap, Value.int IntKind.i64 (n : Int), Value.int IntKind.i64 ((i : Nat) : Int), x10, x11, x12, x13, x14], defers := ((cs.take i).map dfr).reverse })
  (fun (a : Act) _ => n - slotNat a 9) ⟨rfl, 0, undef, undef, undef, undef, undef, undef, Nat.zero_le _, by simp⟩ ?_
 rintro a w' ⟨rfl, i, x3, x10, x11, x12, x13, x14, hi, rfl⟩
 by_cases h : i < n
 ·obtain ⟨d, off, rfl, hc⟩ := hcell i h
  have hlt : (i : Int) < n := by omega
  obtain ⟨f, caps, hfc⟩ : ∃ f caps, cs.getD i (0, #[]) = (f, caps) := ⟨_, _, rfl⟩
  rw [hfc] at hc
  simp only [fnOf] at hc
  have htake : ((cs.take (i + 1)).map dfr).reverse = dfr (f, caps) :: ((cs.take i).map dfr).reverse := by
   rw [← hfc, List.take_add_one, List.map_append, List.reverse_append]
   simp [List.getD, show i < cs.length by omega]
  have HT : Hid _ := htake
  clear hcell hL htake hfc
  generalize hl : ((cs.take i).map dfr).reverse = L at *
  clear hl
  go_wp2_with fail
  refine ⟨⟨trivial, i + 1, .func (.func f) #[] caps, .bool true, .pointer (some ⟨d, off + i, none⟩), .func (.func f) #[] caps, .func (.func f) #[] caps, .int .i64 ((i : Int) + 1), by omega, ?_⟩, ?_⟩
  ·rw [HT.out, show ((i + 1 : Nat) : Int) = (i : Int) + 1 from by omega]; rfl
  ·simp [slotNat]; omega
 ·have hin : i = n := by omega
  subst hin
  have hge : ¬ ((i : Int) < i) := by omega
  have hall : cs.take i = cs := List.take_of_length_le (by omega)
  rw [hall]
  have HL : Hid _ := hL
  clear hcell hL
  generalize hl : (cs.map dfr).reverse = L at *
  clear hl
  go_wp2_with fail
  exact HL.out _
end Go.Proofs.YtmcajfefagdbnaaGreat
