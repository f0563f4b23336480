import Derived.Test.YtmcajfefagdbnaaGreatQ06
import Derived.Test.YtmcajfefagdbnaaGreatQ07
namespace Go.Proofs.YtmcajfefagdbnaaGreat
def RowBlocks (l : Lk) (e : Nat) (m : Int) (j : Nat) : Prop := j ≠ e ∧ ∃ l1 l2, l.q = l1 ++ (e, m) :: l2 ∧ ((l.h j ≠ 0 ∧ conf (l.h j) m = true) ∨ ∃ m', (j, m') ∈ l1 ∧ conf m' m = true)
theorem row_blocks {n : Nat} {E : Nat → Nat → Prop} {l : Lk} (hr : RowOk n E l) (hs : RowStill n l) {e : Nat} {m : Int} (he : (e, m) ∈ l.q) : ∃ j, RowBlocks l e m j := by
 obtain ⟨l1, l2, hq⟩ := List.append_of_mem he
 cases l1 with
 | nil =>
  obtain ⟨j, h1, h2, h3, h4⟩ := hind_true.mp (hs e m l2 hq)
  exact ⟨j, h2, [], l2, hq, .inl ⟨h3, h4⟩⟩
 | cons x l1 =>
  obtain ⟨i0, m0⟩ := x
  obtain ⟨j, h1, h2, h3, h4⟩ := hind_true.mp (hs i0 m0 _ hq)
  have hne : i0 ≠ e := by
   intro x
   have := hr.once
   rw [hq, x] at this
   simp at this
  cases hc : conf m0 m
  ·have q0 := (hr.qmode (i0, m0) (by rw [hq]; simp)).2
   have q1 := (hr.qmode (e, m) he).2
   have hw := hr.want (e, m) he
   simp only [conf, Bool.or_eq_false_iff, beq_eq_false_iff_ne, ne_eq, Bool.or_eq_true, beq_iff_eq] at hc h4
   simp only at q0 q1 hw
   have h5 : l.h j = 2 := by rcases h4 with h4 | h4 <;> omega
   have hje : j ≠ e := by
    intro x; subst x; omega
   exact ⟨j, hje, _, l2, hq, .inl ⟨h3, by simp [conf, h5]⟩⟩
  ·exact ⟨i0, hne, _, l2, hq, .inr ⟨m0, List.mem_cons_self, hc⟩⟩
theorem drop_once {l : Lk} (i : Nat) (h : (l.q.map (·.1)).Nodup) : (((l.drop i).q).map (·.1)).Nodup := List.Sublist.nodup (List.Sublist.map _ List.filter_sublist) h
theorem freed_blocks {n : Nat} {l : Lk} (ho : (l.q.map (·.1)).Nodup) {i e j : Nat} {m : Int} (hb : RowBlocks (l.freed n i) e m j) : RowBlocks l e m j ∧ j ≠ i := by
 obtain ⟨hje, l1, l2, hq, hc⟩ := hb
 obtain ⟨p, hp⟩ := settle_suffix n (l.drop i).h (l.drop i).q
 have hp' : l.q.filter (fun x => x.1 != i) = (p ++ l1) ++ (e, m) :: l2 := by
  show (l.drop i).q = _
  rw [List.append_assoc, ← hq]; exact hp
 obtain ⟨k1, k2, h1, h2⟩ := filter_split _ _ _ _ _ hp'
 have mem : ∀ x, x ∈ p ++ l1 → x ∈ k1 ∧ x.1 ≠ i := fun x hx => by
  rw [← h2, List.mem_filter] at hx
  exact ⟨hx.1, by simpa using hx.2⟩
 rcases hc with ⟨h3, h4⟩ | ⟨m', h3, h4⟩
 ·rcases settle_holds n (l.drop i).h (l.drop i).q (drop_once i ho) j with ⟨h5, _⟩ | ⟨h5, h6⟩
  ·have h7 : (l.freed n i).h j = (l.drop i).h j := h5
   have hji : j ≠ i := by
    intro x; subst x
    rw [h7] at h3
    simp [Lk.drop] at h3
   rw [h7] at h3 h4
   simp only [Lk.drop, upd_other _ _ _ _ hji] at h3 h4
   exact ⟨⟨hje, k1, k2, h1, .inl ⟨h3, h4⟩⟩, hji⟩
  ·have h5' := h5
   rw [show (l.drop i).q = p ++ (settle n (l.drop i).h (l.drop i).q).q from hp, List.mem_append] at h5'
   rw [← hp] at h5'
   rcases h5' with h5 | h5
   ·have := mem _ (List.mem_append_left _ h5)
    exact ⟨⟨hje, k1, k2, h1, .inr ⟨_, this.1, h4⟩⟩, this.2⟩
   ·exact absurd h5 (h6 _)
 ·have := mem _ (List.mem_append_right _ h3)
  exact ⟨⟨hje, k1, k2, h1, .inr ⟨m', this.1, h4⟩⟩, this.2⟩
theorem append_blocks {h : Nat → Int} {q : List (Nat × Int)} {i e j : Nat} {m m0 : Int} (hne : e ≠ i) (hb : RowBlocks ⟨h, q ++ [(i, m0)]⟩ e m j) : RowBlocks ⟨h, q⟩ e m j := by
 obtain ⟨hje, l1, l2, hq, hc⟩ := hb
 simp only at hq hc
 refine ⟨hje, l1, l2.dropLast, ?_, hc⟩
 simp only
 have h2 : l2 ≠ [] := by
  intro x
  subst x
  have := List.append_inj_right' hq rfl
  simp only [List.cons.injEq, Prod.mk.injEq, and_true] at this
  exact hne this.1.symm
 have := congrArg List.dropLast hq
 rw [List.dropLast_concat, List.dropLast_append_of_ne_nil (by simp), List.dropLast_cons_of_ne_nil h2] at this
 exact this
theorem go_blocks {s : St} (hs : Inv s) {i e j : Nat} {k m : Int} (hne : e ≠ i) (hb : RowBlocks ((s.go i).1.lk k) e m j) : RowBlocks (s.lk k) e m j ∧ ((s.tx i).wounded = true → j ≠ i) := by
 by_cases hw : (s.tx i).wounded = true
 ·rw [go_wounded s i hw] at hb
  have := freed_blocks (hs.row k).once (n := s.n) (i := i) hb
  exact ⟨this.1, fun _ => this.2⟩
 ·refine ⟨?_, fun h => absurd h hw⟩
  rcases go_lk s i k with h | h | ⟨m0, h1, h2, h3⟩ | ⟨m0, h⟩
  ·rw [h] at hb; exact hb
  ·rw [h] at hb; exact (freed_blocks (hs.row k).once hb).1
  ·rw [h3] at hb
   obtain ⟨_, l1, l2, hq, _⟩ := hb
   simp only [h1] at hq
   cases l1 <;> cases hq
  ·rw [h] at hb; exact append_blocks hne hb
def rank (s : St) (e : Nat) : Nat :=
 if (s.tx e).state ≠ 0 then 0
 else if (s.tx e).wounded = true then 3 * (s.tx e).ops.length + 2
 else if (s.tx e).waits ≠ none then 3 * ((s.tx e).ops.length - (s.tx e).next)
 else if (s.tx e).next < (s.tx e).ops.length ∧ modeOf (s.tx e).op ≤ (s.lk (s.tx e).op.a).h e then 3 * ((s.tx e).ops.length - (s.tx e).next) - 1
 else 3 * ((s.tx e).ops.length - (s.tx e).next) + 1
theorem rank_le (s : St) (e : Nat) : rank s e ≤ 3 * (s.tx e).ops.length + 2 := by
 simp only [rank]
 repeat' split
 all_goals omega
theorem rank_free {s : St} {e : Nat} (hw : (s.tx e).wounded = false) (hn : (s.tx e).waits = none) : rank s e ≤ 3 * ((s.tx e).ops.length - (s.tx e).next) + 1 := by
 simp only [rank, hw, hn]
 simp only [Bool.false_eq_true, if_false, ne_eq, not_true_eq_false]
 repeat' split
 all_goals omega
structure Eld (s : St) (e : Nat) : Prop where
 low : 1 ≤ e
 high : e ≤ s.n
 first : ∀ j, 1 ≤ j → j < e → (s.tx j).state ≠ 0
structure Lives (s : St) (i : Nat) : Prop where
 low : 1 ≤ i
 high : i ≤ s.n
 lives : (s.tx i).state = 0
theorem base_eq {t u : Tx} (h : t.base = u.base) : t.stamp = u.stamp ∧ t.state = u.state ∧ t.ops = u.ops ∧ t.next = u.next ∧ t.agains = u.agains ∧ t.regs = u.regs ∧ t.reads = u.reads ∧ t.undo = u.undo := by
 simp only [Tx.base, Tx.mk.injEq] at h
 simp [h]
theorem wound_eld {s : St} (hs : Inv s) {e i : Nat} (he : Eld s e) (hi : Lives s i) (hne : e ≠ i) : ((s.go i).1.tx e).wounded = (s.tx e).wounded := by
 rcases (go_oth s hne).wound with h | ⟨_, h⟩
 ·exact h
 ·rcases Nat.lt_or_ge i e with h1 | h1
  ·exact absurd hi.lives (he.first i hi.low h1)
  ·have := hs.age e i he.low (by omega) hi.high
   omega
theorem go_h {s : St} (hs : Inv s) {e i : Nat} (hne : e ≠ i) (k : Int) (hn : ∀ m, (e, m) ∉ (s.lk k).q) : ((s.go i).1.lk k).h e = (s.lk k).h e := by
 rcases go_lk s i k with h | h | ⟨m0, h1, h2, h3⟩ | ⟨m0, h⟩
 ·rw [h]
 ·rw [h]
  rcases settle_holds s.n ((s.lk k).drop i).h ((s.lk k).drop i).q (drop_once i (hs.row k).once) e with ⟨h5, _⟩ | ⟨h5, _⟩
  ·show ((s.lk k).freed s.n i).h e = _
   simp only [Lk.freed]; rw [h5]; simp only [Lk.drop, upd_other _ _ _ _ hne]
  ·exact absurd (List.mem_filter.mp h5).1 (hn _)
 ·rw [h3]; simp only [upd_other _ _ _ _ hne]
 ·rw [h]
theorem go_got {s : St} (hs : Inv s) {e i : Nat} (hne : e ≠ i) {k m : Int} (hm : (e, m) ∈ (s.lk k).q) (hn : ∀ m', (e, m') ∉ ((s.go i).1.lk k).q) : ((s.go i).1.lk k).h e = m := by
 rcases go_lk s i k with h | h | ⟨m0, h1, h2, h3⟩ | ⟨m0, h⟩
 ·rw [h] at hn; exact absurd hm (hn m)
 ·rw [h] at hn ⊢
  have hd : (e, m) ∈ ((s.lk k).drop i).q := by simp only [Lk.drop, List.mem_filter]; exact ⟨hm, by simpa using hne⟩
  rcases settle_holds s.n ((s.lk k).drop i).h ((s.lk k).drop i).q (drop_once i (hs.row k).once) e with ⟨_, h6⟩ | ⟨h5, _⟩
  ·exact absurd (h6 m hd) (hn m)
  ·have h7 := (List.mem_filter.mp h5).1
   have ho := (hs.row k).once
   obtain ⟨l1, l2, hq⟩ := List.append_of_mem hm
   rw [hq] at h7 ho
   simp only [List.map_append, List.map_cons] at ho
   rw [List.nodup_append] at ho
   obtain ⟨_, o2, o3⟩ := ho
   simp only [List.nodup_cons] at o2
   simp only [List.mem_append, List.mem_cons, Prod.mk.injEq] at h7
   rcases h7 with h7 | ⟨_, h7⟩ | h7
   ·exact absurd rfl (o3 e (List.mem_map.mpr ⟨_, h7, rfl⟩) e List.mem_cons_self)
   ·exact h7
   ·exact absurd (List.mem_map.mpr ⟨_, h7, rfl⟩) o2.1
 ·rw [h1] at hm; cases hm
 ·rw [h] at hn; exact absurd (List.mem_append_left _ hm) (hn m)
theorem other_rank {s : St} (hs : Inv s) {e i : Nat} (hs' : Inv (s.go i).1) (he : Eld s e) (hi : Lives s i) (hne : e ≠ i) :
  rank (s.go i).1 e ≤ rank s e ∧ ((s.tx e).state = 0 → (s.tx e).wounded = false → (s.tx e).waits ≠ none → ((s.go i).1.tx e).waits = none → rank (s.go i).1 e < rank s e) ∧ (((s.go i).1.tx e).waits = (s.tx e).waits → rank (s.go i).1 e = rank s e) := by
 have ho := go_oth s hne
 obtain ⟨b1, b2, b3, b4, _⟩ := base_eq ho.base
 have bw := wound_eld hs he hi hne
 have bo : ((s.go i).1.tx e).op = (s.tx e).op := by simp only [Tx.op, b3, b4]
 have same : ((s.go i).1.tx e).waits = (s.tx e).waits → rank (s.go i).1 e = rank s e := by
  intro hw
  simp only [rank, b2, bw, hw, b3, b4, bo]
  split
  ·rfl
  split
  ·rfl
  split
  ·rfl
  rename_i hn
  have hn' : (s.tx e).waits = none := by simpa using hn
  rw [go_h hs hne (s.tx e).op.a (hs.not_waiting hn' _)]
 have less : (s.tx e).state = 0 → (s.tx e).wounded = false → (s.tx e).waits ≠ none → ((s.go i).1.tx e).waits = none → rank (s.go i).1 e < rank s e := by
  intro z1 z2 z3 z4
  cases hk : (s.tx e).waits with
  | none => exact absurd hk z3
  | some k =>
   obtain ⟨m, hm⟩ := hs.waits e k hk
   obtain ⟨a1, a2, a3⟩ := hs.asks k e m hm
   have hg := go_got hs hne hm (hs'.not_waiting z4 k)
   have hready : modeOf (s.tx e).op ≤ ((s.go i).1.lk (s.tx e).op.a).h e := by rw [a2, hg, a3]; exact Int.le_refl _
   have r1 : rank s e = 3 * ((s.tx e).ops.length - (s.tx e).next) := by
    simp [rank, z1, z2, hk]
   have r2 : rank (s.go i).1 e = 3 * ((s.tx e).ops.length - (s.tx e).next) - 1 := by
    simp only [rank, b2, bw, z4, b3, b4, bo, z1, z2]
    simp only [ne_eq, not_true_eq_false, if_false, Bool.false_eq_true]
    rw [if_pos ⟨a1, hready⟩]
   omega
 refine ⟨?_, less, same⟩
 rcases ho.waits with h | h
 ·exact Nat.le_of_eq (same h)
 ·by_cases z1 : (s.tx e).state = 0
  ·by_cases z2 : (s.tx e).wounded = true
   ·simp only [rank, b2, bw, z1, z2, b3]
    simp
   ·by_cases z3 : (s.tx e).waits = none
    ·exact Nat.le_of_eq (same (by rw [h, z3]))
    ·exact Nat.le_of_lt (less z1 (by simpa using z2) z3 h)
  ·have r : rank (s.go i).1 e = 0 := by simp [rank, b2, z1]
   rw [r]; omega
theorem own_rank {s : St} {e : Nat} (hl : (s.tx e).state = 0) (hx : (s.tx e).next ≤ (s.tx e).ops.length) (hw : (s.tx e).wounded = true ∨ (s.tx e).waits = none) : rank (s.go e).1 e < rank s e := by
 by_cases hwd : (s.tx e).wounded = true
 ·rw [go_wounded s e hwd]
  obtain ⟨a1, a2, a3, a4, a5⟩ := again_self s e
  have := rank_free (s := s.again e) a3 a4
  rw [a1, a5] at this
  have r : rank s e = 3 * (s.tx e).ops.length + 2 := by simp [rank, hl, hwd]
  simp only [r]
  omega
 ·have hwn : (s.tx e).waits = none := by rcases hw with h | h; exact absurd h hwd; exact h
  have hwf : (s.tx e).wounded = false := by simpa using hwd
  have zero : ∀ (s' : St), (s'.tx e).state ≠ 0 → rank s' e = 0 := fun s' h => by simp [rank, h]
  have fellz : ∀ (s' : St) z, z ≠ 0 → rank (s'.fell e z) e = 0 := fun s' z hz => zero _ (by rw [(fell_self s' e z).2.1]; exact hz)
  simp only [St.go, hwf, hwn]
  simp only [Bool.false_eq_true, if_false, Option.isSome_none]
  by_cases hn : (s.tx e).next = (s.tx e).ops.length
  ·rw [if_pos hn]
   have : rank (s.commit e) e = 0 := zero _ (by rw [(commit_self s e).2.1]; decide)
   simp only [this]
   simp [rank, hl, hwf, hwn, hn]
  ·rw [if_neg hn]
   have hlt : (s.tx e).next < (s.tx e).ops.length := by omega
   have done : ∀ (s' : St), s'.tx = s.tx → rank (s'.doOp e (s.tx e).op) e ≤ 3 * ((s.tx e).ops.length - ((s.tx e).next + 1)) + 1 := by
    intro s' hs'
    obtain ⟨d1, d2, d3, d4, d5⟩ := doOp_next s' e (s.tx e).op
    rw [hs'] at d1 d2 d3 d4 d5
    have := rank_free (s := s'.doOp e (s.tx e).op) (e := e) (by rw [d3, hwf]) (by rw [d4, hwn])
    rw [d1, d5] at this
    exact this
   by_cases hm : 0 < modeOf (s.tx e).op ∧ (s.lk (s.tx e).op.a).h e < modeOf (s.tx e).op
   ·rw [if_pos hm]
    have r : rank s e = 3 * ((s.tx e).ops.length - (s.tx e).next) + 1 := by
     simp only [rank, hl, hwf, hwn]
     simp only [ne_eq, not_true_eq_false, if_false, Bool.false_eq_true]
     rw [if_neg (fun h => by have := h.2; omega)]
    split
    ·rw [fellz s 3 (by decide)]; omega
    split
    ·simp only [St.actOn, modeOf_stop hm.1, false_and, if_false]
     have := done (s.grant e (s.tx e).op.a (modeOf (s.tx e).op)) rfl
     omega
    ·have : rank (s.enq e (s.tx e).op.a (modeOf (s.tx e).op)) e = 3 * ((s.tx e).ops.length - (s.tx e).next) := by
      simp [rank, St.enq, hl, hwf]
     simp only [this]
     omega
   ·rw [if_neg hm]
    have r : 3 * ((s.tx e).ops.length - (s.tx e).next) - 1 ≤ rank s e := by
     simp only [rank, hl, hwf, hwn]
     simp only [ne_eq, not_true_eq_false, if_false, Bool.false_eq_true]
     split <;> omega
    simp only [St.actOn]
    split
    ·have := fellz s 2 (by decide)
     simp only [this]; omega
    ·have := done s rfl
     simp only
     omega
def St.stepN (s : St) (i : Nat) : St := if 1 ≤ i ∧ i ≤ s.n ∧ (s.tx i).state = 0 then (s.go i).1 else s
structure Good (s : St) : Prop where
 inv : Inv s
 fits : ∀ j, (s.tx j).next ≤ (s.tx j).ops.length
theorem go_fits {s : St} {i : Nat} (h : (s.tx i).next ≤ (s.tx i).ops.length) : ((s.go i).1.tx i).next ≤ ((s.go i).1.tx i).ops.length := by
 have hd : ∀ (s' : St) o, s'.tx = s.tx → (s.tx i).next ≠ (s.tx i).ops.length → ((s'.actOn i o).1.tx i).next ≤ ((s'.actOn i o).1.tx i).ops.length := by
  intro s' o e hn
  simp only [St.actOn]
  split
  ·obtain ⟨a1, _⟩ := fell_self s' i 2
   simp only [a1]; omega
  ·obtain ⟨d1, _, _, _, d5⟩ := doOp_next s' i o
   simp only [d1, d5, e]; omega
 simp only [St.go]
 split
 ·obtain ⟨a1, _⟩ := again_self s i
  simp only [a1]; omega
 split
 ·exact h
 split
 ·obtain ⟨a1, _, a3⟩ := commit_self s i
  simp only [a1, a3]; exact h
 rename_i hn
 split
 ·split
  ·obtain ⟨a1, _⟩ := fell_self s i 3
   simp only [a1]; omega
  split
  ·exact hd _ _ rfl hn
  ·simp only [St.enq, if_true]; exact h
 ·exact hd _ _ rfl hn
theorem Good.go {s : St} (hs : Good s) {i : Nat} (hi : Lives s i) : Good (s.go i).1 := by
 refine ⟨hs.inv.go ⟨hi.low, hi.high⟩ hi.lives (hs.fits i), fun j => ?_⟩
 by_cases e : j = i
 ·subst e; exact go_fits (hs.fits j)
 ·obtain ⟨_, _, b3, b4, _⟩ := base_eq (go_oth s e).base
  rw [b3, b4]; exact hs.fits j
theorem stepN_cases (s : St) (i : Nat) : (Lives s i ∧ s.stepN i = (s.go i).1) ∨ (¬ Lives s i ∧ s.stepN i = s) := by
 simp only [St.stepN]
 split
 ·rename_i h; exact .inl ⟨⟨h.1, h.2.1, h.2.2⟩, rfl⟩
 ·rename_i h; exact .inr ⟨fun x => h ⟨x.low, x.high, x.lives⟩, rfl⟩
theorem Good.stepN {s : St} (hs : Good s) (i : Nat) : Good (s.stepN i) := by
 rcases stepN_cases s i with ⟨h1, h2⟩ | ⟨_, h2⟩
 ·rw [h2]; exact hs.go h1
 ·rw [h2]; exact hs
theorem state_stays {s : St} {i j : Nat} (h : (s.tx j).state ≠ 0) : (((s.stepN i).tx j).state = (s.tx j).state) := by
 rcases stepN_cases s i with ⟨h1, h2⟩ | ⟨_, h2⟩
 ·rw [h2]
  have hji : j ≠ i := fun e => h (e ▸ h1.lives)
  exact (base_eq (go_oth s hji).base).2.1
 ·rw [h2]
theorem Eld.stepN {s : St} {e : Nat} (he : Eld s e) (i : Nat) : Eld (s.stepN i) e := by
 refine ⟨he.low, ?_, fun j h1 h2 => by rw [state_stays (he.first j h1 h2)]; exact he.first j h1 h2⟩
 rcases stepN_cases s i with ⟨_, h2⟩ | ⟨_, h2⟩
 ·rw [h2, (go_n s i).1]; exact he.high
 ·rw [h2]; exact he.high
theorem own_step {s : St} {e : Nat} (h1 : (s.tx e).wounded = false) (h2 : (s.tx e).waits ≠ none) : (s.go e).1 = s := by
 cases hk : (s.tx e).waits with
 | none => exact absurd hk h2
 | some k => simp [St.go, h1, hk]
theorem step_rank {s : St} (hs : Good s) {e : Nat} (he : Eld s e) (i : Nat) : rank (s.stepN i) e ≤ rank s e := by
 rcases stepN_cases s i with ⟨h1, h2⟩ | ⟨_, h2⟩
 ·rw [h2]
  by_cases hne : e = i
  ·subst hne
   by_cases hw : (s.tx e).wounded = true ∨ (s.tx e).waits = none
   ·exact Nat.le_of_lt (own_rank h1.lives (hs.fits e) hw)
   ·have : (s.tx e).wounded = false ∧ (s.tx e).waits ≠ none := ⟨by simpa using fun h => hw (.inl h), fun h => hw (.inr h)⟩
    rw [own_step this.1 this.2]; exact Nat.le_refl _
  ·exact (other_rank hs.inv (hs.go h1).inv he h1 hne).1
 ·rw [h2]; exact Nat.le_refl _
def St.steps (s : St) (l : List Nat) : St := l.foldl St.stepN s
theorem Good.steps {s : St} (hs : Good s) (l : List Nat) : Good (s.steps l) := by
 induction l generalizing s with
 | nil => exact hs
 | cons i l ih => exact ih (hs.stepN i)
theorem Eld.steps {s : St} {e : Nat} (he : Eld s e) (l : List Nat) : Eld (s.steps l) e := by
 induction l generalizing s with
 | nil => exact he
 | cons i l ih => exact ih (he.stepN i)
theorem steps_rank {s : St} (hs : Good s) {e : Nat} (he : Eld s e) (l : List Nat) : rank (s.steps l) e ≤ rank s e := by
 induction l generalizing s with
 | nil => exact Nat.le_refl _
 | cons i l ih => exact Nat.le_trans (ih (hs.stepN i) (he.stepN i)) (step_rank hs he i)
theorem rank_pos {s : St} {e : Nat} (hs : Inv s) (h : (s.tx e).state = 0) : 0 < rank s e := by
 simp only [rank, h]
 simp only [ne_eq, not_true_eq_false, if_false]
 split
 ·omega
 split
 ·rename_i hw
  cases hk : (s.tx e).waits with
  | none => exact absurd hk hw
  | some k =>
   obtain ⟨m, hm⟩ := hs.waits e k hk
   have := (hs.asks k e m hm).1
   omega
 split
 ·omega
 ·omega
theorem round_free {s : St} (hs : Good s) {e : Nat} (he : Eld s e) (l : List Nat) (hl : e ∈ l) (hw : (s.tx e).wounded = true ∨ (s.tx e).waits = none) (h0 : (s.tx e).state = 0) : rank (s.steps l) e < rank s e := by
 induction l generalizing s with
 | nil => cases hl
 | cons i l ih =>
  show rank ((s.stepN i).steps l) e < _
  have hs1 := hs.stepN i
  have he1 := he.stepN i
  by_cases hne : e = i
  ·subst hne
   have h1 : Lives s e := ⟨he.low, he.high, h0⟩
   have h2 : s.stepN e = (s.go e).1 := by
    rcases stepN_cases s e with h | h
    ·exact h.2
    ·exact absurd h1 h.1
   have := own_rank h0 (hs.fits e) hw
   rw [← h2] at this
   exact Nat.lt_of_le_of_lt (steps_rank hs1 he1 l) this
  ·have hl' : e ∈ l := by
    rcases List.mem_cons.mp hl with h | h
    ·exact absurd h hne
    ·exact h
   have hstep := step_rank hs he i
   have hfacts : ((s.stepN i).tx e).state = 0 ∧ (((s.stepN i).tx e).wounded = true ∨ ((s.stepN i).tx e).waits = none) := by
    rcases stepN_cases s i with ⟨h1, h2⟩ | ⟨_, h2⟩
    ·rw [h2]
     have ho := go_oth s hne
     refine ⟨by rw [(base_eq ho.base).2.1]; exact h0, ?_⟩
     rw [wound_eld hs.inv he h1 hne]
     rcases hw with hw | hw
     ·exact .inl hw
     ·right
      rcases ho.waits with h | h
      ·rw [h, hw]
      ·exact h
    ·rw [h2]; exact ⟨h0, hw⟩
   exact Nat.lt_of_lt_of_le (ih hs1 he1 hl' hfacts.2 hfacts.1) hstep
theorem round_waits {s : St} (hs : Good s) {e : Nat} (he : Eld s e) (l : List Nat) (h0 : (s.tx e).state = 0) (hw : (s.tx e).wounded = false) {k m : Int} (hm : (e, m) ∈ (s.lk k).q) (hb : ∀ j, RowBlocks (s.lk k) e m j → j ∈ l) : rank (s.steps l) e < rank s e := by
 induction l generalizing s with
 | nil =>
  obtain ⟨j, hj⟩ := row_blocks (hs.inv.row k) (hs.inv.still k) hm
  cases hb j hj
 | cons i l ih =>
  show rank ((s.stepN i).steps l) e < _
  have hs1 := hs.stepN i
  have he1 := he.stepN i
  have hwk := (hs.inv.queue k e m hm).2
  rcases stepN_cases s i with ⟨h1, h2⟩ | ⟨h1, h2⟩
  ·by_cases hne : e = i
   ·subst hne
    have h3 := own_step hw (by rw [hwk]; simp)
    rw [h2, h3]
    refine ih hs he h0 hw hm (fun j hj => ?_)
    rcases List.mem_cons.mp (hb j hj) with h | h
    ·exact absurd h hj.1
    ·exact h
   ·have hr := other_rank hs.inv (hs.go h1).inv he h1 hne
    have ho := go_oth s hne
    rw [h2] at hs1 he1 ⊢
    rcases ho.waits with hh | hh
    ·rw [← hr.2.2 hh]
     have hk' : ((s.go i).1.tx e).waits = some k := by rw [hh, hwk]
     obtain ⟨m', hm'⟩ := hs1.inv.waits e k hk'
     have ha := hs1.inv.asks k e m' hm'
     have ha0 := hs.inv.asks k e m hm
     have hop : ((s.go i).1.tx e).op = (s.tx e).op := by
      obtain ⟨_, _, b3, b4, _⟩ := base_eq ho.base
      simp only [Tx.op, b3, b4]
     have hmm : m' = m := by rw [← ha.2.2, ← ha0.2.2, hop]
     subst hmm
     refine ih hs1 he1 (by rw [(base_eq ho.base).2.1]; exact h0) (by rw [wound_eld hs.inv he h1 hne]; exact hw) hm' (fun j hj => ?_)
     have hg := go_blocks hs.inv hne hj
     have hji : j ≠ i := by
      intro x
      subst x
      refine hg.2 ?_ rfl
      obtain ⟨hje, l1, l2, hq, hc⟩ := hg.1
      rcases (hs.inv.row k).edge l1 e m' l2 hq j hje hc with h | h
      ·rcases Nat.lt_or_ge j e with h3 | h3
       ·exact absurd h1.lives (he.first j h1.low h3)
       ·have := hs.inv.age e j he.low (by omega) h1.high
        omega
      ·exact h
     rcases List.mem_cons.mp (hb j hg.1) with h | h
     ·exact absurd h hji
     ·exact h
    ·have := hr.2.1 h0 hw (by rw [hwk]; simp) hh
     exact Nat.lt_of_le_of_lt (steps_rank hs1 he1 l) this
  ·rw [h2]
   refine ih hs he h0 hw hm (fun j hj => ?_)
   rcases List.mem_cons.mp (hb j hj) with h | h
   ·subst h
    obtain ⟨hje, l1, l2, hq, hc⟩ := hj
    exfalso
    refine h1 ?_
    rcases hc with ⟨h3, _⟩ | ⟨m', h3, _⟩
    ·have := (hs.inv.row k).hold j h3
     exact ⟨this.1, this.2, hs.inv.holds k j h3⟩
    ·have h4 : (j, m') ∈ (s.lk k).q := by rw [hq]; simp [h3]
     have := ((hs.inv.row k).qmode _ h4).1
     exact ⟨this.1, this.2, (hs.inv.queue k j m' h4).1⟩
   ·exact h
theorem round_rank {s : St} (hs : Good s) {e : Nat} (he : Eld s e) (l : List Nat) (hl : ∀ j, 1 ≤ j → j ≤ s.n → j ∈ l) (h0 : (s.tx e).state = 0) : rank (s.steps l) e < rank s e := by
 by_cases hw : (s.tx e).wounded = true ∨ (s.tx e).waits = none
 ·exact round_free hs he l (hl e he.low he.high) hw h0
 ·have h1 : (s.tx e).wounded = false := by simpa using fun h => hw (.inl h)
  cases hk : (s.tx e).waits with
  | none => exact absurd (.inr hk) hw
  | some k =>
   obtain ⟨m, hm⟩ := hs.inv.waits e k hk
   refine round_waits hs he l h0 h1 hm (fun j hj => ?_)
   obtain ⟨hje, l1, l2, hq, hc⟩ := hj
   rcases hc with ⟨h3, _⟩ | ⟨m', h3, _⟩
   ·have := (hs.inv.row k).hold j h3
    exact hl j this.1 this.2
   ·have h4 : (j, m') ∈ (s.lk k).q := by rw [hq]; simp [h3]
    have := ((hs.inv.row k).qmode _ h4).1
    exact hl j this.1 this.2
end Go.Proofs.YtmcajfefagdbnaaGreat
namespace Go.Proofs.YtmcajfefagdbnaaGreat
theorem doOp_wins (s : St) (i : Nat) (o : Op4) : (s.doOp i o).wins = s.wins := by
 simp only [St.doOp]
 repeat' split
 all_goals rfl
end Go.Proofs.YtmcajfefagdbnaaGreat
namespace Go.Proofs.YtmcajfefagdbnaaGreat
theorem addKey_len {l : List Int} {k : Int} (h : (!l.contains k && decide (16 ≤ l.length)) = false) (hl : l.length ≤ 16) : (addKey l k).length ≤ 16 := by
 unfold addKey
 split
 ·exact hl
 ·rename_i hc
  rw [List.length_append]
  simp only [Bool.not_eq_true] at hc
  rw [hc] at h
  simp at h
  simp
  omega
theorem undone_act {s : St} {i : Nat} : (s.undone i).act.length ≤ s.act.length := List.length_filter_le _ _
theorem doOp_act {s : St} {i : Nat} {o : Op4} : (s.doOp i o).act = s.act := by
 unfold St.doOp
 repeat' split
 all_goals rfl
theorem actOn_act {s : St} {i : Nat} {o : Op4} (h : s.act.length ≤ 16) : (s.actOn i o).1.act.length ≤ 16 := by
 unfold St.actOn
 split
 ·exact Nat.le_trans (undone_act (s := s) (i := i)) h
 ·show (s.doOp i o).act.length ≤ 16
  rw [doOp_act]; exact h
theorem go_act {s : St} {i : Nat} (h : s.act.length ≤ 16) : (s.go i).1.act.length ≤ 16 := by
 unfold St.go
 split
 ·exact Nat.le_trans (undone_act (s := s) (i := i)) h
 split
 ·exact h
 split
 ·exact Nat.le_trans (List.length_filter_le _ _) h
 simp only
 split
 ·split
  ·exact Nat.le_trans (undone_act (s := s) (i := i)) h
  ·rename_i hc
   have hc' : (!s.act.contains (s.tx i).op.a && decide (16 ≤ s.act.length)) = false := by
    have : s.crowded (s.tx i).op.a = false := by simpa using hc
    exact this
   split
   ·exact actOn_act (addKey_len hc' h)
   ·exact addKey_len hc' h
 ·exact actOn_act h
end Go.Proofs.YtmcajfefagdbnaaGreat
namespace Go.Proofs.YtmcajfefagdbnaaGreat
open Go Go.RowKit Go.Sort Go.Lib
def confl (a b : Int × Int) : Bool := (a.1 != b.1) && (a.2 == 2 || b.2 == 2)
theorem conflict_ok (a b : Int × Int) (w : World) : Calls Tryz.prog 154 #[.agg #[.int .i64 a.1, .int .i64 a.2], .agg #[.int .i64 b.1, .int .i64 b.2]] w fun e w' => e = .returned (.bool (confl a b)) ∧ Kept NoBlk w w' := by
 obtain ⟨a1, a2⟩ := a
 obtain ⟨b1, b2⟩ := b
 simp only
 have hk : ∀ o1 o2, Kept NoBlk w ((w.alloc o1).alloc o2) := fun o1 o2 => ((Kept.refl _ _).alloc _).alloc _
 have HK : Hid _ := hk
 clear hk
 go_enter Tryz.func154, Tryz.ntmps154
 go_wp2_with fail
 all_goals
  go_ret
  refine ⟨?_, HK.out _ _⟩
  first | rfl | (simp_all [confl]; done)
theorem lkc_at (l : List (Int × Int)) (k : Nat) (hk : k < l.length) : (lkc l)[k * 2]? = some (.int .i64 (l.getD k (0, 0)).1) ∧ (lkc l)[k * 2 + 1]? = some (.int .i64 (l.getD k (0, 0)).2) := by
 have h1 := lkc_get l (k * 2) (by omega)
 have h2 := lkc_get l (k * 2 + 1) (by omega)
 rw [show k * 2 / 2 = k from by omega, show k * 2 % 2 = 0 from by omega] at h1
 rw [show (k * 2 + 1) / 2 = k from by omega, show (k * 2 + 1) % 2 = 1 from by omega] at h2
 exact ⟨h1, h2⟩
def LksAt (w : World) (ao : Option Addr) (l : List (Int × Int)) : Prop := ∀ k, k < l.length → ∃ g off, ao = some ⟨g, off, none⟩ ∧ w.cell? ⟨g, off + k * 2, none⟩ = some (.int .i64 (l.getD k (0, 0)).1) ∧ w.cell? ⟨g, off + k * 2 + 1, none⟩ = some (.int .i64 (l.getD k (0, 0)).2)
theorem RowAt.lks {w : World} {ao : Option Addr} {n c : Nat} {l : List (Int × Int)} (h : RowAt w 107 2 (.slice ao n c) n (lkc l)) : LksAt w ao l := by
 intro k hk
 have hl := h.1
 rw [lkc_len] at hl
 rcases h.2 with ⟨_, h1⟩ | ⟨g, off, cap, cur, h0, _⟩
 ·omega
 ·simp only [Value.slice.injEq] at h0
  obtain ⟨rfl, _, rfl⟩ := h0
  obtain ⟨e1, e2⟩ := lkc_at l k hk
  exact ⟨g, off, rfl, h.cell _ e1, by rw [Nat.add_assoc]; exact h.cell _ e2⟩
theorem LksAt.kept {w w' : World} {ao : Option Addr} {l : List (Int × Int)} {S : Nat → Prop} (h : LksAt w ao l) (hk : Kept S w w') (hn : ∀ a, ao = some a → ¬ S a.block) : LksAt w' ao l := by
 intro k hl
 obtain ⟨g, off, rfl, h1, h2⟩ := h k hl
 exact ⟨g, off, rfl, hk.cell h1 (hn ⟨g, off, none⟩ rfl), hk.cell h2 (hn ⟨g, off, none⟩ rfl)⟩
theorem take_all_succ {α : Type} (l : List α) (z : α) (f : α → Bool) (k : Nat) (hk : k < l.length) (h : (l.take k).all f = true) (hx : f (l.getD k z) = true) : (l.take (k + 1)).all f = true := by
 rw [List.take_add_one, List.all_append, h]
 simpa [List.getD, hk] using hx
theorem all_false_at {α : Type} (l : List α) (z : α) (f : α → Bool) (k : Nat) (hk : k < l.length) (hx : f (l.getD k z) = false) : l.all f = false := by
 rw [List.all_eq_false]
 refine ⟨l.getD k z, ?_, by rw [hx]; simp⟩
 simp [List.getD, hk]
def fitsB (l : List (Int × Int)) (want : Int × Int) : Bool := l.all fun x => !confl want x
set_option maxHeartbeats 3200000 in
theorem fits_any (p hb m : Nat) (row : Int) (want : Int × Int) (H : Int × Int → Option Int) (w : World) (hp : w.cell? ⟨p, 6, none⟩ = some (.map (some hb))) (hm : MapAt keyH w hb m (hvals H)) (hr : inI row)
  (hok : ∀ a, (H a).isSome = true → keyH.ok a) (hfew : ∀ l : List Int, l.Nodup → (∀ t ∈ l, (H (row, t)).isSome = true) → l.length ≤ 12) :
  Calls Tryz.prog 130 #[.pointer (some ⟨p, 0, none⟩), .int .i64 row, .agg #[.int .i64 want.1, .int .i64 want.2]] w fun e w' => ∃ l, HoldsL H row l ∧ e = .returned (.bool (fitsB l want)) ∧ Kept NoBlk w w' := by
 have hpl := World.block_lt_of_cell? w _ hp
 have HF : Hid (∀ o, Calls Tryz.prog 66 #[.pointer (some ⟨p, 0, none⟩), .int .i64 row] (w.alloc o) fun e w' => ∃ v l, e = .returned v ∧ w'.ownsRow 0 107 2 v l.length (lkc l) ∧ (∀ b, v.ownBlock = some b → (w.alloc o).heap.size ≤ b) ∧ HoldsL H row l ∧ Kept NoBlk (w.alloc o) w') :=
  fun o => holders_any p hb m row H (w.alloc o) (((Kept.refl NoBlk w).alloc o).cell0 hp) (hm.kept ((Kept.refl NoBlk w).alloc o) (fun x => x)) hr hok hfew
 clear hm hok hfew
 go_enter Tryz.func130, Tryz.ntmps130
 go_wp2_with fail
 refine (HF.out _).mono ?_
 rintro e w1 ⟨v, l, rfl, hown, hbl, hh, hk⟩
 obtain ⟨ao, c, rfl⟩ := ownsRow_form hown
 have HO : Hid (w1.ownsRow 0 107 2 (.slice ao l.length c) l.length (lkc l)) := hown
 have HH : Hid (HoldsL H row l) := hh
 have HK : Hid (Kept NoBlk w w1) := ((Kept.refl NoBlk w).alloc _).trans' hk
 have hbox := hk.heap (block_alloc_new w _) (fun x => x)
 have HBX : Hid (w1.heap[w.heap.size]? = some (.cells #[.int .i64 want.1, .int .i64 want.2] 107 (0, 0))) := hbox
 have HLK : Hid (LksAt w1 ao l) := (RowAt.owns hown).lks
 have HN : Hid (l.length ≤ c) := by have := (RowAt.owns hown).form; obtain ⟨_, _, h1, h2, _⟩ := this; cases h1; exact h2
 have HNN : Hid (c ≤ maxLen) := by have := (RowAt.owns hown).form; obtain ⟨_, _, h1, _, h2⟩ := this; cases h1; exact h2
 clear hown hbl hh hk HF hbox HO
 generalize hn : l.length = n at *
 have Hn : Hid (l.length = n) := hn
 clear hn
 have hn63 : n ≤ 9223372036854775807 := by have := HN.out; have := HNN.out; unfold maxLen at this; omega
 go_wp2_with fail
 go_loopw [13] (fun i wr => ∃ k : Nat, k ≤ n ∧ i = .int .i64 k ∧ (l.take k).all (fun x => !confl want x) = true ∧ Kept NoBlk w1 wr) (fun i _ => n - (intOf i).toNat)
 case atStart => exact ⟨0, Nat.zero_le _, rfl, rfl, Kept.refl _ _⟩
 case round =>
  obtain ⟨k, hk, rfl, hf, hkw⟩ := hrel
  have Hk : Hid (Kept NoBlk w1 wr) := hkw
  have Hf : Hid _ := hf
  have hb2 := hkw.heap HBX.out (fun x => x)
  have b0 : wr.cell? ⟨w.heap.size, 0, none⟩ = some (.int .i64 want.1) := by rw [cell_at hb2]; rfl
  have b1 : wr.cell? ⟨w.heap.size, 1, none⟩ = some (.int .i64 want.2) := by rw [cell_at hb2]; rfl
  have HWL : Hid (w.heap.size < wr.heap.size) := lt_of_block hb2
  clear hb2 hkw hf
  by_cases hlt : k < n
  ·obtain ⟨g, off, rfl, g0, g1⟩ := (LksAt.kept HLK.out Hk.out (fun _ _ x => x)) k (by rw [Hn.out]; exact hlt)
   have HKL : Hid (k < l.length) := by rw [Hn.out]; exact hlt
   generalize hx : l.getD k (0, 0) = x at *
   have Hx : Hid (l.getD k (0, 0) = x) := hx
   clear hx
   have hgl : g < wr.heap.size := World.block_lt_of_cell? wr _ g0
   have hwl : w.heap.size < wr.heap.size := HWL.out
   go_wp2_with fail
   refine (conflict_ok want x _).mono ?_
   rintro e w2 ⟨rfl, hk2⟩
   have Hk2 : Hid (Kept NoBlk w1 w2) := (Hk.out.alloc _).trans' hk2
   clear hk2 g0 g1 b0 b1
   cases hcf : confl want x
   ·go_wp2_with fail
    exact ⟨⟨k + 1, by omega, by go_num, take_all_succ l (0, 0) _ k HKL.out Hf.out (by rw [Hx.out, hcf]; rfl), Hk2.out⟩, by simp [intOf]; omega⟩
   ·go_wp2_with fail
    go_ret
    exact ⟨l, HH.out, by rw [show fitsB l want = false from all_false_at l (0, 0) _ k HKL.out (by rw [Hx.out, hcf]; rfl)]; rfl, HK.out.trans' Hk2.out⟩
  ·obtain rfl : k = n := by omega
   go_wp2_with fail
   go_ret
   have := Hf.out
   rw [← Hn.out, List.take_length] at this
   exact ⟨l, HH.out, by rw [show fitsB l want = true from this]; rfl, HK.out.trans' Hk.out⟩
end Go.Proofs.YtmcajfefagdbnaaGreat
