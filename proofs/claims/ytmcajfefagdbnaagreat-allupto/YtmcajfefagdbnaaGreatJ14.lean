import Derived.Test.YtmcajfefagdbnaaGreatJ10
import Derived.Test.YtmcajfefagdbnaaGreatJ11
import Derived.Test.YtmcajfefagdbnaaGreatJ12
import Derived.Test.YtmcajfefagdbnaaGreatJ13
namespace Go.Proofs.YtmcajfefagdbnaaGreat
open Go Go.RowKit
theorem ownsRow_eq {w : World} {e : TypeId} {size : Nat} {v : Value} {n : Nat} {xs ys : List Value} (h : w.ownsRow 0 e size v n xs) (h' : w.ownsRow 0 e size v n ys) : xs = ys := by
 have l1 := h.1
 have l2 := h'.1
 rcases h.2 with ⟨rfl, rfl⟩ | ⟨g, cap, cur, rfl, _, hg, _, _, _, hc⟩
 ·simp only [Nat.zero_mul] at l1 l2
  rw [List.eq_nil_of_length_eq_zero l1, List.eq_nil_of_length_eq_zero l2]
 ·rcases h'.2 with ⟨h0, _⟩ | ⟨g', cap', cur', h0, _, hg', _, _, _, hc'⟩
  ·cases h0
  ·simp only [Value.slice.injEq, Option.some.injEq, Addr.mk.injEq, and_true, true_and] at h0
   obtain ⟨rfl, rfl⟩ := h0
   rw [hg] at hg'
   simp only [Option.some.injEq, Obj.cells.injEq, and_true] at hg'
   subst hg'
   rw [← hc, ← hc']
def cI (m : Int) : List Value := [.int .i64 m]
def cS (m : Int) : List Value := [.int .i64 m, .bool false, .int .i64 0]
def cL (m : Int) : List Value := [.int .i64 m, .int .i64 0]
structure BkAt (S : Nat → Prop) (w : World) (lt et : TypeId) (size : Nat) (c : Int → List Value) (v : Value) (N : Nat) : Prop where
 n4 : N % 4 = 0
 ex : ∃ vs, w.ownsRow 0 lt 1 v N vs ∧ ∀ i, i < N → ∃ u n, vs[i]? = some u ∧ n ≤ 33554440 ∧ RowAt w et size u n (mks (c (mark i)) n) ∧ ∀ k, u.ownBlock = some k → S k
 own : ∀ k, v.ownBlock = some k → S k
theorem BkAt.of_same {S : Nat → Prop} {w w' : World} {lt et : TypeId} {size : Nat} {c : Int → List Value} {v : Value} {N : Nat} (h : BkAt S w lt et size c v N) (hb : ∀ k, S k → w'.heap[k]? = w.heap[k]?) : BkAt S w' lt et size c v N := by
 obtain ⟨vs, h1, h2⟩ := h.ex
 refine ⟨h.n4, ⟨vs, ownsRow_of_block h1 (fun k hk => hb k (h.own k hk)), fun i hi => ?_⟩, h.own⟩
 obtain ⟨u, n, a, b, d, e⟩ := h2 i hi
 exact ⟨u, n, a, b, d.of_block (fun k hk => hb k (e k hk)), e⟩
theorem BkAt.beside {S S' S2 : Nat → Prop} {w w' : World} {lt et : TypeId} {size : Nat} {c : Int → List Value} {v : Value} {N : Nat} (h : BkAt S w lt et size c v N) (hk : Kept S2 w w') (hS : ∀ k, S k → S' k)
  (hT : ∀ k cur t, w.heap[k]? = some (.cells cur t (0, 0)) → t = lt ∨ t = et → S k → ¬ S2 k) : BkAt S' w' lt et size c v N := by
 obtain ⟨vs, h1, h2⟩ := h.ex
 refine ⟨h.n4, ⟨vs, ownsRow_kept h1 hk (fun k hk0 => ?_), fun i hi => ?_⟩, fun k hk0 => hS k (h.own k hk0)⟩
 ·obtain ⟨cur, hc⟩ := ownsRow_block h1 hk0
  exact hT k cur _ hc (.inl rfl) (h.own k hk0)
 ·obtain ⟨u, n, a, b, d, e⟩ := h2 i hi
  refine ⟨u, n, a, b, d.kept hk (fun k hk0 => ?_), fun k hk0 => hS k (e k hk0)⟩
  obtain ⟨cur, hc⟩ := d.block hk0
  exact hT k cur _ hc (.inr rfl) (e k hk0)
theorem BkAt.more {S S' S2 : Nat → Prop} {w w' : World} {lt et : TypeId} {size : Nat} {c : Int → List Value} {v v' l x y z : Value} {N n : Nat} {vs : List Value} (h : BkAt S w lt et size c v N) (hvs : w.ownsRow 0 lt 1 v N vs) (hk : Kept S2 w w') (hS : ∀ k, S k → S' k)
  (hT : ∀ k cur, w.heap[k]? = some (.cells cur et (0, 0)) → S k → ¬ S2 k) (hv' : w'.ownsRow 0 lt 1 v' (N + 4) (vs ++ [l, x, y, z])) (hn : n ≤ 33554432) (hl : RowAt w' et size l n (mks (c (mark N)) n)) (hlS : ∀ k, l.ownBlock = some k → S' k)
  (hr : ∀ u ∈ [(x, n + 1), (y, n + 2), (z, n + 3)], RowAt w' et size u.1 u.2 (mks (c (mark N)) u.2) ∧ ∀ b, u.1.ownBlock = some b → S' b) (hvS : ∀ k, v'.ownBlock = some k → S' k) : BkAt S' w' lt et size c v' (N + 4) := by
 obtain ⟨vs', h1, h2⟩ := h.ex
 obtain rfl : vs' = vs := ownsRow_eq h1 hvs
 have h4 := h.n4
 have hvl : vs'.length = N := by have := h1.1; omega
 obtain ⟨q0, q1, q2, q3, q4⟩ := get4 hvl l x y z
 refine ⟨by omega, ⟨_, hv', fun i hi => ?_⟩, hvS⟩
 by_cases hiN : i < N
 ·obtain ⟨u, m, a, b, d, e⟩ := h2 i hiN
  refine ⟨u, m, by rw [q0 i hiN]; exact a, b, d.kept hk (fun k hk0 => ?_), fun k hk0 => hS k (e k hk0)⟩
  obtain ⟨cur, hc⟩ := d.block hk0
  exact hT k cur hc (e k hk0)
 ·obtain e | e | e | e : i = N ∨ i = N + 1 ∨ i = N + 2 ∨ i = N + 3 := by omega
  ·subst e
   exact ⟨l, n, q1, by omega, hl, hlS⟩
  ·subst e
   rw [mark4 h4 (by omega)]
   have := hr (x, n + 1) (by simp)
   exact ⟨x, n + 1, q2, by omega, this.1, this.2⟩
  ·subst e
   rw [mark4 h4 (by omega)]
   have := hr (y, n + 2) (by simp)
   exact ⟨y, n + 2, q3, by omega, this.1, this.2⟩
  ·subst e
   rw [mark4 h4 (by omega)]
   have := hr (z, n + 3) (by simp)
   exact ⟨z, n + 3, q4, by omega, this.1, this.2⟩
structure Books (S : Nat → Prop) (o J : Nat) (w : World) : Prop where
 lt : ∀ k, S k → k < w.heap.size
 body : ∃ iv sv lv rv N M K R, N ≤ J ∧ M ≤ J ∧ K ≤ J ∧ R ≤ J ∧ w.heap[o]? = some (.cells #[iv, sv, lv, rv] 30 (0, 0)) ∧ S o ∧
  BkAt S w 45 3 1 cI iv N ∧ BkAt S w 61 105 3 cS sv M ∧ BkAt S w 74 107 2 cL lv K ∧ BkAt S w 22 95 2 cL rv R
theorem Books.of_same {S : Nat → Prop} {o J : Nat} {w w' : World} (h : Books S o J w) (hs : w.heap.size ≤ w'.heap.size) (hb : ∀ k, S k → w'.heap[k]? = w.heap[k]?) : Books S o J w' := by
 obtain ⟨iv, sv, lv, rv, N, M, K, R, a1, a2, a3, a4, h1, h2, h3, h4, h5, h6⟩ := h.body
 exact ⟨fun k hk => Nat.lt_of_lt_of_le (h.lt k hk) hs, iv, sv, lv, rv, N, M, K, R, a1, a2, a3, a4, by rw [hb o h2]; exact h1, h2, h3.of_same hb, h4.of_same hb, h5.of_same hb, h6.of_same hb⟩
theorem Books.kept {S S' : Nat → Prop} {o J : Nat} {w w' : World} (h : Books S o J w) (hk : Kept S' w w') (hd : ∀ k, S k → ¬ S' k) : Books S o J w' :=
 h.of_same hk.size (fun k hs => hk.block k (h.lt k hs) (hd k hs))
theorem Books.mono {S : Nat → Prop} {o J J' : Nat} {w : World} (h : Books S o J w) (hj : J ≤ J') : Books S o J' w := by
 obtain ⟨iv, sv, lv, rv, N, M, K, R, a1, a2, a3, a4, r⟩ := h.body
 exact ⟨h.lt, iv, sv, lv, rv, N, M, K, R, by omega, by omega, by omega, by omega, r⟩
def Took (T : Nat → Prop) (o J : Nat) (l : Value) (w w' : World) : Prop := Kept (fun k => T k ∨ l.ownBlock = some k) w w' ∧ ∃ T', Books T' o (J + 4) w' ∧ ∀ k, T' k → T k ∨ l.ownBlock = some k ∨ w.heap.size ≤ k
theorem Books.born {o : Nat} {w : World} (h : w.heap[o]? = some (.cells #[.slice none 0 0, .slice none 0 0, .slice none 0 0, .slice none 0 0] 30 (0, 0))) : Books (Blk o) o 0 w := by
 have e : ∀ (lt et : TypeId) (size : Nat) (c : Int → List Value), BkAt (Blk o) w lt et size c (.slice none 0 0) 0 := fun lt et size c => ⟨rfl, ⟨[], World.ownsRow_nil _ _ _ _, fun i hi => by omega⟩, fun k hk => by simp [Value.ownBlock] at hk⟩
 exact ⟨fun k hk => by cases hk; exact lt_of_block h, _, _, _, _, 0, 0, 0, 0, Nat.le_refl _, Nat.le_refl _, Nat.le_refl _, Nat.le_refl _, h, rfl, e _ _ _ _, e _ _ _ _, e _ _ _ _, e _ _ _ _⟩
theorem takeInts_bk {T : Nat → Prop} {o J : Nat} {w : World} (h : Books T o J w) (hJ : J ≤ 1099511627776) (l : Value) (n : Nat) (xs : List Value) (hv : RowAt w 3 1 l n xs) (hn : n ≤ 33554432) (hd : ∀ k, l.ownBlock = some k → ¬ T k) :
  Calls Tryz.prog 48 #[.pointer (some ⟨o, 0, none⟩), l] w fun e w' => e = .returned (.tuple #[]) ∧ Took T o J l w w' := by
 obtain ⟨iv, sv, lv, rv, N, M, K, R, a1, a2, a3, a4, h1, h2, h3, h4, h5, h6⟩ := h.body
 obtain ⟨vs, hvs, _⟩ := h3.ex
 refine (takeInts_row o n N l xs vs iv sv lv rv w (by omega) hn h1 hv hvs).mono ?_
 rintro e w' ⟨rfl, v', x, y, z, g1, g2, g3, g4, g5, g6⟩
 have hno : ∀ k cur t, w.heap[k]? = some (.cells cur t (0, 0)) → t ≠ 30 → t ≠ 45 → T k → ¬ (k = o ∨ iv.ownBlock = some k ∨ l.ownBlock = some k) := by
  rintro k cur t hk t1 t2 hT (e | e | e)
  ·exact blocks_apart hk h1 t1 e
  ·obtain ⟨cur', hcur'⟩ := ownsRow_block hvs e
   exact blocks_apart hk hcur' t2 rfl
  ·exact hd k e hT
 refine ⟨rfl, g6.mono (fun k x => x.elim (fun y => .inl (y ▸ h2)) (fun y => y.elim (fun z => .inl (h3.own k z)) .inr)), fun k => T k ∨ l.ownBlock = some k ∨ (w.heap.size ≤ k ∧ k < w'.heap.size),
  ⟨fun k hk => ?_, v', sv, lv, rv, N + 4, M, K, R, by omega, by omega, by omega, by omega, g1, .inl h2, h3.more (S2 := fun k => k = o ∨ iv.ownBlock = some k ∨ l.ownBlock = some k) hvs g6 (fun k hk => .inl hk) (fun k cur hc hSk => hno k cur _ hc (by decide) (by decide) hSk) g2 hn g3 (fun k hk => .inr (.inl hk)) (fun u hu => ⟨(g4 u hu).1, fun b hb => ((g4 u hu).2 b hb).elim (fun x => .inr (.inl x)) (fun x => .inr (.inr ⟨x, (g4 u hu).1.lt b hb⟩))⟩) (fun k hk => (g5 k hk).elim (fun x => .inl (h3.own k x)) (fun x => .inr (.inr ⟨x, ownsRow_lt g2 k hk⟩))),
   h4.beside g6 (fun k hk => .inl hk) (fun k cur t hc ht hSk => hno k cur t hc (by rcases ht with rfl | rfl <;> decide) (by rcases ht with rfl | rfl <;> decide) hSk),
   h5.beside g6 (fun k hk => .inl hk) (fun k cur t hc ht hSk => hno k cur t hc (by rcases ht with rfl | rfl <;> decide) (by rcases ht with rfl | rfl <;> decide) hSk),
   h6.beside g6 (fun k hk => .inl hk) (fun k cur t hc ht hSk => hno k cur t hc (by rcases ht with rfl | rfl <;> decide) (by rcases ht with rfl | rfl <;> decide) hSk)⟩, fun k hk => ?_⟩
 ·rcases hk with hk | hk | hk
  ·exact Nat.lt_of_lt_of_le (h.lt k hk) g6.size
  ·exact g3.lt k hk
  ·exact hk.2
 ·rcases hk with hk | hk | hk
  ·exact .inl hk
  ·exact .inr (.inl hk)
  ·exact .inr (.inr hk.1)
theorem takeSeen_bk {T : Nat → Prop} {o J : Nat} {w : World} (h : Books T o J w) (hJ : J ≤ 1099511627776) (l : Value) (n : Nat) (xs : List Value) (hv : RowAt w 105 3 l n xs) (hn : n ≤ 33554432) (hd : ∀ k, l.ownBlock = some k → ¬ T k) :
  Calls Tryz.prog 49 #[.pointer (some ⟨o, 0, none⟩), l] w fun e w' => e = .returned (.tuple #[]) ∧ Took T o J l w w' := by
 obtain ⟨iv, sv, lv, rv, N, M, K, R, a1, a2, a3, a4, h1, h2, h3, h4, h5, h6⟩ := h.body
 obtain ⟨vs, hvs, _⟩ := h4.ex
 refine (takeSeen_row o n M l xs vs sv iv lv rv w (by omega) hn h1 hv hvs).mono ?_
 rintro e w' ⟨rfl, v', x, y, z, g1, g2, g3, g4, g5, g6⟩
 have hno : ∀ k cur t, w.heap[k]? = some (.cells cur t (0, 0)) → t ≠ 30 → t ≠ 61 → T k → ¬ (k = o ∨ sv.ownBlock = some k ∨ l.ownBlock = some k) := by
  rintro k cur t hk t1 t2 hT (e | e | e)
  ·exact blocks_apart hk h1 t1 e
  ·obtain ⟨cur', hcur'⟩ := ownsRow_block hvs e
   exact blocks_apart hk hcur' t2 rfl
  ·exact hd k e hT
 refine ⟨rfl, g6.mono (fun k x => x.elim (fun y => .inl (y ▸ h2)) (fun y => y.elim (fun z => .inl (h4.own k z)) .inr)), fun k => T k ∨ l.ownBlock = some k ∨ (w.heap.size ≤ k ∧ k < w'.heap.size),
  ⟨fun k hk => ?_, iv, v', lv, rv, N, M + 4, K, R, by omega, by omega, by omega, by omega, g1, .inl h2, h3.beside g6 (fun k hk => .inl hk) (fun k cur t hc ht hSk => hno k cur t hc (by rcases ht with rfl | rfl <;> decide) (by rcases ht with rfl | rfl <;> decide) hSk),
   h4.more (S2 := fun k => k = o ∨ sv.ownBlock = some k ∨ l.ownBlock = some k) hvs g6 (fun k hk => .inl hk) (fun k cur hc hSk => hno k cur _ hc (by decide) (by decide) hSk) g2 hn g3 (fun k hk => .inr (.inl hk)) (fun u hu => ⟨(g4 u hu).1, fun b hb => ((g4 u hu).2 b hb).elim (fun x => .inr (.inl x)) (fun x => .inr (.inr ⟨x, (g4 u hu).1.lt b hb⟩))⟩) (fun k hk => (g5 k hk).elim (fun x => .inl (h4.own k x)) (fun x => .inr (.inr ⟨x, ownsRow_lt g2 k hk⟩))),
   h5.beside g6 (fun k hk => .inl hk) (fun k cur t hc ht hSk => hno k cur t hc (by rcases ht with rfl | rfl <;> decide) (by rcases ht with rfl | rfl <;> decide) hSk),
   h6.beside g6 (fun k hk => .inl hk) (fun k cur t hc ht hSk => hno k cur t hc (by rcases ht with rfl | rfl <;> decide) (by rcases ht with rfl | rfl <;> decide) hSk)⟩, fun k hk => ?_⟩
 ·rcases hk with hk | hk | hk
  ·exact Nat.lt_of_lt_of_le (h.lt k hk) g6.size
  ·exact g3.lt k hk
  ·exact hk.2
 ·rcases hk with hk | hk | hk
  ·exact .inl hk
  ·exact .inr (.inl hk)
  ·exact .inr (.inr hk.1)
theorem takeLocks_bk {T : Nat → Prop} {o J : Nat} {w : World} (h : Books T o J w) (hJ : J ≤ 1099511627776) (l : Value) (n : Nat) (xs : List Value) (hv : RowAt w 107 2 l n xs) (hn : n ≤ 33554432) (hd : ∀ k, l.ownBlock = some k → ¬ T k) :
  Calls Tryz.prog 52 #[.pointer (some ⟨o, 0, none⟩), l] w fun e w' => e = .returned (.tuple #[]) ∧ Took T o J l w w' := by
 obtain ⟨iv, sv, lv, rv, N, M, K, R, a1, a2, a3, a4, h1, h2, h3, h4, h5, h6⟩ := h.body
 obtain ⟨vs, hvs, _⟩ := h5.ex
 refine (takeLocks_row o n K l xs vs lv iv sv rv w (by omega) hn h1 hv hvs).mono ?_
 rintro e w' ⟨rfl, v', x, y, z, g1, g2, g3, g4, g5, g6⟩
 have hno : ∀ k cur t, w.heap[k]? = some (.cells cur t (0, 0)) → t ≠ 30 → t ≠ 74 → T k → ¬ (k = o ∨ lv.ownBlock = some k ∨ l.ownBlock = some k) := by
  rintro k cur t hk t1 t2 hT (e | e | e)
  ·exact blocks_apart hk h1 t1 e
  ·obtain ⟨cur', hcur'⟩ := ownsRow_block hvs e
   exact blocks_apart hk hcur' t2 rfl
  ·exact hd k e hT
 refine ⟨rfl, g6.mono (fun k x => x.elim (fun y => .inl (y ▸ h2)) (fun y => y.elim (fun z => .inl (h5.own k z)) .inr)), fun k => T k ∨ l.ownBlock = some k ∨ (w.heap.size ≤ k ∧ k < w'.heap.size),
  ⟨fun k hk => ?_, iv, sv, v', rv, N, M, K + 4, R, by omega, by omega, by omega, by omega, g1, .inl h2, h3.beside g6 (fun k hk => .inl hk) (fun k cur t hc ht hSk => hno k cur t hc (by rcases ht with rfl | rfl <;> decide) (by rcases ht with rfl | rfl <;> decide) hSk),
   h4.beside g6 (fun k hk => .inl hk) (fun k cur t hc ht hSk => hno k cur t hc (by rcases ht with rfl | rfl <;> decide) (by rcases ht with rfl | rfl <;> decide) hSk),
   h5.more (S2 := fun k => k = o ∨ lv.ownBlock = some k ∨ l.ownBlock = some k) hvs g6 (fun k hk => .inl hk) (fun k cur hc hSk => hno k cur _ hc (by decide) (by decide) hSk) g2 hn g3 (fun k hk => .inr (.inl hk)) (fun u hu => ⟨(g4 u hu).1, fun b hb => ((g4 u hu).2 b hb).elim (fun x => .inr (.inl x)) (fun x => .inr (.inr ⟨x, (g4 u hu).1.lt b hb⟩))⟩) (fun k hk => (g5 k hk).elim (fun x => .inl (h5.own k x)) (fun x => .inr (.inr ⟨x, ownsRow_lt g2 k hk⟩))),
   h6.beside g6 (fun k hk => .inl hk) (fun k cur t hc ht hSk => hno k cur t hc (by rcases ht with rfl | rfl <;> decide) (by rcases ht with rfl | rfl <;> decide) hSk)⟩, fun k hk => ?_⟩
 ·rcases hk with hk | hk | hk
  ·exact Nat.lt_of_lt_of_le (h.lt k hk) g6.size
  ·exact g3.lt k hk
  ·exact hk.2
 ·rcases hk with hk | hk | hk
  ·exact .inl hk
  ·exact .inr (.inl hk)
  ·exact .inr (.inr hk.1)
theorem takeRows_bk {T : Nat → Prop} {o J : Nat} {w : World} (h : Books T o J w) (hJ : J ≤ 1099511627776) (l : Value) (n : Nat) (xs : List Value) (hv : RowAt w 95 2 l n xs) (hn : n ≤ 33554432) (hd : ∀ k, l.ownBlock = some k → ¬ T k) :
  Calls Tryz.prog 54 #[.pointer (some ⟨o, 0, none⟩), l] w fun e w' => e = .returned (.tuple #[]) ∧ Took T o J l w w' := by
 obtain ⟨iv, sv, lv, rv, N, M, K, R, a1, a2, a3, a4, h1, h2, h3, h4, h5, h6⟩ := h.body
 obtain ⟨vs, hvs, _⟩ := h6.ex
 refine (takeRows_row o n R l xs vs rv iv sv lv w (by omega) hn h1 hv hvs).mono ?_
 rintro e w' ⟨rfl, v', x, y, z, g1, g2, g3, g4, g5, g6⟩
 have hno : ∀ k cur t, w.heap[k]? = some (.cells cur t (0, 0)) → t ≠ 30 → t ≠ 22 → T k → ¬ (k = o ∨ rv.ownBlock = some k ∨ l.ownBlock = some k) := by
  rintro k cur t hk t1 t2 hT (e | e | e)
  ·exact blocks_apart hk h1 t1 e
  ·obtain ⟨cur', hcur'⟩ := ownsRow_block hvs e
   exact blocks_apart hk hcur' t2 rfl
  ·exact hd k e hT
 refine ⟨rfl, g6.mono (fun k x => x.elim (fun y => .inl (y ▸ h2)) (fun y => y.elim (fun z => .inl (h6.own k z)) .inr)), fun k => T k ∨ l.ownBlock = some k ∨ (w.heap.size ≤ k ∧ k < w'.heap.size),
  ⟨fun k hk => ?_, iv, sv, lv, v', N, M, K, R + 4, by omega, by omega, by omega, by omega, g1, .inl h2, h3.beside g6 (fun k hk => .inl hk) (fun k cur t hc ht hSk => hno k cur t hc (by rcases ht with rfl | rfl <;> decide) (by rcases ht with rfl | rfl <;> decide) hSk),
   h4.beside g6 (fun k hk => .inl hk) (fun k cur t hc ht hSk => hno k cur t hc (by rcases ht with rfl | rfl <;> decide) (by rcases ht with rfl | rfl <;> decide) hSk),
   h5.beside g6 (fun k hk => .inl hk) (fun k cur t hc ht hSk => hno k cur t hc (by rcases ht with rfl | rfl <;> decide) (by rcases ht with rfl | rfl <;> decide) hSk),
   h6.more (S2 := fun k => k = o ∨ rv.ownBlock = some k ∨ l.ownBlock = some k) hvs g6 (fun k hk => .inl hk) (fun k cur hc hSk => hno k cur _ hc (by decide) (by decide) hSk) g2 hn g3 (fun k hk => .inr (.inl hk)) (fun u hu => ⟨(g4 u hu).1, fun b hb => ((g4 u hu).2 b hb).elim (fun x => .inr (.inl x)) (fun x => .inr (.inr ⟨x, (g4 u hu).1.lt b hb⟩))⟩) (fun k hk => (g5 k hk).elim (fun x => .inl (h6.own k x)) (fun x => .inr (.inr ⟨x, ownsRow_lt g2 k hk⟩)))⟩, fun k hk => ?_⟩
 ·rcases hk with hk | hk | hk
  ·exact Nat.lt_of_lt_of_le (h.lt k hk) g6.size
  ·exact g3.lt k hk
  ·exact hk.2
 ·rcases hk with hk | hk | hk
  ·exact .inl hk
  ·exact .inr (.inl hk)
  ·exact .inr (.inr hk.1)
end Go.Proofs.YtmcajfefagdbnaaGreat
namespace Go.Proofs.YtmcajfefagdbnaaGreat
open Go Go.RowKit Go.Sort Go.Lib
def confl (a b : Int × Int) : Bool := (a.1 != b.1) && (a.2 == 2 || b.2 == 2)
theorem conflict_ok (a b : Int × Int) (w : World) : Calls Tryz.prog 154 #[.agg #[.int .i64 a.1, .int .i64 a.2], .agg #[.int .i64 b.1, .int .i64 b.2]] w fun e w' => e = .returned (.bool (confl a b)) ∧ Kept NoBlk w w' := by
 obtain ⟨a1, a2⟩ := a
 obtain ⟨b1, b2⟩ := b
 simp only
 have hk : ∀ o1 o2, Kept NoBlk w ((w.alloc o1).alloc o2) := fun o1 o2 => ((Kept.refl _ _).alloc _).alloc _
 have HK : Hid _ := hk
 clear hk
 go_enter Tryz.func154, Tryz.ntmps154
 go_wp2_with fail
 all_goals
  go_ret
  refine ⟨?_, HK.out _ _⟩
  first | rfl | (simp_all [confl]; done)
theorem lkc_at (l : List (Int × Int)) (k : Nat) (hk : k < l.length) : (lkc l)[k * 2]? = some (.int .i64 (l.getD k (0, 0)).1) ∧ (lkc l)[k * 2 + 1]? = some (.int .i64 (l.getD k (0, 0)).2) := by
 have h1 := lkc_get l (k * 2) (by omega)
 have h2 := lkc_get l (k * 2 + 1) (by omega)
 rw [show k * 2 / 2 = k from by omega, show k * 2 % 2 = 0 from by omega] at h1
 rw [show (k * 2 + 1) / 2 = k from by omega, show (k * 2 + 1) % 2 = 1 from by omega] at h2
 exact ⟨h1, h2⟩
def LksAt (w : World) (ao : Option Addr) (l : List (Int × Int)) : Prop := ∀ k, k < l.length → ∃ g off, ao = some ⟨g, off, none⟩ ∧ w.cell? ⟨g, off + k * 2, none⟩ = some (.int .i64 (l.getD k (0, 0)).1) ∧ w.cell? ⟨g, off + k * 2 + 1, none⟩ = some (.int .i64 (l.getD k (0, 0)).2)
theorem RowAt.lks {w : World} {ao : Option Addr} {n c : Nat} {l : List (Int × Int)} (h : RowAt w 107 2 (.slice ao n c) n (lkc l)) : LksAt w ao l := by
 intro k hk
 have hl := h.1
 rw [lkc_len] at hl
 rcases h.2 with ⟨_, h1⟩ | ⟨g, off, cap, cur, h0, _⟩
 ·omega
 ·simp only [Value.slice.injEq] at h0
  obtain ⟨rfl, _, rfl⟩ := h0
  obtain ⟨e1, e2⟩ := lkc_at l k hk
  exact ⟨g, off, rfl, h.cell _ e1, by rw [Nat.add_assoc]; exact h.cell _ e2⟩
theorem LksAt.kept {w w' : World} {ao : Option Addr} {l : List (Int × Int)} {S : Nat → Prop} (h : LksAt w ao l) (hk : Kept S w w') (hn : ∀ a, ao = some a → ¬ S a.block) : LksAt w' ao l := by
 intro k hl
 obtain ⟨g, off, rfl, h1, h2⟩ := h k hl
 exact ⟨g, off, rfl, hk.cell h1 (hn ⟨g, off, none⟩ rfl), hk.cell h2 (hn ⟨g, off, none⟩ rfl)⟩
theorem take_all_succ {α : Type} (l : List α) (z : α) (f : α → Bool) (k : Nat) (hk : k < l.length) (h : (l.take k).all f = true) (hx : f (l.getD k z) = true) : (l.take (k + 1)).all f = true := by
 rw [List.take_add_one, List.all_append, h]
 simpa [List.getD, hk] using hx
theorem all_false_at {α : Type} (l : List α) (z : α) (f : α → Bool) (k : Nat) (hk : k < l.length) (hx : f (l.getD k z) = false) : l.all f = false := by
 rw [List.all_eq_false]
 refine ⟨l.getD k z, ?_, by rw [hx]; simp⟩
 simp [List.getD, hk]
def fitsB (l : List (Int × Int)) (want : Int × Int) : Bool := l.all fun x => !confl want x
set_option maxHeartbeats 3200000 in
theorem fits_any (p hb m : Nat) (row : Int) (want : Int × Int) (H : Int × Int → Option Int) (w : World) (hp : w.cell? ⟨p, 6, none⟩ = some (.map (some hb))) (hm : MapAt keyH w hb m (hvals H)) (hr : inI row)
  (hok : ∀ a, (H a).isSome = true → keyH.ok a) (hfew : ∀ l : List Int, l.Nodup → (∀ t ∈ l, (H (row, t)).isSome = true) → l.length ≤ 12) :
  Calls Tryz.prog 130 #[.pointer (some ⟨p, 0, none⟩), .int .i64 row, .agg #[.int .i64 want.1, .int .i64 want.2]] w fun e w' => ∃ l, HoldsL H row l ∧ e = .returned (.bool (fitsB l want)) ∧ Kept NoBlk w w' := by
 have hpl := World.block_lt_of_cell? w _ hp
 have HF : Hid (∀ o, Calls Tryz.prog 66 #[.pointer (some ⟨p, 0, none⟩), .int .i64 row] (w.alloc o) fun e w' => ∃ v l, e = .returned v ∧ w'.ownsRow 0 107 2 v l.length (lkc l) ∧ (∀ b, v.ownBlock = some b → (w.alloc o).heap.size ≤ b) ∧ HoldsL H row l ∧ Kept NoBlk (w.alloc o) w') :=
  fun o => holders_any p hb m row H (w.alloc o) (((Kept.refl NoBlk w).alloc o).cell0 hp) (hm.kept ((Kept.refl NoBlk w).alloc o) (fun x => x)) hr hok hfew
 clear hm hok hfew
 go_enter Tryz.func130, Tryz.ntmps130
 go_wp2_with fail
 refine (HF.out _).mono ?_
 rintro e w1 ⟨v, l, rfl, hown, hbl, hh, hk⟩
 obtain ⟨ao, c, rfl⟩ := ownsRow_form hown
 have HO : Hid (w1.ownsRow 0 107 2 (.slice ao l.length c) l.length (lkc l)) := hown
 have HH : Hid (HoldsL H row l) := hh
 have HK : Hid (Kept NoBlk w w1) := ((Kept.refl NoBlk w).alloc _).trans' hk
 have hbox := hk.heap (block_alloc_new w _) (fun x => x)
 have HBX : Hid (w1.heap[w.heap.size]? = some (.cells #[.int .i64 want.1, .int .i64 want.2] 107 (0, 0))) := hbox
 have HLK : Hid (LksAt w1 ao l) := (RowAt.owns hown).lks
 have HN : Hid (l.length ≤ c) := by have := (RowAt.owns hown).form; obtain ⟨_, _, h1, h2, _⟩ := this; cases h1; exact h2
 have HNN : Hid (c ≤ maxLen) := by have := (RowAt.owns hown).form; obtain ⟨_, _, h1, _, h2⟩ := this; cases h1; exact h2
 clear hown hbl hh hk HF hbox HO
 generalize hn : l.length = n at *
 have Hn : Hid (l.length = n) := hn
 clear hn
 have hn63 : n ≤ 9223372036854775807 := by have := HN.out; have := HNN.out; unfold maxLen at this; omega
 go_wp2_with fail
 go_loopw [13] (fun i wr => ∃ k : Nat, k ≤ n ∧ i = .int .i64 k ∧ (l.take k).all (fun x => !confl want x) = true ∧ Kept NoBlk w1 wr) (fun i _ => n - (intOf i).toNat)
 case atStart => exact ⟨0, Nat.zero_le _, rfl, rfl, Kept.refl _ _⟩
 case round =>
  obtain ⟨k, hk, rfl, hf, hkw⟩ := hrel
  have Hk : Hid (Kept NoBlk w1 wr) := hkw
  have Hf : Hid _ := hf
  have hb2 := hkw.heap HBX.out (fun x => x)
  have b0 : wr.cell? ⟨w.heap.size, 0, none⟩ = some (.int .i64 want.1) := by rw [cell_at hb2]; rfl
  have b1 : wr.cell? ⟨w.heap.size, 1, none⟩ = some (.int .i64 want.2) := by rw [cell_at hb2]; rfl
  have HWL : Hid (w.heap.size < wr.heap.size) := lt_of_block hb2
  clear hb2 hkw hf
  by_cases hlt : k < n
  ·obtain ⟨g, off, rfl, g0, g1⟩ := (LksAt.kept HLK.out Hk.out (fun _ _ x => x)) k (by rw [Hn.out]; exact hlt)
   have HKL : Hid (k < l.length) := by rw [Hn.out]; exact hlt
   generalize hx : l.getD k (0, 0) = x at *
   have Hx : Hid (l.getD k (0, 0) = x) := hx
   clear hx
   have hgl : g < wr.heap.size := World.block_lt_of_cell? wr _ g0
   have hwl : w.heap.size < wr.heap.size := HWL.out
   go_wp2_with fail
   refine (conflict_ok want x _).mono ?_
   rintro e w2 ⟨rfl, hk2⟩
   have Hk2 : Hid (Kept NoBlk w1 w2) := (Hk.out.alloc _).trans' hk2
   clear hk2 g0 g1 b0 b1
   cases hcf : confl want x
   ·go_wp2_with fail
    exact ⟨⟨k + 1, by omega, by go_num, take_all_succ l (0, 0) _ k HKL.out Hf.out (by rw [Hx.out, hcf]; rfl), Hk2.out⟩, by simp [intOf]; omega⟩
   ·go_wp2_with fail
    go_ret
    exact ⟨l, HH.out, by rw [show fitsB l want = false from all_false_at l (0, 0) _ k HKL.out (by rw [Hx.out, hcf]; rfl)]; rfl, HK.out.trans' Hk2.out⟩
  ·obtain rfl : k = n := by omega
   go_wp2_with fail
   go_ret
   have := Hf.out
   rw [← Hn.out, List.take_length] at this
   exact ⟨l, HH.out, by rw [show fitsB l want = true from this]; rfl, HK.out.trans' Hk.out⟩
end Go.Proofs.YtmcajfefagdbnaaGreat
namespace Go.Proofs.YtmcajfefagdbnaaGreat
structure Eld (s : St) (e : Nat) : Prop where
 low : 1 ≤ e
 high : e ≤ s.n
 first : ∀ j, 1 ≤ j → j < e → (s.tx j).state ≠ 0
structure Lives (s : St) (i : Nat) : Prop where
 low : 1 ≤ i
 high : i ≤ s.n
 lives : (s.tx i).state = 0
theorem base_eq {t u : Tx} (h : t.base = u.base) : t.stamp = u.stamp ∧ t.state = u.state ∧ t.ops = u.ops ∧ t.next = u.next ∧ t.agains = u.agains ∧ t.regs = u.regs ∧ t.reads = u.reads ∧ t.undo = u.undo := by
 simp only [Tx.base, Tx.mk.injEq] at h
 simp [h]
structure Good (s : St) : Prop where
 inv : Inv s
 fits : ∀ j, (s.tx j).next ≤ (s.tx j).ops.length
theorem go_fits {s : St} {i : Nat} (h : (s.tx i).next ≤ (s.tx i).ops.length) : ((s.go i).1.tx i).next ≤ ((s.go i).1.tx i).ops.length := by
 have hd : ∀ (s' : St) o, s'.tx = s.tx → (s.tx i).next ≠ (s.tx i).ops.length → ((s'.actOn i o).1.tx i).next ≤ ((s'.actOn i o).1.tx i).ops.length := by
  intro s' o e hn
  simp only [St.actOn]
  split
  ·obtain ⟨a1, _⟩ := fell_self s' i 2
   simp only [a1]; omega
  ·obtain ⟨d1, _, _, _, d5⟩ := doOp_next s' i o
   simp only [d1, d5, e]; omega
 simp only [St.go]
 split
 ·obtain ⟨a1, _⟩ := again_self s i
  simp only [a1]; omega
 split
 ·exact h
 split
 ·obtain ⟨a1, _, a3⟩ := commit_self s i
  simp only [a1, a3]; exact h
 rename_i hn
 split
 ·split
  ·obtain ⟨a1, _⟩ := fell_self s i 3
   simp only [a1]; omega
  split
  ·exact hd _ _ rfl hn
  ·simp only [St.enq, if_true]; exact h
 ·exact hd _ _ rfl hn
theorem Good.go {s : St} (hs : Good s) {i : Nat} (hi : Lives s i) : Good (s.go i).1 := by
 refine ⟨hs.inv.go ⟨hi.low, hi.high⟩ hi.lives (hs.fits i), fun j => ?_⟩
 by_cases e : j = i
 ·subst e; exact go_fits (hs.fits j)
 ·obtain ⟨_, _, b3, b4, _⟩ := base_eq (go_oth s e).base
  rw [b3, b4]; exact hs.fits j
end Go.Proofs.YtmcajfefagdbnaaGreat
