import Derived.Test.YtmcajfefagdbnaaGreatLKeptFn
namespace Go.Proofs.YtmcajfefagdbnaaGreat
open Go Go.RowKit

/-- The lists that came out, as their owner wrote them; all blocks among S. -/
structure BInv (S : Nat → Prop) (o N M : Nat) (w : World) : Prop where
  lt : ∀ k, S k → k < w.heap.size
  n4 : N % 4 = 0
  m4 : M % 4 = 0
  body : ∃ iv sv vs us, w.heap[o]? = some (.cells #[iv, sv, .slice none 0 0, .slice none 0 0] 30 (0, 0)) ∧ S o ∧
    w.ownsRow 0 45 1 iv N vs ∧ (∀ k, iv.ownBlock = some k → S k) ∧ w.ownsRow 0 61 1 sv M us ∧ (∀ k, sv.ownBlock = some k → S k) ∧
    (∀ i, i < N → ∃ v n, vs[i]? = some v ∧ n ≤ 1048580 ∧ w.ownsRow 0 3 1 v n (List.replicate n (.int .i64 (mark i))) ∧ ∀ k, v.ownBlock = some k → S k) ∧
    (∀ i, i < M → ∃ v n, us[i]? = some v ∧ n ≤ 1048580 ∧ w.ownsRow 0 105 3 v n (seenCsL (mark i) n) ∧ ∀ k, v.ownBlock = some k → S k)

theorem BInv.of_same {S : Nat → Prop} {o N M : Nat} {w w' : World} (h : BInv S o N M w) (hs : w.heap.size ≤ w'.heap.size) (hb : ∀ k, S k → w'.heap[k]? = w.heap[k]?) : BInv S o N M w' := by
  obtain ⟨iv, sv, vs, us, h1, h2, h3, h4, h5, h6, h7, h8⟩ := h.body
  refine ⟨fun k hk => Nat.lt_of_lt_of_le (h.lt k hk) hs, h.n4, h.m4, iv, sv, vs, us, by rw [hb o h2]; exact h1, h2, ownsRow_of_block h3 (fun k hk => hb k (h4 k hk)), h4, ownsRow_of_block h5 (fun k hk => hb k (h6 k hk)), h6, fun i hi => ?_, fun i hi => ?_⟩
  · obtain ⟨v, n, a, b, c, d⟩ := h7 i hi
    exact ⟨v, n, a, b, ownsRow_of_block c (fun k hk => hb k (d k hk)), d⟩
  · obtain ⟨v, n, a, b, c, d⟩ := h8 i hi
    exact ⟨v, n, a, b, ownsRow_of_block c (fun k hk => hb k (d k hk)), d⟩

theorem BInv.kept {S S' : Nat → Prop} {o N M : Nat} {w w' : World} (h : BInv S o N M w) (hk : Kept S' w w') (hd : ∀ k, S k → ¬ S' k) : BInv S o N M w' :=
  h.of_same hk.size (fun k hs => hk.block k (h.lt k hs) (hd k hs))

theorem kept_inv (S : Nat → Prop) (o N M : Nat) (w : World) (h : BInv S o N M w) (hN : N ≤ 16777216) (hM : M ≤ 16777216) :
    Calls Tryz.prog 17 #[.pointer (some ⟨o, 0, none⟩)] w fun e w' => e = .returned (.bool true) ∧ w' = w := by
  obtain ⟨iv, sv, vs, us, h1, h2, h3, h4, h5, h6, h7, h8⟩ := h.body
  exact kept_any o N M iv sv vs us w hN hM h1 h3 h5 (fun i hi => by obtain ⟨v, n, a, b, c, _⟩ := h7 i hi; exact ⟨v, n, a, b, c⟩) (fun i hi => by obtain ⟨v, n, a, b, c, _⟩ := h8 i hi; exact ⟨v, n, a, b, c⟩)

theorem mark_four {N j : Nat} (h : N % 4 = 0) (hj : j < 4) : mark (N + j) = mark N := by
  unfold mark
  rw [show (N + j) / 4 = N / 4 from by omega]

theorem get_snoc4 {vs : List Value} {N : Nat} (hl : vs.length = N) (x0 x1 x2 x3 : Value) :
    (∀ i, i < N → (vs ++ [x0, x1, x2, x3])[i]? = vs[i]?) ∧ (vs ++ [x0, x1, x2, x3])[N]? = some x0 ∧ (vs ++ [x0, x1, x2, x3])[N + 1]? = some x1 ∧ (vs ++ [x0, x1, x2, x3])[N + 2]? = some x2 ∧ (vs ++ [x0, x1, x2, x3])[N + 3]? = some x3 := by
  subst hl
  refine ⟨fun i hi => List.getElem?_append_left hi, ?_, ?_, ?_, ?_⟩ <;> (rw [List.getElem?_append_right (by omega)]; simp)

theorem takeInts_inv (S : Nat → Prop) (o N M n : Nat) (ao : Option Addr) (xs : List Value) (w : World) (h : BInv S o N M w) (hN : N ≤ 16777216) (hn : n ≤ 1048576) (hv : w.ownsRow 0 3 1 (.slice ao n n) n xs)
    (hd : ∀ k, (Value.slice ao n n).ownBlock = some k → ¬ S k) :
    Calls Tryz.prog 48 #[.pointer (some ⟨o, 0, none⟩), .slice ao n n] w fun e w' => e = .returned (.tuple #[]) ∧ Kept (fun k => S k ∨ (Value.slice ao n n).ownBlock = some k) w w' ∧
      ∃ S', BInv S' o (N + 4) M w' ∧ ∀ k, S' k → S k ∨ (Value.slice ao n n).ownBlock = some k ∨ w.heap.size ≤ k := by
  obtain ⟨iv, sv, vs, us, h1, h2, h3, h4, h5, h6, h7, h8⟩ := h.body
  refine (takeInts_any o n N ao xs vs iv sv _ _ w hN hn h1 hv h3).mono ?_
  rintro e w' ⟨rfl, iv', a1, c1, a2, c2, a3, c3, g1, g2, g3, g4, g5, g6, g7, g8, g9⟩
  have hsz := g9.size
  have hvl : vs.length = N := by have := h3.1; omega
  obtain ⟨q0, q1, q2, q3, q4⟩ := get_snoc4 hvl (.slice ao n n) (.slice a1 (n + 1) c1) (.slice a2 (n + 2) c2) (.slice a3 (n + 3) c3)
  have hno : ∀ k cur t, w.heap[k]? = some (.cells cur t (0, 0)) → t ≠ 30 → t ≠ 45 → ¬ (Value.slice ao n n).ownBlock = some k → ¬ (k = o ∨ iv.ownBlock = some k ∨ (Value.slice ao n n).ownBlock = some k) := by
    rintro k cur t hk t1 t2 t3 (e | e | e)
    · exact blocks_apart hk h1 t1 e
    · obtain ⟨cur', hcur'⟩ := ownsRow_block h3 e
      exact blocks_apart hk hcur' t2 rfl
    · exact t3 e
  refine ⟨rfl, g9.mono (fun k x => x.elim (fun y => .inl (y ▸ h2)) (fun y => y.elim (fun z => .inl (h4 k z)) .inr)),
    fun k => S k ∨ (Value.slice ao n n).ownBlock = some k ∨ iv'.ownBlock = some k ∨ (Value.slice a1 (n + 1) c1).ownBlock = some k ∨ (Value.slice a2 (n + 2) c2).ownBlock = some k ∨ (Value.slice a3 (n + 3) c3).ownBlock = some k,
    ⟨?_, by have := h.n4; omega, h.m4, iv', sv, _, us, g1, .inl h2, g2, fun k hk => .inr (.inr (.inl hk)), ?_, fun k hk => .inl (h6 k hk), ?_, ?_⟩, ?_⟩
  · intro k hk
    rcases hk with hk | hk | hk | hk | hk | hk
    · have := h.lt k hk; omega
    · exact ownsRow_lt g3 k hk
    · exact ownsRow_lt g2 k hk
    · exact ownsRow_lt g4 k hk
    · exact ownsRow_lt g5 k hk
    · exact ownsRow_lt g6 k hk
  · exact ownsRow_kept h5 g9 (fun k hk => by
      obtain ⟨cur, hcur⟩ := ownsRow_block h5 hk
      exact hno k cur _ hcur (by decide) (by decide) (fun e => hd k e (h6 k hk)))
  · intro i hi
    by_cases hiN : i < N
    · obtain ⟨v, m, a, b, c, d⟩ := h7 i hiN
      refine ⟨v, m, by rw [q0 i hiN]; exact a, b, ownsRow_kept c g9 (fun k hk => ?_), fun k hk => .inl (d k hk)⟩
      obtain ⟨cur, hcur⟩ := ownsRow_block c hk
      exact hno k cur _ hcur (by decide) (by decide) (fun e => hd k e (d k hk))
    · have h4' := h.n4
      obtain e | e | e | e : i = N ∨ i = N + 1 ∨ i = N + 2 ∨ i = N + 3 := by omega
      · subst e
        exact ⟨_, n, q1, by omega, g3, fun k hk => .inr (.inl hk)⟩
      · subst e
        rw [mark_four h4' (by omega)]
        exact ⟨_, n + 1, q2, by omega, g4, fun k hk => .inr (.inr (.inr (.inl hk)))⟩
      · subst e
        rw [mark_four h4' (by omega)]
        exact ⟨_, n + 2, q3, by omega, g5, fun k hk => .inr (.inr (.inr (.inr (.inl hk))))⟩
      · subst e
        rw [mark_four h4' (by omega)]
        exact ⟨_, n + 3, q4, by omega, g6, fun k hk => .inr (.inr (.inr (.inr (.inr hk))))⟩
  · intro i hi
    obtain ⟨v, m, a, b, c, d⟩ := h8 i hi
    refine ⟨v, m, a, b, ownsRow_kept c g9 (fun k hk => ?_), fun k hk => .inl (d k hk)⟩
    obtain ⟨cur, hcur⟩ := ownsRow_block c hk
    exact hno k cur _ hcur (by decide) (by decide) (fun e => hd k e (d k hk))
  · intro k hk
    rcases hk with hk | hk | hk | hk | hk | hk
    · exact .inl hk
    · exact .inr (.inl hk)
    · rcases g8 k hk with x | x
      · exact .inl (h4 k x)
      · exact .inr (.inr x)
    · exact .inr (.inr (g7 k (.inl hk)))
    · exact .inr (.inr (g7 k (.inr (.inl hk))))
    · exact .inr (.inr (g7 k (.inr (.inr hk))))

theorem takeSeen_inv (S : Nat → Prop) (o N M : Nat) (ao : Option Addr) (w : World) (h : BInv S o N M w) (hM : M ≤ 16777216) (hv : w.ownsRow 0 105 3 (.slice ao 0 0) 0 []) :
    Calls Tryz.prog 49 #[.pointer (some ⟨o, 0, none⟩), .slice ao 0 0] w fun e w' => e = .returned (.tuple #[]) ∧ Kept S w w' ∧
      ∃ S', BInv S' o N (M + 4) w' ∧ ∀ k, S' k → S k ∨ (Value.slice ao 0 0).ownBlock = some k ∨ w.heap.size ≤ k := by
  obtain ⟨iv, sv, vs, us, h1, h2, h3, h4, h5, h6, h7, h8⟩ := h.body
  refine (takeSeen_none o M ao us iv sv _ _ w hM h1 hv h5).mono ?_
  rintro e w' ⟨rfl, sv', a1, c1, a2, c2, a3, c3, g1, g2, g4, g5, g6, g7, g8, g9⟩
  have hsz := g9.size
  have hvl : us.length = M := by have := h5.1; omega
  obtain ⟨q0, q1, q2, q3, q4⟩ := get_snoc4 hvl (.slice ao 0 0) (.slice a1 1 c1) (.slice a2 2 c2) (.slice a3 3 c3)
  have hno : ∀ k cur t, w.heap[k]? = some (.cells cur t (0, 0)) → t ≠ 30 → t ≠ 61 → ¬ (k = o ∨ sv.ownBlock = some k) := by
    rintro k cur t hk t1 t2 (e | e)
    · exact blocks_apart hk h1 t1 e
    · obtain ⟨cur', hcur'⟩ := ownsRow_block h5 e
      exact blocks_apart hk hcur' t2 rfl
  have g3 : w'.ownsRow 0 105 3 (.slice ao 0 0) 0 [] := ownsRow_kept hv g9 (fun k hk => by
    obtain ⟨cur, hcur⟩ := ownsRow_block hv hk
    exact hno k cur _ hcur (by decide) (by decide))
  refine ⟨rfl, g9.mono (fun k x => x.elim (fun y => y ▸ h2) (fun y => h6 k y)),
    fun k => S k ∨ (Value.slice ao 0 0).ownBlock = some k ∨ sv'.ownBlock = some k ∨ (Value.slice a1 1 c1).ownBlock = some k ∨ (Value.slice a2 2 c2).ownBlock = some k ∨ (Value.slice a3 3 c3).ownBlock = some k,
    ⟨?_, h.n4, by have := h.m4; omega, iv, sv', vs, _, g1, .inl h2, ?_, fun k hk => .inl (h4 k hk), g2, fun k hk => .inr (.inr (.inl hk)), ?_, ?_⟩, ?_⟩
  · intro k hk
    rcases hk with hk | hk | hk | hk | hk | hk
    · have := h.lt k hk; omega
    · exact ownsRow_lt g3 k hk
    · exact ownsRow_lt g2 k hk
    · exact ownsRow_lt g4 k hk
    · exact ownsRow_lt g5 k hk
    · exact ownsRow_lt g6 k hk
  · exact ownsRow_kept h3 g9 (fun k hk => by
      obtain ⟨cur, hcur⟩ := ownsRow_block h3 hk
      exact hno k cur _ hcur (by decide) (by decide))
  · intro i hi
    obtain ⟨v, m, a, b, c, d⟩ := h7 i hi
    refine ⟨v, m, a, b, ownsRow_kept c g9 (fun k hk => ?_), fun k hk => .inl (d k hk)⟩
    obtain ⟨cur, hcur⟩ := ownsRow_block c hk
    exact hno k cur _ hcur (by decide) (by decide)
  · intro i hi
    by_cases hiN : i < M
    · obtain ⟨v, m, a, b, c, d⟩ := h8 i hiN
      refine ⟨v, m, by rw [q0 i hiN]; exact a, b, ownsRow_kept c g9 (fun k hk => ?_), fun k hk => .inl (d k hk)⟩
      obtain ⟨cur, hcur⟩ := ownsRow_block c hk
      exact hno k cur _ hcur (by decide) (by decide)
    · have h4' := h.m4
      obtain e | e | e | e : i = M ∨ i = M + 1 ∨ i = M + 2 ∨ i = M + 3 := by omega
      · subst e
        exact ⟨_, 0, q1, by omega, g3, fun k hk => .inr (.inl hk)⟩
      · subst e
        rw [mark_four h4' (by omega)]
        exact ⟨_, 1, q2, by omega, g4, fun k hk => .inr (.inr (.inr (.inl hk)))⟩
      · subst e
        rw [mark_four h4' (by omega)]
        exact ⟨_, 2, q3, by omega, g5, fun k hk => .inr (.inr (.inr (.inr (.inl hk))))⟩
      · subst e
        rw [mark_four h4' (by omega)]
        exact ⟨_, 3, q4, by omega, g6, fun k hk => .inr (.inr (.inr (.inr (.inr hk))))⟩
  · intro k hk
    rcases hk with hk | hk | hk | hk | hk | hk
    · exact .inl hk
    · exact .inr (.inl hk)
    · rcases g8 k hk with x | x
      · exact .inl (h6 k x)
      · exact .inr (.inr x)
    · exact .inr (.inr (g7 k (.inl hk)))
    · exact .inr (.inr (g7 k (.inr (.inl hk))))
    · exact .inr (.inr (g7 k (.inr (.inr hk))))
end Go.Proofs.YtmcajfefagdbnaaGreat
