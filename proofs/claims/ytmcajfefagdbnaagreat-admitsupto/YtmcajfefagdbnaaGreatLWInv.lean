import Derived.Test.YtmcajfefagdbnaaGreatLWTick
import Derived.Test.YtmcajfefagdbnaaGreatLWAdmitOk
import Derived.Test.YtmcajfefagdbnaaGreatLWTxn
import Derived.Test.YtmcajfefagdbnaaGreatLPInv
namespace Go.Proofs.YtmcajfefagdbnaaGreat
open Go Go.RowKit

/-- A transaction of the document's store that has made no step; its registers lie in S. -/
def WTxnAt (S : Nat → Prop) (w : World) (b : Nat) (st : Int) : Prop := ∃ r ov, w.heap[b]? = some (.cells #[.int .i64 st, .int .i64 0, .int .i64 0, .bool false, .bool false, .int .i64 0, .slice (some ⟨r, 0, none⟩) 4 4, .slice none 0 0, ov, .slice none 0 0] 152 (0, 0)) ∧
  w.heap[r]? = some (.cells #[.int .i64 0, .int .i64 0, .int .i64 0, .int .i64 0] 3 (0, 0)) ∧ S r

structure WInv (S : Nat → Prop) (p : Nat) (c : Int) (sts : List Int) (w : World) : Prop where
  lt : ∀ k, S k → k < w.heap.size
  c0 : 0 ≤ c
  c1 : c ≤ 1099511627776
  few : sts.length ≤ 12
  body : ∃ v0 v2 v3 tv bs, w.heap[p]? = some (.cells #[v0, tv, v2, v3, .int .i64 c] 47 (0, 0)) ∧ S p ∧ w.ownsRow 0 149 1 tv sts.length (ptrs bs) ∧ (∀ k, tv.ownBlock = some k → S k) ∧
    bs.length = sts.length ∧ ∀ i, i < sts.length → WTxnAt S w (bs.getD i 0) (sts.getD i 0) ∧ S (bs.getD i 0)

theorem WInv.of_same {S : Nat → Prop} {p : Nat} {c : Int} {sts : List Int} {w w' : World} (h : WInv S p c sts w) (hs : w.heap.size ≤ w'.heap.size) (hb : ∀ k, S k → w'.heap[k]? = w.heap[k]?) : WInv S p c sts w' := by
  obtain ⟨v0, v2, v3, tv, bs, h1, h2, h3, h4, h5, h6⟩ := h.body
  refine ⟨fun k hk => Nat.lt_of_lt_of_le (h.lt k hk) hs, h.c0, h.c1, h.few, v0, v2, v3, tv, bs, by rw [hb p h2]; exact h1, h2, ownsRow_of_block h3 (fun k hk => hb k (h4 k hk)), h4, h5, fun i hi => ?_⟩
  obtain ⟨⟨r, ov, h7, h9, h10⟩, h8⟩ := h6 i hi
  exact ⟨⟨r, ov, by rw [hb _ h8]; exact h7, by rw [hb _ h10]; exact h9, h10⟩, h8⟩

theorem WInv.kept {S S' : Nat → Prop} {p : Nat} {c : Int} {sts : List Int} {w w' : World} (h : WInv S p c sts w) (hk : Kept S' w w') (hd : ∀ k, S k → ¬ S' k) : WInv S p c sts w' :=
  h.of_same hk.size (fun k hs => hk.block k (h.lt k hs) (hd k hs))

theorem wtick_inv (S : Nat → Prop) (p : Nat) (c n : Int) (sts : List Int) (w : World) (h : WInv S p c sts w) :
    Calls Tryz.prog 42 #[.pointer (some ⟨p, 0, none⟩), .int .i64 n] w fun e w' => e = .returned (.int .i64 (tickErr c n)) ∧ WInv S p (tickClk c n) sts w' ∧ Kept S w w' := by
  obtain ⟨v0, v2, v3, tv, bs, h1, h2, h3, h4, h5, h6⟩ := h.body
  have hpt : ∀ k, tv.ownBlock = some k → k ≠ p := fun k hk => by
    obtain ⟨cur, hcur⟩ := ownsRow_block h3 hk
    exact blocks_apart hcur h1 (by decide)
  by_cases hn : n < 0 ∨ 1099511627776 - c < n
  · have e1 : tickErr c n = 4 := by simp [tickErr, hn]
    have e2 : tickClk c n = c := by simp [tickClk, hn]
    rw [e1, e2]
    refine (wtick_no p n c v0 tv v2 v3 w h1 h.c0 h.c1 hn).mono ?_
    rintro e w' ⟨rfl, rfl⟩
    exact ⟨rfl, h, Kept.refl _ _⟩
  · have e1 : tickErr c n = 0 := by simp [tickErr, hn]
    have e2 : tickClk c n = c + n := by simp [tickClk, hn]
    rw [e1, e2]
    refine (wtick_ok p n c v0 tv v2 v3 w h1 h.c0 h.c1 (by omega) (by omega)).mono ?_
    rintro e w' ⟨rfl, rfl⟩
    have hk := Kept.set1 w p 4 (.int .i64 (c + n))
    refine ⟨rfl, ⟨fun k hs => Nat.lt_of_lt_of_le (h.lt k hs) hk.size, by have := h.c0; omega, by omega, h.few, v0, v2, v3, tv, bs, block_setCell h1 _, h2, ownsRow_kept h3 hk hpt, h4, h5, fun i hi => ?_⟩, hk.mono (fun k x => by cases x; exact h2)⟩
    obtain ⟨⟨r, ov, h7, h9, h10⟩, h8⟩ := h6 i hi
    exact ⟨⟨r, ov, hk.heap h7 (blocks_apart h7 h1 (by decide)), hk.heap h9 (blocks_apart h9 h1 (by decide)), h10⟩, h8⟩

theorem lives_inv (S : Nat → Prop) (p : Nat) (c : Int) (sts : List Int) (w : World) (h : WInv S p c sts w) (W : World) (hk : Kept NoBlk w W) :
    Calls Tryz.prog 109 #[.pointer (some ⟨p, 0, none⟩)] W fun e w' => e = .returned (.int .i64 (sts.length : Nat)) ∧ w' = W := by
  have hW := h.kept hk (fun _ _ x => x)
  obtain ⟨v0, v2, v3, tv, bs, h1, h2, h3, h4, h5, h6⟩ := hW.body
  obtain ⟨ta, tc, rfl⟩ := ownsRow_form h3
  have hcell : W.cell? ⟨p, 1, none⟩ = some (.slice ta sts.length tc) := by rw [cell_at h1]; rfl
  rcases Nat.eq_zero_or_pos sts.length with h0 | h0
  · rcases h3.2 with ⟨e, _⟩ | ⟨g, cap, cur, e, _⟩
    · simp only [Value.slice.injEq] at e
      obtain ⟨rfl, _, rfl⟩ := e
      rw [h0] at hcell ⊢
      exact lives_nil p W hcell
    · simp only [Value.slice.injEq] at e
      obtain ⟨rfl, _, rfl⟩ := e
      have := lives_some p g sts.length tc (fun _ => 0) (fun _ => 0) W (by omega) hcell (fun i hi => by omega) (fun i hi => by omega)
      rw [cnt_all _ _ (fun _ _ => rfl)] at this
      exact this
  · obtain ⟨g, cap, hform, _, _⟩ := h3.form h0
    simp only [Value.slice.injEq] at hform
    obtain ⟨rfl, _, rfl⟩ := hform
    have := lives_some p g sts.length tc (fun i => bs.getD i 0) (fun _ => 0) W (by have := h.few; omega) hcell (fun i hi => by
      rw [h3.cellAt i (by omega)]
      simp [ptrs, List.getD, show i < bs.length by omega]) (fun i hi => by
      obtain ⟨⟨r, ov, h7, _⟩, _⟩ := h6 i hi
      rw [cell_at h7]; rfl)
    rw [cnt_all _ _ (fun _ _ => rfl)] at this
    exact this

theorem wadmit_inv (S : Nat → Prop) (p : Nat) (v : Value) (c : Int) (sts : List Int) (l : List Op4) (w : World) (h : WInv S p c sts w) (ho : OpsSrc w v l) (hb : 0 < l.length → ∀ b, v.ownBlock = some b → ¬ S b) (hl : l.length ≤ 1048576) :
    Calls Tryz.prog 77 #[.pointer (some ⟨p, 0, none⟩), v] w fun e w' => e = .returned (.tuple #[.int .i64 (admNum l sts c), .int .i64 (admErr l sts.length c)]) ∧ Kept S w w' ∧
      ∃ S', WInv S' p (admClk l sts c) (admSts l sts c) w' ∧ ∀ k, S' k → S k ∨ w.heap.size ≤ k := by
  obtain ⟨v0, v2, v3, tv, bs, h1, h2, h3, h4, h5, h6⟩ := h.body
  have hlv : Hid (∀ W, Kept NoBlk w W → Calls Tryz.prog 109 #[.pointer (some ⟨p, 0, none⟩)] W fun e w' => e = .returned (.int .i64 (sts.length : Nat)) ∧ w' = W) := fun W hk => lives_inv S p c sts w h W hk
  have hbp : 0 < l.length → v.ownBlock ≠ some p := fun h0 e => hb h0 p e h2
  by_cases he : admErr l sts.length c = 0
  · obtain ⟨e1, e2, e3⟩ := admErr_zero' he
    have n1 : admNum l sts c = (sts.length : Int) + 1 := by simp [admNum, he]
    have n2 : admSts l sts c = sts ++ [c + 1] := by simp [admSts, he]
    have n3 : admClk l sts c = c + 1 := by simp [admClk, he]
    rw [n1, n2, n3, he]
    refine (wadmit_ok p v l sts.length sts.length c v0 tv v2 v3 (ptrs bs) w ho hbp (by omega) h1 h.c0 h3 hlv he).mono ?_
    rintro e w' ⟨tv', t, r, ov, rfl, g1, g2, g3, g4, g5, g6, g6', g6'', g7, g8⟩
    have hlen : (sts ++ [c + 1]).length = sts.length + 1 := by simp
    have hsz := g8.size
    refine ⟨rfl, g8.mono (fun k x => x.elim (fun y => y ▸ h2) (fun y => h4 k y)), fun k => S k ∨ k = t ∨ k = r ∨ tv'.ownBlock = some k, ⟨?_, by have := h.c0; omega, by omega, by rw [hlen]; omega, v0, v2, v3, tv', bs ++ [t], g1, .inl h2, ?_, fun k hk => .inr (.inr (.inr hk)), by simp [h5], ?_⟩, ?_⟩
    · intro k hk
      rcases hk with hk | rfl | rfl | hk
      · have := h.lt k hk; omega
      · exact lt_of_block g5
      · exact lt_of_block g6
      · exact ownsRow_lt g2 k hk
    · rw [hlen, ptrs_snoc]; exact g2
    · intro i hi
      rw [hlen] at hi
      by_cases ei : i = sts.length
      · subst ei
        rw [show (bs ++ [t]).getD sts.length 0 = t from by simp [List.getD, ← h5], show (sts ++ [c + 1]).getD sts.length 0 = c + 1 from by simp [List.getD]]
        exact ⟨⟨r, ov, g5, g6, .inr (.inr (.inl rfl))⟩, .inr (.inl rfl)⟩
      · rw [show (bs ++ [t]).getD i 0 = bs.getD i 0 from by simp [List.getD, List.getElem?_append_left (show i < bs.length by omega)], show (sts ++ [c + 1]).getD i 0 = sts.getD i 0 from by simp [List.getD, List.getElem?_append_left (show i < sts.length by omega)]]
        obtain ⟨⟨r', ov', h7, h9, h10⟩, h8⟩ := h6 i (by omega)
        refine ⟨⟨r', ov', g8.heap h7 ?_, g8.heap h9 ?_, .inl h10⟩, .inl h8⟩
        · rintro (e | e)
          · exact blocks_apart h7 h1 (by decide) e
          · obtain ⟨cur, hcur⟩ := ownsRow_block h3 e
            exact blocks_apart h7 hcur (by decide) rfl
        · rintro (e | e)
          · exact blocks_apart h9 h1 (by decide) e
          · obtain ⟨cur, hcur⟩ := ownsRow_block h3 e
            exact blocks_apart h9 hcur (by decide) rfl
    · intro k hk
      rcases hk with hk | rfl | rfl | hk
      · exact .inl hk
      · exact .inr g3
      · exact .inr g4
      · rcases g7 k hk with x | x
        · exact .inl (h4 k x)
        · exact .inr x
  · have n1 : admNum l sts c = 0 := by simp [admNum, he]
    have n2 : admSts l sts c = sts := by simp [admSts, he]
    have n3 : admClk l sts c = c := by simp [admClk, he]
    rw [n1, n2, n3]
    refine (wadmit_err p v l sts.length c v0 tv v2 v3 w ho hl (by have := h.few; omega) h1 hlv he).mono ?_
    rintro e w' ⟨rfl, hk⟩
    exact ⟨rfl, hk.mono (fun _ x => x.elim), S, h.kept hk (fun _ _ x => x), fun k hk => .inl hk⟩

theorem wtxn_inv (S : Nat → Prop) (p : Nat) (c id : Int) (sts : List Int) (w : World) (h : WInv S p c sts w) :
    Calls Tryz.prog 46 #[.pointer (some ⟨p, 0, none⟩), .int .i64 id] w fun e w' => Kept NoBlk w w' ∧
      (((id < 1 ∨ (sts.length : Int) < id) ∧ e = .returned (.tuple #[.agg #[.int .i64 0, .int .i64 0, .int .i64 0, .bool false, .bool false, .int .i64 0, .slice none 0 0, .slice none 0 0], .int .i64 5])) ∨
       (∃ i r, i < sts.length ∧ id = (i : Int) + 1 ∧ e = .returned (.tuple #[.agg #[.int .i64 (sts.getD i 0), .int .i64 0, .int .i64 0, .bool false, .bool false, .int .i64 0, .slice (some ⟨r, 0, none⟩) 4 4, .slice none 0 0], .int .i64 0]) ∧
         w.heap[r]? = some (.cells #[.int .i64 0, .int .i64 0, .int .i64 0, .int .i64 0] 3 (0, 0)))) := by
  obtain ⟨v0, v2, v3, tv, bs, h1, h2, h3, h4, h5, h6⟩ := h.body
  obtain ⟨ta, tc, rfl⟩ := ownsRow_form h3
  have hcell : w.cell? ⟨p, 1, none⟩ = some (.slice ta sts.length tc) := by rw [cell_at h1]; rfl
  by_cases hi : id < 1 ∨ (sts.length : Int) < id
  · refine (wtxn_none p sts.length tc ta id w hcell hi).mono ?_
    rintro e w' ⟨rfl, hk⟩
    exact ⟨hk, .inl ⟨hi, rfl⟩⟩
  · obtain ⟨i, rfl⟩ : ∃ i : Nat, id = (i : Int) + 1 := ⟨(id - 1).toNat, by omega⟩
    have hil : i < sts.length := by omega
    obtain ⟨g, cap, hform, _, _⟩ := h3.form (by omega)
    simp only [Value.slice.injEq] at hform
    obtain ⟨rfl, _, rfl⟩ := hform
    obtain ⟨⟨r, ov, h7, h9, h10⟩, h8⟩ := h6 i hil
    have hx : w.cell? ⟨g, i, none⟩ = some (.pointer (some ⟨bs.getD i 0, 0, none⟩)) := by
      rw [h3.cellAt i (by omega)]
      simp [ptrs, List.getD, show i < bs.length by omega]
    refine (wtxn_some p g sts.length tc i (bs.getD i 0) (sts.getD i 0) 0 0 0 false false (some ⟨r, 0, none⟩) none 4 4 0 0 ov (.slice none 0 0) w hcell hx h7 hil (by have := h.few; omega)).mono ?_
    rintro e w' ⟨rfl, hk⟩
    exact ⟨hk, .inr ⟨i, r, hil, rfl, rfl, h9⟩⟩
end Go.Proofs.YtmcajfefagdbnaaGreat
