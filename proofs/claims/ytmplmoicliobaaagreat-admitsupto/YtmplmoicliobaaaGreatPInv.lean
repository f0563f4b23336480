import Derived.Test.YtmplmoicliobaaaGreatPTick
import Derived.Test.YtmplmoicliobaaaGreatPAdmit
import Derived.Test.YtmplmoicliobaaaGreatPTxn
import Derived.Deep.AppendLies
namespace Go.Proofs.YtmplmoicliobaaaGreat
open Go Go.RowKit

/-- A transaction of the program that has made no step. -/
def PTxnAt (w : World) (b : Nat) (st : Int) : Prop := ∃ ov, w.heap[b]? = some (.cells #[ov, .int .i64 st, .int .i64 0, .int .i64 0, .int .i64 0, .bool false, .bool false, .int .i64 0, .int .i64 0, .int .i64 0, .int .i64 0, .slice none 0 0] 130 (0, 0))

def ptrs (bs : List Nat) : List Value := bs.map fun b => .pointer (some ⟨b, 0, none⟩)

/-- The program's store, its blocks among S. -/
structure PInv (S : Nat → Prop) (p : Nat) (c : Int) (sts : List Int) (w : World) : Prop where
  lt : ∀ k, S k → k < w.heap.size
  c0 : 0 ≤ c
  c1 : c ≤ 1099511627776
  few : sts.length ≤ 12
  body : ∃ v1 v3 tv bs, w.heap[p]? = some (.cells #[.int .i32 0, v1, .int .i64 c, v3, tv, .int .i64 (sts.length : Nat)] 95 (0, 0)) ∧ S p ∧ w.ownsRow 0 109 1 tv sts.length (ptrs bs) ∧ (∀ k, tv.ownBlock = some k → S k) ∧
    bs.length = sts.length ∧ ∀ i, i < sts.length → PTxnAt w (bs.getD i 0) (sts.getD i 0) ∧ S (bs.getD i 0)

theorem PInv.of_same {S : Nat → Prop} {p : Nat} {c : Int} {sts : List Int} {w w' : World} (h : PInv S p c sts w) (hs : w.heap.size ≤ w'.heap.size) (hb : ∀ k, S k → w'.heap[k]? = w.heap[k]?) : PInv S p c sts w' := by
  obtain ⟨v1, v3, tv, bs, h1, h2, h3, h4, h5, h6⟩ := h.body
  refine ⟨fun k hk => Nat.lt_of_lt_of_le (h.lt k hk) hs, h.c0, h.c1, h.few, v1, v3, tv, bs, by rw [hb p h2]; exact h1, h2, ownsRow_of_block h3 (fun k hk => hb k (h4 k hk)), h4, h5, fun i hi => ?_⟩
  obtain ⟨⟨ov, h7⟩, h8⟩ := h6 i hi
  exact ⟨⟨ov, by rw [hb _ h8]; exact h7⟩, h8⟩

theorem PInv.kept {S S' : Nat → Prop} {p : Nat} {c : Int} {sts : List Int} {w w' : World} (h : PInv S p c sts w) (hk : Kept S' w w') (hd : ∀ k, S k → ¬ S' k) : PInv S p c sts w' :=
  h.of_same hk.size (fun k hs => hk.block k (h.lt k hs) (hd k hs))

def tickErr (c n : Int) : Int := if n < 0 ∨ 1099511627776 - c < n then 4 else 0
def tickClk (c n : Int) : Int := if n < 0 ∨ 1099511627776 - c < n then c else c + n

theorem ptick_inv (S : Nat → Prop) (p : Nat) (c n : Int) (sts : List Int) (w : World) (h : PInv S p c sts w) :
    Calls Tryz.prog 11 #[.pointer (some ⟨p, 0, none⟩), .int .i64 n] w fun e w' => e = .returned (.int .i64 (tickErr c n)) ∧ PInv S p (tickClk c n) sts w' ∧ Kept S w w' := by
  obtain ⟨v1, v3, tv, bs, h1, h2, h3, h4, h5, h6⟩ := h.body
  have hpt : ∀ k, tv.ownBlock = some k → k ≠ p := fun k hk => by
    obtain ⟨cur, hcur⟩ := ownsRow_block h3 hk
    exact blocks_apart hcur h1 (by decide)
  have fin : ∀ (c' : Int) (w' : World), 0 ≤ c' → c' ≤ 1099511627776 → Kept (Blk p) w w' → w'.heap[p]? = some (.cells #[.int .i32 0, v1, .int .i64 c', v3, tv, .int .i64 (sts.length : Nat)] 95 (0, 0)) → PInv S p c' sts w' ∧ Kept S w w' := by
    intro c' w' d0 d1 hk hp
    refine ⟨⟨fun k hs => Nat.lt_of_lt_of_le (h.lt k hs) hk.size, d0, d1, h.few, v1, v3, tv, bs, hp, h2, ownsRow_kept h3 hk hpt, h4, h5, fun i hi => ?_⟩, hk.mono (fun k x => by cases x; exact h2)⟩
    obtain ⟨⟨ov, h7⟩, h8⟩ := h6 i hi
    exact ⟨⟨ov, hk.heap h7 (blocks_apart h7 h1 (by decide))⟩, h8⟩
  by_cases hn : n < 0 ∨ 1099511627776 - c < n
  · have e1 : tickErr c n = 4 := by simp [tickErr, hn]
    have e2 : tickClk c n = c := by simp [tickClk, hn]
    rw [e1, e2]
    refine (ptick_no p n c v1 v3 tv _ w h1 h.c0 h.c1 hn).mono ?_
    rintro e w' ⟨rfl, rfl⟩
    exact ⟨rfl, fin c _ h.c0 h.c1 ((Kept.set1 w p 0 _).trans' (Kept.set1 _ p 0 _)) (block_setCell (block_setCell h1 _) _)⟩
  · have e1 : tickErr c n = 0 := by simp [tickErr, hn]
    have e2 : tickClk c n = c + n := by simp [tickClk, hn]
    rw [e1, e2]
    refine (ptick_ok p n c v1 v3 tv _ w h1 h.c0 h.c1 (by omega) (by omega)).mono ?_
    rintro e w' ⟨rfl, rfl⟩
    exact ⟨rfl, fin (c + n) _ (by have := h.c0; omega) (by omega) (((Kept.set1 w p 0 _).trans' (Kept.set1 _ p 2 _)).trans' (Kept.set1 _ p 0 _)) (block_setCell (block_setCell (block_setCell h1 _) _) _)⟩

def admNum (l : List Op4) (sts : List Int) (c : Int) : Int := if admErr l sts.length c = 0 then (sts.length : Int) + 1 else 0
def admSts (l : List Op4) (sts : List Int) (c : Int) : List Int := if admErr l sts.length c = 0 then sts ++ [c + 1] else sts
def admClk (l : List Op4) (sts : List Int) (c : Int) : Int := if admErr l sts.length c = 0 then c + 1 else c

theorem ptrs_snoc (bs : List Nat) (t : Nat) : ptrs (bs ++ [t]) = ptrs bs ++ [.pointer (some ⟨t, 0, none⟩)] := by simp [ptrs]

theorem admErr_zero' {l : List Op4} {m : Nat} {c : Int} (h : admErr l m c = 0) : l.length ≤ 12 ∧ m < 12 ∧ c < 1099511627776 := by
  unfold admErr at h
  split at h
  · omega
  · split at h
    · omega
    · split at h
      · omega
      · split at h
        · omega
        · exact ⟨by omega, by omega, by omega⟩

theorem padmit_inv (S : Nat → Prop) (p b off cap : Nat) (c : Int) (sts : List Int) (l : List Op4) (w : World) (h : PInv S p c sts w) (ho : OpsAt w b off l) (hb : ¬ S b) (hl : l.length ≤ 1048576) :
    Calls Tryz.prog 36 #[.pointer (some ⟨p, 0, none⟩), .slice (some ⟨b, off, none⟩) l.length cap] w fun e w' => e = .returned (.tuple #[.int .i64 (admNum l sts c), .int .i64 (admErr l sts.length c)]) ∧ Kept S w w' ∧
      ∃ S', PInv S' p (admClk l sts c) (admSts l sts c) w' ∧ ∀ k, S' k → S k ∨ w.heap.size ≤ k := by
  obtain ⟨v1, v3, tv, bs, h1, h2, h3, h4, h5, h6⟩ := h.body
  have hbp : b ≠ p := fun e => hb (e ▸ h2)
  by_cases he : admErr l sts.length c = 0
  · obtain ⟨e1, e2, e3⟩ := admErr_zero' he
    have n1 : admNum l sts c = (sts.length : Int) + 1 := by simp [admNum, he]
    have n2 : admSts l sts c = sts ++ [c + 1] := by simp [admSts, he]
    have n3 : admClk l sts c = c + 1 := by simp [admClk, he]
    rw [n1, n2, n3, he]
    refine (padmit_ok p b off cap l sts.length c v1 v3 tv (ptrs bs) w ho hbp h1 h.c0 h3 e1 e2 e3 he).mono ?_
    rintro e w' ⟨tv', t, g, rfl, g1, g2, g3, g4, g5, g6, g7, g8⟩
    have hlen : (sts ++ [c + 1]).length = sts.length + 1 := by simp
    have hsz := g8.size
    refine ⟨rfl, g8.mono (fun k x => x.elim (fun y => y ▸ h2) (fun y => h4 k y)), fun k => S k ∨ k = t ∨ tv'.ownBlock = some k, ⟨?_, by have := h.c0; omega, by omega, by rw [hlen]; omega, v1, v3, tv', bs ++ [t], ?_, .inl h2, ?_, fun k hk => .inr (.inr hk), by simp [h5], ?_⟩, ?_⟩
    · intro k hk
      rcases hk with hk | rfl | hk
      · have := h.lt k hk; omega
      · exact lt_of_block g5
      · exact ownsRow_lt g2 k hk
    · rw [hlen]; exact g1
    · rw [hlen, ptrs_snoc]; exact g2
    · intro i hi
      rw [hlen] at hi
      by_cases ei : i = sts.length
      · subst ei
        rw [show (bs ++ [t]).getD sts.length 0 = t from by simp [List.getD, ← h5], show (sts ++ [c + 1]).getD sts.length 0 = c + 1 from by simp [List.getD]]
        exact ⟨⟨_, g5⟩, .inr (.inl rfl)⟩
      · rw [show (bs ++ [t]).getD i 0 = bs.getD i 0 from by simp [List.getD, List.getElem?_append_left (show i < bs.length by omega)], show (sts ++ [c + 1]).getD i 0 = sts.getD i 0 from by simp [List.getD, List.getElem?_append_left (show i < sts.length by omega)]]
        obtain ⟨⟨ov, h7⟩, h8⟩ := h6 i (by omega)
        refine ⟨⟨ov, g8.heap h7 ?_⟩, .inl h8⟩
        rintro (e | e)
        · exact blocks_apart h7 h1 (by decide) e
        · obtain ⟨cur, hcur⟩ := ownsRow_block h3 e
          exact blocks_apart h7 hcur (by decide) rfl
    · intro k hk
      rcases hk with hk | rfl | hk
      · exact .inl hk
      · exact .inr g3
      · rcases g7 k hk with x | x
        · exact .inl (h4 k x)
        · exact .inr x
  · have n1 : admNum l sts c = 0 := by simp [admNum, he]
    have n2 : admSts l sts c = sts := by simp [admSts, he]
    have n3 : admClk l sts c = c := by simp [admClk, he]
    rw [n1, n2, n3]
    refine (padmit_err p b off cap l sts.length c v1 v3 tv w ho hbp hl h1 he).mono ?_
    rintro e w' ⟨rfl, hp, hk⟩
    have hpt : ∀ k, tv.ownBlock = some k → k ≠ p := fun k hk => by
      obtain ⟨cur, hcur⟩ := ownsRow_block h3 hk
      exact blocks_apart hcur h1 (by decide)
    refine ⟨rfl, hk.mono (fun k x => by cases x; exact h2), S, ⟨fun k hs => Nat.lt_of_lt_of_le (h.lt k hs) hk.size, h.c0, h.c1, h.few, v1, v3, tv, bs, hp, h2, ownsRow_kept h3 hk hpt, h4, h5, fun i hi => ?_⟩, fun k hk => .inl hk⟩
    obtain ⟨⟨ov, h7⟩, h8⟩ := h6 i hi
    exact ⟨⟨ov, hk.heap h7 (blocks_apart h7 h1 (by decide))⟩, h8⟩

/-- What Txn tells of a transaction that has made no step. -/
theorem ptxn_inv (S : Nat → Prop) (p : Nat) (c id : Int) (sts : List Int) (w : World) (h : PInv S p c sts w) :
    Calls Tryz.prog 18 #[.pointer (some ⟨p, 0, none⟩), .int .i64 id] w fun e w' => PInv S p c sts w' ∧ Kept S w w' ∧
      (((id < 1 ∨ (sts.length : Int) < id) ∧ e = .returned (.tuple #[.agg #[.int .i64 0, .int .i64 0, .int .i64 0, .bool false, .bool false, .int .i64 0, .slice none 0 0, .slice none 0 0], .int .i64 5])) ∨
       (∃ i a k, i < sts.length ∧ id = (i : Int) + 1 ∧ e = .returned (.tuple #[.agg #[.int .i64 (sts.getD i 0), .int .i64 0, .int .i64 0, .bool false, .bool false, .int .i64 0, .slice (some ⟨a, 0, none⟩) 4 4, .slice (some ⟨k, 0, none⟩) 0 0], .int .i64 0]) ∧
         w.heap.size ≤ a ∧ w.heap.size ≤ k ∧ w'.heap[a]? = some (.cells #[.int .i64 0, .int .i64 0, .int .i64 0, .int .i64 0] 3 (0, 0)) ∧ w'.heap[k]? = some (.cells #[] 80 (0, 0)))) := by
  obtain ⟨v1, v3, tv, bs, h1, h2, h3, h4, h5, h6⟩ := h.body
  have hpt : ∀ k, tv.ownBlock = some k → k ≠ p := fun k hk => by
    obtain ⟨cur, hcur⟩ := ownsRow_block h3 hk
    exact blocks_apart hcur h1 (by decide)
  have fin : ∀ (w' : World), Kept (Blk p) w w' → w'.heap[p]? = some (.cells #[.int .i32 0, v1, .int .i64 c, v3, tv, .int .i64 (sts.length : Nat)] 95 (0, 0)) → PInv S p c sts w' ∧ Kept S w w' := by
    intro w' hk hp
    refine ⟨⟨fun k hs => Nat.lt_of_lt_of_le (h.lt k hs) hk.size, h.c0, h.c1, h.few, v1, v3, tv, bs, hp, h2, ownsRow_kept h3 hk hpt, h4, h5, fun i hi => ?_⟩, hk.mono (fun k x => by cases x; exact h2)⟩
    obtain ⟨⟨ov, h7⟩, h8⟩ := h6 i hi
    exact ⟨⟨ov, hk.heap h7 (blocks_apart h7 h1 (by decide))⟩, h8⟩
  obtain ⟨ta, tc, rfl⟩ := ownsRow_form h3
  by_cases hi : id < 1 ∨ (sts.length : Int) < id
  · refine (ptxn_none p sts.length tc ta id v1 _ v3 _ w h1 hi).mono ?_
    rintro e w' ⟨rfl, hp, hk⟩
    obtain ⟨f1, f2⟩ := fin w' hk hp
    exact ⟨f1, f2, .inl ⟨hi, rfl⟩⟩
  · obtain ⟨i, rfl⟩ : ∃ i : Nat, id = (i : Int) + 1 := ⟨(id - 1).toNat, by omega⟩
    have hil : i < sts.length := by omega
    obtain ⟨g, cap, hform, _, _⟩ := h3.form (by omega)
    simp only [Value.slice.injEq] at hform
    obtain ⟨rfl, _, rfl⟩ := hform
    obtain ⟨⟨ov, h7⟩, h8⟩ := h6 i hil
    have hcell : w.cell? ⟨g, i, none⟩ = some (.pointer (some ⟨bs.getD i 0, 0, none⟩)) := by
      rw [h3.cellAt i (by omega)]
      simp [ptrs, List.getD, show i < bs.length by omega]
    refine (ptxn_some p g sts.length tc i (bs.getD i 0) v1 _ v3 _ ov (sts.getD i 0) 0 0 0 false false 0 0 0 0 w h1 hcell (hpt g rfl) h7 hil (by have := h.few; omega)).mono ?_
    rintro e w' ⟨a, k, rfl, ha, hk, hga, hgk, hp, hkk⟩
    obtain ⟨f1, f2⟩ := fin w' hkk hp
    exact ⟨f1, f2, .inr ⟨i, a, k, hil, rfl, rfl, ha, hk, hga, hgk⟩⟩
end Go.Proofs.YtmplmoicliobaaaGreat
