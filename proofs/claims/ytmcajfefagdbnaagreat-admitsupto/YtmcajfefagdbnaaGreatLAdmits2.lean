import Derived.Test.YtmcajfefagdbnaaGreatLAdmits1
namespace Go.Proofs.YtmcajfefagdbnaaGreat
open Go Go.RowKit

/-- A script in memory. -/
def ScrAt (w : World) (b off m : Nat) (us : Nat → SOp) : Prop := ∀ i, i < m →
  w.cell? ⟨b, off + i * 4, none⟩ = some (.int .i64 (us i).k) ∧ w.cell? ⟨b, off + i * 4 + 1, none⟩ = some (.int .i64 (us i).n) ∧ w.cell? ⟨b, off + i * 4 + 2, none⟩ = some (.int .i64 (us i).s) ∧ w.cell? ⟨b, off + i * 4 + 3, none⟩ = some (.slice (us i).oa (us i).l.length (us i).oc)

theorem rowsAt_own {w : World} {oa : Option Addr} {oc n : Nat} {l : List Row2} (h : w.ownsRow 0 95 2 (.slice oa n oc) n (rowCells l)) (hn : l.length = n) : 0 < n → ∃ b off, oa = some ⟨b, off, none⟩ ∧ RowsAt w b off l := fun h0 => by
  obtain ⟨g, cap, hform, _, _⟩ := h.form h0
  simp only [Value.slice.injEq] at hform
  obtain ⟨rfl, _, rfl⟩ := hform
  refine ⟨g, 0, rfl, fun i hi => ?_⟩
  have := rowCells_get l i hi
  rw [Nat.zero_add, h.cellAt (i * 2) (by omega), h.cellAt (i * 2 + 1) (by omega)]
  exact this

/-- The state of the law's loop, behind k rounds. -/
def Lv (w wr : World) (x y o K : Nat) : Prop := ∃ p q Sy c sts T N M, QInv y p q o Sy c sts wr ∧ BInv T o N M wr ∧ Disj Sy T ∧ (∀ k, Sy k → w.heap.size ≤ k) ∧ (∀ k, T k → w.heap.size ≤ k) ∧ XInv x o Sy T w.heap.size wr ∧ N ≤ K ∧ M ≤ K ∧ Kept NoBlk w wr

/-- A step on y. -/
theorem Lv.stepY {w wr : World} {x y o K : Nat} (h : Lv w wr x y o K) (hK : K ≤ 16776000) (u : SOp) (hk : u.k = 1 ∨ u.k = 2 ∨ u.k = 5) (hu : u.at w) :
    Calls Tryz.prog 16 #[.pointer (some ⟨y, 0, none⟩), .agg #[.int .i64 u.k, .int .i64 u.n, .int .i64 u.s, .slice u.oa u.l.length u.oc]] wr fun e w' => e = .returned (.bool true) ∧ Lv w w' x y o (K + 4) := by
  obtain ⟨p, q, Sy, c, sts, T, N, M, hQ, hB, hd, hS, hT, hX, hN, hM, hkw⟩ := h
  refine (play_any y p q o N M Sy T c sts u w wr hQ hB (by omega) (by omega) hd hk hkw hu hS).mono ?_
  rintro e w' ⟨rfl, hk', S', T', c', sts', N', M', hQ', hB', hd', hS', hT', hN', hM'⟩
  have hsz := hkw.size
  refine ⟨rfl, p, q, S', c', sts', T', N', M', hQ', hB', hd', ?_, ?_, ?_, by omega, by omega, hkw.trans hk' (fun i hi => .inr (hi.elim (hS i) (hT i)))⟩
  · intro k hk
    rcases hS' k hk with h | h
    · exact hS k h
    · omega
  · intro k hk
    rcases hT' k hk with h | h
    · exact hT k h
    · omega
  · rcases hX with ⟨h1, h2, h3⟩ | ⟨p', q', S, c'', sts'', h1, h2, h3, h4⟩
    · have hxl := lt_of_block h1
      refine .inl ⟨hk'.heap h1 (fun e => e.elim h2 h3), fun e => ?_, fun e => ?_⟩
      · rcases hS' x e with h | h
        · exact h2 h
        · omega
      · rcases hT' x e with h | h
        · exact h3 h
        · omega
    · refine .inr ⟨p', q', S, c'', sts'', h1.kept hk' (fun k hk e => e.elim (h2 k hk) (h3 k hk)), fun k hk e => ?_, fun k hk e => ?_, h4⟩
      · rcases hS' k e with h | h
        · exact h2 k hk h
        · have := h1.lt k hk; omega
      · rcases hT' k e with h | h
        · exact h3 k hk h
        · have := h1.lt k hk; omega

/-- What x holds: nil, or a store, which then makes the step, too. -/
theorem Lv.stepX {w wr : World} {x y o K : Nat} (h : Lv w wr x y o K) (hK : K ≤ 16776000) :
    (wr.cell? ⟨x, 0, none⟩ = some (.pointer none)) ∨ (∃ p, wr.cell? ⟨x, 0, none⟩ = some (.pointer (some ⟨p, 0, none⟩)) ∧ ∀ (u : SOp), (u.k = 1 ∨ u.k = 2 ∨ u.k = 5) → u.at w →
    Calls Tryz.prog 16 #[.pointer (some ⟨x, 0, none⟩), .agg #[.int .i64 u.k, .int .i64 u.n, .int .i64 u.s, .slice u.oa u.l.length u.oc]] wr fun e w' => e = .returned (.bool true) ∧ Lv w w' x y o (K + 4)) := by
  obtain ⟨p, q, Sy, c, sts, T, N, M, hQ, hB, hd, hS, hT, hX, hN, hM, hkw⟩ := h
  rcases hX with ⟨h1, h2, h3⟩ | ⟨p', q', S, c'', sts'', h1, h2, h3, h4⟩
  · left; rw [cell_at h1]; rfl
  · right
    obtain ⟨Sp, Sw, g1, _⟩ := h1.body
    refine ⟨p', by rw [cell_at g1]; rfl, fun u hk hu => ?_⟩
    refine (play_any x p' q' o N M S T c'' sts'' u w wr h1 hB (by omega) (by omega) h3 hk hkw hu h4).mono ?_
    rintro e w' ⟨rfl, hk', S', T', c', sts', N', M', hQ', hB', hd', hS', hT', hN', hM'⟩
    have hsz := hkw.size
    refine ⟨rfl, p, q, Sy, c, sts, T', N', M', hQ.kept hk' (fun k hk e => e.elim (fun y => h2 k y hk) (hd k hk)), hB', ?_, hS, ?_, .inr ⟨p', q', S', c', sts', hQ', ?_, hd', ?_⟩, by omega, by omega, hkw.trans hk' (fun i hi => .inr (hi.elim (h4 i) (hT i)))⟩
    · intro k hk e
      rcases hT' k e with h | h
      · exact hd k hk h
      · have := hQ.lt k hk; omega
    · intro k hk
      rcases hT' k hk with h | h
      · exact hT k h
      · omega
    · intro k hk e
      rcases hS' k hk with h | h
      · exact h2 k h e
      · have := hQ.lt k e; omega
    · intro k hk
      rcases hS' k hk with h | h
      · exact h4 k h
      · omega

set_option maxRecDepth 100000 in
set_option maxHeartbeats 6400000 in
theorem admits_any (ra sa : Option Addr) (rc sc n m : Nat) (l : List Row2) (us : Nat → SOp) (w : World) (hn : l.length = n) (hl : n ≤ 1048576) (hr : 0 < n → ∃ b off, ra = some ⟨b, off, none⟩ ∧ RowsAt w b off l) (hw : RowsWf l)
    (hm : m ≤ 1048576) (hs : 0 < m → ∃ b off, sa = some ⟨b, off, none⟩ ∧ ScrAt w b off m us) (hu : ∀ i, i < m → (us i).at w) :
    Calls Tryz.prog 3 #[.slice ra n rc, .slice sa m sc] w fun e w' => e = .returned (.bool true) ∧ Kept NoBlk w w' := by
  have HN : Hid _ := hn
  have HR : Hid (0 < n → ∃ b off, ra = some ⟨b, off, none⟩ ∧ RowsAt w b off l) := hr
  have HW : Hid (RowsWf l) := hw
  have HS : Hid (0 < m → ∃ b off, sa = some ⟨b, off, none⟩ ∧ ScrAt w b off m us) := hs
  have HU : Hid (∀ i, i < m → (us i).at w) := hu
  have hk0 : Kept NoBlk w (w.alloc (.cells #[.slice none 0 0, .slice none 0 0, .slice none 0 0, .slice none 0 0] 30)) := (Kept.refl _ _).alloc _
  have HO0 : Hid _ := block_alloc_new w (.cells #[.slice none 0 0, .slice none 0 0, .slice none 0 0, .slice none 0 0] 30)
  have HK0 : Hid _ := hk0
  clear hn hr hw hs hu hk0
  go_enter Tryz.func3, Tryz.ntmps3
  go_wp2_with fail
  generalize w.alloc (.cells #[.slice none 0 0, .slice none 0 0, .slice none 0 0, .slice none 0 0] 30) = W0 at *
  generalize hO : w.heap.size = o at HO0 ⊢
  have HO : Hid _ := hO
  clear hO
  refine (begun_any ra rc n o l W0 HN.out hl (fun h0 => by obtain ⟨b, off, e, hat⟩ := HR.out h0; exact ⟨b, off, e, hat.kept HK0.out (fun x => x)⟩) HW.out).mono ?_
  rintro e w1 ⟨x, rfl, hx, hk1, hp1⟩
  have HX1 : Hid (W0.heap.size ≤ x ∧ PairNew W0 w1 x o l) := ⟨hx, hp1⟩
  have HK1 : Hid _ := hk1
  clear hx hp1 hk1
  go_wp2_with fail
  refine (rising_any ra rc n l w1 HN.out hl (fun h0 => by obtain ⟨b, off, e, hat⟩ := HR.out h0; exact ⟨b, off, e, hat.kept (HK0.out.trans' HK1.out) (fun x => x)⟩) HW.out).mono ?_
  rintro e w2 ⟨l', v, rfl, hl', hri, hwf', hown, hfr, hk2⟩
  obtain ⟨oa, oc, rfl⟩ := ownsRow_form hown
  have HL' : Hid _ := hl'
  have HRI : Hid (Rise l') := hri
  have HWF : Hid (RowsWf l') := hwf'
  have HROW : Hid (0 < n → ∃ b off, oa = some ⟨b, off, none⟩ ∧ RowsAt w2 b off l') := rowsAt_own hown hl'
  have HK2 : Hid _ := hk2
  clear hl' hri hwf' hown hfr hk2
  go_wp2_with fail
  refine (begun_any oa oc n o l' w2 HL'.out hl HROW.out HWF.out).mono ?_
  rintro e w3 ⟨y, rfl, hy, hk3, hp3⟩
  have HK3 : Hid (Kept NoBlk w1 w3) := HK2.out.trans' hk3
  have hLv : Lv w w3 x y o 0 := by
    obtain ⟨p, q, S, hQ, hS⟩ := begun_inv hp3 hy HRI.out
    have hz0 := HK0.out.size
    have hz1 := HK1.out.size
    have hz2 := HK2.out.size
    have hz3 := hk3.size
    have hxl : x < w1.heap.size := by
      rcases HX1.out.2 with ⟨_, h⟩ | ⟨_, _, _, _, _, h, _⟩
      · exact lt_of_block h
      · exact lt_of_block h
    have hol := lt_of_block HO0.out
    have hO3 := HK3.out.heap (HK1.out.heap HO0.out (fun x => x)) (fun x => x)
    have hoe := HO.out
    have hox : x ≠ o := by have := HX1.out.1; omega
    refine ⟨p, q, S, 0, [], Blk o, 0, 0, hQ, ⟨fun k hk => by cases hk; exact lt_of_block hO3, rfl, rfl, _, _, [], [], hO3, rfl, World.ownsRow_nil _ _ _ _, fun k hk => by simp [Value.ownBlock] at hk, World.ownsRow_nil _ _ _ _, fun k hk => by simp [Value.ownBlock] at hk, fun i hi => by omega, fun i hi => by omega⟩, fun k hk e => by have := hS k hk; cases e; omega, fun k hk => by have := hS k hk; omega, fun k hk => by cases hk; omega, ?_, by omega, by omega, (HK0.out.trans' HK1.out).trans' HK3.out⟩
    by_cases hrl : Rise l
    · obtain ⟨p', q', S', hQ', hS'⟩ := begun_inv HX1.out.2 HX1.out.1 hrl
      refine .inr ⟨p', q', S', 0, [], hQ'.kept HK3.out (fun _ _ x => x), fun k hk e => ?_, fun k hk e => ?_, fun k hk => by have := hS' k hk; omega⟩
      · have := hS k e; have := hQ'.lt k hk; omega
      · have := hS' k hk; cases e; omega
    · rcases HX1.out.2 with ⟨_, h⟩ | ⟨h, _⟩
      · exact .inl ⟨HK3.out.heap h (fun x => x), fun e => by have := hS x e; omega, hox⟩
      · exact absurd h hrl
  have HLv : Hid (Lv w w3 x y o 0) := hLv
  obtain ⟨py, hpy⟩ : ∃ p, w3.cell? ⟨y, 0, none⟩ = some (.pointer (some ⟨p, 0, none⟩)) := by
    obtain ⟨p, q, Sy, c, sts, T, N, M, hQ, _⟩ := hLv
    obtain ⟨Sp, Sw, g1, _⟩ := hQ.body
    exact ⟨p, by rw [cell_at g1]; rfl⟩
  clear hLv hy hk3 hp3
  go_wp2_with fail
  clear hpy
  go_loopw [7, 10] (fun ok i wr => ∃ k : Nat, k ≤ m ∧ ok = .bool true ∧ i = .int .i64 k ∧ Lv w wr x y o (8 * k)) (fun _ i _ => m - (intOf i).toNat)
  case atStart => exact ⟨0, Nat.zero_le _, rfl, rfl, HLv.out⟩
  case round =>
    obtain ⟨k, hk, rfl, rfl, hLv⟩ := hrel
    by_cases hlt : k < m
    · obtain ⟨b, off, rfl, hat⟩ := HS.out (by omega)
      have hkw : Kept NoBlk w wr := by obtain ⟨p, q, Sy, c, sts, T, N, M, _, _, _, _, _, _, _, _, h⟩ := hLv; exact h
      have hat' := hat k hlt
      have HAT : Hid (w.cell? ⟨b, off + k * 4, none⟩ = some (.int .i64 (us k).k) ∧ w.cell? ⟨b, off + k * 4 + 1, none⟩ = some (.int .i64 (us k).n) ∧ w.cell? ⟨b, off + k * 4 + 2, none⟩ = some (.int .i64 (us k).s) ∧ w.cell? ⟨b, off + k * 4 + 3, none⟩ = some (.slice (us k).oa (us k).l.length (us k).oc)) := hat'
      have g0 := hkw.cell0 hat'.1
      have g1 := hkw.cell0 hat'.2.1
      have g2 := hkw.cell0 hat'.2.2.1
      have g3 := hkw.cell0 hat'.2.2.2
      have huk := HU.out k hlt
      clear hat hat' hkw
      generalize us k = u at *
      have HUK : Hid (u.at w) := huk
      have HLV : Hid (Lv w wr x y o (8 * k)) := hLv
      clear huk hLv
      have i0 : (0 : Int) ≤ (k : Int) := by omega
      have i1 : (k : Int) < (m : Int) := by omega
      by_cases hkind : u.k = 1 ∨ u.k = 2 ∨ u.k = 5
      · have HKI : Hid _ := hkind
        have hY : Hid (Calls Tryz.prog 16 #[.pointer (some ⟨y, 0, none⟩), .agg #[.int .i64 u.k, .int .i64 u.n, .int .i64 u.s, .slice u.oa u.l.length u.oc]] wr fun e w' => e = .returned (.bool true) ∧ Lv w w' x y o (8 * k + 4)) := HLV.out.stepY (by omega) u hkind HUK.out
        have hcs : ((u.k != 1) = false) ∨ ((u.k != 1) = true ∧ (u.k != 2) = false) ∨ ((u.k != 1) = true ∧ (u.k != 2) = true ∧ (u.k != 5) = false) := by
          rcases hkind with h | h | h
          · left; simp [h]
          · right; left; simp [h]
          · right; right; simp [h]
        clear hkind
        rcases hcs with e1 | ⟨e1, e2⟩ | ⟨e1, e2, e3⟩
        all_goals
          go_wp2_with fail
          with_reducible refine hY.out.mono ?_
          rintro e w4 ⟨rfl, hL4⟩
          have hat4 : Kept NoBlk w w4 := by obtain ⟨p, q, Sy, c, sts, T, N, M, _, _, _, _, _, _, _, _, h⟩ := hL4; exact h
          rcases hL4.stepX (by omega) with hx4 | ⟨p4, hx4, hX4⟩
          · have HL4 : Hid (Lv w w4 x y o (8 * k + 4)) := hL4
            clear hL4 hat4
            go_wp2_with fail
            go_roundw
            case rel =>
              obtain ⟨p, q, Sy, c, sts, T, N, M, q1, q2, q3, q4, q5, q6, q7, q8, q9⟩ := HL4.out
              exact ⟨k + 1, by omega, rfl, by go_num, p, q, Sy, c, sts, T, N, M, q1, q2, q3, q4, q5, q6, by omega, by omega, q9⟩
            case measure => simp [intOf]; omega
          · have c0 := hat4.cell0 HAT.out.1
            have c1 := hat4.cell0 HAT.out.2.1
            have c2 := hat4.cell0 HAT.out.2.2.1
            have c3 := hat4.cell0 HAT.out.2.2.2
            have hX : Hid (Calls Tryz.prog 16 #[.pointer (some ⟨x, 0, none⟩), .agg #[.int .i64 u.k, .int .i64 u.n, .int .i64 u.s, .slice u.oa u.l.length u.oc]] w4 fun e w' => e = .returned (.bool true) ∧ Lv w w' x y o (8 * k + 4 + 4)) := hX4 u HKI.out HUK.out
            clear hX4 hL4 hat4 g0 g1 g2 g3
            go_wp2_with fail
            with_reducible refine hX.out.mono ?_
            rintro e w5 ⟨rfl, hL5⟩
            have HL5 : Hid (Lv w w5 x y o (8 * k + 4 + 4)) := hL5
            clear hL5 c0 c1 c2 c3 hx4
            go_wp2_with fail
            go_roundw
            case rel => exact ⟨k + 1, by omega, rfl, by go_num, by rw [show 8 * (k + 1) = 8 * k + 4 + 4 from by omega]; exact HL5.out⟩
            case measure => simp [intOf]; omega
      · have e1 : (u.k != 1) = true := by simp; omega
        have e2 : (u.k != 2) = true := by simp; omega
        have e3 : (u.k != 5) = true := by simp; omega
        clear hkind
        go_wp2_with fail
        go_roundw
        case rel =>
          obtain ⟨p, q, Sy, c, sts, T, N, M, q1, q2, q3, q4, q5, q6, q7, q8, q9⟩ := HLV.out
          exact ⟨k + 1, by omega, rfl, by go_num, p, q, Sy, c, sts, T, N, M, q1, q2, q3, q4, q5, q6, by omega, by omega, q9⟩
        case measure => simp [intOf]; omega
    · obtain ⟨p, q, Sy, c, sts, T, N, M, q1, q2, q3, q4, q5, q6, q7, q8, q9⟩ := hLv
      have HQ1 : Hid (QInv y p q o Sy c sts wr ∧ BInv T o N M wr ∧ Disj Sy T ∧ (∀ k, Sy k → w.heap.size ≤ k) ∧ (∀ k, T k → w.heap.size ≤ k) ∧ N ≤ 8 * k ∧ M ≤ 8 * k ∧ Kept NoBlk w wr) := ⟨q1, q2, q3, q4, q5, q7, q8, q9⟩
      have hfew : sts.length ≤ 12 := by obtain ⟨Sp, Sw, _, _, _, _, h, _⟩ := q1.body; exact h.few
      clear q1 q2 q3 q4 q5 q6 q7 q8 q9
      go_wp2_with fail
      go_loopw [7, 12] (fun ok i wr => ∃ j : Nat, j ≤ sts.length ∧ (∃ b, ok = .bool b) ∧ i = .int .i64 ((j : Int) + 1) ∧ ∃ T N M, QInv y p q o Sy c sts wr ∧ BInv T o N M wr ∧ Disj Sy T ∧ (∀ k, T k → w.heap.size ≤ k) ∧ N ≤ 8 * k + 4 * j ∧ M ≤ 8 * k + 4 * j ∧ Kept NoBlk w wr) (fun _ i _ => sts.length + 1 - (intOf i).toNat)
      case atStart => exact ⟨0, Nat.zero_le _, ⟨true, rfl⟩, rfl, T, N, M, HQ1.out.1, HQ1.out.2.1, HQ1.out.2.2.1, HQ1.out.2.2.2.2.1, by have := HQ1.out.2.2.2.2.2.1; omega, by have := HQ1.out.2.2.2.2.2.2.1; omega, HQ1.out.2.2.2.2.2.2.2⟩
      case round =>
        obtain ⟨j, hj, ⟨ob, rfl⟩, rfl, T, N, M, q1, q2, q3, q5, q7, q8, q9⟩ := hrel
        obtain ⟨Sp, Sw, g1, g2, g3, g4, g5, g6, _⟩ := q1.body
        obtain ⟨v0, v2, v3, tv, bs, f1, f2, f3, _⟩ := g6.body
        obtain ⟨ta, tc, rfl⟩ := ownsRow_form f3
        have y1 : wr.cell? ⟨y, 1, none⟩ = some (.pointer (some ⟨q, 0, none⟩)) := by rw [cell_at g1]; rfl
        have y2 : wr.cell? ⟨q, 1, none⟩ = some (.slice ta sts.length tc) := by rw [cell_at f1]; rfl
        clear g1 g2 g3 g4 g5 g6 f1 f2 f3
        by_cases hjl : j < sts.length
        · have hP : Hid (Calls Tryz.prog 16 #[.pointer (some ⟨y, 0, none⟩), .agg #[.int .i64 5, .int .i64 ((j : Int) + 1), .int .i64 0, .slice none 0 0]] wr fun e w' => e = .returned (.bool true) ∧ Kept (fun k => Sy k ∨ T k) wr w' ∧ QInv y p q o Sy c sts w' ∧
              ∃ T', BInv T' o (N + 4) (M + 4) w' ∧ ∀ k, T' k → T k ∨ wr.heap.size ≤ k) := play_txn y p q o N M Sy T c ((j : Int) + 1) 0 none 0 0 sts wr q1 q2 (by omega) (by omega) q3
          have HQ2 : Hid (QInv y p q o Sy c sts wr ∧ (∀ k, T k → w.heap.size ≤ k) ∧ Kept NoBlk w wr ∧ Disj Sy T) := ⟨q1, q5, q9, q3⟩
          clear q1 q2 q3 q5 q9
          go_wp2_with fail
          with_reducible refine hP.out.mono ?_
          rintro e w4 ⟨rfl, hk4, hq4, T', hb4, ht4⟩
          have HQ4 : Hid (QInv y p q o Sy c sts w4 ∧ BInv T' o (N + 4) (M + 4) w4 ∧ Disj Sy T' ∧ (∀ k, T' k → w.heap.size ≤ k) ∧ Kept NoBlk w w4) := by
            have hz := HQ2.out.2.2.1.size
            refine ⟨hq4, hb4, fun k hk e => ?_, fun k hk => ?_, HQ2.out.2.2.1.trans hk4 (fun i hi => .inr (hi.elim (HQ1.out.2.2.2.1 i) (HQ2.out.2.1 i)))⟩
            · rcases ht4 k e with h | h
              · exact HQ2.out.2.2.2 k hk h
              · have := HQ2.out.1.lt k hk; omega
            · rcases ht4 k hk with h | h
              · exact HQ2.out.2.1 k h
              · omega
          clear hk4 hq4 hb4 ht4 y1 y2
          go_wp2_with fail
          go_roundw
          case rel => exact ⟨j + 1, by omega, ⟨true, rfl⟩, by go_num, T', N + 4, M + 4, HQ4.out.1, HQ4.out.2.1, HQ4.out.2.2.1, HQ4.out.2.2.2.1, by omega, by omega, HQ4.out.2.2.2.2⟩
          case measure => simp [intOf]; omega
        · have hP : Hid (Calls Tryz.prog 17 #[.pointer (some ⟨o, 0, none⟩)] wr fun e w' => e = .returned (.bool true) ∧ w' = wr) := kept_inv T o N M wr q2 (by omega) (by omega)
          have HK9 : Hid _ := q9
          clear q1 q2 q3 q5 q9
          go_wp2_with fail
          with_reducible refine hP.out.mono ?_
          rintro e w4 ⟨rfl, rfl⟩
          go_wp2_with fail
          go_ret
          exact ⟨rfl, HK9.out⟩
end Go.Proofs.YtmcajfefagdbnaaGreat
