import Derived.Test.YtmcajfefagdbnaaGreatJ51
namespace Go.Proofs.YtmcajfefagdbnaaGreat
open Go Go.RowKit
def Lv2 (w0 wr : World) (x y o Nx Ny j J : Nat) : Prop := ∃ p q S s cl p' q' S' s' cl' T, Pair x p q o S Nx j s cl wr ∧ Pair y p' q' o S' Ny j s' cl' wr ∧ Books T o J wr ∧ Disj S T ∧ Disj S' T ∧ Disj S S' ∧ (∀ k, S k → w0.heap.size ≤ k) ∧ (∀ k, S' k → w0.heap.size ≤ k) ∧ (∀ k, T k → w0.heap.size ≤ k) ∧ Kept NoBlk w0 wr
section
variable {w0 wr : World} {x y o Nx Ny j J : Nat}
theorem Lv2.swap (h : Lv2 w0 wr x y o Nx Ny j J) : Lv2 w0 wr y x o Ny Nx j J := by
 obtain ⟨p, q, S, s, cl, p', q', S', s', cl', T, h1, h2, h3, h4, h5, h6, h7, h8, h9, h10⟩ := h
 exact ⟨p', q', S', s', cl', p, q, S, s, cl, T, h2, h1, h3, h5, h4, fun k a b => h6 k b a, h8, h7, h9, h10⟩
theorem Lv2.mem (h : Lv2 w0 wr x y o Nx Ny j J) : Kept NoBlk w0 wr := by
 obtain ⟨p, q, S, s, cl, p', q', S', s', cl', T, h1, h2, h3, h4, h5, h6, h7, h8, h9, h10⟩ := h
 exact h10
theorem Lv2.ptr (h : Lv2 w0 wr x y o Nx Ny j J) : ∃ p, wr.cell? ⟨x, 0, none⟩ = some (.pointer (some ⟨p, 0, none⟩)) := by
 obtain ⟨p, q, S, s, cl, p', q', S', s', cl', T, h1, h2, h3, h4, h5, h6, h7, h8, h9, h10⟩ := h
 exact ⟨p, h1.cells.1⟩
theorem Lv2.play (h : Lv2 w0 wr x y o Nx Ny j J) (u : SO) (hu : u.at w0) (hj : j ≤ 1048576) (hN : Nx ≤ 1048576) (hJ : J ≤ 1099511000000) :
  Calls Tryz.prog 16 #[.pointer (some ⟨x, 0, none⟩), .agg #[.int .i64 u.k, .int .i64 u.n, .int .i64 u.s, .slice u.oa u.l.length u.oc]] wr fun e w' => e = .returned (.bool true) ∧ Lv2 w0 w' x y o Nx Ny (j + 1) (J + 8) := by
 obtain ⟨p, q, S, s, cl, p', q', S', s', cl', T, h1, h2, h3, h4, h5, h6, h7, h8, h9, h10⟩ := h
 refine (play_any4 u h1 h3 h4 hj hN hJ hu h10 h7).mono ?_
 rintro e w' ⟨rfl, a1, S2, T2, s2, cl2, a2, a3, a4, a5, a6⟩
 have hz := h10.size
 refine ⟨rfl, p, q, S2, s2, cl2, p', q', S', s', cl', T2, a2, (h2.kept a1 (fun k hk e => e.elim (fun e => h6 k e hk) (h5 k hk))).mono (Nat.le_succ _), a3, a4, fun k hk e => ?_, fun k hk e => ?_, fun k hk => ?_, h8, fun k hk => ?_, h10.trans a1 (fun k e => .inr (e.elim (h7 k) (h9 k)))⟩
 ·rcases a6 k e with y | y
  ·exact h5 k hk y
  ·have := h2.lt k hk; omega
 ·rcases a5 k hk with y | y
  ·exact h6 k y e
  ·have := h2.lt k e; omega
 ·rcases a5 k hk with y | y
  ·exact h7 k y
  ·omega
 ·rcases a6 k hk with y | y
  ·exact h9 k y
  ·omega
theorem Lv2.keeps (h : Lv2 w0 wr x y o Nx Ny j J) (hJ : J ≤ 1099511627776) : Calls Tryz.prog 17 #[.pointer (some ⟨o, 0, none⟩)] wr fun e w' => e = .returned (.bool true) ∧ w' = wr := by
 obtain ⟨p, q, S, s, cl, p', q', S', s', cl', T, h1, h2, h3, h4, h5, h6, h7, h8, h9, h10⟩ := h
 exact kept_bk h3 hJ
theorem Lv2.looked (h : Lv2 w0 wr x y o Nx Ny j J) (hj : j ≤ 1048576) (hN : Nx ≤ 1048576) (hJ : J ≤ 1000000000000) : Calls Tryz.prog 19 #[.pointer (some ⟨x, 0, none⟩)] wr fun e w' => e = .returned (.bool true) ∧ Lv2 w0 w' x y o Nx Ny j (J + 16 + 24 * j) := by
 obtain ⟨p, q, S, s, cl, p', q', S', s', cl', T, h1, h2, h3, h4, h5, h6, h7, h8, h9, h10⟩ := h
 obtain ⟨_, _, _, _, hn, hc⟩ := h1.cells
 refine (looked4 h1 h3 h4 hj hN hJ).mono ?_
 rintro e w' ⟨rfl, a⟩
 obtain ⟨T2, b1, b2, b3⟩ := a.books
 have hz := h10.size
 refine ⟨rfl, p, q, S, s, cl, p', q', S', s', cl', T2, a.pair, h2.kept a.kept (fun k hk e => e.elim (fun e => h6 k e hk) (h5 k hk)), b1.mono (by omega), b2, fun k hk e => ?_, h6, h7, h8, fun k hk => ?_, h10.trans a.kept (fun k e => .inr (e.elim (h7 k) (h9 k)))⟩
 ·rcases b3 k e with y | y
  ·exact h5 k hk y
  ·have := h2.lt k hk; omega
 ·rcases b3 k hk with y | y
  ·exact h9 k y
  ·omega
end
set_option maxRecDepth 100000 in
set_option maxHeartbeats 6400000 in
theorem all_any (ra rb sa : Option Addr) (rc rd sc n n' m : Nat) (l lb : List Row2) (us : Nat → SO) (w : World) (hn : l.length = n) (hl : n ≤ 1048576) (hr : 0 < n → ∃ b off, ra = some ⟨b, off, none⟩ ∧ RowsAt w b off l) (hw : RowsWf l)
  (hn' : lb.length = n') (hl' : n' ≤ 1048576) (hr' : 0 < n' → ∃ b off, rb = some ⟨b, off, none⟩ ∧ RowsAt w b off lb) (hw' : RowsWf lb)
  (hm : m ≤ 1048576) (hs : 0 < m → ∃ b off, sa = some ⟨b, off, none⟩ ∧ ScrAt4 w b off m us) (hu : ∀ i, i < m → (us i).at w) :
  Calls Tryz.prog 6 #[.slice ra n rc, .slice rb n' rd, .slice sa m sc] w fun e w' => e = .returned (.bool true) ∧ Kept NoBlk w w' := by
 have HN : Hid (l.length = n) := hn
 have HR : Hid (0 < n → ∃ b off, ra = some ⟨b, off, none⟩ ∧ RowsAt w b off l) := hr
 have HW : Hid (RowsWf l) := hw
 have HNb : Hid (lb.length = n') := hn'
 have HRb : Hid (0 < n' → ∃ b off, rb = some ⟨b, off, none⟩ ∧ RowsAt w b off lb) := hr'
 have HWb : Hid (RowsWf lb) := hw'
 have HS : Hid (0 < m → ∃ b off, sa = some ⟨b, off, none⟩ ∧ ScrAt4 w b off m us) := hs
 have HU : Hid (∀ i, i < m → (us i).at w) := hu
 have hk0 : Kept NoBlk w (w.alloc (.cells #[.slice none 0 0, .slice none 0 0, .slice none 0 0, .slice none 0 0] 30)) := (Kept.refl _ _).alloc _
 have HO0 : Hid _ := block_alloc_new w (.cells #[.slice none 0 0, .slice none 0 0, .slice none 0 0, .slice none 0 0] 30)
 have HK0 : Hid (Kept NoBlk w (w.alloc (.cells #[.slice none 0 0, .slice none 0 0, .slice none 0 0, .slice none 0 0] 30))) := hk0
 clear hn hr hw hn' hr' hw' hs hu hk0
 go_enter Tryz.func6, Tryz.ntmps6
 go_wp2_with fail
 generalize w.alloc (.cells #[.slice none 0 0, .slice none 0 0, .slice none 0 0, .slice none 0 0] 30) = W0 at *
 generalize hO : w.heap.size = o at HO0 ⊢
 have HO : Hid _ := hO
 clear hO
 refine (rising_any ra rc n l W0 HN.out hl (fun h0 => by obtain ⟨b, off, e, hat⟩ := HR.out h0; exact ⟨b, off, e, hat.kept HK0.out (fun x => x)⟩) HW.out).mono ?_
 rintro e w2 ⟨l', v, rfl, hl2, hri, hwf', hown, hfr, hk2⟩
 obtain ⟨oa, oc, rfl⟩ := ownsRow_form hown
 have HL' : Hid (l'.length = n) := hl2
 have HRI : Hid (Rise l') := hri
 have HWF : Hid (RowsWf l') := hwf'
 have HROW : Hid (0 < n → ∃ b off, oa = some ⟨b, off, none⟩ ∧ RowsAt w2 b off l') := rowsAt_own4 hown hl2
 have HK2 : Hid (Kept NoBlk W0 w2) := hk2
 clear hl2 hri hwf' hown hfr hk2
 go_wp2_with fail
 refine (begun_any oa oc n o l' w2 HL'.out hl HROW.out HWF.out).mono ?_
 rintro e w3 ⟨x, rfl, hx, hk3, hp3⟩
 have HK3 : Hid (Kept NoBlk w2 w3) := hk3
 have HB3 : Hid (∃ p q S s, Pair x p q o S n 0 s [] w3 ∧ ∀ k, S k → w2.heap.size ≤ k) := by
  obtain ⟨p, q, S, s, hP, hS⟩ := begun4 hp3 hx HRI.out
  rw [HL'.out] at hP
  exact ⟨p, q, S, s, hP, hS⟩
 clear hx hk3 hp3
 go_wp2_with fail
 refine (rising_any rb rd n' lb w3 HNb.out hl' (fun h0 => by obtain ⟨b, off, e, hat⟩ := HRb.out h0; exact ⟨b, off, e, ((hat.kept HK0.out (fun x => x)).kept HK2.out (fun x => x)).kept HK3.out (fun x => x)⟩) HWb.out).mono ?_
 rintro e w4 ⟨lb', v, rfl, hl2, hri, hwf', hown, hfr, hk2⟩
 obtain ⟨oa', oc', rfl⟩ := ownsRow_form hown
 have HLb : Hid (lb'.length = n') := hl2
 have HRIb : Hid (Rise lb') := hri
 have HWFb : Hid (RowsWf lb') := hwf'
 have HROWb : Hid (0 < n' → ∃ b off, oa' = some ⟨b, off, none⟩ ∧ RowsAt w4 b off lb') := rowsAt_own4 hown hl2
 have HK4 : Hid (Kept NoBlk w3 w4) := hk2
 clear hl2 hri hwf' hown hfr hk2
 go_wp2_with fail
 refine (begun_any oa' oc' n' o lb' w4 HLb.out hl' HROWb.out HWFb.out).mono ?_
 rintro e w5 ⟨y, rfl, hy, hk5, hp5⟩
 have hLv : Lv2 w w5 x y o n n' 0 0 := by
  obtain ⟨p, q, S, s, hP, hS⟩ := HB3.out
  obtain ⟨p', q', S', s', hP', hS'⟩ := begun4 hp5 hy HRIb.out
  rw [HLb.out] at hP'
  have hk35 := HK4.out.trans' hk5
  have hz0 := HK0.out.size
  have hz2 := HK2.out.size
  have hz3 := HK3.out.size
  have hz4 := HK4.out.size
  have hO5 := hk35.heap (HK3.out.heap (HK2.out.heap HO0.out (fun x => x)) (fun x => x)) (fun x => x)
  have hoe := HO.out
  have hol := lt_of_block HO0.out
  refine ⟨p, q, S, s, [], p', q', S', s', [], Blk o, hP.kept hk35 (fun _ _ x => x), hP', Books.born hO5, fun k hk e => ?_, fun k hk e => ?_, fun k hk e => ?_, fun k hk => ?_, fun k hk => ?_, fun k hk => ?_, ((HK0.out.trans' HK2.out).trans' HK3.out).trans' hk35⟩
  ·have := hS k hk; unfold Blk at e; omega
  ·have := hS' k hk; unfold Blk at e; omega
  ·have h1 := hP.lt k hk; have h2 := hS' k e; omega
  ·have := hS k hk; omega
  ·have := hS' k hk; omega
  ·unfold Blk at hk; omega
 have HLv : Hid (Lv2 w w5 x y o n n' 0 0) := hLv
 obtain ⟨px, hpx⟩ := hLv.ptr
 obtain ⟨py, hpy⟩ := hLv.swap.ptr
 clear hLv hy hk5 hp5
 go_wp2_with fail
 clear hpx hpy
 go_loopw [9, 12] (fun ok i wr => ∃ k : Nat, k ≤ m ∧ ok = .bool true ∧ i = .int .i64 k ∧ Lv2 w wr x y o n n' k (8 * k)) (fun _ i _ => m - (intOf i).toNat)
 case atStart => exact ⟨0, Nat.zero_le _, rfl, rfl, HLv.out⟩
 case round =>
  obtain ⟨k, hk, rfl, rfl, hLv⟩ := hrel
  by_cases hlt : k < m
  ·obtain ⟨b, off, rfl, hat⟩ := HS.out (by omega)
   have hkw := hLv.mem
   have hat' := hat k hlt
   have g0 := hkw.cell0 hat'.1
   have g1 := hkw.cell0 hat'.2.1
   have g2 := hkw.cell0 hat'.2.2.1
   have g3 := hkw.cell0 hat'.2.2.2
   have huk := HU.out k hlt
   clear hat hat' hkw
   generalize us k = u at *
   have hP : Hid (Calls Tryz.prog 16 #[.pointer (some ⟨x, 0, none⟩), .agg #[.int .i64 u.k, .int .i64 u.n, .int .i64 u.s, .slice u.oa u.l.length u.oc]] wr fun e w' => e = .returned (.bool true) ∧ Lv2 w w' x y o n n' (k + 1) (8 * k + 8)) := hLv.play u huk (by omega) hl (by omega)
   have hQ : Hid (Calls Tryz.prog 16 #[.pointer (some ⟨y, 0, none⟩), .agg #[.int .i64 u.k, .int .i64 u.n, .int .i64 u.s, .slice u.oa u.l.length u.oc]] wr fun e w' => e = .returned (.bool true) ∧ Lv2 w w' y x o n' n (k + 1) (8 * k + 8)) := hLv.swap.play u huk (by omega) hl' (by omega)
   clear huk hLv
   have i0 : (0 : Int) ≤ (k : Int) := by omega
   have i1 : (k : Int) < (m : Int) := by omega
   go_wp2_with fail
   ·refine hQ.out.mono ?_
    rintro e w6 ⟨rfl, h4⟩
    have HKP : Hid (Calls Tryz.prog 17 #[.pointer (some ⟨o, 0, none⟩)] w6 fun e w' => e = .returned (.bool true) ∧ w' = w6) := h4.keeps (by omega)
    have H4 : Hid (Lv2 w w6 x y o n n' (k + 1) (8 * k + 8)) := h4.swap
    clear h4 hP hQ g0 g1 g2 g3
    go_wp2_with fail
    refine HKP.out.mono ?_
    rintro e w7 ⟨rfl, rfl⟩
    go_wp2_with fail
    go_roundw
    case rel => exact ⟨k + 1, by omega, rfl, by go_num, by rw [show 8 * (k + 1) = 8 * k + 8 from by omega]; exact H4.out⟩
    case measure => simp [intOf]; omega
   ·refine hP.out.mono ?_
    rintro e w6 ⟨rfl, h4⟩
    have HKP : Hid (Calls Tryz.prog 17 #[.pointer (some ⟨o, 0, none⟩)] w6 fun e w' => e = .returned (.bool true) ∧ w' = w6) := h4.keeps (by omega)
    have H4 : Hid (Lv2 w w6 x y o n n' (k + 1) (8 * k + 8)) := h4
    clear h4 hP hQ g0 g1 g2 g3
    go_wp2_with fail
    refine HKP.out.mono ?_
    rintro e w7 ⟨rfl, rfl⟩
    go_wp2_with fail
    go_roundw
    case rel => exact ⟨k + 1, by omega, rfl, by go_num, by rw [show 8 * (k + 1) = 8 * k + 8 from by omega]; exact H4.out⟩
    case measure => simp [intOf]; omega
  ·obtain rfl : k = m := by omega
   have HLK : Hid (Calls Tryz.prog 19 #[.pointer (some ⟨x, 0, none⟩)] wr fun e w' => e = .returned (.bool true) ∧ Lv2 w w' x y o n n' k (8 * k + 16 + 24 * k)) := hLv.looked hm hl (by omega)
   clear hLv
   go_wp2_with fail
   refine HLK.out.mono ?_
   rintro e w6 ⟨rfl, h4⟩
   have HLM : Hid (Calls Tryz.prog 19 #[.pointer (some ⟨y, 0, none⟩)] w6 fun e w' => e = .returned (.bool true) ∧ Lv2 w w' y x o n' n k (8 * k + 16 + 24 * k + 16 + 24 * k)) := h4.swap.looked hm hl' (by omega)
   clear h4 HLK
   go_wp2_with fail
   refine HLM.out.mono ?_
   rintro e w7 ⟨rfl, h4⟩
   have HKP : Hid (Calls Tryz.prog 17 #[.pointer (some ⟨o, 0, none⟩)] w7 fun e w' => e = .returned (.bool true) ∧ w' = w7) := h4.keeps (by omega)
   have HM4 : Hid (Kept NoBlk w w7) := h4.mem
   clear h4 HLM
   go_wp2_with fail
   refine HKP.out.mono ?_
   rintro e w8 ⟨rfl, rfl⟩
   go_wp2_with fail
   go_ret
   exact ⟨rfl, HM4.out⟩
end Go.Proofs.YtmcajfefagdbnaaGreat
