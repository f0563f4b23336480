import Derived.Test.YtmcajfefagdbnaaGreatJ47
import Derived.Test.YtmcajfefagdbnaaGreatJ48
import Derived.Test.YtmcajfefagdbnaaGreatJ50
import Derived.Test.YtmcajfefagdbnaaGreatJ34
import Derived.Test.YtmcajfefagdbnaaGreatJ35
namespace Go.Proofs.YtmcajfefagdbnaaGreat
open Go Go.RowKit
structure SO where
 k : Int
 n : Int
 s : Int
 oa : Option Addr
 oc : Nat
 l : List Op4
def SO.at (w : World) (o : SO) : Prop := (o.l.length ≤ 1048576 ∧ OpsIn o.l ∧ inI o.n) ∧ (0 < o.l.length → ∃ b off, o.oa = some ⟨b, off, none⟩ ∧ OpsAt w b off o.l)
set_option maxRecDepth 100000 in
set_option maxHeartbeats 3200000 in
theorem play_other4 (x : Nat) (kd n z : Int) (ao : Option Addr) (k kc : Nat) (w : World) (h1 : kd ≠ 1) (h2 : kd ≠ 2) (h3 : kd ≠ 3) (h4 : kd ≠ 4) (h5 : kd ≠ 5) (h6 : kd ≠ 6) (h7 : kd ≠ 7) (h8 : kd ≠ 8) :
  Calls Tryz.prog 16 #[.pointer (some ⟨x, 0, none⟩), .agg #[.int .i64 kd, .int .i64 n, .int .i64 z, .slice ao k kc]] w fun e w' => e = .returned (.bool true) ∧ Kept NoBlk w w' := by
 have e1 : (kd == 1) = false := by simpa using h1
 have e2 : (kd == 2) = false := by simpa using h2
 have e3 : (kd == 3) = false := by simpa using h3
 have e4 : (kd == 4) = false := by simpa using h4
 have e5 : (kd == 5) = false := by simpa using h5
 have e6 : (kd == 6) = false := by simpa using h6
 have e7 : (kd == 7) = false := by simpa using h7
 have e8 : (kd == 8) = false := by simpa using h8
 have HK : Hid (Kept NoBlk w (w.alloc (.cells #[.int .i64 kd, .int .i64 n, .int .i64 z, .slice ao k kc] 41))) := (Kept.refl _ _).alloc _
 clear h1 h2 h3 h4 h5 h6 h7 h8
 go_enter Tryz.func16, Tryz.ntmps16
 go_wp2_with fail
 go_ret
 exact ⟨rfl, HK.out⟩
def AnyAft (x p q o : Nat) (S T : Nat → Prop) (N0 j J : Nat) (w w' : World) : Prop := Kept (fun k => S k ∨ T k) w w' ∧ ∃ S' T' s' cl', Pair x p q o S' N0 (j + 1) s' cl' w' ∧ Books T' o (J + 8) w' ∧ Disj S' T' ∧ (∀ k, S' k → S k ∨ w.heap.size ≤ k) ∧ (∀ k, T' k → T k ∨ w.heap.size ≤ k)
theorem PairAft.any {x p q o : Nat} {S T : Nat → Prop} {N0 j J : Nat} {w w' : World} (h : PairAft x p q o S N0 (j + 1) w w') (hB : Books T o J w) (hd : Disj S T) : AnyAft x p q o S T N0 j J w w' := by
 obtain ⟨h1, S', s', cl', h2, h3⟩ := h
 refine ⟨h1.mono (fun _ x => .inl x), S', T, s', cl', h2, (hB.kept h1 (fun k ht hs => hd k hs ht)).mono (by omega), fun k hs ht => ?_, h3, fun k ht => .inl ht⟩
 rcases h3 k hs with y | y
 ·exact hd k y ht
 ·have := hB.lt k ht; omega
theorem ToldAft.any {x p q o : Nat} {S T : Nat → Prop} {N0 j J : Nat} {s : St} {cl : List Cl} {w w' : World} (h : ToldAft x p q o S T N0 j J s cl w w') (hP : Pair x p q o S N0 j s cl w) (hd : Disj S T) : AnyAft x p q o S T N0 j J w w' := by
 obtain ⟨h1, h2, T', h3, h4⟩ := h
 refine ⟨h1, S, T', s, cl, h2.mono (Nat.le_succ _), h3, fun k hs ht => ?_, fun k hs => .inl hs, h4⟩
 rcases h4 k ht with y | y
 ·exact hd k hs y
 ·have := hP.lt k hs; omega
theorem play_any4 {x p q o N0 j J : Nat} {S T : Nat → Prop} {s : St} {cl : List Cl} {w0 w : World} (u : SO) (h : Pair x p q o S N0 j s cl w) (hB : Books T o J w) (hd : Disj S T) (hj : j ≤ 1048576) (hN : N0 ≤ 1048576) (hJ : J ≤ 1099511000000) (hu : u.at w0) (hw : Kept NoBlk w0 w) (hS : ∀ k, S k → w0.heap.size ≤ k) :
  Calls Tryz.prog 16 #[.pointer (some ⟨x, 0, none⟩), .agg #[.int .i64 u.k, .int .i64 u.n, .int .i64 u.s, .slice u.oa u.l.length u.oc]] w fun e w' => e = .returned (.bool true) ∧ AnyAft x p q o S T N0 j J w w' := by
 by_cases h1 : u.k = 1
 ·rw [h1]
  refine (play_tick4 x p q o N0 j S u.n u.s u.oa u.l.length u.oc s cl w h).mono ?_
  rintro e w' ⟨rfl, g⟩
  exact ⟨rfl, g.any hB hd⟩
 by_cases h2 : u.k = 2
 ·rw [h2]
  refine (play_admit4 x p q o u.l.length u.oc N0 j S u.s u.n u.oa s cl u.l w h hj rfl hu.1.1 hu.1.2.1 (fun h0 => ?_)).mono ?_
  ·obtain ⟨b, off, e, hat⟩ := hu.2 h0
   refine ⟨b, off, e, hat.kept hw (fun x => x), fun hs => ?_⟩
   have h3 := hS b hs
   have h4 : b < w0.heap.size := World.block_lt_of_cell? w0 _ (hat 0 h0).1
   omega
  rintro e w' ⟨rfl, g⟩
  exact ⟨rfl, g.any hB hd⟩
 by_cases h3 : u.k = 3
 ·rw [h3]
  refine (play_step4 x p q o N0 j S u.n u.s u.oa u.l.length u.oc s cl w h hj hN).mono ?_
  rintro e w' ⟨rfl, g⟩
  exact ⟨rfl, g.any hB hd⟩
 by_cases h4 : u.k = 4
 ·rw [h4]
  refine (play_call4 x p q o N0 j S u.n u.s u.oa u.l.length u.oc s cl w h hj hN).mono ?_
  rintro e w' ⟨rfl, g⟩
  exact ⟨rfl, g.any hB hd⟩
 by_cases h5 : u.k = 5
 ·rw [h5]
  refine (play_txn4 x p q o N0 j J S T u.n u.s u.oa u.l.length u.oc s cl w h hB hd hj hJ).mono ?_
  rintro e w' ⟨rfl, g⟩
  exact ⟨rfl, g.any h hd⟩
 by_cases h6 : u.k = 6
 ·rw [h6]
  refine (play_locks4 x p q o N0 j J S T u.n u.s u.oa u.l.length u.oc s cl w h hB hd hj hJ hu.1.2.2).mono ?_
  rintro e w' ⟨rfl, g⟩
  exact ⟨rfl, g.any h hd⟩
 by_cases h7 : u.k = 7
 ·rw [h7]
  refine (play_rows4 x p q o N0 j J S T u.n u.s u.oa u.l.length u.oc s cl w h hB hd hj hN hJ).mono ?_
  rintro e w' ⟨rfl, g⟩
  exact ⟨rfl, g.any h hd⟩
 by_cases h8 : u.k = 8
 ·rw [h8]
  refine (play_wins4 x p q o N0 j J S T u.n u.s u.oa u.l.length u.oc s cl w h hB hd hj hJ).mono ?_
  rintro e w' ⟨rfl, g⟩
  exact ⟨rfl, g.any h hd⟩
 ·refine (play_other4 x u.k u.n u.s u.oa u.l.length u.oc w h1 h2 h3 h4 h5 h6 h7 h8).mono ?_
  rintro e w' ⟨rfl, hk⟩
  exact ⟨rfl, hk.mono (fun _ x => x.elim), S, T, s, cl, (h.kept hk (fun _ _ x => x)).mono (Nat.le_succ _), (hB.kept hk (fun _ _ x => x)).mono (by omega), hd, fun k hs => .inl hs, fun k ht => .inl ht⟩
theorem Pair.keys {x p q o : Nat} {S : Nat → Prop} {N0 j : Nat} {s : St} {cl : List Cl} {w : World} (h : Pair x p q o S N0 j s cl w) : ∀ c ∈ cl, inI c.key := by
 obtain ⟨Sp, Sw, h1, h2, h3, h4, ⟨L, bs, ow, _, _, hG⟩, ⟨ow', _, hH⟩, _⟩ := h.body
 intro c hc
 have hi := hH.rep.ids c hc
 cases hh : c.holds with
 | true =>
  have := hH.rep.mode_of hc hh
  exact (hG.st.hdom c.key c.txn.toNat (by rw [this]; omega)).1
 | false =>
  have hq := hH.rep.queue c.key
  have hm : (c.txn.toNat, c.mode) ∈ (s.lk c.key).q := by
   rw [← hq]
   exact List.mem_map.2 ⟨c, List.mem_filter.2 ⟨hc, by simp [isWait, hh]⟩, rfl⟩
  exact (hG.st.qdom c.key _ hm).1
theorem Pair.cells {x p q o : Nat} {S : Nat → Prop} {N0 j : Nat} {s : St} {cl : List Cl} {w : World} (h : Pair x p q o S N0 j s cl w) :
  w.cell? ⟨x, 0, none⟩ = some (.pointer (some ⟨p, 0, none⟩)) ∧ w.cell? ⟨x, 1, none⟩ = some (.pointer (some ⟨q, 0, none⟩)) ∧ (∃ ta tc, w.cell? ⟨q, 1, none⟩ = some (.slice ta s.n tc)) ∧ (∃ ca cc, w.cell? ⟨q, 2, none⟩ = some (.slice ca cl.length cc) ∧ (0 < cl.length → ∃ b off, ca = some ⟨b, off, none⟩ ∧ ClsAt w b off cl)) ∧ s.n ≤ j ∧ cl.length ≤ 2 * j := by
 obtain ⟨Sp, Sw, h1, h2, h3, h4, hP, ⟨ow', _, hH⟩, _⟩ := h.body
 obtain ⟨rl, g1, _⟩ := hH.ex
 obtain ⟨rv, tv, cv, wv, bs, b1, b2, b3, b4, b5, b6, b7, _⟩ := g1.body
 obtain ⟨ta, tc, rfl⟩ := ownsRow_form b4.1
 obtain ⟨ca, cc, e, hc⟩ := cls_of_owns b6.1
 subst e
 exact ⟨by rw [cell_at h1]; rfl, by rw [cell_at h1]; rfl, ⟨ta, tc, by rw [cell_at b1]; rfl⟩, ⟨ca, cc, by rw [cell_at b1]; rfl, hc⟩, hP.fine.n, hH.few⟩
end Go.Proofs.YtmcajfefagdbnaaGreat
namespace Go.Proofs.YtmcajfefagdbnaaGreat
open Go Go.RowKit
structure LI (x p q o : Nat) (S T : Nat → Prop) (N0 j : Nat) (s : St) (cl : List Cl) (w : World) (J : Nat) (wr : World) : Prop where
 kept : Kept (fun k => S k ∨ T k) w wr
 pair : Pair x p q o S N0 j s cl wr
 books : ∃ T', Books T' o J wr ∧ Disj S T' ∧ ∀ k, T' k → T k ∨ w.heap.size ≤ k
theorem LI.next {x p q o : Nat} {S T T' : Nat → Prop} {N0 j J : Nat} {s : St} {cl : List Cl} {w wr w' : World} (h : LI x p q o S T N0 j s cl w J wr) (hd : Disj S T') (hT : ∀ k, T' k → T k ∨ w.heap.size ≤ k) (ht : ToldAft x p q o S T' N0 j J s cl wr w') : LI x p q o S T N0 j s cl w (J + 8) w' := by
 obtain ⟨t1, t2, T2, t3, t4⟩ := ht
 have hz := h.kept.size
 refine ⟨h.kept.trans t1 (fun k e => ?_), t2, T2, t3, fun k hs ht => ?_, fun k hk => ?_⟩
 ·rcases e with e | e
  ·exact .inl (.inl e)
  ·rcases hT k e with y | y
   ·exact .inl (.inr y)
   ·exact .inr y
 ·rcases t4 k ht with y | y
  ·exact hd k hs y
  ·have := h.pair.lt k hs; omega
 ·rcases t4 k hk with y | y
  ·exact hT k y
  ·right; omega
section
variable {x p q o N0 j J : Nat} {S T : Nat → Prop} {s : St} {cl : List Cl} {w wr : World}
theorem LI.rows (h : LI x p q o S T N0 j s cl w J wr) (hj : j ≤ 1048576) (hN : N0 ≤ 1048576) (hJ : J ≤ 1099511000000) : Calls Tryz.prog 16 #[.pointer (some ⟨x, 0, none⟩), .agg #[.int .i64 7, .int .i64 0, .int .i64 0, .slice none 0 0]] wr fun e w' => e = .returned (.bool true) ∧ LI x p q o S T N0 j s cl w (J + 8) w' := by
 obtain ⟨T', b1, b2, b3⟩ := h.books
 refine (play_rows4 x p q o N0 j J S T' 0 0 none 0 0 s cl wr h.pair b1 b2 hj hN hJ).mono ?_
 rintro e w' ⟨rfl, ht⟩
 exact ⟨rfl, h.next b2 b3 ht⟩
theorem LI.wins (h : LI x p q o S T N0 j s cl w J wr) (hj : j ≤ 1048576) (hJ : J ≤ 1099511000000) : Calls Tryz.prog 16 #[.pointer (some ⟨x, 0, none⟩), .agg #[.int .i64 8, .int .i64 0, .int .i64 0, .slice none 0 0]] wr fun e w' => e = .returned (.bool true) ∧ LI x p q o S T N0 j s cl w (J + 8) w' := by
 obtain ⟨T', b1, b2, b3⟩ := h.books
 refine (play_wins4 x p q o N0 j J S T' 0 0 none 0 0 s cl wr h.pair b1 b2 hj hJ).mono ?_
 rintro e w' ⟨rfl, ht⟩
 exact ⟨rfl, h.next b2 b3 ht⟩
theorem LI.txn (h : LI x p q o S T N0 j s cl w J wr) (n : Int) (hj : j ≤ 1048576) (hJ : J ≤ 1099511000000) : Calls Tryz.prog 16 #[.pointer (some ⟨x, 0, none⟩), .agg #[.int .i64 5, .int .i64 n, .int .i64 0, .slice none 0 0]] wr fun e w' => e = .returned (.bool true) ∧ LI x p q o S T N0 j s cl w (J + 8) w' := by
 obtain ⟨T', b1, b2, b3⟩ := h.books
 refine (play_txn4 x p q o N0 j J S T' n 0 none 0 0 s cl wr h.pair b1 b2 hj hJ).mono ?_
 rintro e w' ⟨rfl, ht⟩
 exact ⟨rfl, h.next b2 b3 ht⟩
theorem LI.locks (h : LI x p q o S T N0 j s cl w J wr) (n : Int) (hn : inI n) (hj : j ≤ 1048576) (hJ : J ≤ 1099511000000) : Calls Tryz.prog 16 #[.pointer (some ⟨x, 0, none⟩), .agg #[.int .i64 6, .int .i64 n, .int .i64 0, .slice none 0 0]] wr fun e w' => e = .returned (.bool true) ∧ LI x p q o S T N0 j s cl w (J + 8) w' := by
 obtain ⟨T', b1, b2, b3⟩ := h.books
 refine (play_locks4 x p q o N0 j J S T' n 0 none 0 0 s cl wr h.pair b1 b2 hj hJ hn).mono ?_
 rintro e w' ⟨rfl, ht⟩
 exact ⟨rfl, h.next b2 b3 ht⟩
end
set_option maxRecDepth 100000 in
set_option maxHeartbeats 3200000 in
theorem looked4 {x p q o N0 j J : Nat} {S T : Nat → Prop} {s : St} {cl : List Cl} {w : World} (h : Pair x p q o S N0 j s cl w) (hB : Books T o J w) (hd : Disj S T) (hj : j ≤ 1048576) (hN : N0 ≤ 1048576) (hJ : J ≤ 1000000000000) :
  Calls Tryz.prog 19 #[.pointer (some ⟨x, 0, none⟩)] w fun e w' => e = .returned (.bool true) ∧ LI x p q o S T N0 j s cl w (J + 16 + 8 * s.n + 8 * cl.length) w' := by
 have HL0 : Hid (LI x p q o S T N0 j s cl w J w) := ⟨Kept.refl _ _, h, T, hB, hd, fun k hk => .inl hk⟩
 obtain ⟨_, _, _, _, hsn, hcl⟩ := h.cells
 have HKY : Hid (∀ c ∈ cl, inI c.key) := h.keys
 have HR : Hid (Calls Tryz.prog 16 #[.pointer (some ⟨x, 0, none⟩), .agg #[.int .i64 7, .int .i64 0, .int .i64 0, .slice none 0 0]] w fun e w' => e = .returned (.bool true) ∧ LI x p q o S T N0 j s cl w (J + 8) w') := HL0.out.rows hj hN (by omega)
 clear h hB hd
 generalize hsn' : s.n = n at *
 generalize hcl' : cl.length = m at *
 have HSN : Hid (s.n = n ∧ cl.length = m) := ⟨hsn', hcl'⟩
 clear hsn' hcl'
 go_enter Tryz.func19, Tryz.ntmps19
 go_wp2_with fail
 refine HR.out.mono ?_
 rintro e w1 ⟨rfl, h1⟩
 have HW : Hid (Calls Tryz.prog 16 #[.pointer (some ⟨x, 0, none⟩), .agg #[.int .i64 8, .int .i64 0, .int .i64 0, .slice none 0 0]] w1 fun e w' => e = .returned (.bool true) ∧ LI x p q o S T N0 j s cl w (J + 8 + 8) w') := h1.wins hj (by omega)
 clear h1 HR
 go_wp2_with fail
 refine HW.out.mono ?_
 rintro e w2 ⟨rfl, h2⟩
 have H2 : Hid (LI x p q o S T N0 j s cl w (J + 8 + 8) w2) := h2
 clear h2 HW
 go_wp2_with fail
 go_loopw [3, 5] (fun a i wr => ∃ k : Nat, k ≤ n ∧ a = .bool true ∧ i = .int .i64 ((k : Int) + 1) ∧ LI x p q o S T N0 j s cl w (J + 8 + 8 + 8 * k) wr) (fun _ i _ => n + 1 - (intOf i).toNat)
 case atStart => exact ⟨0, Nat.zero_le _, rfl, rfl, H2.out⟩
 case round =>
  obtain ⟨k, hk, rfl, rfl, hL⟩ := hrel
  obtain ⟨_, y1, ⟨ta, tc, y2⟩, _⟩ := hL.pair.cells
  rw [HSN.out.1] at y2
  by_cases hlt : k < n
  ·have HP : Hid (Calls Tryz.prog 16 #[.pointer (some ⟨x, 0, none⟩), .agg #[.int .i64 5, .int .i64 ((k : Int) + 1), .int .i64 0, .slice none 0 0]] wr fun e w' => e = .returned (.bool true) ∧ LI x p q o S T N0 j s cl w (J + 8 + 8 + 8 * k + 8) w') := hL.txn ((k : Int) + 1) hj (by omega)
   clear hL
   go_wp2_with fail
   refine HP.out.mono ?_
   rintro e w3 ⟨rfl, h3⟩
   have H3 : Hid (LI x p q o S T N0 j s cl w (J + 8 + 8 + 8 * k + 8) w3) := h3
   clear h3 HP y1 y2
   go_wp2_with fail
   go_roundw
   case rel => exact ⟨k + 1, by omega, rfl, by go_num, by rw [show J + 8 + 8 + 8 * (k + 1) = J + 8 + 8 + 8 * k + 8 from by omega]; exact H3.out⟩
   case measure => simp [intOf]; omega
  ·obtain rfl : k = n := by omega
   have HL : Hid (LI x p q o S T N0 j s cl w (J + 8 + 8 + 8 * k) wr) := hL
   clear hL
   go_wp2_with fail
   clear y1 y2
   go_loopw [4, 7] (fun b i wr => ∃ k2 : Nat, k2 ≤ m ∧ b = .bool true ∧ i = .int .i64 (k2 : Int) ∧ LI x p q o S T N0 j s cl w (J + 8 + 8 + 8 * k + 8 * k2) wr) (fun _ i _ => m - (intOf i).toNat)
   case atStart => exact ⟨0, Nat.zero_le _, rfl, rfl, HL.out⟩
   case round =>
    obtain ⟨k2, hk2, rfl, rfl, hL⟩ := hrel
    obtain ⟨_, y1, _, ⟨ca, cc, y2, y3⟩, _⟩ := hL.pair.cells
    rw [HSN.out.2] at y2 y3
    by_cases hlt2 : k2 < m
    ·obtain ⟨b, off, rfl, hat⟩ := y3 (by omega)
     have y4 := (hat k2 (by rw [HSN.out.2]; exact hlt2)).1
     have hkey : inI (cl.getD k2 Cl.z).key := HKY.out _ (by
      have hl : k2 < cl.length := by rw [HSN.out.2]; exact hlt2
      simp only [List.getD, List.getElem?_eq_getElem hl, Option.getD_some]
      exact List.getElem_mem hl)
     have HP : Hid (Calls Tryz.prog 16 #[.pointer (some ⟨x, 0, none⟩), .agg #[.int .i64 6, .int .i64 (cl.getD k2 Cl.z).key, .int .i64 0, .slice none 0 0]] wr fun e w' => e = .returned (.bool true) ∧ LI x p q o S T N0 j s cl w (J + 8 + 8 + 8 * k + 8 * k2 + 8) w') := hL.locks _ hkey hj (by omega)
     have i0 : (0 : Int) ≤ (k2 : Int) := by omega
     have i1 : (k2 : Int) < (m : Int) := by omega
     clear hL hat hkey y3
     generalize (cl.getD k2 Cl.z).key = key at *
     go_wp2_with fail
     refine HP.out.mono ?_
     rintro e w3 ⟨rfl, h3⟩
     have H3 : Hid (LI x p q o S T N0 j s cl w (J + 8 + 8 + 8 * k + 8 * k2 + 8) w3) := h3
     clear h3 HP y1 y2 y4
     go_wp2_with fail
     go_roundw
     case rel => exact ⟨k2 + 1, by omega, rfl, by go_num, by rw [show J + 8 + 8 + 8 * k + 8 * (k2 + 1) = J + 8 + 8 + 8 * k + 8 * k2 + 8 from by omega]; exact H3.out⟩
     case measure => simp [intOf]; omega
    ·obtain rfl : k2 = m := by omega
     have HL2 : Hid (LI x p q o S T N0 j s cl w (J + 8 + 8 + 8 * k + 8 * k2) wr) := hL
     clear hL y3
     go_wp2_with fail
     go_ret
     exact ⟨rfl, HL2.out⟩
end Go.Proofs.YtmcajfefagdbnaaGreat
namespace Go.Proofs.YtmcajfefagdbnaaGreat
open Go Go.RowKit
theorem good_born4 (f : Int → Option Int) : Good (St.born f) := by
 refine ⟨⟨fun k => ?_, fun k => ?_, fun k j h => absurd rfl h, fun k j m h => (by cases h), fun k j m h => (by cases h), fun j k h => (by cases h), fun i j h1 h2 h3 => ?_, fun j h1 h2 => ?_, fun j _ => rfl, List.nodup_nil, fun k => ?_⟩, fun j => Nat.le_refl _⟩
 ·refine ⟨fun j h => absurd rfl h, fun j => .inl rfl, fun x h => (by cases h), List.nodup_nil, fun i j _ h => absurd rfl h, fun l1 i m l2 h => ?_, fun x h => (by cases h)⟩
  have := congrArg List.length h
  simp [St.born] at this
 ·intro i m q h; cases h
 ·have : j ≤ 0 := h3
  omega
 ·have : j ≤ 0 := h2
  omega
 ·constructor
  ·intro h; cases h
  ·intro h
   rw [live_iff] at h
   rcases h with h | ⟨j, _, h⟩
   ·exact absurd rfl h
   ·exact absurd rfl h
theorem rise_pairwise {l : List Row2} (h : Rise l) : l.Pairwise (fun a b => a.k < b.k) := by
 rw [List.pairwise_iff_getElem]
 have key : ∀ d i, i + d + 1 < l.length → (l.getD i Row2.z).k < (l.getD (i + d + 1) Row2.z).k := by
  intro d
  induction d with
  | zero => intro i hi; exact h i hi
  | succ d ih =>
   intro i hi
   have h1 := ih i (by omega)
   have h2 := h (i + d + 1) (by omega)
   have e : i + (d + 1) + 1 = i + d + 1 + 1 := by omega
   rw [e]
   omega
 intro i j hi hj hij
 have := key (j - i - 1) i (by omega)
 rw [show i + (j - i - 1) + 1 = j from by omega] at this
 simpa [List.getD, hi, hj] using this
theorem rowsF_of {l : List Row2} (hs : l.Pairwise (fun a b => a.k < b.k)) : RowsOf (rowsF l) l := by
 suffices H : ∀ m : Nat, ∀ l : List Row2, l.length = m → l.Pairwise (fun a b => a.k < b.k) → RowsOf (rowsF l) l from H l.length l rfl hs
 intro m
 induction m with
 | zero =>
  intro l hl _
  obtain rfl := List.eq_nil_of_length_eq_zero hl
  exact ⟨⟨by simp, fun k => by simp [rowsF]⟩, fun r hr => by cases hr⟩
 | succ m ih =>
  intro l hl hs
  rcases List.eq_nil_or_concat l with rfl | ⟨l', r, rfl⟩
  ·simp at hl
  ·rw [List.concat_eq_append] at hl hs ⊢
   rw [List.pairwise_append] at hs
   obtain ⟨h1, _, h3⟩ := hs
   have hi := ih l' (by simpa using hl) h1
   have hlt : ∀ x ∈ l', x.k < r.k := fun x hx => h3 x hx r (by simp)
   rw [rowsF_snoc]
   refine ⟨⟨?_, fun k => ?_⟩, fun x hx => ?_⟩
   ·rw [List.map_append, List.pairwise_append]
    refine ⟨hi.1.1, by simp, fun a ha b hb => ?_⟩
    obtain ⟨x, hx, rfl⟩ := List.mem_map.1 ha
    simp only [List.map_cons, List.map_nil, List.mem_singleton] at hb
    rw [hb]
    exact hlt x hx
   ·rw [List.map_append, List.mem_append, hi.1.2 k]
    by_cases e : k = r.k
    ·subst e; simp
    ·rw [upd_other _ _ _ _ e]; simp [e]
   ·rcases List.mem_append.1 hx with hx | hx
    ·rw [upd_other _ _ _ _ (by have := hlt x hx; omega)]
     exact hi.2 x hx
    ·rw [List.mem_singleton] at hx
     subst hx
     exact upd_same _ _ _
theorem begun4 {w w' : World} {x o : Nat} {l : List Row2} (h : PairNew w w' x o l) (hx : w.heap.size ≤ x) (hr : Rise l) : ∃ p q S s, Pair x p q o S l.length 0 s [] w' ∧ (∀ k, S k → w.heap.size ≤ k) := by
 rcases h with ⟨hn, _⟩ | ⟨_, p, q, rv, hi, h1, ⟨L, ow, rfl, hown, hst⟩, h3, h4, h7, h9, h10, h11⟩
 ·exact absurd hr hn
 ·have hxq : x ≠ q := blocks_apart h1 h11 (by decide)
  have hxr : ¬ rv.ownBlock = some x := fun e => by
   obtain ⟨cur, hc⟩ := ownsRow_block h10 e
   exact blocks_apart hc h1 (by decide) rfl
  have hqr : ∀ k, rv.ownBlock = some k → k ≠ q := fun k e => by
   obtain ⟨cur, hc⟩ := ownsRow_block h10 e
   exact blocks_apart hc h11 (by decide)
  let ov : OwB := ⟨fun k => if k = q ∨ rv.ownBlock = some k then 1 else 0, []⟩
  have hov : ∀ k, Own ov k ↔ (k = q ∨ rv.ownBlock = some k) := fun k => by
   unfold Own
   simp only [ov]
   by_cases e : k = q ∨ rv.ownBlock = some k
   ·simp [e]
   ·simp [e]
  have hP : PI (OwnP ow) L.p l.length 0 (St.born (rowsF l)) w' := ⟨L, fun _ => 0, ow, rfl, fun _ => Iff.rfl, ⟨hst.mono (by omega), good_born4 _, by simp [St.born], by simp [alive, St.born], by simp [St.born], fun i => by simp [St.born], by simp [St.born], by simp [St.born], by simp [St.born]⟩⟩
  have hnil : ∀ (e : TypeId) (size : Nat), Owns ov 1 w' e size (.slice none 0 0) 0 [] := fun e size => ⟨World.ownsRow_nil _ _ _ _, fun k hk => by simp [Value.ownBlock] at hk⟩
  have hW : WI (Own ov) q l.length 0 (St.born (rowsF l)) [] w' := by
   refine ⟨ov, fun _ => Iff.rfl, ⟨⟨l, ⟨fun k hk => ?_, FixT.mk h11 (hnil _ _).1 rfl, rv, _, _, _, [], h11, by simp [ov], ⟨h10, fun k hk => by simp [ov, hk]⟩, hnil _ _, rfl, hnil _ _, hnil _ _, fun i hi => ?_⟩, rowsF_of (rise_pairwise hr), by omega⟩, ⟨fun c hc => (by cases hc), List.Pairwise.nil, fun k j m hm => ?_, fun k => rfl⟩, by simp⟩⟩
   ·rcases (hov k).1 hk with rfl | e
    ·exact lt_of_block h11
    ·exact ownsRow_lt h10 k e
   ·simp [St.born] at hi
   ·simp only [St.born, List.not_mem_nil, iff_false]
    exact fun e => hm e.symm
  refine ⟨L.p, q, fun k => k = x ∨ OwnP ow k ∨ Own ov k, _, ⟨fun k hk => ?_, OwnP ow, Own ov, h1, .inl rfl, fun e => ?_, fun e => ?_, hP, hW, fun k a b => ?_, fun k hk => .inr (.inl hk), fun k hk => .inr (.inr hk)⟩, fun k hk => ?_⟩
  ·rcases hk with rfl | hk | hk
   ·exact lt_of_block h1
   ·exact hP.lt k hk
   ·exact hW.lt k hk
  ·have := hown x e; omega
  ·rcases (hov x).1 e with e | e
   ·exact hxq e
   ·exact hxr e
  ·have h5 := hown k a
   rcases (hov k).1 b with rfl | e
   ·omega
   ·have := h9 k e; omega
  ·rcases hk with rfl | hk | hk
   ·exact hx
   ·exact (hown k hk).1
   ·rcases (hov k).1 hk with rfl | e
    ·exact h7
    ·exact (h9 k e).1
end Go.Proofs.YtmcajfefagdbnaaGreat
namespace Go.Proofs.YtmcajfefagdbnaaGreat
open Go Go.RowKit
def ScrAt4 (w : World) (b off m : Nat) (us : Nat → SO) : Prop := ∀ i, i < m →
 w.cell? ⟨b, off + i * 4, none⟩ = some (.int .i64 (us i).k) ∧ w.cell? ⟨b, off + i * 4 + 1, none⟩ = some (.int .i64 (us i).n) ∧ w.cell? ⟨b, off + i * 4 + 2, none⟩ = some (.int .i64 (us i).s) ∧ w.cell? ⟨b, off + i * 4 + 3, none⟩ = some (.slice (us i).oa (us i).l.length (us i).oc)
theorem rowsAt_own4 {w : World} {oa : Option Addr} {oc n : Nat} {l : List Row2} (h : w.ownsRow 0 95 2 (.slice oa n oc) n (rowCells l)) (hn : l.length = n) : 0 < n → ∃ b off, oa = some ⟨b, off, none⟩ ∧ RowsAt w b off l := fun h0 => by
 subst hn
 obtain ⟨ao, c, e, hr⟩ := rows_src h
 simp only [Value.slice.injEq, true_and] at e
 obtain ⟨rfl, rfl⟩ := e
 exact hr h0
def Lv4 (w0 wr : World) (x o N0 j J : Nat) : Prop := ∃ p q S T s cl, Pair x p q o S N0 j s cl wr ∧ Books T o J wr ∧ Disj S T ∧ (∀ k, S k → w0.heap.size ≤ k) ∧ (∀ k, T k → w0.heap.size ≤ k) ∧ Kept NoBlk w0 wr
section
variable {w0 wr : World} {x o N0 j J : Nat}
theorem Lv4.mem (h : Lv4 w0 wr x o N0 j J) : Kept NoBlk w0 wr := by
 obtain ⟨p, q, S, T, s, cl, h1, h2, h3, h4, h5, h6⟩ := h
 exact h6
theorem Lv4.ptr (h : Lv4 w0 wr x o N0 j J) : ∃ p, wr.cell? ⟨x, 0, none⟩ = some (.pointer (some ⟨p, 0, none⟩)) := by
 obtain ⟨p, q, S, T, s, cl, h1, h2, h3, h4, h5, h6⟩ := h
 exact ⟨p, h1.cells.1⟩
theorem Lv4.mono {j' J' : Nat} (h : Lv4 w0 wr x o N0 j J) (hj : j ≤ j') (hJ : J ≤ J') : Lv4 w0 wr x o N0 j' J' := by
 obtain ⟨p, q, S, T, s, cl, h1, h2, h3, h4, h5, h6⟩ := h
 exact ⟨p, q, S, T, s, cl, h1.mono hj, h2.mono hJ, h3, h4, h5, h6⟩
theorem Lv4.play (h : Lv4 w0 wr x o N0 j J) (u : SO) (hu : u.at w0) (hj : j ≤ 1048576) (hN : N0 ≤ 1048576) (hJ : J ≤ 1099511000000) :
  Calls Tryz.prog 16 #[.pointer (some ⟨x, 0, none⟩), .agg #[.int .i64 u.k, .int .i64 u.n, .int .i64 u.s, .slice u.oa u.l.length u.oc]] wr fun e w' => e = .returned (.bool true) ∧ Lv4 w0 w' x o N0 (j + 1) (J + 8) := by
 obtain ⟨p, q, S, T, s, cl, h1, h2, h3, h4, h5, h6⟩ := h
 refine (play_any4 u h1 h2 h3 hj hN hJ hu h6 h4).mono ?_
 rintro e w' ⟨rfl, a1, S', T', s', cl', a2, a3, a4, a5, a6⟩
 have hz := h6.size
 refine ⟨rfl, p, q, S', T', s', cl', a2, a3, a4, fun k hk => ?_, fun k hk => ?_, h6.trans a1 (fun k e => .inr (e.elim (h4 k) (h5 k)))⟩
 ·rcases a5 k hk with y | y
  ·exact h4 k y
  ·omega
 ·rcases a6 k hk with y | y
  ·exact h5 k y
  ·omega
theorem Lv4.keeps (h : Lv4 w0 wr x o N0 j J) (hJ : J ≤ 1099511627776) : Calls Tryz.prog 17 #[.pointer (some ⟨o, 0, none⟩)] wr fun e w' => e = .returned (.bool true) ∧ w' = wr := by
 obtain ⟨p, q, S, T, s, cl, h1, h2, h3, h4, h5, h6⟩ := h
 exact kept_bk h2 hJ
theorem Lv4.looked (h : Lv4 w0 wr x o N0 j J) (hj : j ≤ 1048576) (hN : N0 ≤ 1048576) (hJ : J ≤ 1000000000000) : Calls Tryz.prog 19 #[.pointer (some ⟨x, 0, none⟩)] wr fun e w' => e = .returned (.bool true) ∧ Lv4 w0 w' x o N0 j (J + 16 + 24 * j) := by
 obtain ⟨p, q, S, T, s, cl, h1, h2, h3, h4, h5, h6⟩ := h
 obtain ⟨_, _, _, _, hn, hc⟩ := h1.cells
 refine (looked4 h1 h2 h3 hj hN hJ).mono ?_
 rintro e w' ⟨rfl, a⟩
 obtain ⟨T', b1, b2, b3⟩ := a.books
 have hz := h6.size
 refine ⟨rfl, p, q, S, T', s, cl, a.pair, b1.mono (by omega), b2, h4, fun k hk => ?_, h6.trans a.kept (fun k e => .inr (e.elim (h4 k) (h5 k)))⟩
 rcases b3 k hk with y | y
 ·exact h5 k y
 ·omega
end
set_option maxRecDepth 100000 in
set_option maxHeartbeats 6400000 in
theorem played4 (ra sa : Option Addr) (rc sc n m : Nat) (most : Int) (l : List Row2) (us : Nat → SO) (w : World) (hn : l.length = n) (hl : n ≤ 1048576) (hr : 0 < n → ∃ b off, ra = some ⟨b, off, none⟩ ∧ RowsAt w b off l) (hw : RowsWf l)
  (hm : m ≤ 1048576) (hs : 0 < m → ∃ b off, sa = some ⟨b, off, none⟩ ∧ ScrAt4 w b off m us) (hu : ∀ i, i < m → (us i).at w) :
  Calls Tryz.prog 18 #[.slice ra n rc, .slice sa m sc, .int .i64 most] w fun e w' => e = .returned (.bool true) ∧ Kept NoBlk w w' := by
 have HN : Hid _ := hn
 have HR : Hid (0 < n → ∃ b off, ra = some ⟨b, off, none⟩ ∧ RowsAt w b off l) := hr
 have HW : Hid (RowsWf l) := hw
 have HS : Hid (0 < m → ∃ b off, sa = some ⟨b, off, none⟩ ∧ ScrAt4 w b off m us) := hs
 have HU : Hid (∀ i, i < m → (us i).at w) := hu
 have hk0 : Kept NoBlk w (w.alloc (.cells #[.slice none 0 0, .slice none 0 0, .slice none 0 0, .slice none 0 0] 30)) := (Kept.refl _ _).alloc _
 have HO0 : Hid _ := block_alloc_new w (.cells #[.slice none 0 0, .slice none 0 0, .slice none 0 0, .slice none 0 0] 30)
 have HK0 : Hid _ := hk0
 clear hn hr hw hs hu hk0
 go_enter Tryz.func18, Tryz.ntmps18
 go_wp2_with fail
 generalize w.alloc (.cells #[.slice none 0 0, .slice none 0 0, .slice none 0 0, .slice none 0 0] 30) = W0 at *
 generalize hO : w.heap.size = o at HO0 ⊢
 have HO : Hid _ := hO
 clear hO
 refine (rising_any ra rc n l W0 HN.out hl (fun h0 => by obtain ⟨b, off, e, hat⟩ := HR.out h0; exact ⟨b, off, e, hat.kept HK0.out (fun x => x)⟩) HW.out).mono ?_
 rintro e w2 ⟨l', v, rfl, hl', hri, hwf', hown, hfr, hk2⟩
 obtain ⟨oa, oc, rfl⟩ := ownsRow_form hown
 have HL' : Hid _ := hl'
 have HRI : Hid (Rise l') := hri
 have HWF : Hid (RowsWf l') := hwf'
 have HROW : Hid (0 < n → ∃ b off, oa = some ⟨b, off, none⟩ ∧ RowsAt w2 b off l') := rowsAt_own4 hown hl'
 have HK2 : Hid _ := hk2
 clear hl' hri hwf' hown hfr hk2
 go_wp2_with fail
 refine (begun_any oa oc n o l' w2 HL'.out hl HROW.out HWF.out).mono ?_
 rintro e w3 ⟨x, rfl, hx, hk3, hp3⟩
 have hLv : Lv4 w w3 x o n 0 0 := by
  obtain ⟨p, q, S, s, hP, hS⟩ := begun4 hp3 hx HRI.out
  rw [HL'.out] at hP
  have hz0 := HK0.out.size
  have hz2 := HK2.out.size
  have hO3 := hk3.heap (HK2.out.heap HO0.out (fun x => x)) (fun x => x)
  have hoe := HO.out
  have hol := lt_of_block HO0.out
  refine ⟨p, q, S, Blk o, s, [], hP, Books.born hO3, fun k hk e => ?_, fun k hk => ?_, fun k hk => ?_, (HK0.out.trans' HK2.out).trans' hk3⟩
  ·have := hS k hk; unfold Blk at e; omega
  ·have := hS k hk; omega
  ·unfold Blk at hk; omega
 have HLv : Hid (Lv4 w w3 x o n 0 0) := hLv
 obtain ⟨px, hpx⟩ := hLv.ptr
 clear hLv hx hk3 hp3
 go_wp2_with fail
 clear hpx
 go_loopw [9, 10] (fun ok i wr => ∃ k : Nat, k ≤ m ∧ ok = .bool true ∧ i = .int .i64 k ∧ Lv4 w wr x o n k (8 * k)) (fun _ i _ => m - (intOf i).toNat)
 case atStart => exact ⟨0, Nat.zero_le _, rfl, rfl, HLv.out⟩
 case round =>
  obtain ⟨k, hk, rfl, rfl, hLv⟩ := hrel
  by_cases hlt : k < m
  ·obtain ⟨b, off, rfl, hat⟩ := HS.out (by omega)
   have hkw := hLv.mem
   have hat' := hat k hlt
   have g0 := hkw.cell0 hat'.1
   have g1 := hkw.cell0 hat'.2.1
   have g2 := hkw.cell0 hat'.2.2.1
   have g3 := hkw.cell0 hat'.2.2.2
   have huk := HU.out k hlt
   clear hat hat' hkw
   generalize us k = u at *
   have HLV : Hid (Lv4 w wr x o n k (8 * k)) := hLv
   have hP : Hid (Calls Tryz.prog 16 #[.pointer (some ⟨x, 0, none⟩), .agg #[.int .i64 u.k, .int .i64 u.n, .int .i64 u.s, .slice u.oa u.l.length u.oc]] wr fun e w' => e = .returned (.bool true) ∧ Lv4 w w' x o n (k + 1) (8 * k + 8)) := hLv.play u huk (by omega) hl (by omega)
   clear huk hLv
   have i0 : (0 : Int) ≤ (k : Int) := by omega
   have i1 : (k : Int) < (m : Int) := by omega
   have hcs : ((u.k == 4) = false) ∨ ((u.k == 4) = true ∧ decide (most < 4) = false) ∨ ((u.k == 4) = true ∧ decide (most < 4) = true) := by
    cases h1 : (u.k == 4) <;> cases h2 : decide (most < 4) <;> simp
   rcases hcs with e1 | ⟨e1, e2⟩ | ⟨e1, e2⟩
   ·go_wp2_with fail
    refine hP.out.mono ?_
    rintro e w4 ⟨rfl, h4⟩
    have HKP : Hid (Calls Tryz.prog 17 #[.pointer (some ⟨o, 0, none⟩)] w4 fun e w' => e = .returned (.bool true) ∧ w' = w4) := h4.keeps (by omega)
    have H4 : Hid (Lv4 w w4 x o n (k + 1) (8 * k + 8)) := h4
    clear h4 hP g0 g1 g2 g3
    go_wp2_with fail
    refine HKP.out.mono ?_
    rintro e w5 ⟨rfl, rfl⟩
    go_wp2_with fail
    go_roundw
    case rel => exact ⟨k + 1, by omega, rfl, by go_num, by rw [show 8 * (k + 1) = 8 * k + 8 from by omega]; exact H4.out⟩
    case measure => simp [intOf]; omega
   ·go_wp2_with fail
    refine hP.out.mono ?_
    rintro e w4 ⟨rfl, h4⟩
    have HKP : Hid (Calls Tryz.prog 17 #[.pointer (some ⟨o, 0, none⟩)] w4 fun e w' => e = .returned (.bool true) ∧ w' = w4) := h4.keeps (by omega)
    have H4 : Hid (Lv4 w w4 x o n (k + 1) (8 * k + 8)) := h4
    clear h4 hP g0 g1 g2 g3
    go_wp2_with fail
    refine HKP.out.mono ?_
    rintro e w5 ⟨rfl, rfl⟩
    go_wp2_with fail
    go_roundw
    case rel => exact ⟨k + 1, by omega, rfl, by go_num, by rw [show 8 * (k + 1) = 8 * k + 8 from by omega]; exact H4.out⟩
    case measure => simp [intOf]; omega
   ·clear hP
    go_wp2_with fail
    go_roundw
    case rel => exact ⟨k + 1, by omega, rfl, by go_num, HLV.out.mono (by omega) (by omega)⟩
    case measure => simp [intOf]; omega
  ·obtain rfl : k = m := by omega
   have HLK : Hid (Calls Tryz.prog 19 #[.pointer (some ⟨x, 0, none⟩)] wr fun e w' => e = .returned (.bool true) ∧ Lv4 w w' x o n k (8 * k + 16 + 24 * k)) := hLv.looked hm hl (by omega)
   clear hLv
   go_wp2_with fail
   refine HLK.out.mono ?_
   rintro e w4 ⟨rfl, h4⟩
   have HKP : Hid (Calls Tryz.prog 17 #[.pointer (some ⟨o, 0, none⟩)] w4 fun e w' => e = .returned (.bool true) ∧ w' = w4) := h4.keeps (by omega)
   have HM4 : Hid (Kept NoBlk w w4) := h4.mem
   clear h4 HLK
   go_wp2_with fail
   refine HKP.out.mono ?_
   rintro e w5 ⟨rfl, rfl⟩
   go_wp2_with fail
   go_ret
   exact ⟨rfl, HM4.out⟩
set_option maxHeartbeats 800000 in
theorem runs_any (ra sa : Option Addr) (rc sc n m : Nat) (l : List Row2) (us : Nat → SO) (w : World) (hn : l.length = n) (hl : n ≤ 1048576) (hr : 0 < n → ∃ b off, ra = some ⟨b, off, none⟩ ∧ RowsAt w b off l) (hw : RowsWf l)
  (hm : m ≤ 1048576) (hs : 0 < m → ∃ b off, sa = some ⟨b, off, none⟩ ∧ ScrAt4 w b off m us) (hu : ∀ i, i < m → (us i).at w) :
  Calls Tryz.prog 4 #[.slice ra n rc, .slice sa m sc] w fun e w' => e = .returned (.bool true) ∧ Kept NoBlk w w' := by
 have HP : Hid (Calls Tryz.prog 18 #[.slice ra n rc, .slice sa m sc, .int .i64 3] w fun e w' => e = .returned (.bool true) ∧ Kept NoBlk w w') := played4 ra sa rc sc n m 3 l us w hn hl hr hw hm hs hu
 clear hn hr hw hs hu
 go_enter Tryz.func4, Tryz.ntmps4
 go_wp2_with fail
 refine HP.out.mono ?_
 rintro e w1 ⟨rfl, h1⟩
 have H1 : Hid (Kept NoBlk w w1) := h1
 clear h1
 go_wp2_with fail
 go_ret
 exact ⟨rfl, H1.out⟩
set_option maxHeartbeats 800000 in
theorem scripts_any (ra sa : Option Addr) (rc sc n m : Nat) (l : List Row2) (us : Nat → SO) (w : World) (hn : l.length = n) (hl : n ≤ 1048576) (hr : 0 < n → ∃ b off, ra = some ⟨b, off, none⟩ ∧ RowsAt w b off l) (hw : RowsWf l)
  (hm : m ≤ 1048576) (hs : 0 < m → ∃ b off, sa = some ⟨b, off, none⟩ ∧ ScrAt4 w b off m us) (hu : ∀ i, i < m → (us i).at w) :
  Calls Tryz.prog 5 #[.slice ra n rc, .slice sa m sc] w fun e w' => e = .returned (.bool true) ∧ Kept NoBlk w w' := by
 have HP : Hid (Calls Tryz.prog 18 #[.slice ra n rc, .slice sa m sc, .int .i64 8] w fun e w' => e = .returned (.bool true) ∧ Kept NoBlk w w') := played4 ra sa rc sc n m 8 l us w hn hl hr hw hm hs hu
 clear hn hr hw hs hu
 go_enter Tryz.func5, Tryz.ntmps5
 go_wp2_with fail
 refine HP.out.mono ?_
 rintro e w1 ⟨rfl, h1⟩
 have H1 : Hid (Kept NoBlk w w1) := h1
 clear h1
 go_wp2_with fail
 go_ret
 exact ⟨rfl, H1.out⟩
end Go.Proofs.YtmcajfefagdbnaaGreat
