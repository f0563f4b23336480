import Derived.Test.YtmcajfefagdbnaaGreatJ47
import Derived.Test.YtmcajfefagdbnaaGreatJ08
import Derived.Test.YtmcajfefagdbnaaGreatJ12
namespace Go.Proofs.YtmcajfefagdbnaaGreat
open Go Go.RowKit
set_option maxRecDepth 100000 in
set_option maxHeartbeats 6400000 in
theorem padmit4 (x p q o n cp N0 j : Nat) (ao : Option Addr) (S : Nat → Prop) (s : St) (cl : List Cl) (l : List Op4) (w : World) (h : Pair x p q o S N0 j s cl w) (hj : j ≤ 1048576) (hn : l.length = n) (hl : n ≤ 1048576) (hin : OpsIn l) (ho : 0 < n → ∃ b off, ao = some ⟨b, off, none⟩ ∧ OpsAt w b off l ∧ ¬ S b) :
  Calls Tryz.prog 43 #[.pointer (some ⟨x, 0, none⟩), .slice ao n cp] w fun e w' => e = .returned (.bool true) ∧ PairAft x p q o S N0 (j + 1) w w' := by
 obtain ⟨Sp, Sw, h1, h2, h3, h4, h5, h6, h7, h8, h9⟩ := h.body
 obtain ⟨i0, hi0, hz0, hz1, hz2⟩ := info_parts infoOp
 have HS : Hid ((Tryz.prog.info? 114).map (·.size) = some 4) := by unfold Hid; rw [hi0]; simp [hz1]
 have HSRC : Hid (OpsSrc w (.slice ao n cp) l) := ⟨ao, cp, by rw [hn], fun h0 => by obtain ⟨b, off, e, hat, _⟩ := ho (by rw [← hn]; exact h0); exact ⟨b, off, e, hat⟩⟩
 have HX : Hid (FromMem (w.alloc (.cells (madeCells (Value.agg #[.int .i64 0, .int .i64 0, .int .i64 0, .int .i64 0]).cells ((n + 4) * 4)) 114)) 4 (.slice ao n cp) n (opCells l)) := by
  have := ((show OpsSrc w (.slice ao n cp) l from HSRC.out).kept ((Kept.refl NoBlk w).alloc (.cells (madeCells (Value.agg #[.int .i64 0, .int .i64 0, .int .i64 0, .int .i64 0]).cells ((n + 4) * 4)) 114)) (fun _ _ _ x => x)).mem
  rw [hn] at this
  exact this
 have HB : Hid (i0.bytes * (n + 4) ≤ 281474976710656) := by unfold Hid; rw [hz2]; omega
 have HM : Hid (n + 4 ≤ maxLen) := by unfold Hid maxLen; omega
 have HL : Hid ((opCells l).length = n * 4) := by unfold Hid; rw [opCells_len, hn]
 have HN : Hid _ := hn
 have HI : Hid (Tryz.prog.info? 114 = some i0 ∧ i0.zero = some (.agg #[.int .i64 0, .int .i64 0, .int .i64 0, .int .i64 0]) ∧ i0.size = 4) := ⟨hi0, hz0, hz1⟩
 have HQ : Hid (Pair x p q o S N0 j s cl w) := h
 have HF : Hid (Fine j s) := h5.fine
 have HOPS : Hid (0 < n → ∃ b off, ao = some ⟨b, off, none⟩ ∧ OpsAt w b off l ∧ ¬ S b) := ho
 have H1 : Hid _ := h1
 have H2 : Hid (S x ∧ ¬ Sp x ∧ ¬ Sw x) := ⟨h2, h3, h4⟩
 have H5 : Hid (PI Sp p N0 j s w) := h5
 have H6 : Hid (WI Sw q N0 j s cl w) := h6
 have H7 : Hid (Disj Sp Sw ∧ (∀ k, Sp k → S k) ∧ (∀ k, Sw k → S k)) := ⟨h7, h8, h9⟩
 have HIN : Hid (OpsIn l) := hin
 clear h h1 h2 h3 h4 h5 h6 h7 h8 h9 hi0 hz0 hz1 hz2 hn ho hin
 go_enter Tryz.func43, Tryz.ntmps43
 go_wp2_with (first
  | (at_make; refine wpList_make_at rfl _ _ 39 rfl 114 i0 _ 4 Tryz.underlying39 HI.out.1 HI.out.2.1 HI.out.2.2 .i64 .i64 _ _ (n + 4) (n + 4) rfl rfl (by omega) (by omega) (Nat.le_refl _) HB.out HM.out ?_)
  | (refine wpList_copy_at (by rfl) _ _ 39 39 (by rfl) 114 4 Tryz.underlying39 HS.out w.heap.size (n + 4) (n + 4) (by rfl) _ 114 (block_alloc_new w _) _ n (opCells l) (by rfl) HX.out (by omega) (by rw [size_madeCells, HL.out]; omega) ?_))
 intro w1 hg hk
 have hsz : ((opCells l ++ List.drop (opCells l).length (madeCells (Value.agg #[.int .i64 0, .int .i64 0, .int .i64 0, .int .i64 0]).cells ((n + 4) * 4)).toList)).toArray.size = (n + 4) * 4 := by
  simp only [List.size_toArray, List.length_append, List.length_drop, Array.length_toList, size_madeCells, HL.out]
  omega
 have h0 : ∀ j, j < (n + 0) * 4 → ((opCells l ++ List.drop (opCells l).length (madeCells (Value.agg #[.int .i64 0, .int .i64 0, .int .i64 0, .int .i64 0]).cells ((n + 4) * 4)).toList)).toArray[j]? = (opCells l ++ opPads)[j]? := fun j hj => by
  have := HL.out
  rw [List.getElem?_toArray, List.getElem?_append_left (by omega), List.getElem?_append_left (by omega)]
 have HK1 : Hid (Kept NoBlk w w1) := ((Kept.refl NoBlk w).alloc _).trans hk (fun i x => .inr (by cases x; exact Nat.le_refl _))
 have HG1 : Hid (∃ cs : Array Value, cs.size = (n + 4) * 4 ∧ w1.heap[w.heap.size]? = some (.cells cs 114 (0, 0)) ∧ ∀ j, j < (n + 0) * 4 → cs[j]? = (opCells l ++ opPads)[j]?) := ⟨_, hsz, hg, h0⟩
 clear hg hk hsz h0
 generalize hG : w.heap.size = g at HG1 ⊢
 have HGG : Hid _ := hG
 clear hG
 go_wp2_with fail
 go_loopw [6] (fun i wr => ∃ k : Nat, k ≤ 4 ∧ i = .int .i64 k ∧ Kept NoBlk w wr ∧ ∃ cs : Array Value, cs.size = (n + 4) * 4 ∧ wr.heap[g]? = some (.cells cs 114 (0, 0)) ∧ ∀ j, j < (n + k) * 4 → cs[j]? = (opCells l ++ opPads)[j]?) (fun i _ => 4 - (intOf i).toNat)
 case atStart => exact ⟨0, by omega, rfl, HK1.out, HG1.out⟩
 case round =>
  obtain ⟨k, hk, rfl, hkw, cs, hsz, hg, hpre⟩ := hrel
  by_cases hlt : k < 4
  ·have hp := opCellsPads_get l k hlt
   rw [HN.out] at hp
   have HS2 : Hid (∀ j, j < (n + k) * 4 + 4 → (set4 cs ((n + k) * 4) (.int .i64 77) (.int .i64 0) (.int .i64 0) (.int .i64 0))[j]? = (opCells l ++ opPads)[j]?) := set4_pref (by omega) hpre hp.1 hp.2.1 hp.2.2.1 hp.2.2.2
   obtain ⟨y0, c0⟩ : ∃ y, wr.cell? ⟨g, (n + k) * 4, none⟩ = some y := ⟨cs[(n + k) * 4]'(by omega), by rw [cell_at hg]; exact Array.getElem?_eq_getElem _⟩
   obtain ⟨y1, c1⟩ : ∃ y, wr.cell? ⟨g, (n + k) * 4 + 1, none⟩ = some y := ⟨cs[(n + k) * 4 + 1]'(by omega), by rw [cell_at hg]; exact Array.getElem?_eq_getElem _⟩
   obtain ⟨y2, c2⟩ : ∃ y, wr.cell? ⟨g, (n + k) * 4 + 2, none⟩ = some y := ⟨cs[(n + k) * 4 + 2]'(by omega), by rw [cell_at hg]; exact Array.getElem?_eq_getElem _⟩
   obtain ⟨y3, c3⟩ : ∃ y, wr.cell? ⟨g, (n + k) * 4 + 3, none⟩ = some y := ⟨cs[(n + k) * 4 + 3]'(by omega), by rw [cell_at hg]; exact Array.getElem?_eq_getElem _⟩
   have hf : ∀ o, wr.frozen? ⟨g, o, none⟩ = false := fun o => frozen_at hg o
   have HG2 : Hid ((setW4 wr g ((n + k) * 4) (.int .i64 77) (.int .i64 0) (.int .i64 0) (.int .i64 0)).heap[g]? = some (.cells (set4 cs ((n + k) * 4) (.int .i64 77) (.int .i64 0) (.int .i64 0) (.int .i64 0)) 114 (0, 0))) := setW4_at hg _ _ _ _ _
   have HK2 : Hid (Kept NoBlk w (setW4 wr g ((n + k) * 4) (.int .i64 77) (.int .i64 0) (.int .i64 0) (.int .i64 0))) := hkw.trans (setW4_kept _ _ _ _ _ _ _) (fun i x => .inr (by cases x; exact Nat.le_of_eq HGG.out))
   have HZ : Hid (cs.size = (n + 4) * 4) := hsz
   clear hp hpre hg hkw hsz
   go_wp2_with fail
   go_roundw
   case rel => exact ⟨k + 1, by omega, by go_num, HK2.out, _, by rw [set4_size]; exact HZ.out, HG2.out, fun j hj => HS2.out j (by omega)⟩
   case measure => simp [intOf]; omega
  ·obtain rfl : k = 4 := by omega
   have hcs : cs = (opCells l ++ opPads).toArray := by
    have := HL.out
    apply Array.ext'
    apply List.ext_getElem?
    intro j
    by_cases hj : j < (n + 4) * 4
    ·rw [Array.getElem?_toList, hpre j hj]
    ·rw [List.getElem?_eq_none (by simp; omega), List.getElem?_eq_none (by simp [opPads]; omega)]
   subst hcs
   have HG2 : Hid _ := hg
   have HK2 : Hid _ := hkw
   have hX2 := hkw.heap H1.out (fun x => x)
   have HX2 : Hid _ := hX2
   have x0 : wr.cell? ⟨x, 0, none⟩ = some (.pointer (some ⟨p, 0, none⟩)) := by rw [cell_at hX2]; rfl
   have i1 : (0 : Int) ≤ (n : Int) := by omega
   have i2 : (n : Int) ≤ ((n + 4 : Nat) : Int) := by omega
   have i3 : (n : Int) ≤ (n : Int) + 4 := by omega
   clear hpre hg hkw hsz hX2
   have hgw : w.heap.size ≤ g := Nat.le_of_eq HGG.out
   have hSg : ∀ k, S k → k < g := fun k hk => by have := HQ.out.lt k hk; have := HGG.out; omega
   have hP1 : PI Sp p N0 j s wr := H5.out.kept HK2.out (fun _ _ x => x)
   have hW1 : WI Sw q N0 j s cl wr := H6.out.kept HK2.out (fun _ _ x => x)
   have HPA : Hid (Calls Tryz.prog 36 #[.pointer (some ⟨p, 0, none⟩), .slice (some ⟨g, 0, none⟩) n (n + 4)] wr.drew fun e w' => e = .returned (.tuple #[.int .i64 (admNo s l), .int .i64 (admErr l (alive s) s.clock)]) ∧ PAft Sp p N0 (j + 1) wr.drew (s.adm l) w') := by
    have hat0 : OpsAt wr.drew g 0 l := opsAt_given (t := 114) HG2.out
    have hsrc : OpsSrc wr.drew (.slice (some ⟨g, 0, none⟩) n (n + 4)) l := ⟨_, n + 4, by rw [HN.out], fun _ => ⟨g, 0, rfl, hat0⟩⟩
    refine pi_admit (hP1.kept ((Kept.refl NoBlk wr).drew) (fun _ _ x => x)) _ l hsrc (fun k hk hs => ?_) HIN.out (by rw [HN.out]; exact hl) hj
    simp only [Value.ownBlock, Option.some.injEq] at hk
    subst hk
    have := hSg _ (H7.out.2.1 _ hs)
    omega
   have HW1 : Hid (WI Sw q N0 j s cl wr) := hW1
   have HGW : Hid _ := hgw
   have HSG : Hid _ := hSg
   clear hP1 hW1 hgw hSg
   go_wp2_with fail
   go_region_held3 (fun w' => w'.cell? ⟨x, 0, none⟩ = some (.pointer (some ⟨p, 0, none⟩)))
    (first | exact hx2 | exact x0 | go_keep)
    (first
     | (go_at_call 36; refine HPA.out.mono ?_; rintro e w2 ⟨rfl, hk2, Sp', hP2, hS2⟩; have hx2 := hk2.cell (show wr.drew.cell? ⟨x, 0, none⟩ = some (.pointer (some ⟨p, 0, none⟩)) from x0) H2.out.2.1))
   have hsd : wr.drew.heap.size = wr.heap.size := rfl
   have hgr : g < wr.heap.size := lt_of_block HG2.out
   have hSg := HSG.out
   have hS2' : ∀ k, Sp' k → Sp k ∨ wr.heap.size ≤ k := hS2
   have hgp' : ¬ Sp' g := fun hs => by
    rcases hS2' g hs with h | h
    ·have := hSg g (H7.out.2.1 g h); omega
    ·omega
   have hxp' : ¬ Sp' x := fun hs => by
    rcases hS2' x hs with h | h
    ·exact H2.out.2.1 h
    ·have := hSg x H2.out.1; omega
   have hk2w : Kept Sp w w2 := (HK2.out.drew.mono (fun _ x => x.elim)).trans' hk2
   have hX3 := hk2.heap (show wr.drew.heap[x]? = _ from HX2.out) H2.out.2.1
   have x1 : w2.cell? ⟨x, 1, none⟩ = some (.pointer (some ⟨q, 0, none⟩)) := by rw [cell_at hX3]; rfl
   have hG3 := hk2.heap (show wr.drew.heap[g]? = _ from HG2.out) (fun hs => by have := hSg g (H7.out.2.1 g hs); omega)
   have hW2 : WI Sw q N0 j s cl w2 := (HW1.out.kept ((Kept.refl NoBlk wr).drew) (fun _ _ x => x)).kept hk2 (fun k hw hp => H7.out.1 k hp hw)
   have hO2 : OpsSrc w2 (.slice ao n cp) l := (show OpsSrc w (.slice ao n cp) l from HSRC.out).kept hk2w (fun h0 b hb hs => by
    obtain ⟨b', off, e', _, hnb⟩ := HOPS.out (by rw [← HN.out]; exact h0)
    subst e'
    simp [Value.ownBlock] at hb
    subst hb
    exact hnb (H7.out.2.1 _ hs))
   have HWA : Hid (Calls Tryz.prog 77 #[.pointer (some ⟨q, 0, none⟩), .slice ao n cp] w2 fun e w' => e = .returned (.tuple #[.int .i64 (admNo s l), .int .i64 (admErr l (alive s) s.clock)]) ∧ WAft Sw q N0 (j + 1) w2 (s.adm l) w') :=
    wi_admit hW2 (.slice ao n cp) l hO2 (fun h0 b hb hs => by
     obtain ⟨b', off, e', _, hnb⟩ := HOPS.out (by rw [← HN.out]; exact h0)
     subst e'
     simp [Value.ownBlock] at hb
     subst hb
     exact hnb (H7.out.2.2 _ hs)) (by rw [HN.out]; exact hl) hj HF.out
   have HP2 : Hid (PI Sp' p N0 (j + 1) (s.adm l) w2) := hP2
   have HS2 : Hid (∀ k, Sp' k → Sp k ∨ wr.heap.size ≤ k) := hS2'
   have HNP : Hid (¬ Sp' g ∧ ¬ Sp' x) := ⟨hgp', hxp'⟩
   have HK2w : Hid _ := hk2w
   have HX3 : Hid _ := hX3
   have HG3 : Hid _ := hG3
   have HGR : Hid _ := hgr
   have HSZ2 : Hid (wr.heap.size ≤ w2.heap.size) := hk2.size
   clear hsd hgr hSg hS2' hgp' hxp' hk2w hX3 hG3 hW2 hO2 hP2 hS2 hk2 hx2 HPA HW1 x0
   generalize admNo s l = num at *
   generalize hER : admErr l (alive s) s.clock = er at *
   have HER : Hid _ := hER
   clear hER
   have en : (num == num) = true := by simp
   have ee : (er == er) = true := by simp
   go_wp2_with fail
   refine HWA.out.mono ?_
   rintro e w3 ⟨rfl, hk3, Sw', cl', hW3, hS3⟩
   have hwg : ¬ Sw g := fun hs => by have := HSG.out g (H7.out.2.2 g hs); omega
   have hG4 := hk3.heap HG3.out hwg
   have hX4 := hk3.heap HX3.out H2.out.2.2
   have hxs := HSG.out x H2.out.1
   have hgrr := HGR.out
   have hz2 := HSZ2.out
   have hwg' : ¬ Sw' g := fun hs => by
    rcases hS3 g hs with h | h
    ·exact hwg h
    ·omega
   have hwx' : ¬ Sw' x := fun hs => by
    rcases hS3 x hs with h | h
    ·exact H2.out.2.2 h
    ·omega
   have hP3 : PI Sp' p N0 (j + 1) (s.adm l) w3 := HP2.out.kept hk3 (fun k hp hw => by
    rcases HS2.out k hp with h | h
    ·exact H7.out.1 k h hw
    ·have := HSG.out k (H7.out.2.2 k hw); omega)
   have hdis : Disj Sp' Sw' := fun k hp hw => by
    rcases hS3 k hw with h | h
    ·rcases HS2.out k hp with h' | h'
     ·exact H7.out.1 k h' h
     ·have := HSG.out k (H7.out.2.2 k h); omega
    ·have := HP2.out.lt k hp; omega
   have hKws : Kept S w w3 := (HK2w.out.mono H7.out.2.1).trans (hk3.mono H7.out.2.2) (fun _ x => .inl x)
   have HKws : Hid _ := hKws
   have HG4 : Hid _ := hG4
   have HX4 : Hid _ := hX4
   have HW3 : Hid (WI Sw' q N0 (j + 1) (s.adm l) cl' w3) := hW3
   have HP3 : Hid (PI Sp' p N0 (j + 1) (s.adm l) w3) := hP3
   have HDIS : Hid (Disj Sp' Sw') := hdis
   have HNW : Hid (¬ Sw' g ∧ ¬ Sw' x) := ⟨hwg', hwx'⟩
   have HS3 : Hid (∀ k, Sw' k → Sw k ∨ w2.heap.size ≤ k) := hS3
   have HSZ3 : Hid (w2.heap.size ≤ w3.heap.size) := hk3.size
   have HK3 : Hid (0 < n → ∃ b off, ao = some ⟨b, off, none⟩ ∧ OpsAt w3 b off l ∧ b ≠ g) := fun h0 => by
    obtain ⟨b, off, e', hat, hnb⟩ := HOPS.out h0
    refine ⟨b, off, e', hat.kept hKws hnb, fun e => ?_⟩
    have h1 := (hat 0 (by rw [HN.out]; exact h0)).1
    have hlt : b < w.heap.size := World.block_lt_of_cell? w _ h1
    have := HGG.out
    omega
   clear hwg hG4 hX4 hxs hgrr hz2 hwg' hwx' hP3 hdis hKws hW3 hS3 hk3 x1 HWA
   go_wp2_with fail
   go_loopw [11, 12] (fun b i wr => ∃ k : Nat, k ≤ n + 4 ∧ b = .bool true ∧ i = .int .i64 k ∧ Kept (Blk g) w3 wr ∧ ∃ cs : Array Value, cs.size = (n + 4) * 4 ∧ wr.heap[g]? = some (.cells cs 114 (0, 0)) ∧ ∀ j, k * 4 ≤ j → cs[j]? = (opCells l ++ opPads)[j]?) (fun _ i _ => n + 4 - (intOf i).toNat)
   case atStart => exact ⟨0, Nat.zero_le _, rfl, rfl, Kept.refl _ _, (opCells l ++ opPads).toArray, by have := opCells_len l; have := HN.out; simp [opPads]; omega, HG4.out, fun j _ => by rw [List.getElem?_toArray]⟩
   case round =>
    obtain ⟨k, hk, rfl, rfl, hkw, cs, hsz, hg, hpre⟩ := hrel
    by_cases hlt : k < n + 4
    ·have hf : ∀ o, wr.frozen? ⟨g, o, none⟩ = false := fun o => frozen_at hg o
     have HGG2 : Hid ((setW4 wr g (k * 4) (.int .i64 5) (.int .i64 0) (.int .i64 0) (.int .i64 0)).heap[g]? = some (.cells (set4 cs (k * 4) (.int .i64 5) (.int .i64 0) (.int .i64 0) (.int .i64 0)) 114 (0, 0))) := setW4_at hg _ _ _ _ _
     have HKW0 : Hid _ := hkw
     have HSS2 : Hid (∀ j, k * 4 + 4 ≤ j → (set4 cs (k * 4) (.int .i64 5) (.int .i64 0) (.int .i64 0) (.int .i64 0))[j]? = (opCells l ++ opPads)[j]?) := set4_behind hpre
     have HZ : Hid (cs.size = (n + 4) * 4) := hsz
     have i0 : (0 : Int) ≤ (k : Int) := by omega
     have i1 : (k : Int) < (n : Int) + 4 := by omega
     have i1' : (k : Int) < ((n + 4 : Nat) : Int) := by omega
     by_cases hkn : k < n
     ·obtain ⟨b, off, rfl, hat, hbg⟩ := HK3.out (by omega)
      obtain ⟨g0, g1, g2, g3⟩ := (hat.kept hkw hbg) k (by rw [HN.out]; exact hkn)
      have hp := opPads_low l k (by rw [HN.out]; exact hkn)
      have c0 : wr.cell? ⟨g, k * 4, none⟩ = some (.int .i64 (l.getD k Op4.z).k) := by rw [cell_at hg, hpre _ (Nat.le_refl _)]; exact hp.1
      have c1 : wr.cell? ⟨g, k * 4 + 1, none⟩ = some (.int .i64 (l.getD k Op4.z).a) := by rw [cell_at hg, hpre _ (by omega)]; exact hp.2.1
      have c2 : wr.cell? ⟨g, k * 4 + 2, none⟩ = some (.int .i64 (l.getD k Op4.z).b) := by rw [cell_at hg, hpre _ (by omega)]; exact hp.2.2.1
      have c3 : wr.cell? ⟨g, k * 4 + 3, none⟩ = some (.int .i64 (l.getD k Op4.z).c) := by rw [cell_at hg, hpre _ (by omega)]; exact hp.2.2.2
      have i2 : (k : Int) < (n : Int) := by omega
      clear hp hpre hg hkw hsz hat
      generalize l.getD k Op4.z = r at *
      have e1 : (r.k == r.k) = true := by simp
      have e2 : (r.a == r.a) = true := by simp
      have e3 : (r.b == r.b) = true := by simp
      have e4 : (r.c == r.c) = true := by simp
      go_wp2_with fail
      have i3 : decide (n ≤ k) = false := by simp; omega
      go_quiet (fail)
      go_wp2_with fail
      exact ⟨⟨k + 1, by omega, rfl, by go_num, (HKW0.out.drewN _).trans' (setW4_kept _ _ _ _ _ _ _), _, by rw [set4_size]; exact HZ.out, HGG2.out, fun j hj => HSS2.out j (by omega)⟩, by simp [intOf]; omega⟩
     ·have hp := opCellsPads_get l (k - n) (by omega)
      rw [HN.out, show n + (k - n) = k from by omega] at hp
      have c0 : wr.cell? ⟨g, k * 4, none⟩ = some (.int .i64 77) := by rw [cell_at hg, hpre _ (Nat.le_refl _)]; exact hp.1
      have c1 : wr.cell? ⟨g, k * 4 + 1, none⟩ = some (.int .i64 0) := by rw [cell_at hg, hpre _ (by omega)]; exact hp.2.1
      have c2 : wr.cell? ⟨g, k * 4 + 2, none⟩ = some (.int .i64 0) := by rw [cell_at hg, hpre _ (by omega)]; exact hp.2.2.1
      have c3 : wr.cell? ⟨g, k * 4 + 3, none⟩ = some (.int .i64 0) := by rw [cell_at hg, hpre _ (by omega)]; exact hp.2.2.2
      clear hp hpre hg hkw hsz
      go_wp2_with fail
      have i2 : decide ((k : Int) < (n : Int)) = false := by simp; omega
      have i2' : decide (k < n) = false := by simp; omega
      have i3 : decide (n ≤ k) = true := by simp; omega
      go_quiet (fail)
      go_wp2_with fail
      exact ⟨⟨k + 1, by omega, rfl, by go_num, (HKW0.out.drewN _).trans' (setW4_kept _ _ _ _ _ _ _), _, by rw [set4_size]; exact HZ.out, HGG2.out, fun j hj => HSS2.out j (by omega)⟩, by simp [intOf]; omega⟩
    ·have HKW : Hid _ := hkw
     clear hpre hg hkw hsz
     go_wp2_with fail
     go_ret
     have hP4 := HP3.out.kept HKW.out (fun k hp e => HNP.out.1 (by cases e; exact hp))
     have hW4 := HW3.out.kept HKW.out (fun k hp e => HNW.out.1 (by cases e; exact hp))
     have hxs := HSG.out x H2.out.1
     have hX5 := HKW.out.heap HX4.out (fun e => by unfold Blk at e; omega)
     refine ⟨rfl, HKws.out.trans HKW.out (fun i x => .inr (by cases x; exact HGW.out)), fun k => k = x ∨ Sp' k ∨ Sw' k, s.adm l, cl', ⟨?_, Sp', Sw', hX5, .inl rfl, HNP.out.2, HNW.out.2, hP4, hW4, HDIS.out, fun k hk => .inr (.inl hk), fun k hk => .inr (.inr hk)⟩, ?_⟩
     ·intro k hk
      rcases hk with rfl | hk | hk
      ·exact lt_of_block hX5
      ·exact hP4.lt k hk
      ·exact hW4.lt k hk
     ·intro k hk
      have hgw := HGW.out
      have hgr := HGR.out
      have hz2 := HSZ2.out
      rcases hk with rfl | hk | hk
      ·exact .inl H2.out.1
      ·rcases HS2.out k hk with h | h
       ·exact .inl (H7.out.2.1 k h)
       ·right; omega
      ·rcases HS3.out k hk with h | h
       ·exact .inl (H7.out.2.2 k h)
       ·right; omega
set_option maxRecDepth 100000 in
set_option maxHeartbeats 6400000 in
theorem play_admit4 (x p q o n cp N0 j : Nat) (S : Nat → Prop) (z i : Int) (ao : Option Addr) (s : St) (cl : List Cl) (l : List Op4) (w : World) (h : Pair x p q o S N0 j s cl w) (hj : j ≤ 1048576) (hn : l.length = n) (hl : n ≤ 1048576) (hin : OpsIn l) (ho : 0 < n → ∃ b off, ao = some ⟨b, off, none⟩ ∧ OpsAt w b off l ∧ ¬ S b) :
  Calls Tryz.prog 16 #[.pointer (some ⟨x, 0, none⟩), .agg #[.int .i64 2, .int .i64 i, .int .i64 z, .slice ao n cp]] w fun e w' => e = .returned (.bool true) ∧ PairAft x p q o S N0 (j + 1) w w' := by
 have hk0 : Kept NoBlk w (w.alloc (.cells #[.int .i64 2, .int .i64 i, .int .i64 z, .slice ao n cp] 41)) := (Kept.refl _ _).alloc _
 have HPA : Hid (Calls Tryz.prog 43 #[.pointer (some ⟨x, 0, none⟩), .slice ao n cp] (w.alloc (.cells #[.int .i64 2, .int .i64 i, .int .i64 z, .slice ao n cp] 41)) fun e w' => e = .returned (.bool true) ∧ PairAft x p q o S N0 (j + 1) (w.alloc (.cells #[.int .i64 2, .int .i64 i, .int .i64 z, .slice ao n cp] 41)) w') := padmit4 x p q o n cp N0 j ao S s cl l (w.alloc (.cells #[.int .i64 2, .int .i64 i, .int .i64 z, .slice ao n cp] 41)) (h.kept hk0 (fun _ _ x => x)) hj hn hl hin (fun h0 => by
  obtain ⟨b, off, e, hat, hb⟩ := ho h0
  exact ⟨b, off, e, hat.kept hk0 (fun x => x), hb⟩)
 have HK0 : Hid _ := hk0
 clear h hn ho hk0
 go_enter Tryz.func16, Tryz.ntmps16
 go_wp2_with fail
 refine HPA.out.mono ?_
 rintro e w1 ⟨rfl, hk, S', s', cl', hQ, hS⟩
 have HQ : Hid (Pair x p q o S' N0 (j + 1) s' cl' w1) := hQ
 have HK : Hid _ := hk
 have HS : Hid _ := hS
 clear hQ hk hS
 go_wp2_with fail
 go_ret
 refine ⟨rfl, (HK0.out.mono (fun _ x => x.elim)).trans' HK.out, S', s', cl', HQ.out, fun k hk => ?_⟩
 rcases HS.out k hk with h | h
 ·exact .inl h
 ·right
  have := HK0.out.size
  omega
end Go.Proofs.YtmcajfefagdbnaaGreat
namespace Go.Proofs.YtmcajfefagdbnaaGreat
open Go Go.RowKit
theorem pi_wins {S : Nat → Prop} {p N0 j : Nat} {s : St} {w : World} (h : PI S p N0 j s w) (hj : j ≤ 1048576) :
  Calls Tryz.prog 29 #[.pointer (some ⟨p, 0, none⟩)] w fun e w' => ∃ v, e = .returned v ∧ RowAt w' 3 1 v s.wins.length (winCells s.wins) ∧ (∀ k, v.ownBlock = some k → w.heap.size ≤ k) ∧ PI S p N0 j s w' ∧ Kept S w w' := by
 obtain ⟨L, bs, ow, rfl, h2, h3⟩ := h
 have hl := h3.wins
 refine (pWins h3.st (by omega)).mono ?_
 rintro e w' ⟨a, rfl, g1, g2, g3, g4⟩
 refine ⟨_, rfl, RowAt.full g2 (by simp [winCells]) (by unfold maxLen; omega), fun k hk => ?_, ⟨L, bs, ow, rfl, h2, ⟨g3, h3.good, h3.act, h3.al, h3.n, h3.ag, h3.wins, h3.c0, h3.c1⟩⟩, g4.mono (fun k x => (h2 k).2 x)⟩
 simp only [Value.ownBlock, Option.some.injEq] at hk
 omega
theorem wi_wins {S : Nat → Prop} {q N0 j : Nat} {s : St} {cl : List Cl} {w : World} (h : WI S q N0 j s cl w) : ∃ v, w.cell? ⟨q, 3, none⟩ = some v ∧ RowAt w 3 1 v s.wins.length (winCells s.wins) ∧ ∀ k, v.ownBlock = some k → S k := by
 obtain ⟨ow, h2, h3⟩ := h
 obtain ⟨rl, g1, _⟩ := h3.ex
 obtain ⟨rv, tv, cv, wv, bs, b1, b2, b3, b4, b5, b6, b7, _⟩ := g1.body
 exact ⟨wv, by rw [cell_at b1]; rfl, RowAt.owns b7.1, fun k hk => (h2 k).2 (by have := b7.2 k hk; unfold Own; omega)⟩
theorem RowsOf.eq {f : Int → Option Int} {l l' : List Row2} (h : RowsOf f l) (h' : RowsOf f l') : l = l' := by
 have hk : l.map (·.k) = l'.map (·.k) := by
  refine List.Perm.eq_of_pairwise (le := fun a b => a < b) (fun a b _ _ h1 h2 => by omega) h.1.1 h'.1.1 ?_
  refine (List.perm_ext_iff_of_nodup ?_ ?_).2 (fun k => (h.1.2 k).trans (h'.1.2 k).symm)
  ·exact h.1.1.imp (fun hab e => by omega)
  ·exact h'.1.1.imp (fun hab e => by omega)
 have hv : ∀ r ∈ l, ∀ r' ∈ l', r.k = r'.k → r = r' := fun r hr r' hr' e => by
  have a := h.2 r hr
  have b := h'.2 r' hr'
  rw [e, b] at a
  obtain ⟨k1, v1⟩ := r
  obtain ⟨k2, v2⟩ := r'
  simp only [Option.some.injEq] at a e
  rw [e, a]
 clear h h'
 induction l generalizing l' with
 | nil => cases l' with
  | nil => rfl
  | cons y l' => simp at hk
 | cons x l ih => cases l' with
  | nil => simp at hk
  | cons y l' =>
   simp only [List.map_cons, List.cons.injEq] at hk
   rw [hv x (by simp) y (by simp) hk.1, ih hk.2 (fun r hr r' hr' e => hv r (by simp [hr]) r' (by simp [hr']) e)]
theorem pi_rows {S : Nat → Prop} {p N0 j : Nat} {s : St} {w : World} (h : PI S p N0 j s w) (hj : j ≤ 1048576) (hN : N0 ≤ 1048576) :
  Calls Tryz.prog 25 #[.pointer (some ⟨p, 0, none⟩)] w fun e w' => ∃ v l, e = .returned v ∧ RowsOf s.rows l ∧ RowAt w' 95 2 v l.length (rowCells l) ∧ (∀ k, v.ownBlock = some k → w.heap.size ≤ k) ∧ PI S p N0 j s w' ∧ Kept S w w' := by
 obtain ⟨L, bs, ow, rfl, h2, h3⟩ := h
 refine (pRows h3.st (by omega)).mono ?_
 rintro e w' ⟨v, l, rfl, g1, g2, g3, g4, g5⟩
 exact ⟨v, l, rfl, g3, g1, g2, ⟨L, bs, ow, rfl, h2, ⟨g4, h3.good, h3.act, h3.al, h3.n, h3.ag, h3.wins, h3.c0, h3.c1⟩⟩, g5.mono (fun k x => (h2 k).2 x)⟩
theorem wi_rows {S : Nat → Prop} {q N0 j : Nat} {s : St} {cl : List Cl} {w : World} (h : WI S q N0 j s cl w) : ∃ v l, w.cell? ⟨q, 0, none⟩ = some v ∧ RowsOf s.rows l ∧ l.length ≤ N0 + 26 * j ∧ RowAt w 95 2 v l.length (rowCells l) ∧ ∀ k, v.ownBlock = some k → S k := by
 obtain ⟨ow, h2, h3⟩ := h
 obtain ⟨rl, g1, g2, g3⟩ := h3.ex
 obtain ⟨rv, tv, cv, wv, bs, b1, b2, b3, b4, b5, b6, b7, _⟩ := g1.body
 exact ⟨rv, rl, by rw [cell_at b1]; rfl, g2, by omega, RowAt.owns b3.1, fun k hk => (h2 k).2 (by have := b3.2 k hk; unfold Own; omega)⟩
theorem winCells_at (l : List Nat) (k : Nat) (h : k < l.length) : (winCells l)[k]? = some (.int .i64 ((l.getD k 0 : Nat) : Int)) := by simp [winCells, List.getD, h]
end Go.Proofs.YtmcajfefagdbnaaGreat
namespace Go.Proofs.YtmcajfefagdbnaaGreat
open Go Go.RowKit
structure Tv where
 st : Int
 sz : Int
 ne : Int
 ag : Int
 wo : Bool
 wa : Bool
 rg : List Int
 rd : List Saw
 er : Int
def told (s : St) (id : Int) : Tv := if id < 1 ∨ (s.n : Int) < id then ⟨0, 0, 0, 0, false, false, [], [], 5⟩ else
 ⟨(s.tx id.toNat).stamp, (s.tx id.toNat).state, ((s.tx id.toNat).next : Int), (s.tx id.toNat).agains, (s.tx id.toNat).wounded, (s.tx id.toNat).waits.isSome, [(s.tx id.toNat).regs 0, (s.tx id.toNat).regs 1, (s.tx id.toNat).regs 2, (s.tx id.toNat).regs 3], (s.tx id.toNat).reads, 0⟩
theorem told_none {s : St} {id : Int} (h : id < 1 ∨ (s.n : Int) < id) : told s id = ⟨0, 0, 0, 0, false, false, [], [], 5⟩ := by unfold told; rw [if_pos h]
theorem told_some {s : St} {i : Nat} (h : i < s.n) : told s ((i : Int) + 1) = ⟨(s.tx (i + 1)).stamp, (s.tx (i + 1)).state, ((s.tx (i + 1)).next : Int), (s.tx (i + 1)).agains, (s.tx (i + 1)).wounded, (s.tx (i + 1)).waits.isSome, [(s.tx (i + 1)).regs 0, (s.tx (i + 1)).regs 1, (s.tx (i + 1)).regs 2, (s.tx (i + 1)).regs 3], (s.tx (i + 1)).reads, 0⟩ := by
 unfold told
 rw [if_neg (by omega), show ((i : Int) + 1).toNat = i + 1 from by omega]
theorem told_len {j : Nat} {s : St} (h : Fine j s) (id : Int) : (told s id).rg.length ≤ 4 ∧ (told s id).rd.length ≤ 12 := by
 by_cases hi : id < 1 ∨ (s.n : Int) < id
 ·rw [told_none hi]; simp
 ·obtain ⟨i, rfl⟩ : ∃ i : Nat, id = (i : Int) + 1 := ⟨(id - 1).toNat, by omega⟩
  rw [told_some (by omega)]
  exact ⟨by simp, h.rd (i + 1) (by omega) (by omega)⟩
def iCells (l : List Int) : List Value := l.map fun x => .int .i64 x
theorem iCells_at (l : List Int) (k : Nat) (h : k < l.length) : (iCells l)[k]? = some (.int .i64 (l.getD k 0)) := by simp [iCells, List.getD, h]
theorem sawCells_len3 (l : List Saw) : (sawCells l).length = l.length * 3 := by
 induction l with
 | nil => rfl
 | cons x l ih =>
  have e : sawCells (x :: l) = .int .i64 x.key :: .bool x.there :: .int .i64 x.val :: sawCells l := by simp [sawCells]
  rw [e]
  simp only [List.length_cons, ih]
  omega
theorem pi_txn {S : Nat → Prop} {p N0 j : Nat} {s : St} {w : World} (h : PI S p N0 j s w) (id : Int) :
  Calls Tryz.prog 23 #[.pointer (some ⟨p, 0, none⟩), .int .i64 id] w fun e w' => ∃ ra sa, e = .returned (.tuple #[.agg #[.int .i64 (told s id).st, .int .i64 (told s id).sz, .int .i64 (told s id).ne, .bool (told s id).wo, .bool (told s id).wa, .int .i64 (told s id).ag, .slice ra (told s id).rg.length (told s id).rg.length, .slice sa (told s id).rd.length (told s id).rd.length], .int .i64 (told s id).er]) ∧
   RowAt w' 3 1 (.slice ra (told s id).rg.length (told s id).rg.length) (told s id).rg.length (iCells (told s id).rg) ∧ RowAt w' 105 3 (.slice sa (told s id).rd.length (told s id).rd.length) (told s id).rd.length (sawCells (told s id).rd) ∧
   (∀ k, (Value.slice ra (told s id).rg.length (told s id).rg.length).ownBlock = some k ∨ (Value.slice sa (told s id).rd.length (told s id).rd.length).ownBlock = some k → w.heap.size ≤ k) ∧ PI S p N0 j s w' ∧ Kept S w w' := by
 have hF := h.fine
 obtain ⟨L, bs, ow, rfl, h2, h3⟩ := h
 by_cases hi : id < 1 ∨ (s.n : Int) < id
 ·rw [told_none hi]
  refine (pTxn_none h3.st id hi).mono ?_
  rintro e w' ⟨rfl, g1, g2⟩
  exact ⟨none, none, rfl, RowAt.nil _ _ _, RowAt.nil _ _ _, fun k hk => by simp [Value.ownBlock] at hk, ⟨L, bs, ow, rfl, h2, ⟨g1, h3.good, h3.act, h3.al, h3.n, h3.ag, h3.wins, h3.c0, h3.c1⟩⟩, g2.mono (fun k x => (h2 k).2 x)⟩
 ·obtain ⟨i, rfl⟩ : ∃ i : Nat, id = (i : Int) + 1 := ⟨(id - 1).toNat, by omega⟩
  have hrd := hF.rd (i + 1) (by omega) (by omega)
  rw [told_some (by omega)]
  refine (pTxn_some h3.st (i + 1) ⟨by omega, by omega⟩).mono ?_
  rintro e w' ⟨a, k, rfl, g1, g2, g3, g4, g5, g6⟩
  refine ⟨_, _, rfl, RowAt.full (g := a) g3 rfl (by unfold maxLen; simp), RowAt.full (g := k) g4 ?_ (by show (s.tx (i + 1)).reads.length ≤ maxLen; unfold maxLen; omega), fun k' hk => ?_, ⟨L, bs, ow, rfl, h2, ⟨g5, h3.good, h3.act, h3.al, h3.n, h3.ag, h3.wins, h3.c0, h3.c1⟩⟩, g6.mono (fun k x => (h2 k).2 x)⟩
  ·show (sawCells (s.tx (i + 1)).reads).length = (s.tx (i + 1)).reads.length * 3
   exact sawCells_len3 _
  ·simp only [Value.ownBlock, Option.some.injEq] at hk
   omega
theorem wi_txn {S : Nat → Prop} {q N0 j : Nat} {s : St} {cl : List Cl} {w : World} (h : WI S q N0 j s cl w) (id : Int) (hn : s.n ≤ 1048576) :
  Calls Tryz.prog 46 #[.pointer (some ⟨q, 0, none⟩), .int .i64 id] w fun e w' => ∃ rb rc sb sc, e = .returned (.tuple #[.agg #[.int .i64 (told s id).st, .int .i64 (told s id).sz, .int .i64 (told s id).ne, .bool (told s id).wo, .bool (told s id).wa, .int .i64 (told s id).ag, .slice rb (told s id).rg.length rc, .slice sb (told s id).rd.length sc], .int .i64 (told s id).er]) ∧
   RowAt w' 3 1 (.slice rb (told s id).rg.length rc) (told s id).rg.length (iCells (told s id).rg) ∧ RowAt w' 105 3 (.slice sb (told s id).rd.length sc) (told s id).rd.length (sawCells (told s id).rd) ∧ Kept NoBlk w w' := by
 obtain ⟨ow, h2, h3⟩ := h
 by_cases hi : id < 1 ∨ (s.n : Int) < id
 ·rw [told_none hi]
  refine (hTxn_none h3 id hi).mono ?_
  rintro e w' ⟨rfl, g1⟩
  exact ⟨none, 0, none, 0, rfl, RowAt.nil _ _ _, RowAt.nil _ _ _, g1⟩
 ·obtain ⟨i, rfl⟩ : ∃ i : Nat, id = (i : Int) + 1 := ⟨(id - 1).toNat, by omega⟩
  rw [told_some (by omega)]
  refine (hTxn_some h3 i (by omega) hn).mono ?_
  rintro e w' ⟨r, ra, rc, rfl, g1, g2, g3, g4, g5⟩
  exact ⟨_, _, _, _, rfl, RowAt.full (g := r) (g5.heap g2 (fun x => x)) rfl (by unfold maxLen; simp), (RowAt.owns g3).kept g5 (fun _ _ x => x), g5⟩
theorem sawCells_at3 (l : List Saw) (k : Nat) (h : k < l.length) : (sawCells l)[k * 3]? = some (.int .i64 (l.getD k ⟨0, false, 0⟩).key) ∧ (sawCells l)[k * 3 + 1]? = some (.bool (l.getD k ⟨0, false, 0⟩).there) ∧ (sawCells l)[k * 3 + 2]? = some (.int .i64 (l.getD k ⟨0, false, 0⟩).val) := sawCells_at l k h
end Go.Proofs.YtmcajfefagdbnaaGreat
