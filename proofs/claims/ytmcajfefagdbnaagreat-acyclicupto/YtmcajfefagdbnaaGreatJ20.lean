import Derived.Test.YtmcajfefagdbnaaGreatJ07
import Derived.Test.YtmcajfefagdbnaaGreatJ19
import Derived.Test.YtmcajfefagdbnaaGreatJ06
import Derived.RegionTactic
import Derived.BigRegion
import Derived.Test.YtmcajfefagdbnaaGreatJ18
import Derived.Deep.RegionHeld3
import Derived.Deep.DrawnRows
namespace Go.Proofs.YtmcajfefagdbnaaGreat
open Go Go.RowKit

set_option maxHeartbeats 800000 in
theorem allAllowed_nil (ao : Option Addr) (cap : Nat) (w : World) :
    Calls Tryz.prog 106 #[.slice ao 0 cap] w fun e w' => e = .returned (.bool true) ∧ Kept NoBlk w w' := by
  go_enter Tryz.func106, Tryz.ntmps106
  go_wp2_with fail
  go_loopw [7] (fun i wr => i = .int .i64 0 ∧ wr = w) (fun _ _ => 0)
  case atStart => exact ⟨rfl, rfl⟩
  case round =>
    obtain ⟨rfl, rfl⟩ := hrel
    go_wp2_with fail
    go_ret
    exact ⟨rfl, Kept.refl _ _⟩

theorem OpsSrc.keptB {S : Nat → Prop} {w w' : World} {v : Value} {l : List Op4} (h : OpsSrc w v l) (hk : Kept S w w') (hn : ∀ k, v.ownBlock = some k → ¬ S k) : OpsSrc w' v l := by
  obtain ⟨ao, c, rfl, h⟩ := h
  refine ⟨ao, c, rfl, fun h0 => ?_⟩
  obtain ⟨b, off, rfl, ho⟩ := h h0
  exact ⟨b, off, rfl, ho.kept hk (hn b rfl)⟩

theorem allAllowed_src (v : Value) (l : List Op4) (w : World) (h : OpsSrc w v l) (hl : l.length ≤ 1048576) :
    Calls Tryz.prog 106 #[v] w fun e w' => e = .returned (.bool (l.all Op4.ok)) ∧ Kept NoBlk w w' := by
  obtain ⟨ao, c, rfl, h⟩ := h
  rcases Nat.eq_zero_or_pos l.length with h0 | h0
  · rw [h0, List.eq_nil_of_length_eq_zero h0]
    exact allAllowed_nil ao c w
  · obtain ⟨b, off, rfl, ho⟩ := h h0
    exact allAllowed_some b off c l w ho hl

set_option maxHeartbeats 1600000 in
theorem refusal_src (p : Nat) (v : Value) (l : List Op4) (m : Nat) (c : Int) (w : World) (h : OpsSrc w v l) (hl : l.length ≤ 1048576)
    (h2 : w.cell? ⟨p, 2, none⟩ = some (.int .i64 c)) (h5 : w.cell? ⟨p, 5, none⟩ = some (.int .i64 m)) :
    Calls Tryz.prog 73 #[.pointer (some ⟨p, 0, none⟩), v] w fun e w' => e = .returned (.int .i64 (admErr l m c)) ∧ Kept NoBlk w w' := by
  have hal : ∀ W : World, Kept NoBlk w W → Calls Tryz.prog 106 #[v] W fun e w' => e = .returned (.bool (l.all Op4.ok)) ∧ Kept NoBlk W w' := fun W hW => allAllowed_src v l W (h.keptB hW (fun _ _ x => x)) hl
  obtain ⟨ao, cap, rfl, _⟩ := h
  by_cases h1 : 12 < l.length
  · have he : admErr l m c = 2 := by simp [admErr, h1]
    rw [he]
    clear he hal h2 h5
    go_enter Tryz.func73, Tryz.ntmps73
    go_wp2_with fail
    go_ret
    exact ⟨rfl, Kept.refl _ _⟩
  have HO : Hid (Calls Tryz.prog 106 #[.slice ao l.length cap] w fun e w' => e = .returned (.bool (l.all Op4.ok)) ∧ Kept NoBlk w w') := hal w (Kept.refl _ _)
  clear hal
  go_enter Tryz.func73, Tryz.ntmps73
  go_wp2_with fail
  refine HO.out.mono ?_
  rintro e w' ⟨rfl, hk⟩
  cases ha : l.all Op4.ok
  · have he : Hid (admErr l m c = 1) := by simp [Hid, admErr, h1, ha]
    clear ha
    go_wp2_with fail
    go_ret
    exact ⟨ret_int he.out.symm, hk⟩
  · have hm := hk.cell0 h5
    have hc := hk.cell0 h2
    have he : Hid (admErr l m c = if 12 ≤ m then 3 else if 1099511627776 ≤ c then 4 else 0) := by simp [Hid, admErr, h1, ha]
    have HK : Hid _ := hk
    clear ha hk h2 h5
    by_cases h3 : 12 ≤ m
    · go_wp2_with fail
      go_ret
      exact ⟨ret_int (by rw [he.out, if_pos h3]), HK.out⟩
    · by_cases h4 : 1099511627776 ≤ c
      · go_wp2_with fail
        go_ret
        exact ⟨ret_int (by rw [he.out, if_neg h3, if_pos h4]), HK.out⟩
      · go_wp2_with fail
        go_ret
        exact ⟨ret_int (by rw [he.out, if_neg h3, if_neg (by omega)]), HK.out⟩

set_option maxHeartbeats 800000 in
theorem newTransaction_src (nm : Int) (x : Value) (l : List Op4) (st : Int) (w : World) (hx : OpsSrc w x l) (hl : l.length ≤ 1048576) :
    Calls Tryz.prog 74 #[.int .i64 nm, x, .int .i64 st] w fun e w' => ∃ t g, e = .returned (.pointer (some ⟨t, 0, none⟩)) ∧ w.heap.size ≤ t ∧ w.heap.size ≤ g ∧ t ≠ g ∧
      w'.heap[t]? = some (.cells #[.int .i64 nm, .slice (some ⟨g, 0, none⟩) l.length l.length, .int .i64 st, .int .i64 0, .int .i64 0, .int .i64 0, .bool false, .bool false, .int .i64 0, .int .i64 0, .int .i64 0, .int .i64 0, .slice none 0 0, .slice none 0 0] 146 (0, 0)) ∧
      w'.heap[g]? = some (.cells (opCells l).toArray 114 (0, 0)) ∧ Kept NoBlk w w' := by
  have HX : Hid _ := hx.mem
  clear hx
  go_enter Tryz.func74, Tryz.ntmps74
  go_wp2_with fail
  refine (freshOp x l.length (opCells l) w HX.out hl).mono ?_
  rintro e w1 ⟨rfl, hg, hk⟩
  have HG : Hid _ := hg
  have HK : Hid _ := hk
  clear hg hk
  go_wp2_with fail
  go_ret
  have := lt_of_block HG.out
  exact ⟨w1.heap.size, w.heap.size, rfl, HK.out.size, Nat.le_refl _, by omega, block_alloc_new w1 _, block_alloc_old _ HG.out, HK.out.alloc _⟩

end Go.Proofs.YtmcajfefagdbnaaGreat

namespace Go.Proofs.YtmcajfefagdbnaaGreat
open Go Go.RowKit

def KCutP1 {X : Type} (f : X → Act) (R : X → World → Prop) (a : Act) (w : World) : Prop := ∃ x, a = f x ∧ R x w
def KCutP0 (f : Act) (R : World → Prop) (a : Act) (w : World) : Prop := a = f ∧ R w
theorem kcut0 {P : Program} {c : Code} {K : Act → World → Prop} {Q : Exit → Act → World → Prop} {a : Act} {w : World} (f : Act) (R : World → Prop) (h1 : c.wp P (Exit.then (KCutP0 f R) Q) a w) (h2 : ∀ w', R w' → Exit.then K Q .normal f w') : c.wp P (Exit.then K Q) a w :=
  Code.wp_mono (by intro e a w h; cases e <;> first | exact h | (obtain ⟨rfl, h⟩ := h; exact h2 _ h)) h1
theorem kcut1 {P : Program} {c : Code} {K : Act → World → Prop} {Q : Exit → Act → World → Prop} {a : Act} {w : World} {X : Type} (f : X → Act) (R : X → World → Prop) (h1 : c.wp P (Exit.then (KCutP1 f R) Q) a w) (h2 : ∀ x w', R x w' → Exit.then K Q .normal (f x) w') : c.wp P (Exit.then K Q) a w :=
  Code.wp_mono (by intro e a w h; cases e <;> first | exact h | (obtain ⟨x, rfl, h⟩ := h; exact h2 _ _ h)) h1

/-- Which of n things a raw number speaks of. -/
def pickI (c n : Int) : Int := (if c < 0 then -(c + 1) else c) % n

theorem pickI_ge (c : Int) {n : Int} (h : 0 < n) : 0 ≤ pickI c n := Int.emod_nonneg _ (by omega)
theorem pickI_lt (c : Int) {n : Int} (h : 0 < n) : pickI c n < n := Int.emod_lt_of_pos _ h

set_option maxHeartbeats 800000 in
theorem pick_any (c n : Int) (w : World) (hc : -9223372036854775808 ≤ c ∧ c ≤ 9223372036854775807) (hn : 0 < n ∧ n ≤ 1048576) :
    Calls Tryz.prog 34 #[.int .i64 c, .int .i64 n] w fun e w' => e = .returned (.int .i64 (pickI c n)) ∧ w' = w := by
  by_cases h : c < 0
  · go_enter Tryz.func34, Tryz.ntmps34
    go_wp2_with fail
    go_ret
    refine ⟨?_, rfl⟩
    unfold pickI
    rw [if_pos h, ← Int.tmod_eq_emod_of_nonneg (by omega), Int.neg_tmod]
    rfl
  · go_enter Tryz.func34, Tryz.ntmps34
    go_wp2_with fail
    go_ret
    refine ⟨?_, rfl⟩
    unfold pickI
    rw [if_neg (by omega)]
    rfl

end Go.Proofs.YtmcajfefagdbnaaGreat

namespace Go.Proofs.YtmcajfefagdbnaaGreat
open Go Go.RowKit
open Go.MuLone

theorem PSt.admcells {L : Lay} {bs : Nat → Nat} {A : List Nat} {ow : Ow} {m : Nat} {mu lv : Int} {s : St} {w : World} (h : PSt L bs A ow m mu lv s w) : w.cell? ⟨L.p, 2, none⟩ = some (.int .i64 s.clock) ∧ w.cell? ⟨L.p, 5, none⟩ = some (.int .i64 lv) := by
  obtain ⟨u, tv, wv, b1, _⟩ := h.body
  exact ⟨by rw [cell_at b1]; rfl, by rw [cell_at b1]; rfl⟩

theorem PSt.srcOut {L : Lay} {bs : Nat → Nat} {A : List Nat} {ow : Ow} {m : Nat} {mu lv : Int} {s : St} {w W W' : World} (_ : PSt L bs A ow m mu lv s w) {v : Value} {l : List Op4} (ho : OpsSrc W v l) (hn : ∀ k, v.ownBlock = some k → ¬ OwnP ow k) (hk : Kept (OwnP ow) W W') : OpsSrc W' v l := ho.keptB hk hn

set_option maxRecDepth 20000 in
set_option maxHeartbeats 1600000 in
theorem pAdmit_err {L : Lay} {bs : Nat → Nat} {A : List Nat} {ow : Ow} {m : Nat} {s : St} {lv : Nat} {w : World} (h : PSt L bs A ow m 0 (lv : Int) s w) (v : Value) (l : List Op4) (ho : OpsSrc w v l) (hn : ∀ k, v.ownBlock = some k → ¬ OwnP ow k) (hl : l.length ≤ 1048576) (he : admErr l lv s.clock ≠ 0) :
    Calls Tryz.prog 36 #[.pointer (some ⟨L.p, 0, none⟩), v] w fun e w' => e = .returned (.tuple #[.int .i64 0, .int .i64 (admErr l lv s.clock)]) ∧ PSt L bs A ow m 0 (lv : Int) s w' ∧ Kept (OwnP ow) w w' := by
  obtain ⟨c0, f0⟩ := h.mucell
  have H1 : Hid (PSt L bs A ow m 1 (lv : Int) s (w.setCell ⟨L.p, 0, none⟩ (.int .i32 1))) := h.locked 1
  have HK1 : Hid (Kept (OwnP ow) w (w.setCell ⟨L.p, 0, none⟩ (.int .i32 1))) := h.keptP _
  have HR : Hid (Calls Tryz.prog 73 #[.pointer (some ⟨L.p, 0, none⟩), v] (w.setCell ⟨L.p, 0, none⟩ (.int .i32 1)) fun e w' => e = .returned (.int .i64 (admErr l lv s.clock)) ∧ Kept NoBlk (w.setCell ⟨L.p, 0, none⟩ (.int .i32 1)) w') := refusal_src L.p v l lv s.clock _ (ho.keptB HK1.out hn) hl H1.out.admcells.1 H1.out.admcells.2
  have HKP : Hid (∀ (W : World) (v : Value), Kept (OwnP ow) W (W.setCell ⟨L.p, 0, none⟩ v)) := fun W v => h.keptP v
  have he' : (admErr l lv s.clock != 0) = true := by rw [bne_iff_ne]; exact he
  obtain ⟨ao, cap, rfl, _⟩ := ho
  clear h hn he
  generalize admErr l lv s.clock = er at *
  go_enter_defers Tryz.func36, Tryz.ntmps36
  go_wp2_with fail
  refine (lock_free Tryz.muLib ⟨L.p, 0, none⟩ _ c0 f0).mono ?_
  rintro e w1 ⟨rfl, rfl⟩
  generalize w.setCell ⟨L.p, 0, none⟩ (.int .i32 1) = W1 at *
  go_wp2_with fail
  refine HR.out.mono ?_
  rintro e w2 ⟨rfl, hk2⟩
  have H2 : Hid (PSt L bs A ow m 1 (lv : Int) s w2) := H1.out.kept0 hk2
  have HK2 : Hid (Kept (OwnP ow) w w2) := HK1.out.trans' (hk2.mono (fun _ x => x.elim))
  clear hk2
  go_wp2_with fail
  refine leaves_cons (f := 60) (args := #[.pointer (some ⟨L.p, 0, none⟩)]) (by simp) (by simp [go_sem]) ?_
  refine (unlock_deferred Tryz.muLib ⟨L.p, 0, none⟩ .returning _ H2.out.mucell.1 H2.out.mucell.2).mono ?_
  rintro e u' w'' ⟨rfl, rfl, rfl⟩
  refine ⟨_, results_tmp2 rfl _ _ _, ?_, H2.out.locked 0, HK2.out.trans' (HKP.out _ _)⟩
  first | rfl | (simp; done)

theorem infoPtx2 : (Tryz.prog.info? 128).map (fun i => (i.zero, i.size, i.bytes)) = some (some (.pointer none), 1, 8) := by kernel_rfl

set_option maxRecDepth 100000 in
set_option maxHeartbeats 3200000 in
theorem pAdmit_walk (p : Nat) (v : Value) (l : List Op4) (n lv : Nat) (c : Int) (v1 v3 tv v6 v7 v8 : Value) (xs : List Value) (w : World) (ho : OpsSrc w v l) (hvp : ∀ k, v.ownBlock = some k → k ≠ p)
    (hp : w.heap[p]? = some (.cells #[.int .i32 0, v1, .int .i64 c, v3, tv, .int .i64 (lv : Int), v6, v7, v8] 127 (0, 0))) (hc0 : 0 ≤ c) (hown : RowAt w 128 1 tv n xs)
    (hl12 : l.length ≤ 12) (hlv : lv < 12) (hnm : n ≤ 1099511627775) (hc1 : c < 1099511627776) (he : admErr l lv c = 0) :
    Calls Tryz.prog 36 #[.pointer (some ⟨p, 0, none⟩), v] w fun e w' => ∃ tv' t g, e = .returned (.tuple #[.int .i64 ((n : Int) + 1), .int .i64 0]) ∧
      w'.heap[p]? = some (.cells #[.int .i32 0, v1, .int .i64 (c + 1), v3, tv', .int .i64 ((lv : Int) + 1), v6, v7, v8] 127 (0, 0)) ∧ RowAt w' 128 1 tv' (n + 1) (xs ++ [.pointer (some ⟨t, 0, none⟩)]) ∧ w.heap.size ≤ t ∧ w.heap.size ≤ g ∧ t ≠ g ∧
      w'.heap[t]? = some (.cells #[.int .i64 ((n : Int) + 1), .slice (some ⟨g, 0, none⟩) l.length l.length, .int .i64 (c + 1), .int .i64 0, .int .i64 0, .int .i64 0, .bool false, .bool false, .int .i64 0, .int .i64 0, .int .i64 0, .int .i64 0, .slice none 0 0, .slice none 0 0] 146 (0, 0)) ∧
      w'.heap[g]? = some (.cells (opCells l).toArray 114 (0, 0)) ∧ (∀ k, tv'.ownBlock = some k → tv.ownBlock = some k ∨ (w.heap.size ≤ k ∧ k ≠ t ∧ k ≠ g)) ∧ Kept (fun k => k = p ∨ tv.ownBlock = some k) w w' := by
  have hp1 : (w.setCell ⟨p, 0, none⟩ (.int .i32 1)).heap[p]? = some (.cells #[.int .i32 1, v1, .int .i64 c, v3, tv, .int .i64 (lv : Int), v6, v7, v8] 127 (0, 0)) := block_setCell hp _
  have hk1 := Kept.set1 w p 0 (.int .i32 1)
  have ho1 := ho.keptB hk1 hvp
  have HP : Hid _ := hp
  have HP1 : Hid _ := hp1
  have HK1 : Hid _ := hk1
  have HVP : Hid (∀ k, v.ownBlock = some k → k ≠ p) := hvp
  have HO1 : Hid (OpsSrc (w.setCell ⟨p, 0, none⟩ (.int .i32 1)) v l) := ho1
  have HR : Hid (Calls Tryz.prog 73 #[.pointer (some ⟨p, 0, none⟩), v] (w.setCell ⟨p, 0, none⟩ (.int .i32 1)) fun e w' => e = .returned (.int .i64 (admErr l lv c)) ∧ Kept NoBlk (w.setCell ⟨p, 0, none⟩ (.int .i32 1)) w') := refusal_src p v l lv c _ ho1 (by omega) (by rw [cell_at hp1]; rfl) (by rw [cell_at hp1]; rfl)
  rw [he] at HR
  have HTP : Hid (tv.ownBlock ≠ some p) := fun e => by
    obtain ⟨cur, hcur⟩ := hown.block e
    exact blocks_apart hcur hp (by decide) rfl
  have HO : Hid (RowAt w 128 1 tv n xs) := hown
  obtain ⟨ao, cap, rfl, _⟩ := ho
  clear hp hp1 hk1 ho1 he hown hvp
  go_enter_defers Tryz.func36, Tryz.ntmps36
  go_wp2_with fail
  refine (lock_free Tryz.muLib ⟨p, 0, none⟩ _ (by rw [cell_at HP.out]; rfl) (frozen_at HP.out _)).mono ?_
  rintro e w1 ⟨rfl, rfl⟩
  generalize w.setCell ⟨p, 0, none⟩ (.int .i32 1) = W1 at *
  go_wp2_with fail
  refine HR.out.mono ?_
  rintro e w2 ⟨rfl, hk2⟩
  have hP2 := hk2.heap HP1.out (fun x => x)
  have HO2 : Hid (OpsSrc w2 (.slice ao l.length cap) l) := (show OpsSrc W1 (.slice ao l.length cap) l from HO1.out).keptB hk2 (fun _ _ x => x)
  have HP2 : Hid _ := hP2
  have HK2 : Hid _ := HK1.out.trans hk2 (fun i x => x.elim)
  have c2 : w2.cell? ⟨p, 2, none⟩ = some (.int .i64 c) := by rw [cell_at hP2]; rfl
  have c5 : w2.cell? ⟨p, 5, none⟩ = some (.int .i64 (lv : Int)) := by rw [cell_at hP2]; rfl
  have f2 : w2.frozen? ⟨p, 2, none⟩ = false := frozen_at hP2 _
  have f5 : w2.frozen? ⟨p, 5, none⟩ = false := frozen_at hP2 _
  clear hk2 hP2
  go_wp2_with fail
  have hp3 : ((w2.setCell ⟨p, 2, none⟩ (.int .i64 (c + 1))).setCell ⟨p, 5, none⟩ (.int .i64 ((lv : Int) + 1))).heap[p]? = some (.cells #[.int .i32 1, v1, .int .i64 (c + 1), v3, tv, .int .i64 ((lv : Int) + 1), v6, v7, v8] 127 (0, 0)) := block_setCell (block_setCell HP2.out _) _
  have hk3 : Kept (Blk p) w2 ((w2.setCell ⟨p, 2, none⟩ (.int .i64 (c + 1))).setCell ⟨p, 5, none⟩ (.int .i64 ((lv : Int) + 1))) := (Kept.set1 w2 p 2 _).trans' (Kept.set1 _ p 5 _)
  have HK3 : Hid _ := HK2.out.trans' hk3
  have HO3 : Hid (OpsSrc ((w2.setCell ⟨p, 2, none⟩ (.int .i64 (c + 1))).setCell ⟨p, 5, none⟩ (.int .i64 ((lv : Int) + 1))) (.slice ao l.length cap) l) := (show OpsSrc w2 (.slice ao l.length cap) l from HO2.out).keptB hk3 HVP.out
  clear c2 c5 f2 f5 hk3
  generalize ((w2.setCell ⟨p, 2, none⟩ (.int .i64 (c + 1))).setCell ⟨p, 5, none⟩ (.int .i64 ((lv : Int) + 1))) = W3 at *
  obtain ⟨ta, tc, rfl, _, _⟩ := (HO.out : RowAt w 128 1 tv n xs).form
  have hown3 : RowAt W3.drew 128 1 (.slice ta n tc) n xs := (HO.out : RowAt w 128 1 (.slice ta n tc) n xs).kept HK3.out.drew (fun k hk e => HTP.out (by rw [hk]; cases e; rfl))
  have HOWN3 : Hid (RowAt W3.drew 128 1 (.slice ta n tc) n xs) := hown3
  have HOS3 : Hid (OpsSrc W3.drew (.slice ao l.length cap) l) := HO3.out
  have HP3 : Hid (W3.drew.heap[p]? = some (.cells #[.int .i32 1, v1, .int .i64 (c + 1), v3, .slice ta n tc, .int .i64 ((lv : Int) + 1), v6, v7, v8] 127 (0, 0))) := hp3
  have d2 : W3.cell? ⟨p, 2, none⟩ = some (.int .i64 (c + 1)) := by rw [cell_at hp3]; rfl
  have d4 : W3.cell? ⟨p, 4, none⟩ = some (.slice ta n tc) := by rw [cell_at hp3]; rfl
  obtain ⟨i1, hi1, hy0, hy1, hy2⟩ := info_parts infoPtx2
  have HI : Hid (Tryz.prog.info? 128 = some i1 ∧ i1.zero = some (.pointer none) ∧ i1.size = 1 ∧ i1.bytes = 8) := ⟨hi1, hy0, hy1, hy2⟩
  have HB5 : Hid ((n + 1) * 8 ≤ 140737488355328) := by unfold Hid; omega
  have HB6 : Hid (n + 1 ≤ maxLen) := by unfold Hid maxLen; omega
  have HLL : Hid (l.length ≤ 1048576) := by unfold Hid; omega
  have hpl : p < W3.heap.size := lt_of_block hp3
  have HWR : Hid (IntKind.wrap .i64 ((n : Int) + 1) = (n : Int) + 1) := by unfold Hid; rw [IntKind.wrap_i64]; omega
  have hsw : Hid (w.heap.size ≤ W3.heap.size) := HK3.out.size
  clear hown3 hp3 HO2 HO1 HP1 HP2 HK1 HK2 hi1 hy0 hy1 hy2 HP HO3 HR
  refine' kcut1 (X := Nat) _ (fun t w4 => ∃ g, W3.heap.size ≤ t ∧ W3.heap.size ≤ g ∧ t ≠ g ∧ w4.heap[t]? = some (.cells #[.int .i64 ((n : Int) + 1), .slice (some ⟨g, 0, none⟩) l.length l.length, .int .i64 (c + 1), .int .i64 0, .int .i64 0, .int .i64 0, .bool false, .bool false, .int .i64 0, .int .i64 0, .int .i64 0, .int .i64 0, .slice none 0 0, .slice none 0 0] 146 (0, 0)) ∧ w4.heap[g]? = some (.cells (opCells l).toArray 114 (0, 0)) ∧ Kept NoBlk W3.drew w4) ?_ ?_
  rotate_left
  · refine wp_region_noPanic ?_
    go_region_law (go_simp; go_at_call 74; refine (newTransaction_src _ _ l _ _ HOS3.out HLL.out).mono ?_; rintro e w4 ⟨t, g, rfl, ht, hg, htg, hT4, hG4, hk4⟩)
    all_goals
      refine NoPanic.normal ?_
      rw [HWR.out] at hT4
      refine ⟨t, ?_, g, ht, hg, htg, hT4, hG4, hk4⟩
      exact rfl
  rintro t w4 ⟨g, ht, hg, htg, hT4, hG4, hk4⟩
  have p4 := hk4.cell0 (show W3.drew.cell? ⟨p, 4, none⟩ = some (.slice ta n tc) from d4)
  have pl4 := Nat.lt_of_lt_of_le hpl hk4.size
  have HHT : Hid (W3.heap.size ≤ t ∧ W3.heap.size ≤ g ∧ t ≠ g ∧ w4.heap[t]? = some (.cells #[.int .i64 ((n : Int) + 1), .slice (some ⟨g, 0, none⟩) l.length l.length, .int .i64 (c + 1), .int .i64 0, .int .i64 0, .int .i64 0, .bool false, .bool false, .int .i64 0, .int .i64 0, .int .i64 0, .int .i64 0, .slice none 0 0, .slice none 0 0] 146 (0, 0)) ∧ w4.heap[g]? = some (.cells (opCells l).toArray 114 (0, 0)) ∧ Kept NoBlk W3.drew w4) := ⟨ht, hg, htg, hT4, hG4, hk4⟩
  have HP4 : Hid (w4.heap[p]? = some (.cells #[.int .i32 1, v1, .int .i64 (c + 1), v3, .slice ta n tc, .int .i64 ((lv : Int) + 1), v6, v7, v8] 127 (0, 0))) := hk4.heap HP3.out (fun x => x)
  have HOWN4 : Hid (RowAt w4 128 1 (.slice ta n tc) n xs) := RowAt.kept HOWN3.out hk4 (fun _ _ x => x)
  clear ht hg htg hT4 hG4 hk4 d2 d4
  go_wp2_with (at_builtin; refine wpList_append_row (by rfl) _ _ 123 (by rfl) 128 i1 _ 1 8 Tryz.underlying123 HI.out.1 HI.out.2.1 HI.out.2.2.1 HI.out.2.2.2 (by rfl) (.slice ta n tc) n xs (by rfl) (RowAt.kept HOWN4.out ((Kept.refl NoBlk w4).alloc _) (fun _ _ x => x)) (.slice (some ⟨w4.heap.size, 0, none⟩) 1 1) 1 [.pointer (some ⟨t, 0, none⟩)] (by rfl) (from_new1 w4 _ _ rfl) HB6.out HB5.out ?_)
  intro ao2 c2 W6 hown6 hmv6
  have q6 := hmv6.keptOf.cell (((Kept.refl NoBlk w4).alloc _).cell0 p4) HTP.out
  have qf6 : W6.frozen? ⟨p, 4, none⟩ = false := frozen_at (hmv6.keptOf.heap (((Kept.refl NoBlk w4).alloc _).heap HP4.out (fun x => x)) HTP.out) 4
  obtain ⟨ht, hg, htg, hT4, hG4, hk4⟩ := HHT.out
  have hk5 : Kept NoBlk w4 (w4.alloc (.cells #[.pointer (some ⟨t, 0, none⟩)] 128)) := (Kept.refl _ _).alloc _
  have hsw' : w.heap.size ≤ W3.heap.size := hsw.out
  have hs3 : W3.heap.size ≤ w4.heap.size := hk4.size
  have ht' : W3.heap.size ≤ t := ht
  have hg' : W3.heap.size ≤ g := hg
  have htl := (HO.out : RowAt w 128 1 (.slice ta n tc) n xs).lt
  have hk6 := hmv6.keptOf
  have hn6 := hmv6.fresh
  have hs5 : w4.heap.size ≤ (w4.alloc (.cells #[.pointer (some ⟨t, 0, none⟩)] 128)).heap.size := hk5.size
  have hP6 := hk6.heap (hk5.heap (hk4.heap HP3.out (fun x => x)) (fun x => x)) HTP.out
  have hT6 := hk6.heap (hk5.heap hT4 (fun x => x)) (fun e => by have := htl _ e; omega)
  have hG6 := hk6.heap (hk5.heap hG4 (fun x => x)) (fun e => by have := htl _ e; omega)
  have htlt := lt_of_block hT4
  have hglt := lt_of_block hG4
  have e7 := Kept.set1 W6 p 4 (.slice ao2 (n + 1) c2)
  have HP7 : Hid ((W6.setCell ⟨p, 4, none⟩ (.slice ao2 (n + 1) c2)).heap[p]? = some (.cells #[.int .i32 1, v1, .int .i64 (c + 1), v3, .slice ao2 (n + 1) c2, .int .i64 ((lv : Int) + 1), v6, v7, v8] 127 (0, 0))) := block_setCell hP6 _
  have HT7 : Hid _ := e7.heap hT6 (fun e => by unfold Blk at e; omega)
  have HG7 : Hid _ := e7.heap hG6 (fun e => by unfold Blk at e; omega)
  have hnp : ∀ k, (Value.slice ao2 (n + 1) c2).ownBlock = some k → k ≠ p := fun k hk e => by
    rcases hn6 k hk with h | h
    · exact HTP.out (by rw [h, e])
    · omega
  have HO7 : Hid (RowAt (W6.setCell ⟨p, 4, none⟩ (.slice ao2 (n + 1) c2)) 128 1 (.slice ao2 (n + 1) c2) (n + 1) (xs ++ [.pointer (some ⟨t, 0, none⟩)])) := hown6.kept e7 hnp
  have HN7 : Hid (∀ k, (Value.slice ao2 (n + 1) c2).ownBlock = some k → (Value.slice ta n tc).ownBlock = some k ∨ (w.heap.size ≤ k ∧ k ≠ t ∧ k ≠ g)) := fun k hk => by
    rcases hn6 k hk with h | h
    · exact .inl h
    · right; refine ⟨by omega, by omega, by omega⟩
  have HK7 : Hid (Kept (fun k => k = p ∨ (Value.slice ta n tc).ownBlock = some k) w (W6.setCell ⟨p, 4, none⟩ (.slice ao2 (n + 1) c2))) :=
    (((((HK3.out.drew.trans' (hk4.mono (fun _ x => x.elim))).trans' (hk5.mono (fun _ x => x.elim))).mono (fun k (x : k = p) => Or.inl x)).trans hk6 (fun i x => .inl (.inr x)))).setCell (p := ⟨p, 4, none⟩) (.inl (.inl rfl)) _
  have HNP : Hid _ := hnp
  have hwt : Hid (w.heap.size ≤ t ∧ w.heap.size ≤ g ∧ t ≠ g) := ⟨by omega, by omega, htg⟩
  have htp : Hid (t ≠ p ∧ g ≠ p) := ⟨by omega, by omega⟩
  have rt : W6.cell? ⟨t, 0, none⟩ = some (.int .i64 ((n : Int) + 1)) := by rw [cell_at hT6]; rfl
  have htpne : ¬ t = p := htp.out.1
  clear hk5 hk6 hn6 hP6 hT6 hG6 e7 hnp hmv6 hown6 hk4 p4 pl4 htl hpl htlt hglt htg hT4 hG4
  go_wp2_with fail
  generalize W6.setCell ⟨p, 4, none⟩ (.slice ao2 (n + 1) c2) = W7 at *
  refine leaves_cons (f := 60) (args := #[.pointer (some ⟨p, 0, none⟩)]) (by simp) (by simp [go_sem]) ?_
  refine (unlock_deferred Tryz.muLib ⟨p, 0, none⟩ .returning _ (by rw [cell_at HP7.out]; rfl) (frozen_at HP7.out _)).mono ?_
  rintro e u' w'' ⟨rfl, rfl, rfl⟩
  have e8 := Kept.set1 W7 p 0 (.int .i32 0)
  refine ⟨_, results_tmp2 rfl _ _ _, .slice ao2 (n + 1) c2, t, g, ?_, block_setCell HP7.out _, (HO7.out : RowAt W7 128 1 (.slice ao2 (n + 1) c2) (n + 1) (xs ++ [.pointer (some ⟨t, 0, none⟩)])).kept e8 HNP.out, hwt.out.1, hwt.out.2.1, hwt.out.2.2, e8.heap HT7.out htp.out.1, e8.heap HG7.out htp.out.2, HN7.out, HK7.out.setCell (p := ⟨p, 0, none⟩) (.inl (.inl rfl)) _⟩
  first | rfl | (simp; done)
end Go.Proofs.YtmcajfefagdbnaaGreat

namespace Go.Proofs.YtmcajfefagdbnaaGreat
open Go Go.RowKit

theorem admErr_zero2 {l : List Op4} {m : Nat} {c : Int} (h : admErr l m c = 0) : l.length ≤ 12 ∧ (l.all Op4.ok = true) ∧ m < 12 ∧ c < 1099511627776 := by
  unfold admErr at h
  split at h
  · omega
  · split at h
    · omega
    · rename_i h2
      split at h
      · omega
      · split at h
        · omega
        · exact ⟨by omega, by simpa using h2, by omega, by omega⟩

theorem RowAt.full {w : World} {e : TypeId} {size n g : Nat} {xs : List Value} (h : w.heap[g]? = some (.cells xs.toArray e (0, 0))) (hl : xs.length = n * size) (hn : n ≤ maxLen) : RowAt w e size (.slice (some ⟨g, 0, none⟩) n n) n xs :=
  ⟨hl, .inr ⟨g, 0, n, xs.toArray, rfl, h, Nat.le_refl _, hn, by simp; omega, fun j u hu => by simpa using hu⟩⟩

/-- Who owns what, behind an Admit. -/
def admOw (ow : Ow) (H t g n : Nat) (tv : Value) : Ow := fun k => if k < H then ow k else if k = t then (8, ((n + 1 : Nat) : Int)) else if k = g then (9, ((n + 1 : Nat) : Int)) else if tv.ownBlock = some k then (5, 0) else (0, 0)

theorem txPtrs_snoc (bs : Nat → Nat) (n t : Nat) : txPtrs (upd bs (n + 1) t) (n + 1) = txPtrs bs n ++ [.pointer (some ⟨t, 0, none⟩)] := by
  unfold txPtrs
  rw [List.range_succ, List.map_append]
  congr 1
  · apply List.map_congr_left
    intro i hi
    rw [List.mem_range] at hi
    rw [upd_other _ _ _ _ (by omega)]
  · simp

theorem pAdmit_ok {L : Lay} {bs : Nat → Nat} {A : List Nat} {ow : Ow} {m : Nat} {s : St} {lv : Nat} {w : World} (h : PSt L bs A ow m 0 (lv : Int) s w) (v : Value) (l : List Op4) (ho : OpsSrc w v l) (hn : ∀ k, v.ownBlock = some k → ¬ OwnP ow k) (hin : ∀ o ∈ l, inI o.a ∧ inI o.b ∧ inI o.c) (hc0 : 0 ≤ s.clock) (hnm : s.n ≤ 1099511627775) (hA : A.length < 12) (he : admErr l lv s.clock = 0) :
    Calls Tryz.prog 36 #[.pointer (some ⟨L.p, 0, none⟩), v] w fun e w' => e = .returned (.tuple #[.int .i64 ((s.n : Int) + 1), .int .i64 0]) ∧
      (∃ t ow', PSt L (upd bs (s.n + 1) t) (A ++ [s.n + 1]) ow' m 0 ((lv : Int) + 1) (s.admit l) w' ∧ AgreeP w ow ow') ∧ Kept (OwnP ow) w w' := by
  obtain ⟨u, tv, wv, b1, b2, b3⟩ := h.body
  obtain ⟨e1, e2, e3, e4⟩ := admErr_zero2 he
  obtain ⟨t1, t2, t3, t4⟩ := h.tags
  have hvp : ∀ k, v.ownBlock = some k → k ≠ L.p := fun k hk e => hn k hk (by subst e; exact h.ownP)
  refine (pAdmit_walk L.p v l s.n lv s.clock _ _ tv _ _ _ _ w ho hvp b1 hc0 b2.1 e1 e3 hnm e4 he).mono ?_
  rintro e w' ⟨tv', t, g, rfl, p1, p2, p3, p4, p5, p6, p7, p8, p9⟩
  have hkO : Kept (OwnP ow) w w' := p9.mono (fun k e => by
    rcases e with e | e
    · subst e; exact h.ownP
    · unfold OwnP; rw [b2.2 k e]; exact tagNe (by omega))
  have hsz := p9.size
  have hag : AgreeP w ow (admOw ow w.heap.size t g s.n tv') := fun k hk => by unfold admOw; rw [if_pos hk]
  have hot : admOw ow w.heap.size t g s.n tv' t = (8, ((s.n + 1 : Nat) : Int)) := by unfold admOw; rw [if_neg (by omega), if_pos rfl]
  have hog : admOw ow w.heap.size t g s.n tv' g = (9, ((s.n + 1 : Nat) : Int)) := by unfold admOw; rw [if_neg (by omega), if_neg (fun e => p5 e.symm), if_pos rfl]
  have hsame : ∀ {tg : Nat × Int}, tg.1 ≠ 1 → tg.1 ≠ 5 → ∀ k, k < w.heap.size → ow k = tg → w'.heap[k]? = w.heap[k]? := fun n1 n5 k hk e => p9.block k hk (fun x => by
    rcases x with x | x
    · subst x; rw [t1] at e; exact n1 (by rw [← e])
    · rw [b2.2 k x] at e; exact n5 (by rw [← e]))
  obtain ⟨qf, q1, q2⟩ := h.que
  refine ⟨rfl, ⟨t, admOw ow w.heap.size t g s.n tv', ?_, hag⟩, hkO⟩
  refine ⟨?_, ⟨?_, ?_, ?_, ?_⟩, ⟨u, tv', wv, p1, ⟨?_, ?_⟩, b3.kept hag (hsame (by simp) (by simp))⟩, h.vals.of_same (hsame (by simp) (by simp) _ h.vals.lt t2), h.hold.of_same (hsame (by simp) (by simp) _ h.hold.lt t3), ⟨qf, q1.of_same (hsame (by simp) (by simp) _ q1.lt t4), fun k => (q2 k).kept hag (hsame (by simp) (by simp))⟩, ?_, ?_, ?_, ?_, ?_, h.rdom, ?_⟩
  · intro k hk
    by_cases e : k < w.heap.size
    · omega
    · unfold admOw at hk
      rw [if_neg e] at hk
      by_cases e1 : k = t
      · subst e1; exact lt_of_block p6
      rw [if_neg e1] at hk
      by_cases e2 : k = g
      · subst e2; exact lt_of_block p7
      rw [if_neg e2] at hk
      by_cases e3 : tv'.ownBlock = some k
      · exact p2.lt k e3
      · rw [if_neg e3] at hk; exact absurd rfl hk
  · rw [hag _ (h.lt _ h.ownP)]; exact t1
  · rw [hag _ h.vals.lt]; exact t2
  · rw [hag _ h.hold.lt]; exact t3
  · rw [hag _ q1.lt]; exact t4
  · show RowAt w' _ 1 tv' (s.n + 1) (txPtrs (upd bs (s.n + 1) t) (s.n + 1))
    rw [txPtrs_snoc]; exact p2
  · intro k hk
    by_cases e : k < w.heap.size
    · rw [hag k e]
      rcases p8 k hk with x | x
      · exact b2.2 k x
      · omega
    · rcases p8 k hk with x | x
      · exact absurd (b2.1.lt k x) e
      · unfold admOw; rw [if_neg e, if_neg x.2.1, if_neg x.2.2, if_pos hk]
  · intro i h1 h2
    by_cases ei : i = s.n + 1
    · subst ei
      show TxnAt _ L.p w' (s.n + 1) (upd bs (s.n + 1) t (s.n + 1)) (upd s.tx (s.n + 1) _ (s.n + 1))
      rw [upd_same, upd_same]
      refine ⟨_, _, _, p6, hot, RowT.nil _ _ _ _ _, Nat.zero_le _, fun _ => ⟨Nat.le_refl _, ⟨?_, ?_⟩, e1, ?_, Nat.zero_le _, Nat.le_refl _, [], RowT.nil _ _ _ _ _, ?_⟩⟩
      · exact RowAt.full p7 (opCells_len l) (by unfold maxLen; omega)
      · intro k hk
        obtain rfl : g = k := by simpa [Value.ownBlock] using hk
        exact hog
      · intro o ho'
        obtain ⟨x1, x2, x3⟩ := hin o ho'
        exact ⟨x1, x2, x3, by rw [List.all_eq_true] at e2; exact e2 o ho'⟩
      · trivial
    · have hi' : i ≤ s.n := by have : i ≤ s.n + 1 := h2; omega
      show TxnAt _ L.p w' i (upd bs (s.n + 1) t i) (upd s.tx (s.n + 1) _ i)
      rw [upd_other _ _ _ _ ei, upd_other _ _ _ _ ei]
      exact (h.txs i h1 hi').kept hag (fun k hk e => e.elim (fun e => hsame (by simp) (by simp) k hk e) (fun e => hsame (by simp) (by simp) k hk e))
  · rw [List.length_append]; simp; omega
  · intro i hi
    show 1 ≤ i ∧ i ≤ s.n + 1
    rw [List.mem_append] at hi
    rcases hi with hi | hi
    · have := h.among i hi; omega
    · simp at hi; omega
  · intro k j hj
    have := h.hdom k j hj
    exact ⟨this.1, List.mem_append.2 (.inl this.2)⟩
  · intro k x hx
    have := h.qdom k x hx
    exact ⟨this.1, List.mem_append.2 (.inl this.2)⟩
  · show s.n + 1 ≤ _
    omega

end Go.Proofs.YtmcajfefagdbnaaGreat

namespace Go.Proofs.YtmcajfefagdbnaaGreat
open Go Go.RowKit

/-- A row's key and value. -/
structure Row2 where
  k : Int
  v : Int

def Row2.z : Row2 := ⟨0, 0⟩
def Row2.cells (o : Row2) : List Value := [.int .i64 o.k, .int .i64 o.v]
def rowCells (l : List Row2) : List Value := l.flatMap Row2.cells

/-- Rows in memory, from a place on. -/
def RowsAt (w : World) (b off : Nat) (l : List Row2) : Prop := ∀ i, i < l.length →
  w.cell? ⟨b, off + i * 2, none⟩ = some (.int .i64 (l.getD i Row2.z).k) ∧ w.cell? ⟨b, off + i * 2 + 1, none⟩ = some (.int .i64 (l.getD i Row2.z).v)

theorem RowsAt.kept {S : Nat → Prop} {w w' : World} {b off : Nat} {l : List Row2} (h : RowsAt w b off l) (hk : Kept S w w') (hn : ¬ S b) : RowsAt w' b off l := fun i hi =>
  ⟨hk.cell (h i hi).1 hn, hk.cell (h i hi).2 hn⟩

def RowsSrc (w : World) (v : Value) (l : List Row2) : Prop := ∃ ao c, v = .slice ao l.length c ∧ (0 < l.length → ∃ b off, ao = some ⟨b, off, none⟩ ∧ RowsAt w b off l)

theorem rowCells_len (l : List Row2) : (rowCells l).length = l.length * 2 := by
  induction l with
  | nil => rfl
  | cons o l ih => simp only [rowCells, List.flatMap_cons, List.length_append] at ih ⊢; rw [ih]; simp [Row2.cells]; omega

theorem RowsAt.tail {w : World} {b off : Nat} {o : Row2} {l : List Row2} (h : RowsAt w b off (o :: l)) : RowsAt w b (off + 2) l := by
  intro i hi
  have := h (i + 1) (by simpa using hi)
  simp only [List.getD_cons_succ] at this
  rw [show off + (i + 1) * 2 = off + 2 + i * 2 from by omega] at this
  exact this

theorem RowsAt.flat {w : World} {b : Nat} : ∀ {off : Nat} {l : List Row2}, RowsAt w b off l → ∀ j u, (rowCells l)[j]? = some u → w.cell? ((⟨b, off, none⟩ : Addr).add j) = some u
  | off, [], _, j, u, hu => by simp [rowCells] at hu
  | off, o :: l, h, j, u, hu => by
    have h0 := h 0 (by simp)
    simp only [Nat.zero_mul, Nat.add_zero, List.getD_cons_zero] at h0
    rw [Addr.add_lit]
    by_cases hj : j < 2
    · match j, hj with
      | 0, _ => simp [rowCells, Row2.cells] at hu; rw [← hu]; exact h0.1
      | 1, _ => simp [rowCells, Row2.cells] at hu; rw [← hu]; exact h0.2
    · obtain ⟨j, rfl⟩ : ∃ i, j = i + 2 := ⟨j - 2, by omega⟩
      have hu' : (rowCells l)[j]? = some u := by
        simp only [rowCells, List.flatMap_cons] at hu
        rw [List.getElem?_append_right (by simp [Row2.cells])] at hu
        simpa [Row2.cells, rowCells] using hu
      have := RowsAt.flat h.tail j u hu'
      rw [Addr.add_lit] at this
      rw [show off + (j + 2) = off + 2 + j from by omega]
      exact this

theorem rowCells_one (l : List Row2) : ∀ u ∈ rowCells l, u.oneCell' = true := by
  intro u hu
  simp only [rowCells, List.mem_flatMap] at hu
  obtain ⟨o, _, ho⟩ := hu
  simp [Row2.cells] at ho
  rcases ho with rfl | rfl <;> rfl

theorem RowsSrc.mem {w : World} {v : Value} {l : List Row2} (h : RowsSrc w v l) : FromMem w 2 v l.length (rowCells l) := by
  obtain ⟨ao, c, rfl, h⟩ := h
  refine ⟨⟨ao, c, rfl, ?_, ?_⟩, rowCells_len l, rowCells_one l⟩
  · intro hn
    rcases Nat.eq_zero_or_pos l.length with h0 | h0
    · exact h0
    · obtain ⟨b, off, hao, _⟩ := h h0
      rw [hn] at hao
      cases hao
  · intro ad had j u hu
    have h0 : 0 < l.length := by
      rcases Nat.eq_zero_or_pos l.length with h0 | h0
      · rw [List.eq_nil_of_length_eq_zero h0] at hu
        simp [rowCells] at hu
      · exact h0
    obtain ⟨b, off, hao, hat⟩ := h h0
    rw [had] at hao
    obtain rfl := Option.some.inj hao
    exact hat.flat j u hu

theorem RowsAt.src {w : World} {b off c : Nat} {l : List Row2} (h : RowsAt w b off l) : RowsSrc w (.slice (some ⟨b, off, none⟩) l.length c) l := ⟨_, c, rfl, fun _ => ⟨b, off, rfl, h⟩⟩

theorem RowsSrc.kept {S : Nat → Prop} {w w' : World} {v : Value} {l : List Row2} (h : RowsSrc w v l) (hk : Kept S w w') (hn : ∀ b, v.ownBlock = some b → ¬ S b) : RowsSrc w' v l := by
  obtain ⟨ao, c, rfl, h⟩ := h
  refine ⟨ao, c, rfl, fun h0 => ?_⟩
  obtain ⟨b, off, rfl, hat⟩ := h h0
  exact ⟨b, off, rfl, hat.kept hk (hn b rfl)⟩

/-- The keys rise. -/
def Rise (l : List Row2) : Prop := ∀ i, i + 1 < l.length → (l.getD i Row2.z).k < (l.getD (i + 1) Row2.z).k

set_option maxHeartbeats 1600000 in
theorem keysRise_any (ao : Option Addr) (c n : Nat) (l : List Row2) (w : World) (hn : l.length = n) (hl : n ≤ 1048576) (h : 0 < n → ∃ b off, ao = some ⟨b, off, none⟩ ∧ RowsAt w b off l) :
    Calls Tryz.prog 75 #[.slice ao n c] w fun e w' => ∃ r : Bool, e = .returned (.bool r) ∧ (r = true ↔ Rise l) ∧ Kept NoBlk w w' := by
  have Hn : Hid _ := hn
  clear hn
  go_enter Tryz.func75, Tryz.ntmps75
  go_wp2_with fail
  go_loopw [3] (fun i wr => ∃ k nq : Nat, (k + 1 ≤ n ∨ k = 0) ∧ i = .int .i64 ((k : Int) + 1) ∧ (∀ i, i + 1 < k + 1 → (l.getD i Row2.z).k < (l.getD (i + 1) Row2.z).k) ∧ wr = w.drewN nq) (fun i _ => n - (intOf i).toNat)
  case atStart => exact ⟨0, 0, .inr rfl, rfl, fun i hi => by omega, rfl⟩
  case round =>
    obtain ⟨k, nq, hk, rfl, hrise, rfl⟩ := hrel
    by_cases hlt : k + 1 < n
    · obtain ⟨b, off, rfl, hat⟩ := h (by omega)
      have g0 := (hat k (by rw [Hn.out]; omega)).1
      have g1 := (hat (k + 1) (by rw [Hn.out]; omega)).1
      have i1 : (0 : Int) ≤ (k : Int) + 1 := by omega
      have i2 : (k : Int) + 1 < (n : Int) := by omega
      have i3 : (0 : Int) ≤ (k : Int) + 1 - 1 := by omega
      have i4 : (k : Int) + 1 - 1 < (n : Int) := by omega
      have HR : Hid _ := hrise
      have HS : Hid (∀ (hkk : (l.getD k Row2.z).k < (l.getD (k + 1) Row2.z).k), ∀ i, i + 1 < k + 1 + 1 → (l.getD i Row2.z).k < (l.getD (i + 1) Row2.z).k) := fun hkk i hi => by
        by_cases e : i = k
        · subst e; exact hkk
        · exact hrise i (by omega)
      have HN : Hid (¬ (l.getD k Row2.z).k < (l.getD (k + 1) Row2.z).k → ¬ Rise l) := fun hkk hr => hkk (hr k (by rw [Hn.out]; omega))
      clear hrise hat h
      generalize (l.getD k Row2.z).k = a at *
      generalize (l.getD (k + 1) Row2.z).k = a' at *
      go_wp2_with fail
      go_quiet (fail)
      by_cases hle : a' ≤ a
      · go_wp2_with fail
        go_ret
        exact ⟨false, rfl, by simp; exact HN.out (by omega), ((Kept.refl _ _).drewN _).drewN _⟩
      · go_wp2_with fail
        exact ⟨⟨k + 1, _, .inl (by omega), by go_num, HS.out (by omega), rfl⟩, by simp [intOf]; omega⟩
    · have hr : Rise l := fun i hi => hrise i (by rw [Hn.out] at hi; omega)
      go_wp2_with fail
      go_ret
      exact ⟨true, rfl, by simp [hr], (Kept.refl _ _).drewN _⟩
end Go.Proofs.YtmcajfefagdbnaaGreat
