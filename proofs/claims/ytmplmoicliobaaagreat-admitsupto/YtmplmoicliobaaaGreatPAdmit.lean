import Derived.Test.YtmplmoicliobaaaGreatOpsSrc
import Derived.Test.YtmplmoicliobaaaGreatRefusal
import Derived.Test.YtmplmoicliobaaaGreatFresh
import Derived.Test.YtmplmoicliobaaaGreatBase2
import Derived.Test.YtmplmoicliobaaaGreatLocks
import Derived.Conc.MuLone
import Derived.Defers
import Derived.Deep.RegionHeld3
import Derived.Deep.DrawnRows
namespace Go.Proofs.YtmplmoicliobaaaGreat
open Go Go.RowKit
open Go.MuLone

theorem ret_pair' {a b : Int} (n : Int) (h : a = b) : Ending.returned (.tuple #[.int .i64 n, .int .i64 a]) = .returned (.tuple #[.int .i64 n, .int .i64 b]) := by rw [h]

set_option maxHeartbeats 800000 in
theorem newTransaction_any (x : Value) (l : List Op4) (st : Int) (w : World) (hx : OpsSrc w x l) (hl : l.length ≤ 1048576) :
    Calls Tryz.prog 53 #[x, .int .i64 st] w fun e w' => ∃ t g, e = .returned (.pointer (some ⟨t, 0, none⟩)) ∧ w.heap.size ≤ t ∧ w.heap.size ≤ g ∧
      w'.heap[t]? = some (.cells #[.slice (some ⟨g, 0, none⟩) l.length l.length, .int .i64 st, .int .i64 0, .int .i64 0, .int .i64 0, .bool false, .bool false, .int .i64 0, .int .i64 0, .int .i64 0, .int .i64 0, .slice none 0 0] 130 (0, 0)) ∧
      w'.heap[g]? = some (.cells (opCells l).toArray 97 (0, 0)) ∧ Kept NoBlk w w' := by
  have HX : Hid _ := hx.mem
  clear hx
  go_enter Tryz.func53, Tryz.ntmps53
  go_wp2_with fail
  refine (freshOp x l.length (opCells l) w HX.out hl).mono ?_
  rintro e w1 ⟨rfl, hg, hk⟩
  have HG : Hid _ := hg
  have HK : Hid _ := hk
  clear hg hk
  go_wp2_with fail
  go_ret
  exact ⟨w1.heap.size, w.heap.size, rfl, HK.out.size, Nat.le_refl _, block_alloc_new w1 _, block_alloc_old _ HG.out, HK.out.alloc _⟩

set_option maxHeartbeats 3200000 in
theorem padmit_err (p b off cap : Nat) (l : List Op4) (m : Nat) (c : Int) (v1 v3 v4 : Value) (w : World) (h : OpsAt w b off l) (hb : b ≠ p) (hl : l.length ≤ 1048576)
    (hp : w.heap[p]? = some (.cells #[.int .i32 0, v1, .int .i64 c, v3, v4, .int .i64 m] 95 (0, 0))) (he : admErr l m c ≠ 0) :
    Calls Tryz.prog 36 #[.pointer (some ⟨p, 0, none⟩), .slice (some ⟨b, off, none⟩) l.length cap] w fun e w' => e = .returned (.tuple #[.int .i64 0, .int .i64 (admErr l m c)]) ∧
      w'.heap[p]? = some (.cells #[.int .i32 0, v1, .int .i64 c, v3, v4, .int .i64 m] 95 (0, 0)) ∧ Kept (Blk p) w w' := by
  have hp1 : (w.setCell ⟨p, 0, none⟩ (.int .i32 1)).heap[p]? = some (.cells #[.int .i32 1, v1, .int .i64 c, v3, v4, .int .i64 m] 95 (0, 0)) := block_setCell hp _
  have hk1 := Kept.set1 w p 0 (.int .i32 1)
  have ho1 := h.kept hk1 hb
  have he' : (admErr l m c != 0) = true := by simp [he]
  have HP : Hid _ := hp
  have HP1 : Hid _ := hp1
  have HK1 : Hid _ := hk1
  have HO1 : Hid (OpsAt (w.setCell ⟨p, 0, none⟩ (.int .i32 1)) b off l) := ho1
  clear hp hp1 hk1 ho1 h he
  go_enter_defers Tryz.func36, Tryz.ntmps36
  go_wp2_with fail
  refine (lock_free Tryz.muLib ⟨p, 0, none⟩ _ (by rw [cell_at HP.out]; rfl) (frozen_at HP.out _)).mono ?_
  rintro e w1 ⟨rfl, rfl⟩
  generalize w.setCell ⟨p, 0, none⟩ (.int .i32 1) = W1 at *
  go_wp2_with fail
  refine (refusal_any p b off cap l m c _ _ _ _ W1 HO1.out hl HP1.out).mono ?_
  rintro e w2 ⟨rfl, hk2⟩
  have HP2 : Hid _ := hk2.heap HP1.out (fun x => x)
  have HK2 : Hid _ := HK1.out.trans hk2 (fun i x => x.elim)
  clear hk2
  generalize hE : admErr l m c = er at *
  have HE : Hid _ := hE
  clear hE
  go_wp2_with fail
  refine leaves_cons (f := 35) (args := #[.pointer (some ⟨p, 0, none⟩)]) (by simp) (by simp [go_sem]) ?_
  refine (unlock_deferred Tryz.muLib ⟨p, 0, none⟩ .returning _ (by rw [cell_at HP2.out]; rfl) (frozen_at HP2.out _)).mono ?_
  rintro e u' w'' ⟨rfl, rfl, rfl⟩
  refine ⟨_, results_tmp2 rfl _ _ _, ?_, block_setCell HP2.out _, HK2.out.setCell (p := ⟨p, 0, none⟩) (.inl rfl) _⟩
  first | (simp; done) | (simp [HE.out]; done)


theorem infoPtx : (Tryz.prog.info? 109).map (fun i => (i.zero, i.size, i.bytes)) = some (some (.pointer none), 1, 8) := by kernel_rfl

set_option maxRecDepth 100000 in
set_option maxHeartbeats 3200000 in
theorem padmit_ok (p b off cap : Nat) (l : List Op4) (n : Nat) (c : Int) (v1 v3 tv : Value) (xs : List Value) (w : World) (h : OpsAt w b off l) (hb : b ≠ p)
    (hp : w.heap[p]? = some (.cells #[.int .i32 0, v1, .int .i64 c, v3, tv, .int .i64 n] 95 (0, 0))) (hc0 : 0 ≤ c) (hown : w.ownsRow 0 109 1 tv n xs)
    (hl12 : l.length ≤ 12) (hn12 : n < 12) (hc1 : c < 1099511627776) (he : admErr l n c = 0) :
    Calls Tryz.prog 36 #[.pointer (some ⟨p, 0, none⟩), .slice (some ⟨b, off, none⟩) l.length cap] w fun e w' => ∃ tv' t g, e = .returned (.tuple #[.int .i64 ((n : Int) + 1), .int .i64 0]) ∧
      w'.heap[p]? = some (.cells #[.int .i32 0, v1, .int .i64 (c + 1), v3, tv', .int .i64 ((n : Int) + 1)] 95 (0, 0)) ∧ w'.ownsRow 0 109 1 tv' (n + 1) (xs ++ [.pointer (some ⟨t, 0, none⟩)]) ∧ w.heap.size ≤ t ∧ w.heap.size ≤ g ∧
      w'.heap[t]? = some (.cells #[.slice (some ⟨g, 0, none⟩) l.length l.length, .int .i64 (c + 1), .int .i64 0, .int .i64 0, .int .i64 0, .bool false, .bool false, .int .i64 0, .int .i64 0, .int .i64 0, .int .i64 0, .slice none 0 0] 130 (0, 0)) ∧
      w'.heap[g]? = some (.cells (opCells l).toArray 97 (0, 0)) ∧ (∀ k, tv'.ownBlock = some k → tv.ownBlock = some k ∨ w.heap.size ≤ k) ∧ Kept (fun k => k = p ∨ tv.ownBlock = some k) w w' := by
  have hp1 : (w.setCell ⟨p, 0, none⟩ (.int .i32 1)).heap[p]? = some (.cells #[.int .i32 1, v1, .int .i64 c, v3, tv, .int .i64 n] 95 (0, 0)) := block_setCell hp _
  have hk1 := Kept.set1 w p 0 (.int .i32 1)
  have ho1 := h.kept hk1 hb
  have HP : Hid _ := hp
  have HP1 : Hid _ := hp1
  have HK1 : Hid _ := hk1
  have HO1 : Hid (OpsAt (w.setCell ⟨p, 0, none⟩ (.int .i32 1)) b off l) := ho1
  have HE : Hid _ := he
  have HTP : Hid (tv.ownBlock ≠ some p) := fun e => by
    obtain ⟨cur, hcur⟩ := ownsRow_block hown e
    exact blocks_apart hcur hp (by decide) rfl
  have HO : Hid _ := hown
  clear hp hp1 hk1 ho1 h he hown
  go_enter_defers Tryz.func36, Tryz.ntmps36
  go_wp2_with fail
  refine (lock_free Tryz.muLib ⟨p, 0, none⟩ _ (by rw [cell_at HP.out]; rfl) (frozen_at HP.out _)).mono ?_
  rintro e w1 ⟨rfl, rfl⟩
  generalize w.setCell ⟨p, 0, none⟩ (.int .i32 1) = W1 at *
  go_wp2_with fail
  refine (refusal_any p b off cap l n c _ _ _ _ W1 HO1.out (by omega) HP1.out).mono ?_
  rintro e w2 ⟨rfl, hk2⟩
  rw [HE.out]
  have hP2 := hk2.heap HP1.out (fun x => x)
  have HO2 : Hid (OpsAt w2 b off l) := (show OpsAt W1 b off l from HO1.out).kept hk2 (fun x => x)
  have HP2 : Hid _ := hP2
  have HK2 : Hid _ := HK1.out.trans hk2 (fun i x => x.elim)
  have c2 : w2.cell? ⟨p, 2, none⟩ = some (.int .i64 c) := by rw [cell_at hP2]; rfl
  have c5 : w2.cell? ⟨p, 5, none⟩ = some (.int .i64 n) := by rw [cell_at hP2]; rfl
  have f2 : w2.frozen? ⟨p, 2, none⟩ = false := frozen_at hP2 _
  have f5 : w2.frozen? ⟨p, 5, none⟩ = false := frozen_at hP2 _
  clear hk2 hP2
  go_wp2_with fail
  have hp3 : ((w2.setCell ⟨p, 2, none⟩ (.int .i64 (c + 1))).setCell ⟨p, 5, none⟩ (.int .i64 ((n : Int) + 1))).heap[p]? = some (.cells #[.int .i32 1, v1, .int .i64 (c + 1), v3, tv, .int .i64 ((n : Int) + 1)] 95 (0, 0)) := block_setCell (block_setCell HP2.out _) _
  have hk3 : Kept (Blk p) w2 ((w2.setCell ⟨p, 2, none⟩ (.int .i64 (c + 1))).setCell ⟨p, 5, none⟩ (.int .i64 ((n : Int) + 1))) := (Kept.set1 w2 p 2 _).trans' (Kept.set1 _ p 5 _)
  have HK3 : Hid _ := HK2.out.trans' hk3
  have HO3 : Hid (OpsAt ((w2.setCell ⟨p, 2, none⟩ (.int .i64 (c + 1))).setCell ⟨p, 5, none⟩ (.int .i64 ((n : Int) + 1))) b off l) := (show OpsAt w2 b off l from HO2.out).kept hk3 hb
  clear c2 c5 f2 f5 hk3
  generalize ((w2.setCell ⟨p, 2, none⟩ (.int .i64 (c + 1))).setCell ⟨p, 5, none⟩ (.int .i64 ((n : Int) + 1))) = W3 at *
  obtain ⟨ta, tc, rfl⟩ := ownsRow_form HO.out
  have hown3 : W3.drew.ownsRow 0 109 1 (.slice ta n tc) n xs := (ownsRow_kept HO.out HK3.out.drew (fun k hk e => HTP.out (by rw [hk]; cases e; rfl)))
  have hos3 : OpsSrc W3.drew (.slice (some ⟨b, off, none⟩) l.length cap) l := (show OpsAt W3 b off l from HO3.out).src
  have HOWN3 : Hid (W3.drew.ownsRow 0 109 1 (.slice ta n tc) n xs) := hown3
  have HOS3 : Hid (OpsSrc W3.drew (.slice (some ⟨b, off, none⟩) l.length cap) l) := hos3
  have HP3 : Hid (W3.drew.heap[p]? = some (.cells #[.int .i32 1, v1, .int .i64 (c + 1), v3, .slice ta n tc, .int .i64 ((n : Int) + 1)] 95 (0, 0))) := hp3
  have d2 : W3.cell? ⟨p, 2, none⟩ = some (.int .i64 (c + 1)) := by rw [cell_at hp3]; rfl
  have d4 : W3.cell? ⟨p, 4, none⟩ = some (.slice ta n tc) := by rw [cell_at hp3]; rfl
  obtain ⟨i1, hi1, hy0, hy1, hy2⟩ := info_parts infoPtx
  have HI : Hid (Tryz.prog.info? 109 = some i1 ∧ i1.zero = some (.pointer none) ∧ i1.size = 1 ∧ i1.bytes = 8) := ⟨hi1, hy0, hy1, hy2⟩
  have HB5 : Hid ((n + 1) * 8 ≤ 140737488355328) := by unfold Hid; omega
  have HB6 : Hid (n + 1 ≤ maxLen) := by unfold Hid maxLen; omega
  have HLL : Hid (l.length ≤ 1048576) := by unfold Hid; omega
  have hpl : p < W3.heap.size := lt_of_block hp3
  clear hown3 hos3 hp3 HO2 HO1 HP1 HP2 HK1 HK2 hi1 hy0 hy1 hy2 HP HO3
  refine wp_region_noPanic ?_
  go_region_law (first
    | (go_simp; go_at_call 53; refine (newTransaction_any _ l _ _ HOS3.out HLL.out).mono ?_; rintro e w4 ⟨t, g, rfl, ht, hg, hT4, hG4, hk4⟩; have p4 := hk4.cell0 (show W3.drew.cell? ⟨p, 4, none⟩ = some (.slice ta n tc) from d4); have pl4 := Nat.lt_of_lt_of_le hpl hk4.size)
    | (refine step_append_at (by rfl) _ _ 93 (by rfl) 109 i1 _ 1 8 Tryz.underlying93 HI.out.1 HI.out.2.1 HI.out.2.2.1 HI.out.2.2.2 (by rfl) (.slice ta n tc) n xs (by rfl) (ownsRow_kept (ownsRow_kept HOWN3.out hk4 (fun _ _ x => x)) ((Kept.refl NoBlk w4).alloc _) (fun _ _ x => x)) (.slice (some ⟨w4.heap.size, 0, none⟩) 1 1) 1 [.pointer (some ⟨t, 0, none⟩)] (by rfl) (from_new1 w4 _ _ rfl) HB6.out HB5.out ?_; intro ao2 c2 W6 hown6 hmv6; have q6 := hmv6.keptOf.cell (((Kept.refl NoBlk w4).alloc _).cell0 p4) HTP.out; have qf6 : W6.frozen? ⟨p, 4, none⟩ = false := frozen_at (hmv6.keptOf.heap (((Kept.refl NoBlk w4).alloc _).heap (hk4.heap HP3.out (fun x => x)) (fun x => x)) HTP.out) 4))
  all_goals
    have hk5 : Kept NoBlk w4 (w4.alloc (.cells #[.pointer (some ⟨t, 0, none⟩)] 109)) := (Kept.refl _ _).alloc _
    have hsw : w.heap.size ≤ W3.heap.size := HK3.out.size
    have hs3 : W3.heap.size ≤ w4.heap.size := hk4.size
    have ht' : W3.heap.size ≤ t := ht
    have hg' : W3.heap.size ≤ g := hg
    have htl := ownsRow_lt HO.out
    have hk6 := hmv6.keptOf
    have hn6 := hmv6.fresh
    have hs5 : w4.heap.size ≤ (w4.alloc (.cells #[.pointer (some ⟨t, 0, none⟩)] 109)).heap.size := hk5.size
    have hP6 := hk6.heap (hk5.heap (hk4.heap HP3.out (fun x => x)) (fun x => x)) HTP.out
    have hT6 := hk6.heap (hk5.heap hT4 (fun x => x)) (fun e => by have := htl _ e; omega)
    have hG6 := hk6.heap (hk5.heap hG4 (fun x => x)) (fun e => by have := htl _ e; omega)
    have e7 := Kept.set1 W6 p 4 (.slice ao2 (n + 1) c2)
    have HP7 : Hid ((W6.setCell ⟨p, 4, none⟩ (.slice ao2 (n + 1) c2)).heap[p]? = some (.cells #[.int .i32 1, v1, .int .i64 (c + 1), v3, .slice ao2 (n + 1) c2, .int .i64 ((n : Int) + 1)] 95 (0, 0))) := block_setCell hP6 _
    have HT7 : Hid _ := e7.heap hT6 (fun e => by unfold Blk at e; omega)
    have HG7 : Hid _ := e7.heap hG6 (fun e => by unfold Blk at e; omega)
    have hnp : ∀ k, (Value.slice ao2 (n + 1) c2).ownBlock = some k → k ≠ p := fun k hk e => by
      rcases hn6 k hk with h | h
      · exact HTP.out (by rw [h, e])
      · omega
    have HO7 : Hid ((W6.setCell ⟨p, 4, none⟩ (.slice ao2 (n + 1) c2)).ownsRow 0 109 1 (.slice ao2 (n + 1) c2) (n + 1) (xs ++ [.pointer (some ⟨t, 0, none⟩)])) := ownsRow_kept hown6 e7 hnp
    have HN7 : Hid (∀ k, (Value.slice ao2 (n + 1) c2).ownBlock = some k → (Value.slice ta n tc).ownBlock = some k ∨ w.heap.size ≤ k) := fun k hk => by
      rcases hn6 k hk with h | h
      · exact .inl h
      · right; omega
    have HK7 : Hid (Kept (fun k => k = p ∨ (Value.slice ta n tc).ownBlock = some k) w (W6.setCell ⟨p, 4, none⟩ (.slice ao2 (n + 1) c2))) :=
      (((((HK3.out.drew.trans' (hk4.mono (fun _ x => x.elim))).trans' (hk5.mono (fun _ x => x.elim))).mono (fun k (x : k = p) => Or.inl x)).trans hk6 (fun i x => .inl (.inr x)))).setCell (p := ⟨p, 4, none⟩) (.inl (.inl rfl)) _
    have HNP : Hid _ := hnp
    have hwt : Hid (w.heap.size ≤ t ∧ w.heap.size ≤ g) := ⟨by omega, by omega⟩
    have htp : Hid (t ≠ p ∧ g ≠ p) := ⟨by omega, by omega⟩
    clear hk5 hk6 hn6 hP6 hT6 hG6 e7 hnp q6 qf6 hmv6 hown6 hT4 hG4 hk4 p4 pl4 htl d2 d4 hpl
    generalize W6.setCell ⟨p, 4, none⟩ (.slice ao2 (n + 1) c2) = W7 at *
    have r4 : W7.cell? ⟨p, 4, none⟩ = some (.slice ao2 (n + 1) c2) := by rw [cell_at HP7.out]; rfl
    refine NoPanic.normal ?_
    go_wp2_with fail
    refine leaves_cons (f := 35) (args := #[.pointer (some ⟨p, 0, none⟩)]) (by simp) (by simp [go_sem]) ?_
    refine (unlock_deferred Tryz.muLib ⟨p, 0, none⟩ .returning _ (by rw [cell_at HP7.out]; rfl) (frozen_at HP7.out _)).mono ?_
    rintro e u' w'' ⟨rfl, rfl, rfl⟩
    have e8 := Kept.set1 W7 p 0 (.int .i32 0)
    refine ⟨_, results_tmp2 rfl _ _ _, .slice ao2 (n + 1) c2, t, g, ?_, block_setCell HP7.out _, ownsRow_kept HO7.out e8 HNP.out, hwt.out.1, hwt.out.2, e8.heap HT7.out htp.out.1, e8.heap HG7.out htp.out.2, HN7.out, HK7.out.setCell (p := ⟨p, 0, none⟩) (.inl (.inl rfl)) _⟩
    first | rfl | (simp; done)
end Go.Proofs.YtmplmoicliobaaaGreat
