import Derived.Test.YtmcajfefagdbnaaGreatQ05
import Derived.Test.YtmcajfefagdbnaaGreatQ18
import Derived.Deep.RegionHeld3
import Derived.Deep.DrawnRows
import Derived.Test.YtmcajfefagdbnaaGreatQ19
namespace Go.Proofs.YtmcajfefagdbnaaGreat
open Go Go.RowKit
open Go.MuLone
theorem infoPtx2 : (Tryz.prog.info? 128).map (fun i => (i.zero, i.size, i.bytes)) = some (some (.pointer none), 1, 8) := by kernel_rfl
set_option maxRecDepth 100000 in
set_option maxHeartbeats 3200000 in
theorem pAdmit_walk (p : Nat) (v : Value) (l : List Op4) (n lv : Nat) (c : Int) (v1 v3 tv v6 v7 v8 : Value) (xs : List Value) (w : World) (ho : OpsSrc w v l) (hvp : ∀ k, v.ownBlock = some k → k ≠ p)
  (hp : w.heap[p]? = some (.cells #[.int .i32 0, v1, .int .i64 c, v3, tv, .int .i64 (lv : Int), v6, v7, v8] 127 (0, 0))) (hc0 : 0 ≤ c) (hown : RowAt w 128 1 tv n xs)
  (hl12 : l.length ≤ 12) (hlv : lv < 12) (hnm : n ≤ 1099511627775) (hc1 : c < 1099511627776) (he : admErr l lv c = 0) :
  Calls Tryz.prog 36 #[.pointer (some ⟨p, 0, none⟩), v] w fun e w' => ∃ tv' t g, e = .returned (.tuple #[.int .i64 ((n : Int) + 1), .int .i64 0]) ∧
   w'.heap[p]? = some (.cells #[.int .i32 0, v1, .int .i64 (c + 1), v3, tv', .int .i64 ((lv : Int) + 1), v6, v7, v8] 127 (0, 0)) ∧ RowAt w' 128 1 tv' (n + 1) (xs ++ [.pointer (some ⟨t, 0, none⟩)]) ∧ w.heap.size ≤ t ∧ w.heap.size ≤ g ∧ t ≠ g ∧
   w'.heap[t]? = some (.cells #[.int .i64 ((n : Int) + 1), .slice (some ⟨g, 0, none⟩) l.length l.length, .int .i64 (c + 1), .int .i64 0, .int .i64 0, .int .i64 0, .bool false, .bool false, .int .i64 0, .int .i64 0, .int .i64 0, .int .i64 0, .slice none 0 0, .slice none 0 0] 146 (0, 0)) ∧
   w'.heap[g]? = some (.cells (opCells l).toArray 114 (0, 0)) ∧ (∀ k, tv'.ownBlock = some k → tv.ownBlock = some k ∨ (w.heap.size ≤ k ∧ k ≠ t ∧ k ≠ g)) ∧ Kept (fun k => k = p ∨ tv.ownBlock = some k) w w' := by
 have hp1 : (w.setCell ⟨p, 0, none⟩ (.int .i32 1)).heap[p]? = some (.cells #[.int .i32 1, v1, .int .i64 c, v3, tv, .int .i64 (lv : Int), v6, v7, v8] 127 (0, 0)) := block_setCell hp _
 have hk1 := Kept.set1 w p 0 (.int .i32 1)
 have ho1 := ho.keptB hk1 hvp
 have HP : Hid _ := hp
 have HP1 : Hid _ := hp1
 have HK1 : Hid _ := hk1
 have HVP : Hid (∀ k, v.ownBlock = some k → k ≠ p) := hvp
 have HO1 : Hid (OpsSrc (w.setCell ⟨p, 0, none⟩ (.int .i32 1)) v l) := ho1
 have HR : Hid (Calls Tryz.prog 73 #[.pointer (some ⟨p, 0, none⟩), v] (w.setCell ⟨p, 0, none⟩ (.int .i32 1)) fun e w' => e = .returned (.int .i64 (admErr l lv c)) ∧ Kept NoBlk (w.setCell ⟨p, 0, none⟩ (.int .i32 1)) w') := refusal_src p v l lv c _ ho1 (by omega) (by rw [cell_at hp1]; rfl) (by rw [cell_at hp1]; rfl)
 rw [he] at HR
 have HTP : Hid (tv.ownBlock ≠ some p) := fun e => by
  obtain ⟨cur, hcur⟩ := hown.block e
  exact blocks_apart hcur hp (by decide) rfl
 have HO : Hid (RowAt w 128 1 tv n xs) := hown
 obtain ⟨ao, cap, rfl, _⟩ := ho
 clear hp hp1 hk1 ho1 he hown hvp
 go_enter_defers Tryz.func36, Tryz.ntmps36
 go_wp2_with fail
 refine (lock_free Tryz.muLib ⟨p, 0, none⟩ _ (by rw [cell_at HP.out]; rfl) (frozen_at HP.out _)).mono ?_
 rintro e w1 ⟨rfl, rfl⟩
 generalize w.setCell ⟨p, 0, none⟩ (.int .i32 1) = W1 at *
 go_wp2_with fail
 refine HR.out.mono ?_
 rintro e w2 ⟨rfl, hk2⟩
 have hP2 := hk2.heap HP1.out (fun x => x)
 have HO2 : Hid (OpsSrc w2 (.slice ao l.length cap) l) := (show OpsSrc W1 (.slice ao l.length cap) l from HO1.out).keptB hk2 (fun _ _ x => x)
 have HP2 : Hid _ := hP2
 have HK2 : Hid _ := HK1.out.trans hk2 (fun i x => x.elim)
 have c2 : w2.cell? ⟨p, 2, none⟩ = some (.int .i64 c) := by rw [cell_at hP2]; rfl
 have c5 : w2.cell? ⟨p, 5, none⟩ = some (.int .i64 (lv : Int)) := by rw [cell_at hP2]; rfl
 have f2 : w2.frozen? ⟨p, 2, none⟩ = false := frozen_at hP2 _
 have f5 : w2.frozen? ⟨p, 5, none⟩ = false := frozen_at hP2 _
 clear hk2 hP2
 go_wp2_with fail
 have hp3 : ((w2.setCell ⟨p, 2, none⟩ (.int .i64 (c + 1))).setCell ⟨p, 5, none⟩ (.int .i64 ((lv : Int) + 1))).heap[p]? = some (.cells #[.int .i32 1, v1, .int .i64 (c + 1), v3, tv, .int .i64 ((lv : Int) + 1), v6, v7, v8] 127 (0, 0)) := block_setCell (block_setCell HP2.out _) _
 have hk3 : Kept (Blk p) w2 ((w2.setCell ⟨p, 2, none⟩ (.int .i64 (c + 1))).setCell ⟨p, 5, none⟩ (.int .i64 ((lv : Int) + 1))) := (Kept.set1 w2 p 2 _).trans' (Kept.set1 _ p 5 _)
 have HK3 : Hid _ := HK2.out.trans' hk3
 have HO3 : Hid (OpsSrc ((w2.setCell ⟨p, 2, none⟩ (.int .i64 (c + 1))).setCell ⟨p, 5, none⟩ (.int .i64 ((lv : Int) + 1))) (.slice ao l.length cap) l) := (show OpsSrc w2 (.slice ao l.length cap) l from HO2.out).keptB hk3 HVP.out
 clear c2 c5 f2 f5 hk3
 generalize ((w2.setCell ⟨p, 2, none⟩ (.int .i64 (c + 1))).setCell ⟨p, 5, none⟩ (.int .i64 ((lv : Int) + 1))) = W3 at *
 obtain ⟨ta, tc, rfl, _, _⟩ := (HO.out : RowAt w 128 1 tv n xs).form
 have hown3 : RowAt W3.drew 128 1 (.slice ta n tc) n xs := (HO.out : RowAt w 128 1 (.slice ta n tc) n xs).kept HK3.out.drew (fun k hk e => HTP.out (by rw [hk]; cases e; rfl))
 have HOWN3 : Hid (RowAt W3.drew 128 1 (.slice ta n tc) n xs) := hown3
 have HOS3 : Hid (OpsSrc W3.drew (.slice ao l.length cap) l) := HO3.out
 have HP3 : Hid (W3.drew.heap[p]? = some (.cells #[.int .i32 1, v1, .int .i64 (c + 1), v3, .slice ta n tc, .int .i64 ((lv : Int) + 1), v6, v7, v8] 127 (0, 0))) := hp3
 have d2 : W3.cell? ⟨p, 2, none⟩ = some (.int .i64 (c + 1)) := by rw [cell_at hp3]; rfl
 have d4 : W3.cell? ⟨p, 4, none⟩ = some (.slice ta n tc) := by rw [cell_at hp3]; rfl
 obtain ⟨i1, hi1, hy0, hy1, hy2⟩ := info_parts infoPtx2
 have HI : Hid (Tryz.prog.info? 128 = some i1 ∧ i1.zero = some (.pointer none) ∧ i1.size = 1 ∧ i1.bytes = 8) := ⟨hi1, hy0, hy1, hy2⟩
 have HB5 : Hid ((n + 1) * 8 ≤ 140737488355328) := by unfold Hid; omega
 have HB6 : Hid (n + 1 ≤ maxLen) := by unfold Hid maxLen; omega
 have HLL : Hid (l.length ≤ 1048576) := by unfold Hid; omega
 have hpl : p < W3.heap.size := lt_of_block hp3
 have HWR : Hid (IntKind.wrap .i64 ((n : Int) + 1) = (n : Int) + 1) := by unfold Hid; rw [IntKind.wrap_i64]; omega
 have hsw : Hid (w.heap.size ≤ W3.heap.size) := HK3.out.size
 clear hown3 hp3 HO2 HO1 HP1 HP2 HK1 HK2 hi1 hy0 hy1 hy2 HP HO3 HR
 refine' kcut1 (X := Nat) _ (fun t w4 => ∃ g, W3.heap.size ≤ t ∧ W3.heap.size ≤ g ∧ t ≠ g ∧ w4.heap[t]? = some (.cells #[.int .i64 ((n : Int) + 1), .slice (some ⟨g, 0, none⟩) l.length l.length, .int .i64 (c + 1), .int .i64 0, .int .i64 0, .int .i64 0, .bool false, .bool false, .int .i64 0, .int .i64 0, .int .i64 0, .int .i64 0, .slice none 0 0, .slice none 0 0] 146 (0, 0)) ∧ w4.heap[g]? = some (.cells (opCells l).toArray 114 (0, 0)) ∧ Kept NoBlk W3.drew w4) ?_ ?_
 rotate_left
 ·refine wp_region_noPanic ?_
  go_region_law (go_simp; go_at_call 74; refine (newTransaction_src _ _ l _ _ HOS3.out HLL.out).mono ?_; rintro e w4 ⟨t, g, rfl, ht, hg, htg, hT4, hG4, hk4⟩)
  all_goals
   refine NoPanic.normal ?_
   rw [HWR.out] at hT4
   refine ⟨t, ?_, g, ht, hg, htg, hT4, hG4, hk4⟩
   exact rfl
 rintro t w4 ⟨g, ht, hg, htg, hT4, hG4, hk4⟩
 have p4 := hk4.cell0 (show W3.drew.cell? ⟨p, 4, none⟩ = some (.slice ta n tc) from d4)
 have pl4 := Nat.lt_of_lt_of_le hpl hk4.size
 have HHT : Hid (W3.heap.size ≤ t ∧ W3.heap.size ≤ g ∧ t ≠ g ∧ w4.heap[t]? = some (.cells #[.int .i64 ((n : Int) + 1), .slice (some ⟨g, 0, none⟩) l.length l.length, .int .i64 (c + 1), .int .i64 0, .int .i64 0, .int .i64 0, .bool false, .bool false, .int .i64 0, .int .i64 0, .int .i64 0, .int .i64 0, .slice none 0 0, .slice none 0 0] 146 (0, 0)) ∧ w4.heap[g]? = some (.cells (opCells l).toArray 114 (0, 0)) ∧ Kept NoBlk W3.drew w4) := ⟨ht, hg, htg, hT4, hG4, hk4⟩
 have HP4 : Hid (w4.heap[p]? = some (.cells #[.int .i32 1, v1, .int .i64 (c + 1), v3, .slice ta n tc, .int .i64 ((lv : Int) + 1), v6, v7, v8] 127 (0, 0))) := hk4.heap HP3.out (fun x => x)
 have HOWN4 : Hid (RowAt w4 128 1 (.slice ta n tc) n xs) := RowAt.kept HOWN3.out hk4 (fun _ _ x => x)
 clear ht hg htg hT4 hG4 hk4 d2 d4
 go_wp2_with (at_builtin; refine wpList_append_row (by rfl) _ _ 123 (by rfl) 128 i1 _ 1 8 Tryz.underlying123 HI.out.1 HI.out.2.1 HI.out.2.2.1 HI.out.2.2.2 (by rfl) (.slice ta n tc) n xs (by rfl) (RowAt.kept HOWN4.out ((Kept.refl NoBlk w4).alloc _) (fun _ _ x => x)) (.slice (some ⟨w4.heap.size, 0, none⟩) 1 1) 1 [.pointer (some ⟨t, 0, none⟩)] (by rfl) (from_new1 w4 _ _ rfl) HB6.out HB5.out ?_)
 intro ao2 c2 W6 hown6 hmv6
 have q6 := hmv6.keptOf.cell (((Kept.refl NoBlk w4).alloc _).cell0 p4) HTP.out
 have qf6 : W6.frozen? ⟨p, 4, none⟩ = false := frozen_at (hmv6.keptOf.heap (((Kept.refl NoBlk w4).alloc _).heap HP4.out (fun x => x)) HTP.out) 4
 obtain ⟨ht, hg, htg, hT4, hG4, hk4⟩ := HHT.out
 have hk5 : Kept NoBlk w4 (w4.alloc (.cells #[.pointer (some ⟨t, 0, none⟩)] 128)) := (Kept.refl _ _).alloc _
 have hsw' : w.heap.size ≤ W3.heap.size := hsw.out
 have hs3 : W3.heap.size ≤ w4.heap.size := hk4.size
 have ht' : W3.heap.size ≤ t := ht
 have hg' : W3.heap.size ≤ g := hg
 have htl := (HO.out : RowAt w 128 1 (.slice ta n tc) n xs).lt
 have hk6 := hmv6.keptOf
 have hn6 := hmv6.fresh
 have hs5 : w4.heap.size ≤ (w4.alloc (.cells #[.pointer (some ⟨t, 0, none⟩)] 128)).heap.size := hk5.size
 have hP6 := hk6.heap (hk5.heap (hk4.heap HP3.out (fun x => x)) (fun x => x)) HTP.out
 have hT6 := hk6.heap (hk5.heap hT4 (fun x => x)) (fun e => by have := htl _ e; omega)
 have hG6 := hk6.heap (hk5.heap hG4 (fun x => x)) (fun e => by have := htl _ e; omega)
 have htlt := lt_of_block hT4
 have hglt := lt_of_block hG4
 have e7 := Kept.set1 W6 p 4 (.slice ao2 (n + 1) c2)
 have HP7 : Hid ((W6.setCell ⟨p, 4, none⟩ (.slice ao2 (n + 1) c2)).heap[p]? = some (.cells #[.int .i32 1, v1, .int .i64 (c + 1), v3, .slice ao2 (n + 1) c2, .int .i64 ((lv : Int) + 1), v6, v7, v8] 127 (0, 0))) := block_setCell hP6 _
 have HT7 : Hid _ := e7.heap hT6 (fun e => by unfold Blk at e; omega)
 have HG7 : Hid _ := e7.heap hG6 (fun e => by unfold Blk at e; omega)
 have hnp : ∀ k, (Value.slice ao2 (n + 1) c2).ownBlock = some k → k ≠ p := fun k hk e => by
  rcases hn6 k hk with h | h
  ·exact HTP.out (by rw [h, e])
  ·omega
 have HO7 : Hid (RowAt (W6.setCell ⟨p, 4, none⟩ (.slice ao2 (n + 1) c2)) 128 1 (.slice ao2 (n + 1) c2) (n + 1) (xs ++ [.pointer (some ⟨t, 0, none⟩)])) := hown6.kept e7 hnp
 have HN7 : Hid (∀ k, (Value.slice ao2 (n + 1) c2).ownBlock = some k → (Value.slice ta n tc).ownBlock = some k ∨ (w.heap.size ≤ k ∧ k ≠ t ∧ k ≠ g)) := fun k hk => by
  rcases hn6 k hk with h | h
  ·exact .inl h
  ·right; refine ⟨by omega, by omega, by omega⟩
 have HK7 : Hid (Kept (fun k => k = p ∨ (Value.slice ta n tc).ownBlock = some k) w (W6.setCell ⟨p, 4, none⟩ (.slice ao2 (n + 1) c2))) :=
  (((((HK3.out.drew.trans' (hk4.mono (fun _ x => x.elim))).trans' (hk5.mono (fun _ x => x.elim))).mono (fun k (x : k = p) => Or.inl x)).trans hk6 (fun i x => .inl (.inr x)))).setCell (p := ⟨p, 4, none⟩) (.inl (.inl rfl)) _
 have HNP : Hid _ := hnp
 have hwt : Hid (w.heap.size ≤ t ∧ w.heap.size ≤ g ∧ t ≠ g) := ⟨by omega, by omega, htg⟩
 have htp : Hid (t ≠ p ∧ g ≠ p) := ⟨by omega, by omega⟩
 have rt : W6.cell? ⟨t, 0, none⟩ = some (.int .i64 ((n : Int) + 1)) := by rw [cell_at hT6]; rfl
 have htpne : ¬ t = p := htp.out.1
 clear hk5 hk6 hn6 hP6 hT6 hG6 e7 hnp hmv6 hown6 hk4 p4 pl4 htl hpl htlt hglt htg hT4 hG4
 go_wp2_with fail
 generalize W6.setCell ⟨p, 4, none⟩ (.slice ao2 (n + 1) c2) = W7 at *
 refine leaves_cons (f := 60) (args := #[.pointer (some ⟨p, 0, none⟩)]) (by simp) (by simp [go_sem]) ?_
 refine (unlock_deferred Tryz.muLib ⟨p, 0, none⟩ .returning _ (by rw [cell_at HP7.out]; rfl) (frozen_at HP7.out _)).mono ?_
 rintro e u' w'' ⟨rfl, rfl, rfl⟩
 have e8 := Kept.set1 W7 p 0 (.int .i32 0)
 refine ⟨_, results_tmp2 rfl _ _ _, .slice ao2 (n + 1) c2, t, g, ?_, block_setCell HP7.out _, (HO7.out : RowAt W7 128 1 (.slice ao2 (n + 1) c2) (n + 1) (xs ++ [.pointer (some ⟨t, 0, none⟩)])).kept e8 HNP.out, hwt.out.1, hwt.out.2.1, hwt.out.2.2, e8.heap HT7.out htp.out.1, e8.heap HG7.out htp.out.2, HN7.out, HK7.out.setCell (p := ⟨p, 0, none⟩) (.inl (.inl rfl)) _⟩
 first | rfl | (simp; done)
end Go.Proofs.YtmcajfefagdbnaaGreat
namespace Go.Proofs.YtmcajfefagdbnaaGreat
open Go Go.RowKit Go.Sort Go.Lib
def CutP0 (f : Act) (R : World → Prop) (a : Act) (w : World) : Prop := a = f ∧ R w
def CutP1 {X : Type} (f : X → Act) (R : X → World → Prop) (a : Act) (w : World) : Prop := ∃ x, a = f x ∧ R x w
def CutP2 {X Y : Type} (f : X → Y → Act) (R : X → Y → World → Prop) (a : Act) (w : World) : Prop := ∃ x y, a = f x y ∧ R x y w
theorem cut0 {P : Program} {c : Code} {K : Act → World → Prop} {Q : Exit → Act → World → Prop} {a : Act} {w : World} (f : Act) (R : World → Prop) (h1 : c.wp P (Exit.then (CutP0 f R) Q) a w) (h2 : ∀ w', R w' → Exit.then K Q .normal f w') : c.wp P (Exit.then K Q) a w :=
 Code.wp_mono (by intro e a w h; cases e <;> first | exact h | (obtain ⟨rfl, h⟩ := h; exact h2 _ h)) h1
theorem cut1 {P : Program} {c : Code} {K : Act → World → Prop} {Q : Exit → Act → World → Prop} {a : Act} {w : World} {X : Type} (f : X → Act) (R : X → World → Prop) (h1 : c.wp P (Exit.then (CutP1 f R) Q) a w) (h2 : ∀ x w', R x w' → Exit.then K Q .normal (f x) w') : c.wp P (Exit.then K Q) a w :=
 Code.wp_mono (by intro e a w h; cases e <;> first | exact h | (obtain ⟨x, rfl, h⟩ := h; exact h2 _ _ h)) h1
theorem cut2 {P : Program} {c : Code} {K : Act → World → Prop} {Q : Exit → Act → World → Prop} {a : Act} {w : World} {X Y : Type} (f : X → Y → Act) (R : X → Y → World → Prop) (h1 : c.wp P (Exit.then (CutP2 f R) Q) a w) (h2 : ∀ x y w', R x y w' → Exit.then K Q .normal (f x y) w') : c.wp P (Exit.then K Q) a w :=
 Code.wp_mono (by intro e a w h; cases e <;> first | exact h | (obtain ⟨x, y, rfl, h⟩ := h; exact h2 _ _ _ h)) h1
theorem conf_confl {i j : Nat} (h : j ≠ i) (m a : Int) : confl ((i : Int), m) ((j : Int), a) = conf a m := by
 have : ((i : Int) != (j : Int)) = true := by simp; omega
 simp only [confl, this, Bool.true_and, conf, Bool.or_comm]
theorem woundL_hit {s : St} {i : Nat} {k m : Int} {l1 : List (Int × Int)} (h1 : HoldsL (holdF s.lk) k l1) (j : Nat) :
  woundL s i m (qcast (s.lk k).q) (woundL s i m l1 s.tx) j = if s.hit i k m j then { s.tx j with wounded := true } else s.tx j := by
 have a1 : (l1.any fun x => decide (x.1 = (j : Int)) && confl ((i : Int), m) x && decide ((s.tx i).stamp < (s.tx j).stamp)) = (j != i && decide ((s.tx i).stamp < (s.tx j).stamp) && ((s.lk k).h j != 0 && conf ((s.lk k).h j) m)) := by
  rw [Bool.eq_iff_iff]
  simp only [List.any_eq_true, Bool.and_eq_true, decide_eq_true_eq, bne_iff_ne, ne_eq]
  constructor
  ·rintro ⟨⟨t, a⟩, hx, ⟨ht, hc⟩, hs⟩
   simp only at ht
   subst ht
   have hh := (h1.2 _ _).1 hx
   unfold holdF at hh
   split at hh
   ·rename_i h0
    simp only [Int.toNat_natCast, ne_eq, Option.some.injEq] at h0 hh
    subst hh
    have hji : j ≠ i := fun e => by subst e; simp [confl] at hc
    rw [conf_confl hji] at hc
    exact ⟨⟨hji, hs⟩, h0.2, hc⟩
   ·cases hh
  ·rintro ⟨⟨hji, hs⟩, h0, hc⟩
   exact ⟨((j : Int), (s.lk k).h j), (h1.2 _ _).2 (by simp [holdF, h0]), ⟨rfl, by rw [conf_confl hji]; exact hc⟩, hs⟩
 have a2 : ((qcast (s.lk k).q).any fun x => decide (x.1 = (j : Int)) && confl ((i : Int), m) x && decide ((s.tx i).stamp < (s.tx j).stamp)) = (j != i && decide ((s.tx i).stamp < (s.tx j).stamp) && ((s.lk k).q.any fun x => x.1 == j && conf x.2 m)) := by
  rw [Bool.eq_iff_iff]
  simp only [List.any_eq_true, Bool.and_eq_true, decide_eq_true_eq, bne_iff_ne, ne_eq, beq_iff_eq]
  constructor
  ·rintro ⟨x, hx, ⟨ht, hc⟩, hs⟩
   obtain ⟨y, hy, rfl⟩ := List.mem_map.1 hx
   have hyj : y.1 = j := by simp only at ht; omega
   have hji : j ≠ i := fun e => by subst e; subst hyj; simp [confl] at hc
   subst hyj
   rw [conf_confl hji] at hc
   exact ⟨⟨hji, hs⟩, y, hy, rfl, hc⟩
  ·rintro ⟨⟨hji, hs⟩, y, hy, hyj, hc⟩
   subst hyj
   exact ⟨((y.1 : Int), y.2), List.mem_map.2 ⟨y, hy, rfl⟩, ⟨rfl, by rw [conf_confl hji]; exact hc⟩, hs⟩
 have e0 : s.hit i k m j = ((j != i && decide ((s.tx i).stamp < (s.tx j).stamp)) && (((s.lk k).h j != 0 && conf ((s.lk k).h j) m) || ((s.lk k).q.any fun x => x.1 == j && conf x.2 m))) := rfl
 have key : ∀ (a b c : Bool) (t : Tx), (if (a && c) = true then { (if (a && b) = true then { t with wounded := true } else t) with wounded := true } else (if (a && b) = true then { t with wounded := true } else t)) = if (a && (b || c)) = true then { t with wounded := true } else t := by
  intro a b c t
  cases a <;> cases b <;> cases c <;> rfl
 unfold woundL
 rw [a1, a2, e0]
 exact key _ _ _ _
theorem PSt.appendQ {L : Lay} {bs : Nat → Nat} {A : List Nat} {ow : Ow} {m : Nat} {mu lv : Int} {s : St} {W Wa w1 : World} (h : PSt L bs A ow m mu lv s W) (row : Int) (hr : inI row) (i : Nat) (hi : i ∈ A) (md : Int) {v : Value} {ao : Option Addr} {c n : Nat} (hn : (s.lk row).q.length = n) (hv : RowT ow (7, row) W 107 2 v n (lkc (qcast (s.lk row).q)))
  (hka : Kept NoBlk W Wa) (hmv : Moved Wa w1 v (.slice ao (n + 1) c) (n + 1)) (hrow : RowAt w1 107 2 (.slice ao (n + 1) c) (n + 1) (lkc (qcast (s.lk row).q) ++ [.int .i64 (i : Int), .int .i64 md])) (hm : m < 2305843009213693952) :
  ∃ w2, (Instr.mapUpdate 125 (.map (some L.qb)) (.int .i64 row) (.slice ao (n + 1) c)).run Tryz.prog w1 = .ok () w2 ∧ PSt L bs A (giveAll ow W.heap.size w2.heap.size (7, row)) (m + 1) mu lv (s.withLk (upd s.lk row ⟨(s.lk row).h, (s.lk row).q ++ [(i, md)]⟩)) w2 ∧ Kept (fun b => ow b = (4, 0) ∨ ow b = (7, row)) W w2 := by
 obtain ⟨qf, q1, q2⟩ := h.que
 have t4 := h.tags.2.2.2
 have hk1 : Kept (fun b => ow b = (7, row)) W w1 := (hka.mono (fun _ x => x.elim)).trans hmv.keptOf (fun b e => .inl (hv.2 b e))
 have hqg : ¬ ow L.qb = (7, row) := fun e => by rw [t4] at e; exact tagNe (by omega) e
 obtain ⟨w2, hrun, hm', hk, hsz⟩ := (q1.kept hk1 hqg).store Tryz.underlying125 (by have := L.q0.isLt; unfold maxLen; omega) (a := row) hr (.slice ao (n + 1) c)
 have hkk : Kept (fun b => ow b = (4, 0) ∨ ow b = (7, row)) W w2 := (hk1.mono (fun b e => .inr e)).trans hk (fun b e => .inl (by cases e; exact .inl t4))
 have hag := giveAll_agree ow W w2.heap.size (7, row)
 have hle : W.heap.size ≤ w2.heap.size := hkk.size
 refine ⟨w2, hrun, h.turnQueue row hkk hag (giveAll_lt hle) (Nat.le_succ _) ⟨put qf row (some (.slice ao (n + 1) c)), hm'.mono (by omega), fun k' => ?_⟩ (fun k' => ?_) (fun k' x hx => ?_), hkk⟩
 ·by_cases e : k' = row
  ·subst e
   rw [upd_same]
   simp only [put, if_true]
   show RowT _ (7, k') w2 _ 2 _ ((s.lk k').q ++ [(i, md)]).length (lkc (qcast ((s.lk k').q ++ [(i, md)])))
   have e1 : ((s.lk k').q ++ [(i, md)]).length = n + 1 := by rw [List.length_append, hn]; rfl
   have e2 : lkc (qcast ((s.lk k').q ++ [(i, md)])) = lkc (qcast (s.lk k').q) ++ [.int .i64 (i : Int), .int .i64 md] := by simp [qcast, lkc]
   rw [e1, e2]
   refine ⟨hrow.kept hk (fun b hb e => ?_), fun b hb => ?_⟩
   ·rcases hmv.fresh b hb with x | x
    ·have := hv.2 b x; cases e; exact hqg this
    ·have h1 := q1.lt; have h2 := hka.size; unfold Blk at e; omega
   ·rcases hmv.fresh b hb with x | x
    ·rw [hag b (hv.1.lt b x)]; exact hv.2 b x
    ·exact giveAll_new (Nat.le_trans hka.size x) (by rw [hsz]; exact hrow.lt b hb)
  ·rw [upd_other _ _ _ _ e]
   simp only [put, if_neg e]
   refine (q2 k').kept hag (fun j hj ej => hkk.block j hj (fun x => ?_))
   rcases x with x | x
   ·rw [ej] at x; exact tagNe (by omega) x
   ·rw [ej] at x; simp only [Prod.mk.injEq, true_and] at x; exact e x
 ·by_cases e : k' = row
  ·subst e; rw [upd_same]
  ·rw [upd_other _ _ _ _ e]
 ·by_cases e : k' = row
  ·subst e
   rw [upd_same] at hx
   rcases List.mem_append.1 hx with hx | hx
   ·exact h.qdom k' x hx
   ·simp at hx; subst hx; exact ⟨hr, hi⟩
  ·rw [upd_other _ _ _ _ e] at hx; exact h.qdom k' x hx
theorem enq_tx {s : St} {i : Nat} {k m : Int} {l1 : List (Int × Int)} (h1 : HoldsL (holdF s.lk) k l1) : (s.enq i k m).tx = upd (woundL s i m (qcast (s.lk k).q) (woundL s i m l1 s.tx)) i { woundL s i m (qcast (s.lk k).q) (woundL s i m l1 s.tx) i with waits := some k } := by
 funext j
 have hh := woundL_hit (m := m) (i := i) h1
 show (if j = i then { s.tx j with waits := some k } else if s.hit i k m j then { s.tx j with wounded := true } else s.tx j) = _
 by_cases e : j = i
 ·subst e
  rw [if_pos rfl, upd_same, hh j]
  have : s.hit j k m j = false := by simp [St.hit]
  rw [this]
  rfl
 ·rw [if_neg e, upd_other _ _ _ _ e, hh j]
set_option maxRecDepth 20000 in
set_option maxHeartbeats 6400000 in
theorem pwait {L : Lay} {bs : Nat → Nat} {A : List Nat} {ow : Ow} {m : Nat} {mu lv : Int} {s : St} {w : World} (h : PSt L bs A ow m mu lv s w) (row : Int) (hr : inI row) (i : Nat) (hi : i ∈ A) (md : Int) (honce : ((s.lk row).q.map (·.1)).Nodup) (hmm : m + 1000 ≤ 1099511627776) :
  Calls Tryz.prog 95 #[.pointer (some ⟨L.p, 0, none⟩), .int .i64 row, .agg #[.int .i64 (i : Int), .int .i64 md]] w fun e w' => e = .returned (.tuple #[]) ∧ (∃ ow', PSt L bs A ow' (m + 1) mu lv (s.enq i row md) w' ∧ AgreeP w ow ow') ∧ Kept (OwnP ow) w w' := by
 have hin := h.among i hi
 have hk0 : Kept NoBlk w (w.alloc (.cells #[.int .i64 (i : Int), .int .i64 md] 107)) := (Kept.refl _ _).alloc _
 have h0 := h.kept0 hk0
 obtain ⟨g2, off2, cc, p4, pp⟩ := h0.ptr (i := i) hin.1 hin.2
 have hfd := find_some L.p g2 off2 s.n cc i (bs i) _ p4 pp hin.1 hin.2 h.nmax
 obtain ⟨u, tv, wv, b1, c3, c6, c7, c4, b2⟩ := h0.cells
 have hho := holders_any L.p L.hb m row (holdF s.lk) _ c6 h0.hold hr (holdF_ok h0) (holdF_few h0 row)
 have HH : Hid (PSt L bs A ow m mu lv s w) := h
 have HIN : Hid (1 ≤ i ∧ i ≤ s.n) := hin
 clear b1 c3 c4 b2 p4 pp h h0
 go_enter Tryz.func95, Tryz.ntmps95
 go_wp2_with fail
 refine hfd.mono ?_
 rintro e w1 ⟨rfl, rfl⟩
 have hst0 : PSt L bs A ow m mu lv s (w.alloc (.cells #[.int .i64 (i : Int), .int .i64 md] 107)) := PSt.kept0 HH.out hk0
 have HK0 : Hid (Kept NoBlk w (w.alloc (.cells #[.int .i64 (i : Int), .int .i64 md] 107))) := hk0
 have hbx := block_alloc_new w (.cells #[.int .i64 (i : Int), .int .i64 md] 107)
 have HBX : Hid ((w.alloc (.cells #[.int .i64 (i : Int), .int .i64 md] 107)).heap[w.heap.size]? = some (.cells #[.int .i64 (i : Int), .int .i64 md] 107 (0, 0))) := hbx
 go_wp2_with fail
 clear hk0 hbx hfd
 generalize w.alloc (.cells #[.int .i64 (i : Int), .int .i64 md] 107) = W0 at *
 have HW0 : Hid (∀ j : Int, ow w.heap.size ≠ (8, j)) := fun j e => by
  have := (HH.out : PSt L bs A ow m mu lv s w).lt w.heap.size (by rw [e]; exact tagNe (by omega))
  omega
 have b0 : W0.cell? ⟨w.heap.size, 0, none⟩ = some (.int .i64 (i : Int)) := by rw [cell_at HBX.out]; rfl
 have b1 : W0.cell? ⟨w.heap.size, 1, none⟩ = some (.int .i64 md) := by rw [cell_at HBX.out]; rfl
 have hst1 : PSt L bs A ow m mu lv s W0.drew := hst0.of_same (Nat.le_refl _) (fun _ _ => rfl)
 have hho := holders_any L.p L.hb m row (holdF s.lk) W0.drew c6 hst1.hold hr (holdF_ok hst1) (holdF_few hst1 row)
 have HST1 : Hid (PSt L bs A ow m mu lv s W0.drew) := hst1
 have HB0 : Hid (W0.drew.cell? ⟨w.heap.size, 0, none⟩ = some (.int .i64 (i : Int)) ∧ W0.drew.cell? ⟨w.heap.size, 1, none⟩ = some (.int .i64 md)) := ⟨b0, b1⟩
 have HWD : Hid (∀ w2 v l, w2.ownsRow 0 107 2 v l.length (lkc l) → (∀ b, v.ownBlock = some b → W0.drew.heap.size ≤ b) → HoldsL (holdF s.lk) row l → Kept NoBlk W0.drew w2 → Calls Tryz.prog 131 #[.pointer (some ⟨L.p, 0, none⟩), v, .pointer (some ⟨bs i, 0, none⟩), .agg #[.int .i64 (i : Int), .int .i64 md]] w2 fun e w' => e = .returned (.tuple #[]) ∧ PSt L bs A ow m mu lv (s.withTx (woundL s i md l s.tx)) w' ∧ Kept (fun k => ∃ j : Int, ow k = (8, j)) W0.drew w') := by
  intro w2 v l ho hb hl hk
  have hp : PSt L bs A ow m mu lv s W0.drew := HST1.out
  have hf := holdF_few hp row (l.map Prod.fst) (by rw [List.Nodup, List.pairwise_map]; exact hl.1.imp (fun {a b} h => by omega)) (fun t ht => by
   obtain ⟨x, hx, rfl⟩ := List.mem_map.1 ht
   rw [(hl.2 x.1 x.2).1 hx]
   rfl)
  rw [List.length_map] at hf
  refine (pwound (s := s) (tx1 := s.tx) (hp.kept0 hk) (fun _ => rfl) i HIN.out md v l (RowAt.owns ho) (by omega) (fun b hb' j e => ?_) (fun x hx => ?_)).mono (fun e w' hh => ⟨hh.1, hh.2.1, (hk.mono (fun _ x => x.elim)).trans' hh.2.2⟩)
  ·have h1 := hb b hb'
   have h2 := hp.lt b (by rw [e]; exact tagNe (by omega))
   omega
  ·have h1 := (hl.2 x.1 x.2).1 hx
   unfold holdF at h1
   split at h1
   ·rename_i h0
    have h2 := hp.among _ (hp.hdom _ _ h0.2).2
    refine ⟨x.1.toNat, ?_, h2.1, h2.2⟩
    have := h0.1
    simp only at this
    omega
   ·cases h1
 clear hst0 hst1
 refine' cut1 (X := Value) _ (fun _ w3 => ∃ l, HoldsL (holdF s.lk) row l ∧ PSt L bs A ow m mu lv (s.withTx (woundL s i md l s.tx)) w3 ∧ Kept (fun k => ∃ j : Int, ow k = (8, j)) W0.drew w3) ?_ ?_
 rotate_left
 ·go_region_law (first
   | (go_simp; go_at_call 66; refine hho.mono ?_; rintro e w2 ⟨v, l, rfl, hown2, hbl2, hl2, hk2⟩; have q0 := hk2.cell0 HB0.out.1; have q1 := hk2.cell0 HB0.out.2)
   | (go_simp; go_at_call 131; refine (HWD.out _ _ _ hown2 hbl2 hl2 hk2).mono ?_; rintro e w3 ⟨rfl, hst3, hk3⟩))
  all_goals (refine ⟨v, ?_, l, hl2, hst3, hk3⟩; exact rfl)
 rintro v w3 ⟨l, hl2, hst3, hk3⟩
 have HL2 : Hid (HoldsL (holdF s.lk) row l) := hl2
 have HK3 : Hid (Kept (fun k => ∃ j : Int, ow k = (8, j)) W0 w3) := ⟨hk3.os, hk3.tape, hk3.output, hk3.size, hk3.block⟩
 have z0 : w3.cell? ⟨w.heap.size, 0, none⟩ = some (.int .i64 (i : Int)) := hk3.cell HB0.out.1 (fun e => by obtain ⟨j, e⟩ := e; exact HW0.out j e)
 have z1 : w3.cell? ⟨w.heap.size, 1, none⟩ = some (.int .i64 md) := hk3.cell HB0.out.2 (fun e => by obtain ⟨j, e⟩ := e; exact HW0.out j e)
 obtain ⟨v2, hlook, hrow⟩ := hst3.queueAt row hr
 obtain ⟨ao, c, rfl, _, _⟩ := hrow.1.form
 obtain ⟨_, _, _, _, _, _, c73, _, _⟩ := hst3.cells
 have hl3 : (Instr.lookup 125 (.map (some L.qb)) (.int .i64 row) false).run Tryz.prog w3.drew = .ok (.slice ao (s.lk row).q.length c) w3.drew := hlook w3.drew rfl
 have HST3 : Hid (PSt L bs A ow m mu lv (s.withTx (woundL s i md l s.tx)) w3) := hst3
 have hqlen : (s.lk row).q.length ≤ 12 := (HH.out : PSt L bs A ow m mu lv s w).queueLen row honce
 have HWD2 : Hid (Calls Tryz.prog 131 #[.pointer (some ⟨L.p, 0, none⟩), .slice ao (s.lk row).q.length c, .pointer (some ⟨bs i, 0, none⟩), .agg #[.int .i64 (i : Int), .int .i64 md]] w3.drew fun e w' => e = .returned (.tuple #[]) ∧ PSt L bs A ow m mu lv (s.withTx (woundL s i md (qcast (s.lk row).q) (woundL s i md l s.tx))) w' ∧ Kept (fun k => ∃ j : Int, ow k = (8, j)) w3.drew w') := by
  have hp : PSt L bs A ow m mu lv (s.withTx (woundL s i md l s.tx)) w3.drew := hst3.of_same (Nat.le_refl _) (fun _ _ => rfl)
  have e1 : (qcast (s.lk row).q).length = (s.lk row).q.length := by simp [qcast]
  have hra : RowAt w3.drew 107 2 (.slice ao (s.lk row).q.length c) (qcast (s.lk row).q).length (lkc (qcast (s.lk row).q)) := by rw [e1]; exact hrow.1.of_block (fun _ _ => rfl)
  refine pwound (s := s) hp (fun j => woundL_stamp _ _ _ _ _ _) i HIN.out md _ (qcast (s.lk row).q) hra (by rw [e1]; omega) (fun b hb j e => ?_) (fun x hx => ?_)
  ·have := hrow.2 b hb; rw [this] at e; exact tagNe (by omega) e
  ·obtain ⟨y, hy, rfl⟩ := List.mem_map.1 hx
   have h2 := (HH.out : PSt L bs A ow m mu lv s w).among _ ((HH.out : PSt L bs A ow m mu lv s w).qdom row y hy).2
   exact ⟨y.1, rfl, h2.1, h2.2⟩
 clear hk3 hst3 hl2 hho hlook hrow b0 b1 c6 c7
 go_wp2_with fail
 refine' cut0 _ (fun w4 => PSt L bs A ow m mu lv (s.withTx (woundL s i md (qcast (s.lk row).q) (woundL s i md l s.tx))) w4 ∧ Kept (fun k => ∃ j : Int, ow k = (8, j)) w3.drew w4) ?_ ?_
 rotate_left
 ·go_region_law (go_simp; go_at_call 131; refine HWD2.out.mono ?_; rintro e w4 ⟨rfl, hst4, hk4⟩)
  all_goals (refine ⟨?_, hst4, hk4⟩; exact rfl)
 rintro w4 ⟨hst4, hk4⟩
 have HK4 : Hid (Kept (fun k => ∃ j : Int, ow k = (8, j)) W0 w4) := HK3.out.trans' ⟨hk4.os, hk4.tape, hk4.output, hk4.size, hk4.block⟩
 have y0 : w4.cell? ⟨w.heap.size, 0, none⟩ = some (.int .i64 (i : Int)) := hk4.cell (show w3.drew.cell? _ = _ from z0) (fun e => by obtain ⟨j, e⟩ := e; exact HW0.out j e)
 have y1 : w4.cell? ⟨w.heap.size, 1, none⟩ = some (.int .i64 md) := hk4.cell (show w3.drew.cell? _ = _ from z1) (fun e => by obtain ⟨j, e⟩ := e; exact HW0.out j e)
 clear hl3 z0 z1 hk4 c73
 obtain ⟨v2, hlook, hrow⟩ := hst4.queueAt row hr
 obtain ⟨ao4, c4, rfl, _, _⟩ := hrow.1.form
 obtain ⟨_, _, _, _, _, _, c74, _, _⟩ := hst4.cells
 have HLK : Hid (∀ W : World, W.heap = w4.heap → (Instr.lookup 125 (.map (some L.qb)) (.int .i64 row) false).run Tryz.prog W = .ok (.slice ao4 (s.lk row).q.length c4) W) := hlook
 have hl4 := HLK.out w4.drew rfl
 have HST4 : Hid (PSt L bs A ow m mu lv (s.withTx (woundL s i md (qcast (s.lk row).q) (woundL s i md l s.tx))) w4) := hst4
 have HROW4 : Hid (RowT ow (7, row) w4 107 2 (.slice ao4 (s.lk row).q.length c4) (s.lk row).q.length (lkc (qcast (s.lk row).q))) := hrow
 have hl5 : ∀ o, (Instr.lookup 125 (.map (some L.qb)) (.int .i64 row) false).run Tryz.prog (w4.alloc o).drew = .ok (.slice ao4 (s.lk row).q.length c4) (w4.alloc o).drew := fun o => by
  have hal : PSt L bs A ow m mu lv (s.withTx (woundL s i md (qcast (s.lk row).q) (woundL s i md l s.tx))) (w4.alloc o).drew := hst4.kept0 ((Kept.refl _ _).alloc o).drew
  obtain ⟨qf, q1, _⟩ := hst4.que
  have e1 := q1.look Tryz.underlying125 (zeroLks _) (a := row) hr
  have e2 := (q1.kept ((Kept.refl NoBlk w4).alloc o).drew (fun x => x)).look Tryz.underlying125 (zeroLks _) (a := row) hr
  have e3 : (Instr.lookup 125 (.map (some L.qb)) (.int .i64 row) false).run Tryz.prog w4 = .ok (.slice ao4 (s.lk row).q.length c4) w4 := hlook w4 rfl
  have e4 : (qf row).getD (.slice none 0 0) = .slice ao4 (s.lk row).q.length c4 := by
   have := (show (Instr.lookup 125 (.map (some L.qb)) (.int .i64 row) false).run Tryz.prog w4 = _ from e1).symm.trans e3
   simpa using this
  rw [e4] at e2
  exact e2
 have c75 : ∀ o, (w4.alloc o).cell? ⟨L.p, 7, none⟩ = some (.map (some L.qb)) := fun o => ((Kept.refl NoBlk w4).alloc o).cell0 c74
 have y00 : ∀ o, (w4.alloc o).cell? ⟨w.heap.size, 0, none⟩ = some (.int .i64 (i : Int)) := fun o => ((Kept.refl NoBlk w4).alloc o).cell0 y0
 have y11 : ∀ o, (w4.alloc o).cell? ⟨w.heap.size, 1, none⟩ = some (.int .i64 md) := fun o => ((Kept.refl NoBlk w4).alloc o).cell0 y1
 obtain ⟨i1, hi1, hy0, hy1, hy2⟩ := info_parts infoLk
 have HI : Hid (Tryz.prog.info? 107 = some i1 ∧ i1.zero = some (.agg #[.int .i64 0, .int .i64 0]) ∧ i1.size = 2 ∧ i1.bytes = 16) := ⟨hi1, hy0, hy1, hy2⟩
 have HB5 : Hid ((s.lk row).q.length + 1 ≤ maxLen) := by unfold Hid maxLen; omega
 have HB6 : Hid (((s.lk row).q.length + 1) * 16 ≤ 140737488355328) := by unfold Hid; omega
 have HMM : Hid (m < 2305843009213693952) := by unfold Hid; omega
 have HIA : Hid (i ∈ A) := hi
 have HRI : Hid (inI row) := hr
 have HC74 : Hid (w4.cell? ⟨L.p, 7, none⟩ = some (.map (some L.qb))) := c74
 have HPQ : Hid (¬ (Value.slice ao4 (s.lk row).q.length c4).ownBlock = some L.p) := fun e => by have := hrow.2 _ e; rw [hst4.tags.1] at this; exact tagNe (by omega) this
 clear hst4 hrow hi1 hy0 hy1 hy2 hlook
 go_wp2_with fail
 refine' cut2 (X := Option Addr) (Y := Nat) _ (fun _ _ w6 => PSt L bs A (giveAll ow w4.heap.size w6.heap.size (7, row)) (m + 1) mu lv
  ((s.withTx (woundL s i md (qcast (s.lk row).q) (woundL s i md l s.tx))).withLk (upd s.lk row { h := (s.lk row).h, q := (s.lk row).q ++ [(i, md)] })) w6 ∧ Kept (fun b => ow b = (4, 0) ∨ ow b = (7, row)) w4 w6) ?_ ?_
 rotate_left
 ·go_region_law (refine step_append_row (by rfl) _ _ 74 (by rfl) 107 i1 _ 2 16 Tryz.underlying74 HI.out.1 HI.out.2.1 HI.out.2.2.1 HI.out.2.2.2 (by rfl) (.slice ao4 (s.lk row).q.length c4) (s.lk row).q.length (lkc (qcast (s.lk row).q)) (by rfl) (RowAt.kept HROW4.out.1 ((Kept.refl NoBlk w4).alloc _).drew (fun _ _ x => x)) (.slice (some ⟨w4.heap.size, 0, none⟩) 1 1) 1 [.int .i64 (i : Int), .int .i64 md] (by rfl) (FromMem.drew (from_new2 w4 _ _ _ rfl rfl)) HB5.out HB6.out ?_; intro ao' c' w5 hrow5 hmv5; obtain ⟨w6, hrun6', hst6, hk6⟩ := PSt.appendQ HST4.out row HRI.out i HIA.out md rfl HROW4.out ((Kept.refl NoBlk w4).alloc _).drew hmv5 hrow5 HMM.out; have hrun6 : (Instr.mapUpdate 125 (.map (some L.qb)) (.int .i64 row) (.slice ao' ((s.lk row).q.length + 1) c')).run Tryz.prog w5 = .ok () w6 := hrun6'; clear hrun6'; have q7 := hmv5.keptOf.cell ((((Kept.refl NoBlk w4).alloc _).drew).cell0 HC74.out) HPQ.out)
  all_goals (refine ⟨ao', c', ?_, hst6, hk6⟩; exact rfl)
 rintro ao' c' w6 ⟨hst6, hk6⟩
 have hI6 : 1 ≤ i ∧ i ≤ s.n := HIN.out
 obtain ⟨ov, rv, dv, y1', y2'⟩ := hst6.txs i hI6.1 hI6.2
 have d7 : w6.cell? ⟨bs i, 7, none⟩ = some (.bool (woundL s i md (qcast (s.lk row).q) (woundL s i md l s.tx) i).waits.isSome) := by rw [cell_at y1']; rfl
 have f7 : w6.frozen? ⟨bs i, 7, none⟩ = false := frozen_at y1' 7
 have HF : Hid ((∃ ow', PSt L bs A ow' (m + 1) mu lv (s.enq i row md) (w6.setCell ⟨bs i, 7, none⟩ (.bool true)) ∧ AgreeP w ow ow') ∧ Kept (OwnP ow) w (w6.setCell ⟨bs i, 7, none⟩ (.bool true))) := by
  have hsz : w.heap.size ≤ w4.heap.size := Nat.le_trans HK0.out.size HK4.out.size
  obtain ⟨z1, z2⟩ := hst6.setT i hI6 { woundL s i md (qcast (s.lk row).q) (woundL s i md l s.tx) i with waits := some row } (Kept.set1 w6 (bs i) 7 (.bool true)) rfl (fun h0 => ⟨h0, rfl, rfl, rfl⟩) (fun ov rv dv e => ⟨ov, dv, fun _ => ⟨rfl, rfl⟩, block_setCell e _⟩)
  have hk4 : Kept (OwnP ow) w w4 := (HK0.out.mono (fun _ x => x.elim)).trans' (HK4.out.mono (fun b e => by obtain ⟨j, e⟩ := e; unfold OwnP; rw [e]; exact tagNe (by omega)))
  have hk6' : Kept (OwnP ow) w w6 := hk4.trans' (hk6.mono (fun b e => by unfold OwnP; rcases e with e | e <;> (rw [e]; exact tagNe (by omega))))
  have hbo := (HST4.out : PSt L bs A ow m mu lv (s.withTx (woundL s i md (qcast (s.lk row).q) (woundL s i md l s.tx))) w4).ownT (i := i) hI6
  refine ⟨⟨_, z1.congr rfl rfl rfl rfl (enq_tx HL2.out) rfl, ?_⟩, hk6'.trans' ((Kept.set1 w6 (bs i) 7 (.bool true)).mono (fun b e => by cases e; exact hbo.2))⟩
  intro b hb
  exact giveAll_agree ow w4 w6.heap.size (7, row) b (Nat.lt_of_lt_of_le hb hsz)
 clear hst6 hk6 y1' y2' hI6
 go_wp2_with fail
 go_end0
 exact ⟨rfl, HF.out⟩
end Go.Proofs.YtmcajfefagdbnaaGreat
