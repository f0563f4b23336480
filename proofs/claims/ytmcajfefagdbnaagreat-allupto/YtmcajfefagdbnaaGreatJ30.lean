import Derived.Test.YtmcajfefagdbnaaGreatJ07
import Derived.Test.YtmcajfefagdbnaaGreatJ28
import Derived.Deep.RegionHeld3
import Derived.Deep.DrawnRows
namespace Go.Proofs.YtmcajfefagdbnaaGreat
open Go Go.RowKit
open Go.MuLone
theorem PSt.admcells {L : Lay} {bs : Nat → Nat} {A : List Nat} {ow : Ow} {m : Nat} {mu lv : Int} {s : St} {w : World} (h : PSt L bs A ow m mu lv s w) : w.cell? ⟨L.p, 2, none⟩ = some (.int .i64 s.clock) ∧ w.cell? ⟨L.p, 5, none⟩ = some (.int .i64 lv) := by
 obtain ⟨u, tv, wv, b1, _⟩ := h.body
 exact ⟨by rw [cell_at b1]; rfl, by rw [cell_at b1]; rfl⟩
set_option maxRecDepth 20000 in
set_option maxHeartbeats 1600000 in
theorem pAdmit_err {L : Lay} {bs : Nat → Nat} {A : List Nat} {ow : Ow} {m : Nat} {s : St} {lv : Nat} {w : World} (h : PSt L bs A ow m 0 (lv : Int) s w) (v : Value) (l : List Op4) (ho : OpsSrc w v l) (hn : ∀ k, v.ownBlock = some k → ¬ OwnP ow k) (hl : l.length ≤ 1048576) (he : admErr l lv s.clock ≠ 0) :
  Calls Tryz.prog 36 #[.pointer (some ⟨L.p, 0, none⟩), v] w fun e w' => e = .returned (.tuple #[.int .i64 0, .int .i64 (admErr l lv s.clock)]) ∧ PSt L bs A ow m 0 (lv : Int) s w' ∧ Kept (OwnP ow) w w' := by
 obtain ⟨c0, f0⟩ := h.mucell
 have H1 : Hid (PSt L bs A ow m 1 (lv : Int) s (w.setCell ⟨L.p, 0, none⟩ (.int .i32 1))) := h.locked 1
 have HK1 : Hid (Kept (OwnP ow) w (w.setCell ⟨L.p, 0, none⟩ (.int .i32 1))) := h.keptP _
 have HR : Hid (Calls Tryz.prog 73 #[.pointer (some ⟨L.p, 0, none⟩), v] (w.setCell ⟨L.p, 0, none⟩ (.int .i32 1)) fun e w' => e = .returned (.int .i64 (admErr l lv s.clock)) ∧ Kept NoBlk (w.setCell ⟨L.p, 0, none⟩ (.int .i32 1)) w') := refusal_src L.p v l lv s.clock _ (ho.keptB HK1.out hn) hl H1.out.admcells.1 H1.out.admcells.2
 have HKP : Hid (∀ (W : World) (v : Value), Kept (OwnP ow) W (W.setCell ⟨L.p, 0, none⟩ v)) := fun W v => h.keptP v
 have he' : (admErr l lv s.clock != 0) = true := by rw [bne_iff_ne]; exact he
 obtain ⟨ao, cap, rfl, _⟩ := ho
 clear h hn he
 generalize admErr l lv s.clock = er at *
 go_enter_defers Tryz.func36, Tryz.ntmps36
 go_wp2_with fail
 refine (lock_free Tryz.muLib ⟨L.p, 0, none⟩ _ c0 f0).mono ?_
 rintro e w1 ⟨rfl, rfl⟩
 generalize w.setCell ⟨L.p, 0, none⟩ (.int .i32 1) = W1 at *
 go_wp2_with fail
 refine HR.out.mono ?_
 rintro e w2 ⟨rfl, hk2⟩
 have H2 : Hid (PSt L bs A ow m 1 (lv : Int) s w2) := H1.out.kept0 hk2
 have HK2 : Hid (Kept (OwnP ow) w w2) := HK1.out.trans' (hk2.mono (fun _ x => x.elim))
 clear hk2
 go_wp2_with fail
 refine leaves_cons (f := 60) (args := #[.pointer (some ⟨L.p, 0, none⟩)]) (by simp) (by simp [go_sem]) ?_
 refine (unlock_deferred Tryz.muLib ⟨L.p, 0, none⟩ .returning _ H2.out.mucell.1 H2.out.mucell.2).mono ?_
 rintro e u' w'' ⟨rfl, rfl, rfl⟩
 refine ⟨_, results_tmp2 rfl _ _ _, ?_, H2.out.locked 0, HK2.out.trans' (HKP.out _ _)⟩
 first | rfl | (simp; done)
theorem infoPtx2 : (Tryz.prog.info? 128).map (fun i => (i.zero, i.size, i.bytes)) = some (some (.pointer none), 1, 8) := by kernel_rfl
set_option maxRecDepth 100000 in
set_option maxHeartbeats 3200000 in
theorem pAdmit_walk (p : Nat) (v : Value) (l : List Op4) (n lv : Nat) (c : Int) (v1 v3 tv v6 v7 v8 : Value) (xs : List Value) (w : World) (ho : OpsSrc w v l) (hvp : ∀ k, v.ownBlock = some k → k ≠ p)
  (hp : w.heap[p]? = some (.cells #[.int .i32 0, v1, .int .i64 c, v3, tv, .int .i64 (lv : Int), v6, v7, v8] 127 (0, 0))) (hc0 : 0 ≤ c) (hown : RowAt w 128 1 tv n xs)
  (hl12 : l.length ≤ 12) (hlv : lv < 12) (hnm : n ≤ 1099511627775) (hc1 : c < 1099511627776) (he : admErr l lv c = 0) :
  Calls Tryz.prog 36 #[.pointer (some ⟨p, 0, none⟩), v] w fun e w' => ∃ tv' t g, e = .returned (.tuple #[.int .i64 ((n : Int) + 1), .int .i64 0]) ∧
   w'.heap[p]? = some (.cells #[.int .i32 0, v1, .int .i64 (c + 1), v3, tv', .int .i64 ((lv : Int) + 1), v6, v7, v8] 127 (0, 0)) ∧ RowAt w' 128 1 tv' (n + 1) (xs ++ [.pointer (some ⟨t, 0, none⟩)]) ∧ w.heap.size ≤ t ∧ w.heap.size ≤ g ∧ t ≠ g ∧
   w'.heap[t]? = some (.cells #[.int .i64 ((n : Int) + 1), .slice (some ⟨g, 0, none⟩) l.length l.length, .int .i64 (c + 1), .int .i64 0, .int .i64 0, .int .i64 0, .bool false, .bool false, .int .i64 0, .int .i64 0, .int .i64 0, .int .i64 0, .slice none 0 0, .slice none 0 0] 146 (0, 0)) ∧
   w'.heap[g]? = some (.cells (opCells l).toArray 114 (0, 0)) ∧ (∀ k, tv'.ownBlock = some k → tv.ownBlock = some k ∨ (w.heap.size ≤ k ∧ k ≠ t ∧ k ≠ g)) ∧ Kept (fun k => k = p ∨ tv.ownBlock = some k) w w' := by
 have hp1 : (w.setCell ⟨p, 0, none⟩ (.int .i32 1)).heap[p]? = some (.cells #[.int .i32 1, v1, .int .i64 c, v3, tv, .int .i64 (lv : Int), v6, v7, v8] 127 (0, 0)) := block_setCell hp _
 have hk1 := Kept.set1 w p 0 (.int .i32 1)
 have ho1 := ho.keptB hk1 hvp
 have HP : Hid _ := hp
 have HP1 : Hid _ := hp1
 have HK1 : Hid _ := hk1
 have HVP : Hid (∀ k, v.ownBlock = some k → k ≠ p) := hvp
 have HO1 : Hid (OpsSrc (w.setCell ⟨p, 0, none⟩ (.int .i32 1)) v l) := ho1
 have HR : Hid (Calls Tryz.prog 73 #[.pointer (some ⟨p, 0, none⟩), v] (w.setCell ⟨p, 0, none⟩ (.int .i32 1)) fun e w' => e = .returned (.int .i64 (admErr l lv c)) ∧ Kept NoBlk (w.setCell ⟨p, 0, none⟩ (.int .i32 1)) w') := refusal_src p v l lv c _ ho1 (by omega) (by rw [cell_at hp1]; rfl) (by rw [cell_at hp1]; rfl)
 rw [he] at HR
 have HTP : Hid (tv.ownBlock ≠ some p) := fun e => by
  obtain ⟨cur, hcur⟩ := hown.block e
  exact blocks_apart hcur hp (by decide) rfl
 have HO : Hid (RowAt w 128 1 tv n xs) := hown
 obtain ⟨ao, cap, rfl, _⟩ := ho
 clear hp hp1 hk1 ho1 he hown hvp
 go_enter_defers Tryz.func36, Tryz.ntmps36
 go_wp2_with fail
 refine (lock_free Tryz.muLib ⟨p, 0, none⟩ _ (by rw [cell_at HP.out]; rfl) (frozen_at HP.out _)).mono ?_
 rintro e w1 ⟨rfl, rfl⟩
 generalize w.setCell ⟨p, 0, none⟩ (.int .i32 1) = W1 at *
 go_wp2_with fail
 refine HR.out.mono ?_
 rintro e w2 ⟨rfl, hk2⟩
 have hP2 := hk2.heap HP1.out (fun x => x)
 have HO2 : Hid (OpsSrc w2 (.slice ao l.length cap) l) := (show OpsSrc W1 (.slice ao l.length cap) l from HO1.out).keptB hk2 (fun _ _ x => x)
 have HP2 : Hid _ := hP2
 have HK2 : Hid _ := HK1.out.trans hk2 (fun i x => x.elim)
 have c2 : w2.cell? ⟨p, 2, none⟩ = some (.int .i64 c) := by rw [cell_at hP2]; rfl
 have c5 : w2.cell? ⟨p, 5, none⟩ = some (.int .i64 (lv : Int)) := by rw [cell_at hP2]; rfl
 have f2 : w2.frozen? ⟨p, 2, none⟩ = false := frozen_at hP2 _
 have f5 : w2.frozen? ⟨p, 5, none⟩ = false := frozen_at hP2 _
 clear hk2 hP2
 go_wp2_with fail
 have hp3 : ((w2.setCell ⟨p, 2, none⟩ (.int .i64 (c + 1))).setCell ⟨p, 5, none⟩ (.int .i64 ((lv : Int) + 1))).heap[p]? = some (.cells #[.int .i32 1, v1, .int .i64 (c + 1), v3, tv, .int .i64 ((lv : Int) + 1), v6, v7, v8] 127 (0, 0)) := block_setCell (block_setCell HP2.out _) _
 have hk3 : Kept (Blk p) w2 ((w2.setCell ⟨p, 2, none⟩ (.int .i64 (c + 1))).setCell ⟨p, 5, none⟩ (.int .i64 ((lv : Int) + 1))) := (Kept.set1 w2 p 2 _).trans' (Kept.set1 _ p 5 _)
 have HK3 : Hid _ := HK2.out.trans' hk3
 have HO3 : Hid (OpsSrc ((w2.setCell ⟨p, 2, none⟩ (.int .i64 (c + 1))).setCell ⟨p, 5, none⟩ (.int .i64 ((lv : Int) + 1))) (.slice ao l.length cap) l) := (show OpsSrc w2 (.slice ao l.length cap) l from HO2.out).keptB hk3 HVP.out
 clear c2 c5 f2 f5 hk3
 generalize ((w2.setCell ⟨p, 2, none⟩ (.int .i64 (c + 1))).setCell ⟨p, 5, none⟩ (.int .i64 ((lv : Int) + 1))) = W3 at *
 obtain ⟨ta, tc, rfl, _, _⟩ := (HO.out : RowAt w 128 1 tv n xs).form
 have hown3 : RowAt W3.drew 128 1 (.slice ta n tc) n xs := (HO.out : RowAt w 128 1 (.slice ta n tc) n xs).kept HK3.out.drew (fun k hk e => HTP.out (by rw [hk]; cases e; rfl))
 have HOWN3 : Hid (RowAt W3.drew 128 1 (.slice ta n tc) n xs) := hown3
 have HOS3 : Hid (OpsSrc W3.drew (.slice ao l.length cap) l) := HO3.out
 have HP3 : Hid (W3.drew.heap[p]? = some (.cells #[.int .i32 1, v1, .int .i64 (c + 1), v3, .slice ta n tc, .int .i64 ((lv : Int) + 1), v6, v7, v8] 127 (0, 0))) := hp3
 have d2 : W3.cell? ⟨p, 2, none⟩ = some (.int .i64 (c + 1)) := by rw [cell_at hp3]; rfl
 have d4 : W3.cell? ⟨p, 4, none⟩ = some (.slice ta n tc) := by rw [cell_at hp3]; rfl
 obtain ⟨i1, hi1, hy0, hy1, hy2⟩ := info_parts infoPtx2
 have HI : Hid (Tryz.prog.info? 128 = some i1 ∧ i1.zero = some (.pointer none) ∧ i1.size = 1 ∧ i1.bytes = 8) := ⟨hi1, hy0, hy1, hy2⟩
 have HB5 : Hid ((n + 1) * 8 ≤ 140737488355328) := by unfold Hid; omega
 have HB6 : Hid (n + 1 ≤ maxLen) := by unfold Hid maxLen; omega
 have HLL : Hid (l.length ≤ 1048576) := by unfold Hid; omega
 have hpl : p < W3.heap.size := lt_of_block hp3
 have HWR : Hid (IntKind.wrap .i64 ((n : Int) + 1) = (n : Int) + 1) := by unfold Hid; rw [IntKind.wrap_i64]; omega
 have hsw : Hid (w.heap.size ≤ W3.heap.size) := HK3.out.size
 clear hown3 hp3 HO2 HO1 HP1 HP2 HK1 HK2 hi1 hy0 hy1 hy2 HP HO3 HR
 refine' kcut1 (X := Nat) _ (fun t w4 => ∃ g, W3.heap.size ≤ t ∧ W3.heap.size ≤ g ∧ t ≠ g ∧ w4.heap[t]? = some (.cells #[.int .i64 ((n : Int) + 1), .slice (some ⟨g, 0, none⟩) l.length l.length, .int .i64 (c + 1), .int .i64 0, .int .i64 0, .int .i64 0, .bool false, .bool false, .int .i64 0, .int .i64 0, .int .i64 0, .int .i64 0, .slice none 0 0, .slice none 0 0] 146 (0, 0)) ∧ w4.heap[g]? = some (.cells (opCells l).toArray 114 (0, 0)) ∧ Kept NoBlk W3.drew w4) ?_ ?_
 rotate_left
 ·refine wp_region_noPanic ?_
  go_region_law (go_simp; go_at_call 74; refine (newTransaction_src _ _ l _ _ HOS3.out HLL.out).mono ?_; rintro e w4 ⟨t, g, rfl, ht, hg, htg, hT4, hG4, hk4⟩)
  all_goals
   refine NoPanic.normal ?_
   rw [HWR.out] at hT4
   refine ⟨t, ?_, g, ht, hg, htg, hT4, hG4, hk4⟩
   exact rfl
 rintro t w4 ⟨g, ht, hg, htg, hT4, hG4, hk4⟩
 have p4 := hk4.cell0 (show W3.drew.cell? ⟨p, 4, none⟩ = some (.slice ta n tc) from d4)
 have pl4 := Nat.lt_of_lt_of_le hpl hk4.size
 have HHT : Hid (W3.heap.size ≤ t ∧ W3.heap.size ≤ g ∧ t ≠ g ∧ w4.heap[t]? = some (.cells #[.int .i64 ((n : Int) + 1), .slice (some ⟨g, 0, none⟩) l.length l.length, .int .i64 (c + 1), .int .i64 0, .int .i64 0, .int .i64 0, .bool false, .bool false, .int .i64 0, .int .i64 0, .int .i64 0, .int .i64 0, .slice none 0 0, .slice none 0 0] 146 (0, 0)) ∧ w4.heap[g]? = some (.cells (opCells l).toArray 114 (0, 0)) ∧ Kept NoBlk W3.drew w4) := ⟨ht, hg, htg, hT4, hG4, hk4⟩
 have HP4 : Hid (w4.heap[p]? = some (.cells #[.int .i32 1, v1, .int .i64 (c + 1), v3, .slice ta n tc, .int .i64 ((lv : Int) + 1), v6, v7, v8] 127 (0, 0))) := hk4.heap HP3.out (fun x => x)
 have HOWN4 : Hid (RowAt w4 128 1 (.slice ta n tc) n xs) := RowAt.kept HOWN3.out hk4 (fun _ _ x => x)
 clear ht hg htg hT4 hG4 hk4 d2 d4
 go_wp2_with (at_builtin; refine wpList_append_row (by rfl) _ _ 123 (by rfl) 128 i1 _ 1 8 Tryz.underlying123 HI.out.1 HI.out.2.1 HI.out.2.2.1 HI.out.2.2.2 (by rfl) (.slice ta n tc) n xs (by rfl) (RowAt.kept HOWN4.out ((Kept.refl NoBlk w4).alloc _) (fun _ _ x => x)) (.slice (some ⟨w4.heap.size, 0, none⟩) 1 1) 1 [.pointer (some ⟨t, 0, none⟩)] (by rfl) (from_new1 w4 _ _ rfl) HB6.out HB5.out ?_)
 intro ao2 c2 W6 hown6 hmv6
 have q6 := hmv6.keptOf.cell (((Kept.refl NoBlk w4).alloc _).cell0 p4) HTP.out
 have qf6 : W6.frozen? ⟨p, 4, none⟩ = false := frozen_at (hmv6.keptOf.heap (((Kept.refl NoBlk w4).alloc _).heap HP4.out (fun x => x)) HTP.out) 4
 obtain ⟨ht, hg, htg, hT4, hG4, hk4⟩ := HHT.out
 have hk5 : Kept NoBlk w4 (w4.alloc (.cells #[.pointer (some ⟨t, 0, none⟩)] 128)) := (Kept.refl _ _).alloc _
 have hsw' : w.heap.size ≤ W3.heap.size := hsw.out
 have hs3 : W3.heap.size ≤ w4.heap.size := hk4.size
 have ht' : W3.heap.size ≤ t := ht
 have hg' : W3.heap.size ≤ g := hg
 have htl := (HO.out : RowAt w 128 1 (.slice ta n tc) n xs).lt
 have hk6 := hmv6.keptOf
 have hn6 := hmv6.fresh
 have hs5 : w4.heap.size ≤ (w4.alloc (.cells #[.pointer (some ⟨t, 0, none⟩)] 128)).heap.size := hk5.size
 have hP6 := hk6.heap (hk5.heap (hk4.heap HP3.out (fun x => x)) (fun x => x)) HTP.out
 have hT6 := hk6.heap (hk5.heap hT4 (fun x => x)) (fun e => by have := htl _ e; omega)
 have hG6 := hk6.heap (hk5.heap hG4 (fun x => x)) (fun e => by have := htl _ e; omega)
 have htlt := lt_of_block hT4
 have hglt := lt_of_block hG4
 have e7 := Kept.set1 W6 p 4 (.slice ao2 (n + 1) c2)
 have HP7 : Hid ((W6.setCell ⟨p, 4, none⟩ (.slice ao2 (n + 1) c2)).heap[p]? = some (.cells #[.int .i32 1, v1, .int .i64 (c + 1), v3, .slice ao2 (n + 1) c2, .int .i64 ((lv : Int) + 1), v6, v7, v8] 127 (0, 0))) := block_setCell hP6 _
 have HT7 : Hid _ := e7.heap hT6 (fun e => by unfold Blk at e; omega)
 have HG7 : Hid _ := e7.heap hG6 (fun e => by unfold Blk at e; omega)
 have hnp : ∀ k, (Value.slice ao2 (n + 1) c2).ownBlock = some k → k ≠ p := fun k hk e => by
  rcases hn6 k hk with h | h
  ·exact HTP.out (by rw [h, e])
  ·omega
 have HO7 : Hid (RowAt (W6.setCell ⟨p, 4, none⟩ (.slice ao2 (n + 1) c2)) 128 1 (.slice ao2 (n + 1) c2) (n + 1) (xs ++ [.pointer (some ⟨t, 0, none⟩)])) := hown6.kept e7 hnp
 have HN7 : Hid (∀ k, (Value.slice ao2 (n + 1) c2).ownBlock = some k → (Value.slice ta n tc).ownBlock = some k ∨ (w.heap.size ≤ k ∧ k ≠ t ∧ k ≠ g)) := fun k hk => by
  rcases hn6 k hk with h | h
  ·exact .inl h
  ·right; refine ⟨by omega, by omega, by omega⟩
 have HK7 : Hid (Kept (fun k => k = p ∨ (Value.slice ta n tc).ownBlock = some k) w (W6.setCell ⟨p, 4, none⟩ (.slice ao2 (n + 1) c2))) :=
  (((((HK3.out.drew.trans' (hk4.mono (fun _ x => x.elim))).trans' (hk5.mono (fun _ x => x.elim))).mono (fun k (x : k = p) => Or.inl x)).trans hk6 (fun i x => .inl (.inr x)))).setCell (p := ⟨p, 4, none⟩) (.inl (.inl rfl)) _
 have HNP : Hid _ := hnp
 have hwt : Hid (w.heap.size ≤ t ∧ w.heap.size ≤ g ∧ t ≠ g) := ⟨by omega, by omega, htg⟩
 have htp : Hid (t ≠ p ∧ g ≠ p) := ⟨by omega, by omega⟩
 have rt : W6.cell? ⟨t, 0, none⟩ = some (.int .i64 ((n : Int) + 1)) := by rw [cell_at hT6]; rfl
 have htpne : ¬ t = p := htp.out.1
 clear hk5 hk6 hn6 hP6 hT6 hG6 e7 hnp hmv6 hown6 hk4 p4 pl4 htl hpl htlt hglt htg hT4 hG4
 go_wp2_with fail
 generalize W6.setCell ⟨p, 4, none⟩ (.slice ao2 (n + 1) c2) = W7 at *
 refine leaves_cons (f := 60) (args := #[.pointer (some ⟨p, 0, none⟩)]) (by simp) (by simp [go_sem]) ?_
 refine (unlock_deferred Tryz.muLib ⟨p, 0, none⟩ .returning _ (by rw [cell_at HP7.out]; rfl) (frozen_at HP7.out _)).mono ?_
 rintro e u' w'' ⟨rfl, rfl, rfl⟩
 have e8 := Kept.set1 W7 p 0 (.int .i32 0)
 refine ⟨_, results_tmp2 rfl _ _ _, .slice ao2 (n + 1) c2, t, g, ?_, block_setCell HP7.out _, (HO7.out : RowAt W7 128 1 (.slice ao2 (n + 1) c2) (n + 1) (xs ++ [.pointer (some ⟨t, 0, none⟩)])).kept e8 HNP.out, hwt.out.1, hwt.out.2.1, hwt.out.2.2, e8.heap HT7.out htp.out.1, e8.heap HG7.out htp.out.2, HN7.out, HK7.out.setCell (p := ⟨p, 0, none⟩) (.inl (.inl rfl)) _⟩
 first | rfl | (simp; done)
end Go.Proofs.YtmcajfefagdbnaaGreat
