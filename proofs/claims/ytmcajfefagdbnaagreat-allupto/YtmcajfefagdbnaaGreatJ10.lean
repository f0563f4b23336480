import Derived.Test.YtmcajfefagdbnaaGreatJ08
import Derived.Test.YtmcajfefagdbnaaGreatJ04
import Derived.Test.YtmcajfefagdbnaaGreatJ05
namespace Go.Proofs.YtmcajfefagdbnaaGreat
open Go Go.RowKit
attribute [local go_sem ↓] Go.wp_at_zero Go.wp_at_succ
theorem infoPTxn : (Tryz.prog.info? 149).map (fun i => (i.zero, i.size, i.bytes)) = some (some (.pointer none), 1, 8) := by kernel_rfl
theorem admErr_zero {l : List Op4} {m : Nat} {c : Int} (h : admErr l m c = 0) : l.length ≤ 12 ∧ l.all Op4.ok = true ∧ m < 12 ∧ c < 1099511627776 := by
 unfold admErr at h
 split at h
 ·omega
 ·split at h
  ·omega
  ·split at h
   ·omega
   ·split at h
    ·omega
    ·rename_i h1 h2 h3 h4
     exact ⟨by omega, by simpa using h2, by omega, by omega⟩
set_option maxRecDepth 100000 in
set_option maxHeartbeats 3200000 in
theorem wadmit_ok (p : Nat) (v : Value) (l : List Op4) (m n : Nat) (c : Int) (v0 tv v2 v3 : Value) (xs : List Value) (w : World) (h : OpsSrc w v l) (hbp : 0 < l.length → v.ownBlock ≠ some p) (hn12 : n ≤ 1048576)
  (hp : w.heap[p]? = some (.cells #[v0, tv, v2, v3, .int .i64 c] 47 (0, 0))) (hc0 : 0 ≤ c)
  (hown : w.ownsRow 0 149 1 tv n xs)
  (hlv : Hid (∀ W, Kept NoBlk w W → Calls Tryz.prog 109 #[.pointer (some ⟨p, 0, none⟩)] W fun e w' => e = .returned (.int .i64 m) ∧ w' = W)) (he : admErr l m c = 0) :
  Calls Tryz.prog 77 #[.pointer (some ⟨p, 0, none⟩), v] w fun e w' => ∃ tv' t r ov, e = .returned (.tuple #[.int .i64 ((n : Int) + 1), .int .i64 0]) ∧
   w'.heap[p]? = some (.cells #[v0, tv', v2, v3, .int .i64 (c + 1)] 47 (0, 0)) ∧ w'.ownsRow 0 149 1 tv' (n + 1) (xs ++ [.pointer (some ⟨t, 0, none⟩)]) ∧ w.heap.size ≤ t ∧ w.heap.size ≤ r ∧
   w'.heap[t]? = some (.cells #[.int .i64 (c + 1), .int .i64 0, .int .i64 0, .bool false, .bool false, .int .i64 0, .slice (some ⟨r, 0, none⟩) 4 4, .slice none 0 0, ov, .slice none 0 0] 152 (0, 0)) ∧
   w'.heap[r]? = some (.cells #[.int .i64 0, .int .i64 0, .int .i64 0, .int .i64 0] 3 (0, 0)) ∧ w'.ownsRow 0 114 4 ov l.length (opCells l) ∧ (∀ k, ov.ownBlock = some k → w.heap.size ≤ k) ∧
   (∀ k, tv'.ownBlock = some k → tv.ownBlock = some k ∨ w.heap.size ≤ k) ∧ Kept (fun k => k = p ∨ tv.ownBlock = some k) w w' := by
 obtain ⟨e1, e2, e3, e4⟩ := admErr_zero he
 have HS0 : Hid (OpsSrc w v l) := h
 obtain ⟨ao, cp, rfl, h⟩ := h
 have HL0 : Hid (l.length ≤ 12) := e1
 generalize hn : l.length = n' at h e1 ⊢
 have Hn : Hid _ := hn
 have HP : Hid _ := hp
 have HO : Hid _ := hown
 have HA : Hid _ := e2
 have HBP : Hid _ := hbp
 have HTP : Hid (tv.ownBlock ≠ some p) := fun e => by
  obtain ⟨cur, hcur⟩ := ownsRow_block hown e
  exact blocks_apart hcur hp (by decide) rfl
 clear hn he hp hown e2 hbp
 go_enter Tryz.func77, Tryz.ntmps77
 go_wp2_with fail
 go_loopw [6] (fun i wr => ∃ k : Nat, k ≤ n' ∧ i = .int .i64 k ∧ Kept NoBlk w wr) (fun i _ => n' - (intOf i).toNat)
 case atStart => exact ⟨0, Nat.zero_le _, rfl, Kept.refl _ _⟩
 case round =>
  obtain ⟨k, hk, rfl, hkw⟩ := hrel
  by_cases hlt : k < n'
  ·have hkl : k < l.length := by rw [Hn.out]; exact hlt
   obtain ⟨b, off, rfl, hat⟩ := h (by omega)
   obtain ⟨g0, g1, g2, g3⟩ := (hat.kept hkw (fun x => x)) k hkl
   have Ho : Hid ((l.getD k Op4.z).ok = true) := by
    have := List.all_eq_true.1 HA.out l[k] (List.getElem_mem hkl)
    simp only [Hid, List.getD, List.getElem?_eq_getElem hkl, Option.getD_some]
    exact this
   have Hk : Hid _ := hkw
   clear hkl h hat hkw
   generalize l.getD k Op4.z = o at *
   go_wp2_with fail
   refine (may_any _ _ _ _ _).mono ?_
   rintro e w' ⟨rfl, rfl⟩
   rw [show opB o.k o.a o.b = true from Ho.out]
   go_wp2_with fail
   go_roundw
   case rel => exact ⟨k + 1, by omega, by go_num, Hk.out.alloc _⟩
   case measure => simp [intOf]; omega
  ·have hp := hkw.heap HP.out (fun x => x)
   have hc : wr.cell? ⟨p, 4, none⟩ = some (.int .i64 c) := by rw [cell_at hp]; rfl
   have hf : wr.frozen? ⟨p, 4, none⟩ = false := frozen_at hp _
   have Hk : Hid _ := hkw
   have HP1 : Hid _ := hp
   have hmk : ∀ w, (Instr.makeSlice 45 (.int .i64 4) (.int .i64 4)).run Tryz.prog w = .ok (.slice (some ⟨w.heap.size, 0, none⟩) 4 4) (w.alloc (.cells #[.int .i64 0, .int .i64 0, .int .i64 0, .int .i64 0] 3)) := fun _ => by kernel_rfl
   clear h hkw hp
   go_wp2_with fail
   refine (hlv.out _ Hk.out).mono ?_
   rintro e w' ⟨rfl, rfl⟩
   go_wp2_with fail
   have hb2 : (w'.setCell ⟨p, 4, none⟩ (.int .i64 (c + 1))).heap[p]? = some (.cells #[v0, tv, v2, v3, .int .i64 (c + 1)] 47 (0, 0)) := block_setCell HP1.out _
   have hc2 : (w'.setCell ⟨p, 4, none⟩ (.int .i64 (c + 1))).cell? ⟨p, 4, none⟩ = some (.int .i64 (c + 1)) := by rw [cell_at hb2]; rfl
   have HK2 : Hid (Kept (Blk p) w (w'.setCell ⟨p, 4, none⟩ (.int .i64 (c + 1)))) := (Hk.out.mono (S' := Blk p) (fun _ x => x.elim)).setCell (p := ⟨p, 4, none⟩) (.inl rfl) _
   have HB2 : Hid _ := hb2
   clear hb2 hc hf
   generalize hW : w'.setCell ⟨p, 4, none⟩ (.int .i64 (c + 1)) = W at *
   have HW : Hid _ := hW
   clear hW
   go_region_held3 (fun w' => w'.cell? ⟨p, 4, none⟩ = some (.int .i64 (c + 1))) (go_keep) (fail)
   have hr3 : ((W.alloc (.cells #[.int .i64 0, .int .i64 0, .int .i64 0, .int .i64 0] 3)).alloc (.cells #[.int .i64 (c + 1), .int .i64 0, .int .i64 0, .bool false, .bool false, .int .i64 0, .slice (some ⟨W.heap.size, 0, none⟩) 4 4, .slice none 0 0, .slice none 0 0, .slice none 0 0] 152)).drew.heap[W.heap.size]? = some (.cells #[.int .i64 0, .int .i64 0, .int .i64 0, .int .i64 0] 3 (0, 0)) :=
    block_alloc_old _ (block_alloc_new W _)
   have ht3 : ((W.alloc (.cells #[.int .i64 0, .int .i64 0, .int .i64 0, .int .i64 0] 3)).alloc (.cells #[.int .i64 (c + 1), .int .i64 0, .int .i64 0, .bool false, .bool false, .int .i64 0, .slice (some ⟨W.heap.size, 0, none⟩) 4 4, .slice none 0 0, .slice none 0 0, .slice none 0 0] 152)).drew.heap[W.heap.size + 1]? = some (.cells #[.int .i64 (c + 1), .int .i64 0, .int .i64 0, .bool false, .bool false, .int .i64 0, .slice (some ⟨W.heap.size, 0, none⟩) 4 4, .slice none 0 0, .slice none 0 0, .slice none 0 0] 152 (0, 0)) := by
    have := block_alloc_new (W.alloc (.cells #[.int .i64 0, .int .i64 0, .int .i64 0, .int .i64 0] 3)) (.cells #[.int .i64 (c + 1), .int .i64 0, .int .i64 0, .bool false, .bool false, .int .i64 0, .slice (some ⟨W.heap.size, 0, none⟩) 4 4, .slice none 0 0, .slice none 0 0, .slice none 0 0] 152)
    rw [show (W.alloc (.cells #[.int .i64 0, .int .i64 0, .int .i64 0, .int .i64 0] 3)).heap.size = W.heap.size + 1 from by simp] at this
    exact this
   have hp3 : ((W.alloc (.cells #[.int .i64 0, .int .i64 0, .int .i64 0, .int .i64 0] 3)).alloc (.cells #[.int .i64 (c + 1), .int .i64 0, .int .i64 0, .bool false, .bool false, .int .i64 0, .slice (some ⟨W.heap.size, 0, none⟩) 4 4, .slice none 0 0, .slice none 0 0, .slice none 0 0] 152)).drew.heap[p]? = some (.cells #[v0, tv, v2, v3, .int .i64 (c + 1)] 47 (0, 0)) :=
    block_alloc_old _ (block_alloc_old _ HB2.out)
   have HK3 : Hid (Kept (Blk p) w ((W.alloc (.cells #[.int .i64 0, .int .i64 0, .int .i64 0, .int .i64 0] 3)).alloc (.cells #[.int .i64 (c + 1), .int .i64 0, .int .i64 0, .bool false, .bool false, .int .i64 0, .slice (some ⟨W.heap.size, 0, none⟩) 4 4, .slice none 0 0, .slice none 0 0, .slice none 0 0] 152)).drew) := ((HK2.out.alloc _).alloc _).drew
   have hWs : w.heap.size ≤ W.heap.size := HK2.out.size
   have hpl := lt_of_block HB2.out
   clear hc2
   generalize hr : W.heap.size = r at *
   generalize ((W.alloc (.cells #[.int .i64 0, .int .i64 0, .int .i64 0, .int .i64 0] 3)).alloc (.cells #[.int .i64 (c + 1), .int .i64 0, .int .i64 0, .bool false, .bool false, .int .i64 0, .slice (some ⟨r, 0, none⟩) 4 4, .slice none 0 0, .slice none 0 0, .slice none 0 0] 152)).drew = W3 at *
   clear hr
   have HT3 : Hid _ := ht3
   have HR3 : Hid _ := hr3
   have HP3 : Hid _ := hp3
   have HF3 : Hid (FromMem W3 4 (.slice ao n' cp) n' (opCells l)) := by
    have := ((show OpsSrc w _ l from HS0.out).kept HK3.out (fun h0 b hb e => HBP.out h0 (by rw [← e]; exact hb))).mem
    rw [Hn.out] at this
    exact this
   have c8 : W3.cell? ⟨r + 1, 8, none⟩ = some (.slice none 0 0) := by rw [cell_at ht3]; rfl
   obtain ⟨i0, hi0, hz0, hz1, hz2⟩ := info_parts infoOp
   have HB1 : Hid ((0 + n') * 32 ≤ 140737488355328) := by unfold Hid; omega
   have HB0 : Hid (0 + n' ≤ maxLen) := by unfold Hid maxLen; omega
   clear ht3 hr3 hp3 HS0
   go_wp2_with (at_builtin; refine wpList_append_at (by rfl) _ _ 39 (by rfl) 114 i0 _ 4 32 Tryz.underlying39 hi0 hz0 hz1 hz2 (by rfl) (.slice none 0 0) 0 [] (by rfl) (World.ownsRow_nil _ _ _ _) (.slice ao n' cp) n' (opCells l) (by rfl) HF3.out HB0.out HB1.out ?_)
   intro ao1 c1 W4 hown4 hmv4
   have hk4 : Kept NoBlk W3 W4 := by
    rcases hmv4 with ⟨_, _, _, hk⟩ | ⟨_, _, hk⟩
    ·exact hk.mono (fun k x => by simp [Value.ownBlock] at x)
    ·exact hk
   have HN4 : Hid (∀ k, (Value.slice ao1 n' c1).ownBlock = some k → W3.heap.size ≤ k) := by
    intro k hk
    rcases hmv4 with ⟨ho, _, _, _⟩ | ⟨_, ho, _⟩
    ·rw [hk] at ho; simp [Value.ownBlock] at ho
    ·rw [hk] at ho; cases ho; exact Nat.le_refl _
   have hl3p := lt_of_block HP3.out
   have hl3t := lt_of_block HT3.out
   have hnpt : p ≠ r + 1 := by omega
   have hT4 := hk4.heap HT3.out (fun x => x)
   have hR4 := hk4.heap HR3.out (fun x => x)
   have hP4 := hk4.heap HP3.out (fun x => x)
   have hO4 : W4.ownsRow 0 149 1 tv n xs := ownsRow_kept (ownsRow_kept HO.out HK3.out (fun k hk e => HTP.out (by rw [hk]; cases e; rfl))) hk4 (fun _ _ x => x)
   have c4 : W4.cell? ⟨r + 1, 8, none⟩ = some (.slice none 0 0) := by rw [cell_at hT4]; rfl
   have f4 : W4.frozen? ⟨r + 1, 8, none⟩ = false := frozen_at hT4 _
   have p4 : W4.cell? ⟨p, 1, none⟩ = some tv := by rw [cell_at hP4]; rfl
   have pf4 : W4.frozen? ⟨p, 1, none⟩ = false := frozen_at hP4 _
   obtain ⟨ta, tc, rfl⟩ := ownsRow_form HO.out
   have hta : ∀ k, (Value.slice ta n tc).ownBlock = some k → k ≠ r + 1 := fun k hk e => by
    obtain ⟨cur, hcur⟩ := ownsRow_block HO.out hk
    have := lt_of_block hcur
    omega
   have HO5 : Hid (((W4.setCell ⟨r + 1, 8, none⟩ (.slice ao1 n' c1)).alloc (.cells #[.pointer (some ⟨r + 1, 0, none⟩)] 149)).ownsRow 0 149 1 (.slice ta n tc) n xs) :=
    ownsRow_kept hO4 ((Kept.set1 W4 (r + 1) 8 _).alloc _) hta
   have HF5 : Hid (FromMem ((W4.setCell ⟨r + 1, 8, none⟩ (.slice ao1 n' c1)).alloc (.cells #[.pointer (some ⟨r + 1, 0, none⟩)] 149)) 1 (.slice (some ⟨W4.heap.size, 0, none⟩) 1 1) 1 [.pointer (some ⟨r + 1, 0, none⟩)]) := by
    have hnew := block_alloc_new (W4.setCell ⟨r + 1, 8, none⟩ (.slice ao1 n' c1)) (.cells #[.pointer (some ⟨r + 1, 0, none⟩)] 149)
    rw [show (W4.setCell ⟨r + 1, 8, none⟩ (.slice ao1 n' c1)).heap.size = W4.heap.size from by simp [World.setCell]] at hnew
    refine ⟨⟨_, 1, rfl, fun h => by simp at h, ?_⟩, rfl, fun u hu => by simp at hu; subst hu; rfl⟩
    intro ad had j u hu
    obtain rfl := Option.some.inj had
    match j, hu with
    | 0, hu => simp at hu; subst hu; rw [Addr.add_lit, cell_at hnew]; rfl
    | j + 1, hu => simp at hu
   obtain ⟨i1, hi1, hy0, hy1, hy2⟩ := info_parts infoPTxn
   have HB5 : Hid ((n + 1) * 8 ≤ 140737488355328) := by unfold Hid; omega
   have HB6 : Hid (n + 1 ≤ maxLen) := by unfold Hid maxLen; omega
   have HT4 : Hid _ := hT4
   have HR4 : Hid _ := hR4
   have HP4 : Hid _ := hP4
   have HK4 : Hid _ := HK3.out.trans hk4 (fun i x => x.elim)
   have HW4 : Hid (W4.ownsRow 0 114 4 (.slice ao1 n' c1) n' (opCells l)) := hown4
   have HS4 : Hid _ := hk4.size
   clear hT4 hR4 hP4 hk4 hown4 hmv4 hi0 hz0 hz1 hz2 c8 hta hO4
   go_wp2_with (at_builtin; refine wpList_append_at (by rfl) _ _ 43 (by rfl) 149 i1 _ 1 8 Tryz.underlying43 hi1 hy0 hy1 hy2 (by rfl) (.slice ta n tc) n xs (by rfl) HO5.out (.slice (some ⟨W4.heap.size, 0, none⟩) 1 1) 1 [.pointer (some ⟨r + 1, 0, none⟩)] (by rfl) HF5.out HB6.out HB5.out ?_)
   intro ao2 c2 W6 hown6 hmv6
   have hk5 : Kept (Blk (r + 1)) W4 ((W4.setCell ⟨r + 1, 8, none⟩ (.slice ao1 n' c1)).alloc (.cells #[.pointer (some ⟨r + 1, 0, none⟩)] 149)) := (Kept.set1 W4 (r + 1) 8 _).alloc _
   have hT5 : ((W4.setCell ⟨r + 1, 8, none⟩ (.slice ao1 n' c1)).alloc (.cells #[.pointer (some ⟨r + 1, 0, none⟩)] 149)).heap[r + 1]? = some (.cells #[.int .i64 (c + 1), .int .i64 0, .int .i64 0, .bool false, .bool false, .int .i64 0, .slice (some ⟨r, 0, none⟩) 4 4, .slice none 0 0, .slice ao1 n' c1, .slice none 0 0] 152 (0, 0)) := block_alloc_old _ (block_setCell HT4.out _)
   have hP5 := hk5.heap HP4.out hnpt
   have hR5 := hk5.heap HR4.out (fun e => by unfold Blk at e; omega)
   have hW5 := ownsRow_kept HW4.out hk5 (fun k hk e => by have := HN4.out k hk; cases e; omega)
   have HK5 := HK4.out.trans hk5 (fun i x => .inr (by cases x; omega))
   have hs5 : W4.heap.size ≤ ((W4.setCell ⟨r + 1, 8, none⟩ (.slice ao1 n' c1)).alloc (.cells #[.pointer (some ⟨r + 1, 0, none⟩)] 149)).heap.size := hk5.size
   generalize ((W4.setCell ⟨r + 1, 8, none⟩ (.slice ao1 n' c1)).alloc (.cells #[.pointer (some ⟨r + 1, 0, none⟩)] 149)) = W5 at *
   have htl : ∀ k, (Value.slice ta n tc).ownBlock = some k → k < w.heap.size := fun k hk => by
    obtain ⟨cur, hcur⟩ := ownsRow_block HO.out hk
    exact lt_of_block hcur
   have hk6 : Kept (fun k => (Value.slice ta n tc).ownBlock = some k) W5 W6 := by
    rcases hmv6 with ⟨_, _, _, hk⟩ | ⟨_, _, hk⟩
    ·exact hk
    ·exact hk.mono (fun _ x => x.elim)
   have hn6 : ∀ k, (Value.slice ao2 (n + 1) c2).ownBlock = some k → (Value.slice ta n tc).ownBlock = some k ∨ W5.heap.size ≤ k := fun k hk => by
    rcases hmv6 with ⟨ho, _, _, _⟩ | ⟨_, ho, _⟩
    ·left; rw [← ho]; exact hk
    ·right; rw [hk] at ho; cases ho; exact Nat.le_refl _
   have hs4 := HS4.out
   have hP6 := hk6.heap hP5 (fun e => HTP.out e)
   have hT6 := hk6.heap hT5 (fun e => by have := htl _ e; omega)
   have hR6 := hk6.heap hR5 (fun e => by have := htl _ e; omega)
   have hW6 := ownsRow_kept hW5 hk6 (fun k hk e => by have := HN4.out k hk; have := htl _ e; omega)
   have HK6 : Kept (fun k => k = p ∨ (Value.slice ta n tc).ownBlock = some k) w W6 := (HK5.mono (fun k (x : k = p) => Or.inl x)).trans hk6 (fun i x => .inl (.inr x))
   have q6 : W6.cell? ⟨p, 1, none⟩ = some (.slice ta n tc) := by rw [cell_at hP6]; rfl
   have qf6 : W6.frozen? ⟨p, 1, none⟩ = false := frozen_at hP6 _
   have hpl5 := lt_of_block hP5
   have HP6 : Hid _ := hP6
   have HT6 : Hid _ := hT6
   have HR6 : Hid _ := hR6
   have HW6 : Hid (W6.ownsRow 0 114 4 (.slice ao1 n' c1) n' (opCells l)) := hW6
   have HK6' : Hid _ := HK6
   have HN6 : Hid _ := hn6
   have HO6 : Hid (W6.ownsRow 0 149 1 (.slice ao2 (n + 1) c2) (n + 1) (xs ++ [.pointer (some ⟨r + 1, 0, none⟩)])) := hown6
   have HTL : Hid _ := htl
   clear hP6 hT6 hR6 hW6 HK6 hn6 hown6 hmv6 hk6 hT5 hP5 hR5 hW5 HK5 hk5 c4 f4 p4 pf4 hi1 hy0 hy1 hy2 htl
   go_wp2_with fail
   go_ret2
   have e7 := Kept.set1 W6 p 1 (.slice ao2 (n + 1) c2)
   refine ⟨.slice ao2 (n + 1) c2, r + 1, r, .slice ao1 n' c1, by first | rfl | simp, block_setCell HP6.out _, ownsRow_kept HO6.out e7 ?_, by omega, by omega, e7.heap HT6.out (fun e => hnpt (by cases e; rfl)), e7.heap HR6.out (fun e => by unfold Blk at e; omega), ?_, ?_, ?_, HK6'.out.setCell (p := ⟨p, 1, none⟩) (.inl (.inl rfl)) _⟩
   ·intro k hk e
    rcases HN6.out k hk with h | h
    ·exact HTP.out (by rw [h]; cases e; rfl)
    ·cases e; omega
   ·exact ownsRow_kept HW6.out e7 (fun k hk e => by have := HN4.out k hk; cases e; omega)
   ·intro k hk
    have := HN4.out k hk
    omega
   ·intro k hk
    rcases HN6.out k hk with h | h
    ·exact .inl h
    ·right; omega
end Go.Proofs.YtmcajfefagdbnaaGreat
namespace Go.Proofs.YtmcajfefagdbnaaGreat
open Go Go.RowKit
set_option maxRecDepth 100000 in
set_option maxHeartbeats 6400000 in
theorem takeInts_row (o n N : Nat) (l : Value) (xs vs : List Value) (iv v1 v2 v3 : Value) (w : World) (hN : N ≤ 1099511627776) (hn : n ≤ 33554432)
  (ho : w.heap[o]? = some (.cells #[iv, v1, v2, v3] 30 (0, 0))) (hv : RowAt w 3 1 l n xs) (hiv : w.ownsRow 0 45 1 iv N vs) :
  Calls Tryz.prog 48 #[.pointer (some ⟨o, 0, none⟩), l] w fun e w' => e = .returned (.tuple #[]) ∧
   ∃ iv' x y z, w'.heap[o]? = some (.cells #[iv', v1, v2, v3] 30 (0, 0)) ∧ w'.ownsRow 0 45 1 iv' (N + 4) (vs ++ [l, x, y, z]) ∧
    RowAt w' 3 1 l n (mks [.int .i64 (mark N)] n) ∧ (∀ u ∈ [(x, n + 1), (y, n + 2), (z, n + 3)], RowAt w' 3 1 u.1 u.2 (mks [.int .i64 (mark N)] u.2) ∧ ∀ b, u.1.ownBlock = some b → l.ownBlock = some b ∨ w.heap.size ≤ b) ∧
    (∀ k, iv'.ownBlock = some k → iv.ownBlock = some k ∨ w.heap.size ≤ k) ∧ Kept (fun k => k = o ∨ iv.ownBlock = some k ∨ l.ownBlock = some k) w w' := by
 have c0 : w.cell? ⟨o, 0, none⟩ = some iv := by rw [cell_at ho]; rfl
 obtain ⟨ia, ic, rfl⟩ := ownsRow_form hiv
 obtain ⟨ao, cp, rfl, _, _⟩ := hv.form
 have HO : Hid _ := ho
 have HV : Hid (RowAt w 3 1 (.slice ao n cp) n xs) := hv
 have HI : Hid (w.ownsRow 0 45 1 (.slice ia N ic) N vs) := hiv
 clear ho hv hiv
 go_enter Tryz.func48, Tryz.ntmps48
 go_wp2_with fail
 generalize hm : (-1000 - (N : Int) / 4) = mk at *
 have HM : Hid _ := hm
 have HKW0 : Hid (Kept NoBlk w w) := Kept.refl _ _
 clear hm c0
 go_loopw [5] (fun i wr => ∃ k : Nat, k ≤ n ∧ i = .int .i64 k ∧ Kept (fun b => (Value.slice ao n cp).ownBlock = some b) w wr ∧ RowAt wr 3 1 (.slice ao n cp) n (mks [.int .i64 mk] k ++ xs.drop (k * 1))) (fun i _ => n - (intOf i).toNat)
 case atStart => exact ⟨0, Nat.zero_le _, rfl, Kept.refl _ _, by rw [Nat.zero_mul, List.drop_zero]; exact HV.out.kept HKW0.out (fun _ _ x => x)⟩
 case round =>
  obtain ⟨k, hk, rfl, hkw, hwr'⟩ := hrel
  have hwr : RowAt wr 3 1 (.slice ao n cp) n (mks [.int .i64 mk] k ++ xs.drop (k * 1)) := hwr'
  clear hwr'
  have hxl : xs.length = n * 1 := HV.out.1
  by_cases hlt : k < n
  ·obtain ⟨g, off, rfl⟩ := hwr.place (by omega)
   have hlen := hwr.1
   obtain ⟨y0, hy0⟩ : ∃ y, wr.cell? ⟨g, off + k, none⟩ = some y := ⟨_, hwr.cell (k) (List.getElem?_eq_getElem (show k < _ by omega))⟩
   have hfz := hwr.unfrozen
   have HST : Hid (RowAt (wr.setCell ⟨g, off + k, none⟩ (.int .i64 mk)) 3 1 (.slice (some ⟨g, off, none⟩) n cp) n (mks [.int .i64 mk] (k + 1) ++ xs.drop ((k + 1) * 1))) := by
    have := (hwr.setc k (.int .i64 mk))
    rw [mks_set1 _ _ (by omega)] at this
    exact this
   have HKW : Hid (Kept (fun b => (Value.slice (some ⟨g, off, none⟩) n cp).ownBlock = some b) w (wr.setCell ⟨g, off + k, none⟩ (.int .i64 mk))) := (hkw.setCell (p := ⟨g, off + k, none⟩) (.inl rfl) (.int .i64 mk))
   have i0 : (0 : Int) ≤ (k : Int) := by omega
   have i1 : (k : Int) < (n : Int) := by omega
   clear hlen hwr hkw
   go_wp2_with fail
   go_roundw
   case rel => exact ⟨k + 1, by omega, by go_num, HKW.out, HST.out⟩
   case measure => simp [intOf]; omega
  ·obtain rfl : k = n := by omega
   rw [List.drop_of_length_le (by omega), List.append_nil] at hwr
   have HT0 : Hid (TkI w 3 [.int .i64 mk] (.slice ao k cp) k [] wr) := ⟨hkw, hwr, fun x hx => (by cases hx), fun x hx => (by cases hx)⟩
   clear hwr hkw hxl
   obtain ⟨i0, hi0, hz0, hz1, hz2⟩ := info_parts infoInt
   have HI0 : Hid (Tryz.prog.info? 3 = some i0 ∧ i0.zero = some (.int .i64 0) ∧ i0.size = 1 ∧ i0.bytes = 8) := ⟨hi0, hz0, hz1, hz2⟩
   clear hi0 hz0 hz1 hz2
   have HB1 : Hid ((k + 1) * 8 ≤ 140737488355328) := by unfold Hid; omega
   have HM1 : Hid (k + 1 ≤ maxLen) := by unfold Hid maxLen; omega
   have HB2 : Hid ((k + 2) * 8 ≤ 140737488355328) := by unfold Hid; omega
   have HM2 : Hid (k + 2 ≤ maxLen) := by unfold Hid maxLen; omega
   have HB3 : Hid ((k + 3) * 8 ≤ 140737488355328) := by unfold Hid; omega
   have HM3 : Hid (k + 3 ≤ maxLen) := by unfold Hid maxLen; omega
   go_wp2_with (at_builtin; refine wpList_append_row2 (by rfl) _ _ 45 (by rfl) 3 i0 _ 1 8 Tryz.underlying45 HI0.out.1 HI0.out.2.1 HI0.out.2.2.1 HI0.out.2.2.2 (by rfl) (.slice ao k cp) k (mks [.int .i64 mk] k) (by rfl) (HT0.out.own.kept ((Kept.refl NoBlk wr).alloc _) (fun _ _ x => x)) (.slice (some ⟨wr.heap.size, 0, none⟩) 1 1) 1 [.int .i64 mk] (by rfl) (from_new wr [.int .i64 mk] _ 1 1 (by rfl) (by simp [Value.oneCell'])) HM1.out HB1.out (by omega) ?_)
   intro a1 c1 W1 hown1 hmv1
   have HT1 : Hid (TkI w 3 [.int .i64 mk] (.slice ao k cp) k [(.slice a1 (k + 1) c1, k + 1)] W1) := by
    have e : mks [.int .i64 mk] k ++ [.int .i64 mk] = mks [.int .i64 mk] (k + 1) := mks_add [.int .i64 mk] k 1
    rw [e] at hown1
    exact HT0.out.push ((Kept.refl NoBlk wr).alloc _) (fun x hx => by simp only [List.not_mem_nil] at hx) (by omega) hown1 hmv1
   clear hown1 hmv1
   go_wp2_with (at_builtin; refine wpList_append_row2 (by rfl) _ _ 45 (by rfl) 3 i0 _ 1 8 Tryz.underlying45 HI0.out.1 HI0.out.2.1 HI0.out.2.2.1 HI0.out.2.2.2 (by rfl) (.slice ao k cp) k (mks [.int .i64 mk] k) (by rfl) (HT1.out.own.kept ((Kept.refl NoBlk W1).alloc _) (fun _ _ x => x)) (.slice (some ⟨W1.heap.size, 0, none⟩) 2 2) 2 [.int .i64 mk, .int .i64 mk] (by rfl) (from_new W1 [.int .i64 mk, .int .i64 mk] _ 1 2 (by rfl) (by simp [Value.oneCell'])) HM2.out HB2.out (by omega) ?_)
   intro a2 c2 W2 hown2 hmv2
   have HT2 : Hid (TkI w 3 [.int .i64 mk] (.slice ao k cp) k [(.slice a1 (k + 1) c1, k + 1), (.slice a2 (k + 2) c2, k + 2)] W2) := by
    have e : mks [.int .i64 mk] k ++ [.int .i64 mk, .int .i64 mk] = mks [.int .i64 mk] (k + 2) := mks_add [.int .i64 mk] k 2
    rw [e] at hown2
    exact HT1.out.push ((Kept.refl NoBlk W1).alloc _) (fun x hx => by simp only [List.mem_cons, List.not_mem_nil, or_false] at hx; rcases hx with rfl <;> simp) (by omega) hown2 hmv2
   clear hown2 hmv2
   go_wp2_with (at_builtin; refine wpList_append_row2 (by rfl) _ _ 45 (by rfl) 3 i0 _ 1 8 Tryz.underlying45 HI0.out.1 HI0.out.2.1 HI0.out.2.2.1 HI0.out.2.2.2 (by rfl) (.slice ao k cp) k (mks [.int .i64 mk] k) (by rfl) (HT2.out.own.kept ((Kept.refl NoBlk W2).alloc _) (fun _ _ x => x)) (.slice (some ⟨W2.heap.size, 0, none⟩) 3 3) 3 [.int .i64 mk, .int .i64 mk, .int .i64 mk] (by rfl) (from_new W2 [.int .i64 mk, .int .i64 mk, .int .i64 mk] _ 1 3 (by rfl) (by simp [Value.oneCell'])) HM3.out HB3.out (by omega) ?_)
   intro a3 c3 W3 hown3 hmv3
   have HT3 : Hid (TkI w 3 [.int .i64 mk] (.slice ao k cp) k [(.slice a1 (k + 1) c1, k + 1), (.slice a2 (k + 2) c2, k + 2), (.slice a3 (k + 3) c3, k + 3)] W3) := by
    have e : mks [.int .i64 mk] k ++ [.int .i64 mk, .int .i64 mk, .int .i64 mk] = mks [.int .i64 mk] (k + 3) := mks_add [.int .i64 mk] k 3
    rw [e] at hown3
    exact HT2.out.push ((Kept.refl NoBlk W2).alloc _) (fun x hx => by simp only [List.mem_cons, List.not_mem_nil, or_false] at hx; rcases hx with rfl | rfl <;> simp) (by omega) hown3 hmv3
   clear hown3 hmv3
   have hov : ¬ (Value.slice ao k cp).ownBlock = some o := fun e => by
    obtain ⟨cur, hcur⟩ := HV.out.block e
    exact blocks_apart hcur HO.out (by decide) rfl
   have hiv : ∀ b, (Value.slice ia N ic).ownBlock = some b → ¬ (Value.slice ao k cp).ownBlock = some b := fun b hb e => by
    obtain ⟨cur, hcur⟩ := HV.out.block e
    obtain ⟨cur', hcur'⟩ := ownsRow_block HI.out hb
    exact blocks_apart hcur hcur' (by decide) rfl
   have hio : ∀ b, (Value.slice ia N ic).ownBlock = some b → b ≠ o := fun b hb e => by
    obtain ⟨cur', hcur'⟩ := ownsRow_block HI.out hb
    exact blocks_apart hcur' HO.out (by decide) e
   have hKW3 : Kept (fun b => (Value.slice ao k cp).ownBlock = some b) w W3 := (HKW0.out.mono (fun _ x => x.elim)).trans' HT3.out.kept
   have hO3 := hKW3.heap HO.out hov
   have HO3 : Hid _ := hO3
   have HI3 : Hid (W3.ownsRow 0 45 1 (.slice ia N ic) N vs) := ownsRow_kept HI.out hKW3 hiv
   have HKW3 : Hid _ := hKW3
   have c0 : W3.cell? ⟨o, 0, none⟩ = some (.slice ia N ic) := by rw [cell_at hO3]; rfl
   obtain ⟨i1, hi1, hy0, hy1, hy2⟩ := info_parts infoLI
   have HI1 : Hid (Tryz.prog.info? 45 = some i1 ∧ i1.zero = some (.slice none 0 0) ∧ i1.size = 1 ∧ i1.bytes = 24) := ⟨hi1, hy0, hy1, hy2⟩
   have HB4 : Hid ((N + 4) * 24 ≤ 140737488355328) := by unfold Hid; omega
   have HM4 : Hid (N + 4 ≤ maxLen) := by unfold Hid maxLen; omega
   have HOV : Hid _ := hov
   have HIV : Hid _ := hiv
   have HIO : Hid _ := hio
   clear hi1 hy0 hy1 hy2 hO3 hov hiv hio hKW3
   go_wp2_with (at_builtin; refine wpList_append_at (by rfl) _ _ 25 (by rfl) 45 i1 _ 1 24 Tryz.underlying25 HI1.out.1 HI1.out.2.1 HI1.out.2.2.1 HI1.out.2.2.2 (by rfl) (.slice ia N ic) N vs (by rfl) (ownsRow_kept HI3.out ((Kept.refl NoBlk W3).alloc _) (fun _ _ x => x)) (.slice (some ⟨W3.heap.size, 0, none⟩) 4 4) 4 [.slice ao k cp, .slice a1 (k + 1) c1, .slice a2 (k + 2) c2, .slice a3 (k + 3) c3] (by rfl) (from_new W3 [.slice ao k cp, .slice a1 (k + 1) c1, .slice a2 (k + 2) c2, .slice a3 (k + 3) c3] _ 1 4 (by rfl) (by simp [Value.oneCell'])) HM4.out HB4.out ?_)
   intro a4 c4 W4 hown4 hmv4
   have hk4 := hmv4.keptOf
   have hn4 := hmv4.fresh
   have hs4 : W3.heap.size ≤ (W3.alloc (.cells #[.slice ao k cp, .slice a1 (k + 1) c1, .slice a2 (k + 2) c2, .slice a3 (k + 3) c3] 45)).heap.size := ((Kept.refl NoBlk W3).alloc _).size
   have hK4 : Kept (fun b => (Value.slice ia N ic).ownBlock = some b) W3 W4 := (((Kept.refl NoBlk W3).alloc _).mono (fun _ x => x.elim)).trans' hk4
   have hsw : w.heap.size ≤ W3.heap.size := HKW3.out.size
   have hO4 := hK4.heap HO3.out (fun e => HIO.out o e rfl)
   have d0 : W4.cell? ⟨o, 0, none⟩ = some (.slice ia N ic) := by rw [cell_at hO4]; rfl
   have df : W4.frozen? ⟨o, 0, none⟩ = false := frozen_at hO4 _
   have hKw : Kept (fun b => b = o ∨ (Value.slice ia N ic).ownBlock = some b ∨ (Value.slice ao k cp).ownBlock = some b) w W4 := (HKW3.out.mono (fun b x => Or.inr (Or.inr x))).trans hK4 (fun b x => .inl (.inr (.inl x)))
   have H4 : Hid (W4.heap[o]? = some (.cells #[.slice ia N ic, v1, v2, v3] 30 (0, 0))) := hO4
   have HL4 : Hid (W4.ownsRow 0 45 1 (.slice a4 (N + 4) c4) (N + 4) (vs ++ [.slice ao k cp, .slice a1 (k + 1) c1, .slice a2 (k + 2) c2, .slice a3 (k + 3) c3])) := hown4
   have HN4 : Hid (∀ b, (Value.slice a4 (N + 4) c4).ownBlock = some b → (Value.slice ia N ic).ownBlock = some b ∨ w.heap.size ≤ b) := fun b hb => by
    rcases hn4 b hb with h | h
    ·exact .inl h
    ·right; omega
   have HKK : Hid _ := hKw
   have HK4 : Hid _ := hK4
   clear hown4 hmv4 hk4 hn4 hK4 hO4 hKw c0 hs4
   go_wp2_with fail
   go_end0
   have e5 := Kept.set1 W4 o 0 (.slice a4 (N + 4) c4)
   have hmk : mk = mark N := by rw [← HM.out]; unfold mark; omega
   rw [← hmk]
   have hol := lt_of_block HO.out
   have hw0 : w.heap.size ≤ w.heap.size := HKW0.out.size
   have hno : ∀ b, w.heap.size ≤ b → b ≠ o := fun b hb e => by omega
   have hil := ownsRow_lt HI.out
   have hK5 : Kept (fun b => (Value.slice ia N ic).ownBlock = some b ∨ b = o) W3 (W4.setCell ⟨o, 0, none⟩ (.slice a4 (N + 4) c4)) := (HK4.out.mono (fun _ x => .inl x)).trans (e5.mono (S' := fun b => b = o) (fun _ x => x)) (fun b x => .inl (.inr x))
   have hout : ∀ u : Value, (∀ b, u.ownBlock = some b → (Value.slice ao k cp).ownBlock = some b ∨ w.heap.size ≤ b) → ∀ b, u.ownBlock = some b → ¬ ((Value.slice ia N ic).ownBlock = some b ∨ b = o) := fun u hu b hb e => by
    rcases hu b hb with h | h
    ·rcases e with e | e
     ·exact HIV.out b e h
     ·subst e; exact HOV.out h
    ·rcases e with e | e
     ·have := hil b e; omega
     ·omega
   refine ⟨rfl, .slice a4 (N + 4) c4, .slice a1 (k + 1) c1, .slice a2 (k + 2) c2, .slice a3 (k + 3) c3, block_setCell H4.out _, ownsRow_kept HL4.out e5 ?_, HT3.out.own.kept hK5 (hout _ (fun b hb => .inl hb)), fun u hu => ?_, HN4.out, HKK.out.setCell (p := ⟨o, 0, none⟩) (.inl (.inl rfl)) _⟩
   ·intro b hb
    rcases HN4.out b hb with h | h
    ·exact HIO.out b h
    ·exact hno b h
   ·have hr := HT3.out.rows u hu
    refine ⟨hr.1.kept hK5 (hout u.1 hr.2), fun b hb => ?_⟩
    rcases hr.2 b hb with h | h
    ·exact .inl h
    ·right; omega
end Go.Proofs.YtmcajfefagdbnaaGreat
