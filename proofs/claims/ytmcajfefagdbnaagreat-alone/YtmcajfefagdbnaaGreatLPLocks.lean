import Derived.Test.YtmcajfefagdbnaaGreatQ18
import Derived.Test.YtmcajfefagdbnaaGreatQ03
import Derived.Test.YtmcajfefagdbnaaGreatQ15
import Derived.Test.YtmcajfefagdbnaaGreatQ20
import Derived.Deep.RegionHeld3
import Derived.Deep.DrawnRows
namespace Go.Proofs.YtmcajfefagdbnaaGreat
open Go Go.RowKit Go.Sort Go.Lib
open Go.MuLone
theorem infoLockF : (Tryz.prog.info? 107).map (fun i => (i.zero, i.size, i.bytes)) = some (some (.agg #[.int .i64 0, .int .i64 0]), 2, 16) := by kernel_rfl
set_option maxHeartbeats 800000 in
theorem freshLock (x : Value) (m : Nat) (cs : List Value) (w : World) (hx : FromMem w 2 x m cs) (hm : m ≤ 1048576) :
  Calls Tryz.prog 67 #[x] w fun e w' => e = .returned (.slice (some ⟨w.heap.size, 0, none⟩) m m) ∧ w'.heap[w.heap.size]? = some (.cells cs.toArray 107 (0, 0)) ∧ Kept NoBlk w w' := by
 obtain ⟨i, hi, hz0, hz1, hz2⟩ := info_parts infoLockF
 have hsz : (Tryz.prog.info? 107).map (·.size) = some 2 := by rw [hi]; simp [hz1]
 obtain ⟨ao, c, rfl, hn, hc⟩ := hx.shape
 have hx' : FromMem (w.alloc (.cells (madeCells (Value.agg #[.int .i64 0, .int .i64 0]).cells (m * 2)) 107)) 2 (.slice ao m c) m cs :=
  ⟨⟨ao, c, rfl, hn, fun ad had j u hu => ((Kept.refl NoBlk w).alloc _).cell (hc ad had j u hu) (fun x => x)⟩, hx.len, hx.one⟩
 have HX : Hid _ := hx'
 have HB : Hid (i.bytes * m ≤ 281474976710656) := by unfold Hid; rw [hz2]; omega
 have HM : Hid (m ≤ maxLen) := by unfold Hid maxLen; omega
 have HL : Hid _ := hx.len
 have HS : Hid _ := hsz
 clear hx hx' hn hc hsz
 go_enter Tryz.func67, Tryz.ntmps67
 go_wp2_with (first
  | (at_make; refine wpList_make_at rfl _ _ 74 rfl 107 i _ 2 Tryz.underlying74 hi hz0 hz1 .i64 .i64 _ _ m m rfl rfl rfl rfl (Nat.le_refl _) HB.out HM.out ?_)
  | (refine wpList_copy_at (by rfl) _ _ 74 74 (by rfl) 107 2 Tryz.underlying74 HS.out w.heap.size m m (by rfl) _ 107 (block_alloc_new w _) _ m cs (by rfl) HX.out (Nat.le_refl _) (by rw [size_madeCells, HL.out]; exact Nat.le_refl _) ?_))
 intro w' hg hk
 go_wp2_with fail
 go_ret
 refine ⟨rfl, ?_, ((Kept.refl NoBlk w).alloc _).trans hk (fun i x => .inr (by cases x; exact Nat.le_refl _))⟩
 rw [hg, List.drop_of_length_le (by rw [Array.length_toList, size_madeCells, HL.out]; exact Nat.le_refl _), List.append_nil]
set_option maxRecDepth 20000 in
set_option maxHeartbeats 3200000 in
theorem pLocks {L : Lay} {bs : Nat → Nat} {A : List Nat} {ow : Ow} {m : Nat} {lv : Int} {s : St} {w : World} (h : PSt L bs A ow m 0 lv s w) (key : Int) (hkey : inI key) (hq : (s.lk key).q.length ≤ 1048576) :
  Calls Tryz.prog 27 #[.pointer (some ⟨L.p, 0, none⟩), .int .i64 key] w fun e w' => ∃ vh l a, e = .returned (.tuple #[vh, .slice (some ⟨a, 0, none⟩) (s.lk key).q.length (s.lk key).q.length]) ∧ RowAt w' 107 2 vh l.length (lkc l) ∧ (∀ b, vh.ownBlock = some b → w.heap.size ≤ b) ∧ HoldsL (holdF s.lk) key l ∧ (w.heap.size ≤ a ∧ ∀ b, vh.ownBlock = some b → b < a) ∧ w'.heap[a]? = some (.cells (lkc (qcast (s.lk key).q)).toArray 107 (0, 0)) ∧ PSt L bs A ow m 0 lv s w' ∧ Kept (OwnP ow) w w' := by
 obtain ⟨c0, f0⟩ := h.mucell
 have h1 := h.locked 1
 have H1 : Hid (PSt L bs A ow m 1 lv s (w.setCell ⟨L.p, 0, none⟩ (.int .i32 1))) := h1
 have HK1 : Hid (Kept (OwnP ow) w (w.setCell ⟨L.p, 0, none⟩ (.int .i32 1))) := h.keptP _
 have HKP : Hid (∀ (W : World) (v : Value), Kept (OwnP ow) W (W.setCell ⟨L.p, 0, none⟩ v)) := fun W v => h.keptP v
 have HPL : Hid (L.p < w.heap.size) := h.lt _ h.ownP
 obtain ⟨u, tv, wv, b1, c3, c6, c7, c4, b2⟩ := h1.cells
 obtain ⟨qf, q1, q2⟩ := h1.que
 have hqk := q2 key
 have hlook : ∀ W, Kept NoBlk (w.setCell ⟨L.p, 0, none⟩ (.int .i32 1)) W → (Instr.lookup 125 (.map (some L.qb)) (.int .i64 key) false).run Tryz.prog W = .ok ((qf key).getD (.slice none 0 0)) W := fun W hk => (q1.kept hk (fun x => x)).look Tryz.underlying125 (zeroLks _) (a := key) hkey
 have hrow : RowAt (w.setCell ⟨L.p, 0, none⟩ (.int .i32 1)) 107 2 ((qf key).getD (.slice none 0 0)) (s.lk key).q.length (lkc (qcast (s.lk key).q)) := by
  cases hx : qf key with
  | none => rw [hx] at hqk; unfold QueueAt at hqk; rw [hqk]; exact RowAt.nil _ _ _
  | some v => rw [hx] at hqk; exact hqk.1
 have hhold := holders_any L.p L.hb m key (holdF s.lk) (w.setCell ⟨L.p, 0, none⟩ (.int .i32 1)).drew c6 (h1.hold.kept (Kept.refl NoBlk _).drew (fun x => x)) hkey (holdF_ok h1) (holdF_few h1 key)
 obtain ⟨qa, qc, hqe, _⟩ := hrow.form
 rw [hqe] at hlook hrow
 have HLK : Hid (∀ W, Kept NoBlk (w.setCell ⟨L.p, 0, none⟩ (.int .i32 1)) W → (Instr.lookup 125 (.map (some L.qb)) (.int .i64 key) false).run Tryz.prog W = .ok (.slice qa (s.lk key).q.length qc) W) := hlook
 have HRW : Hid (RowAt (w.setCell ⟨L.p, 0, none⟩ (.int .i32 1)) 107 2 (.slice qa (s.lk key).q.length qc) (s.lk key).q.length (lkc (qcast (s.lk key).q))) := hrow
 have HHD : Hid (Calls Tryz.prog 66 #[.pointer (some ⟨L.p, 0, none⟩), .int .i64 key] (w.setCell ⟨L.p, 0, none⟩ (.int .i32 1)).drew fun e w' => ∃ v l, e = .returned v ∧ w'.ownsRow 0 107 2 v l.length (lkc l) ∧ (∀ b, v.ownBlock = some b → (w.setCell ⟨L.p, 0, none⟩ (.int .i32 1)).drew.heap.size ≤ b) ∧ HoldsL (holdF s.lk) key l ∧ Kept NoBlk (w.setCell ⟨L.p, 0, none⟩ (.int .i32 1)).drew w') := hhold
 have HFR : Hid (∀ W, Kept NoBlk (w.setCell ⟨L.p, 0, none⟩ (.int .i32 1)) W → Calls Tryz.prog 67 #[.slice qa (s.lk key).q.length qc] W fun e w' => e = .returned (.slice (some ⟨W.heap.size, 0, none⟩) (s.lk key).q.length (s.lk key).q.length) ∧ w'.heap[W.heap.size]? = some (.cells (lkc (qcast (s.lk key).q)).toArray 107 (0, 0)) ∧ Kept NoBlk W w') := fun W hk => freshLock _ _ (lkc (qcast (s.lk key).q)) W ((hrow.kept hk (fun _ _ x => x)).mem (lkc_one _)) hq
 have d7 : (w.setCell ⟨L.p, 0, none⟩ (.int .i32 1)).cell? ⟨L.p, 7, none⟩ = some (.map (some L.qb)) := c7
 have dl : (Instr.lookup 125 (.map (some L.qb)) (.int .i64 key) false).run Tryz.prog (w.setCell ⟨L.p, 0, none⟩ (.int .i32 1)).drew = .ok (.slice qa (s.lk key).q.length qc) (w.setCell ⟨L.p, 0, none⟩ (.int .i32 1)).drew := hlook _ (Kept.refl NoBlk _).drew
 clear h h1 b1 c3 c6 c7 c4 b2 q1 q2 hqk hlook hrow hhold hqe hq
 generalize hnq : (s.lk key).q.length = nq at *
 have HNQ : Hid ((s.lk key).q.length = nq) := hnq
 clear hnq
 go_enter_defers Tryz.func27, Tryz.ntmps27
 go_wp2_with fail
 refine (lock_free Tryz.muLib ⟨L.p, 0, none⟩ _ c0 f0).mono ?_
 rintro e w1 ⟨rfl, rfl⟩
 generalize w.setCell ⟨L.p, 0, none⟩ (.int .i32 1) = W1 at *
 go_wp2_with fail
 refine' cut2 (X := Value) (Y := Nat) _ (fun vh a w3 => ∃ l w2, w2.ownsRow 0 107 2 vh l.length (lkc l) ∧ (∀ b, vh.ownBlock = some b → W1.heap.size ≤ b) ∧ HoldsL (holdF s.lk) key l ∧ Kept NoBlk W1 w2 ∧ (W1.heap.size ≤ a ∧ ∀ b, vh.ownBlock = some b → b < a) ∧ w3.heap[a]? = some (.cells (lkc (qcast (s.lk key).q)).toArray 107 (0, 0)) ∧ Kept NoBlk w2 w3) ?_ ?_
 rotate_left
 ·refine wp_region_noPanic ?_
  go_region_law (first
   | (go_simp; go_at_call 66; (with_reducible refine HHD.out.mono ?_); rintro e w2 ⟨vh, l, rfl, hv1, hv2, hv3, hk2⟩; have hk2' := (Kept.refl NoBlk W1).drew.trans' hk2; have e7 := hk2'.cell0 d7; have el := HLK.out w2 hk2')
   | (go_simp; go_at_call 67; (with_reducible refine (HFR.out _ hk2').mono ?_); rintro e w3 ⟨rfl, hv4, hk3⟩; have hs2 : W1.heap.size ≤ w2.heap.size ∧ (∀ b, vh.ownBlock = some b → b < w2.heap.size) := ⟨hk2'.size, ownsRow_lt hv1⟩; generalize w2.heap.size = ha at *))
  all_goals
   refine NoPanic.normal ?_
   refine ⟨vh, ha, ?_, l, w2, hv1, hv2, hv3, hk2', hs2, hv4, hk3⟩
   exact rfl
 rintro vh a w3 ⟨l, w2, hv1, hv2, hv3, hk2, ha, hv4, hk3⟩
 have hk13 := hk2.trans' hk3
 have H3 : Hid (PSt L bs A ow m 1 lv s w3 ∧ Kept (OwnP ow) w w3) := ⟨H1.out.kept0 hk13, HK1.out.trans' (hk13.mono (fun _ x => x.elim))⟩
 have HV : Hid (RowAt w3 107 2 vh l.length (lkc l) ∧ (∀ b, vh.ownBlock = some b → W1.heap.size ≤ b) ∧ HoldsL (holdF s.lk) key l ∧ (W1.heap.size ≤ a ∧ ∀ b, vh.ownBlock = some b → b < a) ∧ w3.heap[a]? = some (.cells (lkc (qcast (s.lk key).q)).toArray 107 (0, 0))) := ⟨(RowAt.owns hv1).kept hk3 (fun _ _ x => x), hv2, hv3, ha, hv4⟩
 clear hv1 hv2 hv3 hk2 ha hv4 hk3 hk13 d7 dl
 go_wp2_with fail
 refine leaves_cons (f := 60) (args := #[.pointer (some ⟨L.p, 0, none⟩)]) (by simp) (by simp [go_sem]) ?_
 refine (unlock_deferred Tryz.muLib ⟨L.p, 0, none⟩ .returning _ H3.out.1.mucell.1 H3.out.1.mucell.2).mono ?_
 rintro e u' w'' ⟨rfl, rfl, rfl⟩
 have hs := HK1.out.size
 have hp := HPL.out
 obtain ⟨g1, g2, g3, g4, g5⟩ := HV.out
 have e8 := Kept.set1 w3 L.p 0 (.int .i32 0)
 refine ⟨_, results_tmp2 rfl _ _ _, vh, l, a, ?_, g1.kept e8 (fun k e x => by unfold Blk at x; have := g2 k e; omega), fun b e => Nat.le_trans hs (g2 b e), g3, ⟨Nat.le_trans hs g4.1, g4.2⟩, e8.heap g5 (fun x => by unfold Blk at x; have := g4.1; omega), H3.out.1.locked 0, H3.out.2.trans' (HKP.out _ _)⟩
 first | rfl | (simp; done)
end Go.Proofs.YtmcajfefagdbnaaGreat
