import Derived.Test.YtmcajfefagdbnaaGreatLKAc4
import Derived.Test.YtmcajfefagdbnaaGreatLKSer1
import Derived.Deep.RegionHeld3
import Derived.Deep.DrawnRows
import Derived.BigQuiet
import Derived.Deep.QuietTactic
namespace Go.Proofs.YtmcajfefagdbnaaGreat
open Go Go.RowKit
set_option maxRecDepth 20000 in
set_option maxHeartbeats 6400000 in
theorem settled_any {L : Lay} {bs : Nat → Nat} {ow : Ow} {j : Nat} {s : St} {w : World} (h : KSt L bs ow j s w) (wb : Nat) (hkw : KW w wb L s.n) (hnw : ¬ OwnP ow wb) (hk5 : Keys5 s) :
  Calls Tryz.prog 32 #[.pointer (some ⟨wb, 0, none⟩)] w fun e w' => e = .returned (.bool true) ∧ KSt L bs ow j s w' ∧ Kept (OwnP ow) w w' := by
 have hn5 := h.n5
 have HI : Hid (Inv s ∧ Keys5 s) := ⟨h.good.inv, hk5⟩
 obtain ⟨i1, hi1, hy0, hy1, hy2⟩ := info_parts infoLk
 have HL : Hid (Tryz.prog.info? 107 = some i1 ∧ i1.zero = some (.agg #[.int .i64 0, .int .i64 0]) ∧ i1.size = 2 ∧ i1.bytes = 16) := ⟨hi1, hy0, hy1, hy2⟩
 have HS0 : Hid (SetA L bs ow j s wb w [(w.heap.size, .cells (icells (s.n + 1) (wq s 0)) 3)] [] (w.alloc (.cells (icells (s.n + 1) (fun _ => 0)) 3))) :=
  SetA.push (F := []) (R := []) ⟨h, hkw, hnw, Kept.refl _ _, (fun p hp => by cases hp), (fun r hr => by cases hr)⟩ _
 obtain ⟨cs, ao, c, x1, _, x3⟩ := hkw
 have c11 : w.cell? ⟨wb, 11, none⟩ = some (.slice ao s.n c) := by rw [cell_at x1]; exact x3
 clear x1 x3 h hnw hk5 hi1 hy0 hy1 hy2
 generalize hsn : s.n = sn at *
 have HSN : Hid (s.n = sn) := hsn
 clear hsn
 have hmk := makeInts sn hn5
 go_enter Tryz.func32, Tryz.ntmps32
 go_wp2_with fail
 generalize w.alloc (.cells (icells (sn + 1) (fun _ => 0)) 3) = W0 at *
 generalize w.heap.size = H at *
 clear hmk c11
 go_loopw [4] (fun i wr => ∃ K : Nat, K ≤ 5 ∧ i = .int .i64 K ∧ SetA L bs ow j s wb w [(H, .cells (icells (sn + 1) (wq s K)) 3)] [] wr) (fun i _ => 5 - (intOf i).toNat)
 case atStart => exact ⟨0, by omega, rfl, HS0.out⟩
 case round =>
  clear HS0
  obtain ⟨K, hK, rfl, hst⟩ := hrel
  by_cases hlt : K < 5
  ·have HLC : Hid (Calls Tryz.prog 27 #[.pointer (some ⟨L.p, 0, none⟩), .int .i64 (K : Int)] wr fun e w' => ∃ vh l a, e = .returned (.tuple #[vh, .slice (some ⟨a, 0, none⟩) (s.lk (K : Int)).q.length (s.lk (K : Int)).q.length]) ∧ HoldsL (holdF s.lk) (K : Int) l ∧ l.length ≤ maxLen ∧ SetA L bs ow j s wb w [(H, .cells (icells (sn + 1) (wq s K)) 3), (a, .cells (lkc (qcast (s.lk (K : Int)).q)).toArray 107)] [(vh, l)] w') := by
    refine (kLocks hst.st (K : Int) ⟨by omega, by omega⟩).mono ?_
    rintro e w' ⟨vh, l, a, rfl, h1, h2, h3, h4, h5, h6, h7⟩
    obtain ⟨_, _, _, m1, m2⟩ := h1.form
    refine ⟨vh, l, a, rfl, h3, by omega, ?_⟩
    have g1 := (hst.keep h6 h7).row1 vh l h1 (fun k hk => ⟨fun e => by have := hst.st.st.lt _ e; have := h2 k hk; omega, Nat.le_trans hst.kept.size (h2 k hk)⟩)
    have g2 := g1.box1 a _ h5 ⟨fun e => by have := hst.st.st.lt _ e; omega, Nat.le_trans hst.kept.size h4⟩
    exact g2.sub (fun p hp => by simp at hp ⊢; rcases hp with rfl | rfl <;> simp) (fun r hr => hr)
   have c0 := hst.c0
   have hqn : (s.lk (K : Int)).q.length ≤ 5 := by
    have := queue_few HI.out.1 (K : Int)
    have := HSN.out
    omega
   clear hst
   generalize hql : (s.lk (K : Int)).q.length = qn at *
   have HQL : Hid ((s.lk (K : Int)).q.length = qn) := hql
   clear hql
   go_wp2_with fail
   refine HLC.out.mono ?_
   rintro e w1 ⟨vh, l, a, rfl, hh, hlm, h1⟩
   have hvr : RowAt w1 107 2 vh l.length (lkc l) := (h1.row (vh, l) (by simp)).1
   obtain ⟨va, vc, rfl, _⟩ := hvr.form
   clear hvr
   have HH : Hid (HoldsL (holdF s.lk) (K : Int) l ∧ l.length ≤ maxLen) := ⟨hh, hlm⟩
   have H1 : Hid (SetA L bs ow j s wb w [(H, .cells (icells (sn + 1) (wq s K)) 3), (a, .cells (lkc (qcast (s.lk (K : Int)).q)).toArray 107)] [(.slice va l.length vc, l)] w1) := h1
   have hlm2 : l.length ≤ 5 := by have := holds_few HI.out.1 hh; have := HSN.out; omega
   clear HLC c0 hh hlm h1
   generalize hll : l.length = ln at *
   have HLL : Hid (l.length = ln) := hll
   clear hll
   go_wp2_with fail
   go_loopw [7] (fun i wr => ∃ p : Nat, p ≤ ln ∧ i = .int .i64 p ∧ SetA L bs ow j s wb w [(H, .cells (icells (sn + 1) (wq s K)) 3), (a, .cells (lkc (qcast (s.lk (K : Int)).q)).toArray 107)] [(.slice va ln vc, l)] wr) (fun i _ => ln - (intOf i).toNat)
   case atStart => exact ⟨0, by omega, rfl, H1.out⟩
   case round =>
    clear H1
    obtain ⟨p, hp, rfl, hst⟩ := hrel
    by_cases hpl : p < ln
    ·have H2 : Hid (SetA L bs ow j s wb w [(H, .cells (icells (sn + 1) (wq s K)) 3), (a, .cells (lkc (qcast (s.lk (K : Int)).q)).toArray 107)] [(.slice va ln vc, l)] wr) := hst
     clear hst
     go_wp2_with fail
     go_loopw [8] (fun i wr => ∃ r : Nat, r ≤ ln ∧ i = .int .i64 r ∧ SetA L bs ow j s wb w [(H, .cells (icells (sn + 1) (wq s K)) 3), (a, .cells (lkc (qcast (s.lk (K : Int)).q)).toArray 107)] [(.slice va ln vc, l)] wr) (fun i _ => ln - (intOf i).toNat)
     case atStart => exact ⟨0, by omega, rfl, H2.out⟩
     case round =>
      clear H2
      obtain ⟨r, hr, rfl, hst⟩ := hrel
      by_cases hrl : r < ln
      ·obtain ⟨g, off, vc', hv, hcs⟩ := row_cells (by have := (hst.row (.slice va ln vc, l) (by simp)).1; exact this) (by rw [HLL.out]; omega)
       simp only [Value.slice.injEq] at hv
       obtain ⟨rfl, hxx, rfl⟩ := hv
       clear hxx
       have e1 := (hcs p (by rw [HLL.out]; exact hpl)).2
       have e2 := (hcs r (by rw [HLL.out]; exact hrl)).2
       have H2 : Hid (SetA L bs ow j s wb w [(H, .cells (icells (sn + 1) (wq s K)) 3), (a, .cells (lkc (qcast (s.lk (K : Int)).q)).toArray 107)] [(.slice (some ⟨g, off, none⟩) ln vc, l)] wr) := hst
       have j0 : (0 : Int) ≤ (p : Int) := by omega
       have j1 : (p : Int) < (ln : Int) := by omega
       have j2 : (0 : Int) ≤ (r : Int) := by omega
       have j3 : (r : Int) < (ln : Int) := by omega
       by_cases hpr : p = r
       ·have hne : ((p : Int) != (r : Int)) = false := by simp [hpr]
        clear hst hcs hpr
        go_wp2_with fail
        go_quiet (fail)
        go_wp2_with fail
        go_roundw
        case rel => exact ⟨r + 1, by omega, by go_num, H2.out.keep0 ((Kept.refl NoBlk _).drewN _)⟩
        case measure => simp [intOf]; omega
       ·have hne : ((p : Int) != (r : Int)) = true := by simp; omega
        have hcf := holds_apart HI.out.1 HH.out.1 (i := p) (j := r) (by rw [HLL.out]; exact hpl) (by rw [HLL.out]; exact hrl) hpr
        clear hst hcs
        generalize (l.getD p (0, 0)).2 = m1 at *
        generalize (l.getD r (0, 0)).2 = m2 at *
        go_wp2_with fail
        go_quiet ((go_at_call 71; exact Calls.quiet_of_same (kconf_any _ _ _)))
        go_wp2_with fail
        go_roundw
        case rel => exact ⟨r + 1, by omega, by go_num, H2.out.keep0 ((Kept.refl NoBlk _).drewN _)⟩
        case measure => simp [intOf]; omega
      ·have H2 : Hid (SetA L bs ow j s wb w [(H, .cells (icells (sn + 1) (wq s K)) 3), (a, .cells (lkc (qcast (s.lk (K : Int)).q)).toArray 107)] [(.slice va ln vc, l)] wr) := hst
       clear hst
       go_wp2_with fail
       go_roundw
       case rel => exact ⟨p + 1, by omega, by go_num, H2.out⟩
       case measure => simp [intOf]; omega
    ·have H3 : Hid (SetA L bs ow j s wb w [(H, .cells (icells (sn + 1) (fun id => wq s K id + cq ((s.lk (K : Int)).q.take 0) id)) 3), (a, .cells (lkc (qcast (s.lk (K : Int)).q)).toArray 107)] [(.slice va ln vc, l)] wr) := by
      have e : (fun id => wq s K id + cq ((s.lk (K : Int)).q.take 0) id) = wq s K := funext fun id => by simp [cq]
      rw [e]
      exact hst
     clear hst
     go_wp2_with fail
     go_loopw [9] (fun i wr => ∃ i0 : Nat, i0 ≤ qn ∧ i = .int .i64 i0 ∧ SetA L bs ow j s wb w [(H, .cells (icells (sn + 1) (fun id => wq s K id + cq ((s.lk (K : Int)).q.take i0) id)) 3), (a, .cells (lkc (qcast (s.lk (K : Int)).q)).toArray 107)] [(.slice va ln vc, l)] wr) (fun i _ => qn - (intOf i).toNat)
     case atStart => exact ⟨0, by omega, rfl, H3.out⟩
     case round =>
      clear H3
      obtain ⟨i0, hi0, rfl, hst⟩ := hrel
      by_cases hiq : i0 < qn
      ·obtain ⟨q1, q2⟩ := queue_cells (hst.at (b := a) (o := .cells (lkc (qcast (s.lk (K : Int)).q)).toArray 107) (by simp)) i0 (by rw [HQL.out]; exact hiq)
       obtain ⟨t1, t2, t3⟩ := queue_at HI.out.1 (K : Int) i0 (by rw [HQL.out]; exact hiq)
       rw [HSN.out] at t2
       have HCT : Hid (∀ id, cq ((s.lk (K : Int)).q.take (i0 + 1)) id = cq ((s.lk (K : Int)).q.take i0) id + (if ((s.lk (K : Int)).q.getD i0 (0, 0)).1 = id then 1 else 0)) := fun id => cq_take _ i0 id (by rw [HQL.out]; exact hiq)
       have HBF : Hid (∀ x ∈ l ++ qcast ((s.lk (K : Int)).q.take i0), ∃ t : Nat, x.1 = (t : Int) ∧ 1 ≤ t ∧ t ≤ s.n ∧ (t ≠ ((s.lk (K : Int)).q.getD i0 (0, 0)).1 → conf x.2 ((s.lk (K : Int)).q.getD i0 (0, 0)).2 = true → ((s.lk (K : Int)).q.getD i0 (0, 0)).1 < t → (s.tx t).wounded = true)) := fun x hx => before_ok HI.out.1 HH.out.1 i0 (by rw [HQL.out]; exact hiq) x hx
       have hN : wq s K ((s.lk (K : Int)).q.getD i0 (0, 0)).1 + cq ((s.lk (K : Int)).q.take i0) ((s.lk (K : Int)).q.getD i0 (0, 0)).1 ≤ 6 := by
        have h1 := wq_le HI.out.1 K ((s.lk (K : Int)).q.getD i0 (0, 0)).1
        have h2 := cq_le ((s.lk (K : Int)).q.take i0) ((s.lk (K : Int)).q.getD i0 (0, 0)).1 (((HI.out.1.row (K : Int)).once).sublist ((List.take_sublist i0 _).map _))
        omega
       have hcnt : wr.cell? ⟨H, ((s.lk (K : Int)).q.getD i0 (0, 0)).1, none⟩ = some (.int .i64 ((wq s K ((s.lk (K : Int)).q.getD i0 (0, 0)).1 + cq ((s.lk (K : Int)).q.take i0) ((s.lk (K : Int)).q.getD i0 (0, 0)).1 : Nat) : Int)) := by
        rw [cell_at (hst.at (b := H) (o := .cells (icells (sn + 1) (fun id => wq s K id + cq ((s.lk (K : Int)).q.take i0) id)) 3) (by simp))]
        exact icells_at _ _ _ (by omega)
       have hfz : ∀ o, wr.frozen? ⟨H, o, none⟩ = false := frozen_at (hst.at (b := H) (o := .cells (icells (sn + 1) (fun id => wq s K id + cq ((s.lk (K : Int)).q.take i0) id)) 3) (by simp))
       have HC2 : Hid (∀ n, SetA L bs ow j s wb w [(H, .cells (icells (sn + 1) (fun k => if k = ((s.lk (K : Int)).q.getD i0 (0, 0)).1 then wq s K ((s.lk (K : Int)).q.getD i0 (0, 0)).1 + cq ((s.lk (K : Int)).q.take i0) ((s.lk (K : Int)).q.getD i0 (0, 0)).1 + 1 else wq s K k + cq ((s.lk (K : Int)).q.take i0) k)) 3), (a, .cells (lkc (qcast (s.lk (K : Int)).q)).toArray 107)] [(.slice va ln vc, l)] ((wr.drewN n).setCell ⟨H, ((s.lk (K : Int)).q.getD i0 (0, 0)).1, none⟩ (.int .i64 (((wq s K ((s.lk (K : Int)).q.getD i0 (0, 0)).1 + cq ((s.lk (K : Int)).q.take i0) ((s.lk (K : Int)).q.getD i0 (0, 0)).1 : Nat) : Int) + 1)))) := fun n => by
        have h1 := hst.keep0 ((Kept.refl NoBlk _).drewN n)
        rw [← HSN.out] at h1 ⊢
        exact h1.count _ _
       obtain ⟨ao, ac, c11⟩ := hst.c11
       rw [HSN.out] at c11
       clear hst
       generalize hN0 : wq s K ((s.lk (K : Int)).q.getD i0 (0, 0)).1 + cq ((s.lk (K : Int)).q.take i0) ((s.lk (K : Int)).q.getD i0 (0, 0)).1 = N0 at *
       generalize htx : ((s.lk (K : Int)).q.getD i0 (0, 0)).1 = tx at *
       generalize hmd : ((s.lk (K : Int)).q.getD i0 (0, 0)).2 = md at *
       have HTX : Hid (((s.lk (K : Int)).q.getD i0 (0, 0)).1 = tx ∧ ((s.lk (K : Int)).q.getD i0 (0, 0)).2 = md) := ⟨htx, hmd⟩
       have HN0 : Hid (wq s K tx + cq ((s.lk (K : Int)).q.take i0) tx = N0) := hN0
       clear htx hN0 hmd
       have j0 : (0 : Int) ≤ (i0 : Int) := by omega
       have j1 : (i0 : Int) < (qn : Int) := by omega
       have j2 : decide ((tx : Int) < 1) = false := by simp; omega
       have j3 : decide ((sn : Int) < (tx : Int)) = false := by simp; omega
       have j4 : (0 : Int) ≤ (tx : Int) := by omega
       have j5 : (tx : Int) < ((sn + 1 : Nat) : Int) := by omega
       have j6 : (tx : Int) < (sn : Int) + 1 := by omega
       go_wp2_with fail
       go_quiet (fail)
       have HW1 : Hid (SetA L bs ow j s wb w [(H, .cells (icells (sn + 1) (fun k => if k = tx then N0 + 1 else wq s K k + cq ((s.lk (K : Int)).q.take i0) k)) 3), (a, .cells (lkc (qcast (s.lk (K : Int)).q)).toArray 107)] [(.slice va ln vc, l)] ((wr.drewN nq).setCell ⟨H, tx, none⟩ (.int .i64 ((N0 : Int) + 1)))) := HC2.out nq
       have HFM : Hid (FromMem (((wr.drewN nq).setCell ⟨H, tx, none⟩ (.int .i64 ((N0 : Int) + 1))).alloc (.cells #[] 107)) 2 (.slice va ln vc) ln (lkc l)) := by
        have h1 := ((HW1.out.keep0 ((Kept.refl NoBlk _).alloc (.cells #[] 107))).row (.slice va ln vc, l) (by simp)).1
        have h2 := h1.mem (lkc_one l)
        simp only at h2
        rw [HLL.out] at h2
        exact h2
       have HB1 : Hid (0 + ln ≤ maxLen ∧ (0 + ln) * 16 ≤ 140737488355328 ∧ 0 + ln + i0 ≤ maxLen ∧ (0 + ln + i0) * 16 ≤ 140737488355328 ∧ (0 : Nat) ≤ maxLen) := by unfold Hid maxLen; omega
       have HE0 : Hid (RowAt (((wr.drewN nq).setCell ⟨H, tx, none⟩ (.int .i64 ((N0 : Int) + 1))).alloc (.cells #[] 107)) 107 2 (.slice (some ⟨wr.heap.size, 0, none⟩) 0 0) 0 []) := by
        have hsz : ((wr.drewN nq).setCell ⟨H, tx, none⟩ (.int .i64 ((N0 : Int) + 1))).heap.size = wr.heap.size := by simp [World.setCell]
        have h1 := RowAt.full (e := 107) (size := 2) (n := 0) (xs := []) (block_alloc_new ((wr.drewN nq).setCell ⟨H, tx, none⟩ (.int .i64 ((N0 : Int) + 1))) (.cells #[] 107)) rfl HB1.out.2.2.2.2
        rw [hsz] at h1
        exact h1
       go_wp2_with (first | (refine wpList_build0 (by rfl) (by rfl) ?_) | (at_builtin; refine wpList_append_row (by rfl) _ _ 74 (by rfl) 107 i1 _ 2 16 Tryz.underlying74 HL.out.1 HL.out.2.1 HL.out.2.2.1 HL.out.2.2.2 (by rfl) (.slice (some ⟨wr.heap.size, 0, none⟩) 0 0) 0 [] (by rfl) HE0.out (.slice va ln vc) ln (lkc l) (by rfl) HFM.out HB1.out.1 HB1.out.2.1 ?_))
       intro ao2 c2 W3 hown2 hmv2
       have hsz1 : ((wr.drewN nq).setCell ⟨H, tx, none⟩ (.int .i64 ((N0 : Int) + 1))).heap.size = wr.heap.size := by simp [World.setCell]
       have HBN : Hid (SetB ow wb [(H, .cells (icells (sn + 1) (fun k => if k = tx then N0 + 1 else wq s K k + cq ((s.lk (K : Int)).q.take i0) k)) 3), (a, .cells (lkc (qcast (s.lk (K : Int)).q)).toArray 107)] [(.slice va ln vc, l)] wr.heap.size ∧ w.heap.size ≤ wr.heap.size) := by
        have h1 := HW1.out.bnd
        rw [hsz1] at h1
        exact ⟨h1, by have := HW1.out.kept.size; rw [hsz1] at this; exact this⟩
       have hk3 : Kept (fun k => wr.heap.size ≤ k) ((wr.drewN nq).setCell ⟨H, tx, none⟩ (.int .i64 ((N0 : Int) + 1))) W3 := ((Kept.refl _ _).alloc _).trans hmv2.keptOf (fun k e => .inl (by simp [Value.ownBlock] at e; omega))
       have HWS : Hid (wr.heap.size ≤ W3.heap.size) := by
        have h1 := hk3.size
        rw [hsz1] at h1
        exact h1
       have HW3 : Hid (SetA L bs ow j s wb w [(H, .cells (icells (sn + 1) (fun k => if k = tx then N0 + 1 else wq s K k + cq ((s.lk (K : Int)).q.take i0) k)) 3), (a, .cells (lkc (qcast (s.lk (K : Int)).q)).toArray 107)] [(.slice va ln vc, l)] W3) := HW1.out.keepN HBN.out.1 HBN.out.2 hk3
       have HOW2 : Hid (RowAt W3 107 2 (.slice ao2 ln c2) ln (lkc l) ∧ ∀ k, (Value.slice ao2 ln c2).ownBlock = some k → wr.heap.size ≤ k) := ⟨hown2, fun k hk => by
        rcases hmv2.fresh k hk with e | e
        ·simp [Value.ownBlock] at e; omega
        ·rw [alloc_size, hsz1] at e; omega⟩
       have HFM2 : Hid (FromMem W3 2 (.slice (some ⟨a, 0, none⟩) i0 qn) i0 (lkc (qcast ((s.lk (K : Int)).q.take i0)))) := by
        have h1 := row_front (HW3.out.at (b := a) (o := .cells (lkc (qcast (s.lk (K : Int)).q)).toArray 107) (by simp)) i0 (by rw [HQL.out]; exact hi0) (by rw [HQL.out]; unfold maxLen; omega)
        rw [HQL.out] at h1
        exact h1.mem (lkc_one _)
       have HB2 : Hid (ln + i0 ≤ maxLen ∧ (ln + i0) * 16 ≤ 140737488355328) := by unfold Hid maxLen; omega
       have j7 : (i0 : Int) ≤ (qn : Int) := by omega
       clear hown2 hmv2 hk3 HFM HE0 HB1 HC2 HW1 q1 q2 hcnt hfz c11 hsz1
       go_wp2_with (at_builtin; refine wpList_append_row (by rfl) _ _ 74 (by rfl) 107 i1 _ 2 16 Tryz.underlying74 HL.out.1 HL.out.2.1 HL.out.2.2.1 HL.out.2.2.2 (by rfl) (.slice ao2 ln c2) ln (lkc l) (by rfl) HOW2.out.1 (.slice (some ⟨a, 0, none⟩) i0 qn) i0 (lkc (qcast ((s.lk (K : Int)).q.take i0))) (by rfl) HFM2.out HB2.out.1 HB2.out.2 ?_)
       intro ao3 c3 W4 hown3 hmv3
       have hk4 : Kept (fun k => wr.heap.size ≤ k) W3 W4 := hmv3.keptOf.mono (fun k e => HOW2.out.2 k e)
       have hml : (l ++ qcast ((s.lk (K : Int)).q.take i0)).length = ln + i0 := by
        rw [List.length_append, HLL.out]
        unfold qcast
        rw [List.length_map, List.length_take, HQL.out]
        omega
       have HW4 : Hid (SetA L bs ow j s wb w [(H, .cells (icells (sn + 1) (fun k => if k = tx then N0 + 1 else wq s K k + cq ((s.lk (K : Int)).q.take i0) k)) 3), (a, .cells (lkc (qcast (s.lk (K : Int)).q)).toArray 107)] [(.slice ao3 (ln + i0) c3, l ++ qcast ((s.lk (K : Int)).q.take i0)), (.slice va ln vc, l)] W4) := by
        refine (HW3.out.keepN HBN.out.1 HBN.out.2 hk4).row1 _ _ (by rw [hml, lkc_append]; exact hown3) (fun k hk => ?_)
        have h1 : wr.heap.size ≤ k := by
         rcases hmv3.fresh k hk with e | e
         ·exact HOW2.out.2 k e
         ·have := HW3.out.kept.size; have h2 := HBN.out.1; have := hk4.size; have h3 := HW3.out.bnd; exact Nat.le_trans (HWS.out) e
        exact ⟨fun e => by have := HBN.out.1.1 k e; omega, Nat.le_trans HBN.out.2 h1⟩
       have HML : Hid ((l ++ qcast ((s.lk (K : Int)).q.take i0)).length = ln + i0) := hml
       have HCN : Hid (∀ k, (if k = tx then N0 + 1 else wq s K k + cq ((s.lk (K : Int)).q.take i0) k) = wq s K k + cq ((s.lk (K : Int)).q.take (i0 + 1)) k) := fun k => by
        rw [HCT.out k]
        by_cases e : k = tx
        ·rw [if_pos e, if_pos e.symm, ← HN0.out, e]; omega
        ·rw [if_neg e, if_neg (fun h => e h.symm)]; omega
       clear hown3 hmv3 hk4 hml HW3 HOW2 HFM2 HB2 HBN HWS HCT HN0
       have hmn : ln + i0 ≤ 10 := by omega
       generalize ln + i0 = mn at *
       go_wp2_with fail
       go_loopw [11] (fun jv wr => ∃ y : Nat, y ≤ mn ∧ jv = .int .i64 y ∧ SetA L bs ow j s wb w [(H, .cells (icells (sn + 1) (fun k => if k = tx then N0 + 1 else wq s K k + cq ((s.lk (K : Int)).q.take i0) k)) 3), (a, .cells (lkc (qcast (s.lk (K : Int)).q)).toArray 107)] [(.slice ao3 mn c3, l ++ qcast ((s.lk (K : Int)).q.take i0)), (.slice va ln vc, l)] wr) (fun jv _ => mn - (intOf jv).toNat)
       case atStart => exact ⟨0, by omega, rfl, HW4.out⟩
       case round =>
        clear HW4
        obtain ⟨y, hy, rfl, hst⟩ := hrel
        by_cases hym : y < mn
        ·obtain ⟨g3, off3, c3', hv, hcs⟩ := row_cells (by have := (hst.row (.slice ao3 mn c3, l ++ qcast ((s.lk (K : Int)).q.take i0)) (by simp)).1; exact this) (by rw [HML.out]; omega)
         simp only [Value.slice.injEq] at hv
         obtain ⟨rfl, hxx, rfl⟩ := hv
         clear hxx
         obtain ⟨e1, e2⟩ := hcs y (by rw [HML.out]; exact hym)
         obtain ⟨t, ht, hb1, hb2, hb3⟩ := HBF.out ((l ++ qcast ((s.lk (K : Int)).q.take i0)).getD y (0, 0)) (by rw [List.getD_eq_getElem?_getD, List.getElem?_eq_getElem (by rw [HML.out]; exact hym)]; exact List.getElem_mem _)
         rw [ht] at e1
         generalize ((l ++ qcast ((s.lk (K : Int)).q.take i0)).getD y (0, 0)).2 = xm at *
         have HP : Hid (SetA L bs ow j s wb w ((wr.heap.size, .cells #[.int .i64 (t : Int), .int .i64 xm] 107) :: [(H, .cells (icells (sn + 1) (fun k => if k = tx then N0 + 1 else wq s K k + cq ((s.lk (K : Int)).q.take i0) k)) 3), (a, .cells (lkc (qcast (s.lk (K : Int)).q)).toArray 107)]) [(.slice (some ⟨g3, off3, none⟩) mn c3, l ++ qcast ((s.lk (K : Int)).q.take i0)), (.slice va ln vc, l)] (wr.alloc (.cells #[.int .i64 (t : Int), .int .i64 xm] 107))) := hst.push _
         have j8 : (0 : Int) ≤ (y : Int) := by omega
         have j9 : (y : Int) < (mn : Int) := by omega
         clear hst hcs ht
         go_wp2_with fail
         generalize wr.alloc (.cells #[.int .i64 (t : Int), .int .i64 xm] 107) = W5 at *
         generalize wr.heap.size = ub at *
         have hq5 := queue_cells (HP.out.at (b := a) (o := .cells (lkc (qcast (s.lk (K : Int)).q)).toArray 107) (by simp)) i0 (by rw [HQL.out]; exact hiq)
         have x5 : W5.cell? ⟨ub, 1, none⟩ = some (.int .i64 xm) := by rw [cell_at (HP.out.at (List.mem_cons_self ..))]; rfl
         have x4 : W5.cell? ⟨ub, 0, none⟩ = some (.int .i64 (t : Int)) := by rw [cell_at (HP.out.at (List.mem_cons_self ..))]; rfl
         rw [HTX.out.1, HTX.out.2] at hq5
         obtain ⟨q4, q5⟩ := hq5
         go_quiet ((go_at_call 71; exact Calls.quiet_of_same (kconf_any _ _ _)))
         go_wp2_with fail
         have HP6 : Hid (SetA L bs ow j s wb w ((ub, .cells #[.int .i64 (t : Int), .int .i64 xm] 107) :: [(H, .cells (icells (sn + 1) (fun k => if k = tx then N0 + 1 else wq s K k + cq ((s.lk (K : Int)).q.take i0) k)) 3), (a, .cells (lkc (qcast (s.lk (K : Int)).q)).toArray 107)]) [(.slice (some ⟨g3, off3, none⟩) mn c3, l ++ qcast ((s.lk (K : Int)).q.take i0)), (.slice va ln vc, l)] (W5.drewN nq)) := HP.out.keep0 ((Kept.refl NoBlk _).drewN _)
         generalize W5.drewN nq = W6 at *
         clear HP q4 q5 x4 x5
         have hq6 := queue_cells (HP6.out.at (b := a) (o := .cells (lkc (qcast (s.lk (K : Int)).q)).toArray 107) (by simp)) i0 (by rw [HQL.out]; exact hiq)
         rw [HTX.out.1, HTX.out.2] at hq6
         obtain ⟨q4, q5⟩ := hq6
         have x4 : W6.cell? ⟨ub, 0, none⟩ = some (.int .i64 (t : Int)) := by rw [cell_at (HP6.out.at (List.mem_cons_self ..))]; rfl
         by_cases hte : t = tx
         ·have hEq : ((t : Int) == (tx : Int)) = true := by simp [hte]
          clear hte hb3
          go_quiet (fail)
          go_wp2_with fail
          go_roundw
          case rel => exact ⟨y + 1, by omega, by go_num, (HP6.out.keep0 ((Kept.refl NoBlk _).drewN _)).sub (fun p hp => List.mem_cons_of_mem _ hp) (fun r hr => hr)⟩
          case measure => simp [intOf]; omega
         ·have hEq : ((t : Int) == (tx : Int)) = false := by simp; omega
          have hb4 := hb3 hte
          clear hb3
          generalize conf xm md = cb at *
          cases cb
          ·clear hte hb4
           go_quiet (fail)
           go_wp2_with fail
           go_roundw
           case rel => exact ⟨y + 1, by omega, by go_num, (HP6.out.keep0 ((Kept.refl NoBlk _).drewN _)).sub (fun p hp => List.mem_cons_of_mem _ hp) (fun r hr => hr)⟩
           case measure => simp [intOf]; omega
          ·have HWD : Hid (tx < t → (s.tx t).wounded = true) := hb4 rfl
           clear hte hb4
           go_quiet (fail)
           go_wp2_with fail
           have HP7 : Hid (SetA L bs ow j s wb w ((ub, .cells #[.int .i64 (t : Int), .int .i64 xm] 107) :: [(H, .cells (icells (sn + 1) (fun k => if k = tx then N0 + 1 else wq s K k + cq ((s.lk (K : Int)).q.take i0) k)) 3), (a, .cells (lkc (qcast (s.lk (K : Int)).q)).toArray 107)]) [(.slice (some ⟨g3, off3, none⟩) mn c3, l ++ qcast ((s.lk (K : Int)).q.take i0)), (.slice va ln vc, l)] (W6.drewN nq)) := HP6.out.keep0 ((Kept.refl NoBlk _).drewN _)
           generalize W6.drewN nq = W7 at *
           clear HP6 q4 q5 x4
           obtain ⟨A, hA⟩ : ∃ A : World → Prop, A = SetA L bs ow j s wb w ((ub, .cells #[.int .i64 (t : Int), .int .i64 xm] 107) :: [(H, .cells (icells (sn + 1) (fun k => if k = tx then N0 + 1 else wq s K k + cq ((s.lk (K : Int)).q.take i0) k)) 3), (a, .cells (lkc (qcast (s.lk (K : Int)).q)).toArray 107)]) [(.slice (some ⟨g3, off3, none⟩) mn c3, l ++ qcast ((s.lk (K : Int)).q.take i0)), (.slice va ln vc, l)] := ⟨_, rfl⟩
           have a6 : A W7 := by rw [hA]; exact HP7.out
           have HKN : KpN W7.heap.size A := by
            rw [hA]
            have hb := HP7.out.bnd
            have hN := HP7.out.kept.size
            exact fun W W' hk h => h.keepN hb hN hk
           have HSS : Hid (∀ w', A w' → w'.cell? ⟨wb, 0, none⟩ = some (.pointer (some ⟨L.p, 0, none⟩)) ∧ w'.cell? ⟨ub, 0, none⟩ = some (.int .i64 (t : Int)) ∧ A w') := by
            rw [hA]
            intro w' h
            exact ⟨h.c0, by rw [cell_at (h.at (List.mem_cons_self ..))]; rfl, h⟩
           have HTXN : Hid (∀ W, A W → Calls Tryz.prog 23 #[.pointer (some ⟨L.p, 0, none⟩), .int .i64 (t : Int)] W fun e w' => ∃ a1 k1, e = .returned (.tuple #[.agg #[.int .i64 (s.tx t).stamp, .int .i64 (s.tx t).state, .int .i64 ((s.tx t).next : Int), .bool (s.tx t).wounded, .bool (s.tx t).waits.isSome, .int .i64 (s.tx t).agains, .slice (some ⟨a1, 0, none⟩) 4 4, .slice (some ⟨k1, 0, none⟩) (s.tx t).reads.length (s.tx t).reads.length], .int .i64 0]) ∧ A w' ∧ Hid (Kept (OwnP ow) W w')) := by
            rw [hA]
            intro W h
            refine (kTxn h.st t ⟨hb1, hb2⟩).mono ?_
            rintro e w' ⟨v, rfl, ⟨a1, k1, rfl, _, _, _, _⟩, h1, h2⟩
            exact ⟨a1, k1, rfl, h.keep h1 h2, h2⟩
           have HNO : Hid (¬ OwnP ow W7.heap.size) := fun e => by have := HP7.out.st.st.lt _ e; omega
           have HA : Hid (A = SetA L bs ow j s wb w ((ub, .cells #[.int .i64 (t : Int), .int .i64 xm] 107) :: [(H, .cells (icells (sn + 1) (fun k => if k = tx then N0 + 1 else wq s K k + cq ((s.lk (K : Int)).q.take i0) k)) 3), (a, .cells (lkc (qcast (s.lk (K : Int)).q)).toArray 107)]) [(.slice (some ⟨g3, off3, none⟩) mn c3, l ++ qcast ((s.lk (K : Int)).q.take i0)), (.slice va ln vc, l)]) := hA
           clear hA HP7
           refine' cut3 (X := Nat) (Y := Nat) (Z := Nat) _ (fun tb a1 k1 w10 => A w10 ∧ w10.heap[tb]? = some (.cells #[.int .i64 (s.tx t).stamp, .int .i64 (s.tx t).state, .int .i64 ((s.tx t).next : Int), .bool (s.tx t).wounded, .bool (s.tx t).waits.isSome, .int .i64 (s.tx t).agains, .slice (some ⟨a1, 0, none⟩) 4 4, .slice (some ⟨k1, 0, none⟩) (s.tx t).reads.length (s.tx t).reads.length] 69 (0, 0))) ?_ ?_
           rotate_left
           ·go_region_held3 (fun w' => w'.cell? ⟨wb, 0, none⟩ = some (.pointer (some ⟨L.p, 0, none⟩)) ∧ w'.cell? ⟨ub, 0, none⟩ = some (.int .i64 (t : Int)) ∧ A w')
             ((refine HSS.out _ ?_; (repeat (with_reducible refine KpN.setCell HKN _ _ _ (by with_reducible first | exact Nat.le_refl _ | exact hsz9) ?_)); (repeat (with_reducible refine KpN.drew HKN ?_)); (repeat (with_reducible refine KpN.alloc HKN _ ?_)); (repeat (with_reducible refine KpN.drew HKN ?_)); (with_reducible first | exact a9 | exact a6)))
             (first | (go_at_call 23; (with_reducible refine (HTXN.out _ (by (repeat (with_reducible refine KpN.drew HKN ?_)); (repeat (with_reducible refine KpN.alloc HKN _ ?_)); (repeat (with_reducible refine KpN.drew HKN ?_)); with_reducible exact a6)).mono ?_); rintro e w9 ⟨a1, k1, rfl, a9, hk9⟩; have hsz9 : W7.heap.size ≤ w9.heap.size := (by first | exact hk9.out.size | exact Nat.le_trans (((Kept.refl NoBlk W7).alloc _).drew).size hk9.out.size); first | (have hw : Kept (OwnP ow) (W7.alloc (.cells #[.int .i64 0, .int .i64 0, .int .i64 0, .bool false, .bool false, .int .i64 0, .slice none 0 0, .slice none 0 0] 69)).drew w9 := (by with_reducible exact hk9.out); obtain ⟨⟨s0, s1, s2, s3, s4, s5, s6, s7, sf⟩, hT9⟩ := boxT hw HNO.out (block_alloc_new W7 _); clear hw) | skip))
            ·obtain ⟨tb, htb⟩ : ∃ t, t = w9.heap.size := ⟨_, rfl⟩
             refine ⟨tb, a1, k1, ?_, KpN.alloc HKN _ a9, by rw [htb]; exact block_alloc_new w9 _⟩
             rw [← htb]
            ·have F := putT HKN a9 (Nat.le_refl _) hT9 (.int .i64 (s.tx t).stamp) (.int .i64 (s.tx t).state) (.int .i64 ((s.tx t).next : Int)) (.bool (s.tx t).wounded) (.bool (s.tx t).waits.isSome) (.int .i64 (s.tx t).agains) (.slice (some ⟨a1, 0, none⟩) 4 4) (.slice (some ⟨k1, 0, none⟩) (s.tx t).reads.length (s.tx t).reads.length)
             obtain ⟨F1, F2⟩ := F
             obtain ⟨tb, htb⟩ : ∃ t, t = W7.heap.size := ⟨_, rfl⟩
             refine ⟨tb, a1, k1, ?_, F1, by rw [htb]; exact F2⟩
             rw [← htb]
           rintro tb a1 k1 w10 ⟨a10, hb10⟩
           have HP10 : Hid (SetA L bs ow j s wb w ((ub, .cells #[.int .i64 (t : Int), .int .i64 xm] 107) :: [(H, .cells (icells (sn + 1) (fun k => if k = tx then N0 + 1 else wq s K k + cq ((s.lk (K : Int)).q.take i0) k)) 3), (a, .cells (lkc (qcast (s.lk (K : Int)).q)).toArray 107)]) [(.slice (some ⟨g3, off3, none⟩) mn c3, l ++ qcast ((s.lk (K : Int)).q.take i0)), (.slice va ln vc, l)] w10) := by rw [HA.out] at a10; exact a10
           have hq10 := queue_cells (HP10.out.at (b := a) (o := .cells (lkc (qcast (s.lk (K : Int)).q)).toArray 107) (by simp)) i0 (by rw [HQL.out]; exact hiq)
           rw [HTX.out.1, HTX.out.2] at hq10
           obtain ⟨q4, q5⟩ := hq10
           have x4 : w10.cell? ⟨ub, 0, none⟩ = some (.int .i64 (t : Int)) := by rw [cell_at (HP10.out.at (List.mem_cons_self ..))]; rfl
           have b3 : w10.cell? ⟨tb, 3, none⟩ = some (.bool (s.tx t).wounded) := by rw [cell_at hb10]; rfl
           clear HTXN HNO HSS HKN HA a10 hb10 a6
           by_cases hgt : tx < t
           ·have hwd := HWD.out hgt
            rw [hwd] at b3
            have hg1 : decide ((tx : Int) < (t : Int)) = true := by simp; omega
            clear hwd
            go_wp2_with fail
            go_quiet (fail)
            go_wp2_with fail
            go_roundw
            case rel => exact ⟨y + 1, by omega, by go_num, (HP10.out.keep0 ((Kept.refl NoBlk _).drewN _)).sub (fun p hp => List.mem_cons_of_mem _ hp) (fun r hr => hr)⟩
            case measure => simp [intOf]; omega
           ·have hg1 : decide ((tx : Int) < (t : Int)) = false := by simp; omega
            go_wp2_with fail
            go_quiet (fail)
            go_wp2_with fail
            go_roundw
            case rel => exact ⟨y + 1, by omega, by go_num, (HP10.out.keep0 ((Kept.refl NoBlk _).drewN _)).sub (fun p hp => List.mem_cons_of_mem _ hp) (fun r hr => hr)⟩
            case measure => simp [intOf]; omega
        ·have HE : Hid (SetA L bs ow j s wb w [(H, .cells (icells (sn + 1) (fun id => wq s K id + cq ((s.lk (K : Int)).q.take (i0 + 1)) id)) 3), (a, .cells (lkc (qcast (s.lk (K : Int)).q)).toArray 107)] [(.slice va ln vc, l)] wr) := by
          have h1 := hst.sub (F' := [(H, .cells (icells (sn + 1) (fun k => if k = tx then N0 + 1 else wq s K k + cq ((s.lk (K : Int)).q.take i0) k)) 3), (a, .cells (lkc (qcast (s.lk (K : Int)).q)).toArray 107)]) (R' := [(.slice va ln vc, l)]) (fun p hp => hp) (fun r hr => by simp at hr ⊢; exact .inr hr)
          rw [icells_congr (sn + 1) HCN.out] at h1
          exact h1
         clear hst
         go_wp2_with fail
         go_roundw
         case rel => exact ⟨i0 + 1, by omega, by go_num, HE.out⟩
         case measure => simp [intOf]; omega
      ·have HE : Hid (SetA L bs ow j s wb w [(H, .cells (icells (sn + 1) (wq s (K + 1))) 3)] [] wr) := by
        have hqe : i0 = qn := by omega
        have e : ∀ id, wq s K id + cq ((s.lk (K : Int)).q.take i0) id = wq s (K + 1) id := fun id => by
         rw [hqe, ← HQL.out, List.take_length]
         rfl
        rw [icells_congr (sn + 1) e] at hst
        exact hst.sub (fun p hp => by simp at hp ⊢; exact .inl hp) (fun r hr => by cases hr)
       clear hst
       go_wp2_with fail
       go_roundw
       case rel => exact ⟨K + 1, by omega, by go_num, HE.out⟩
       case measure => simp [intOf]; omega
  ·have HE : Hid (SetA L bs ow j s wb w [(H, .cells (icells (sn + 1) (wq s 5)) 3)] [] wr) := by
    have hK5 : K = 5 := by omega
    rw [hK5] at hst
    exact hst
   clear hst
   go_wp2_with fail
   go_loopw [16] (fun i wr => ∃ r : Nat, r ≤ sn ∧ i = .int .i64 ((r : Int) + 1) ∧ SetA L bs ow j s wb w [(H, .cells (icells (sn + 1) (wq s 5)) 3)] [] wr) (fun i _ => sn + 1 - (intOf i).toNat)
   case atStart => exact ⟨0, by omega, rfl, HE.out⟩
   case round =>
    clear HE
    obtain ⟨r, hr, rfl, hst⟩ := hrel
    have c0 := hst.c0
    obtain ⟨ao, ac, c11⟩ := hst.c11
    rw [HSN.out] at c11
    by_cases hrn : r < sn
    ·have HTX : Hid (Calls Tryz.prog 23 #[.pointer (some ⟨L.p, 0, none⟩), .int .i64 ((r : Int) + 1)] wr fun e w' => ∃ a1 k1, e = .returned (.tuple #[.agg #[.int .i64 (s.tx (r + 1)).stamp, .int .i64 (s.tx (r + 1)).state, .int .i64 ((s.tx (r + 1)).next : Int), .bool (s.tx (r + 1)).wounded, .bool (s.tx (r + 1)).waits.isSome, .int .i64 (s.tx (r + 1)).agains, .slice (some ⟨a1, 0, none⟩) 4 4, .slice (some ⟨k1, 0, none⟩) (s.tx (r + 1)).reads.length (s.tx (r + 1)).reads.length], .int .i64 0]) ∧ SetA L bs ow j s wb w [(H, .cells (icells (sn + 1) (wq s 5)) 3)] [] w') := by
      refine (kTxn hst.st (r + 1) ⟨by omega, by have := HSN.out; omega⟩).mono ?_
      rintro e w' ⟨v, rfl, ⟨a1, k1, rfl, _, _, _, _⟩, h1, h2⟩
      exact ⟨a1, k1, rfl, hst.keep h1 h2⟩
     have hwa := wq_all HI.out.1 HI.out.2 (r + 1)
     clear hst
     have j1 : (r : Int) + 1 ≤ (sn : Int) := by omega
     have j2 : (0 : Int) ≤ (r : Int) + 1 := by omega
     have j3 : (r : Int) + 1 < ((sn + 1 : Nat) : Int) := by omega
     have j4 : (r : Int) + 1 < (sn : Int) + 1 := by omega
     go_wp2_with fail
     refine HTX.out.mono ?_
     rintro e w5 ⟨a1, k1, rfl, h5⟩
     have HP5 : Hid (∀ bx, SetA L bs ow j s wb w ((w5.heap.size, bx) :: [(H, .cells (icells (sn + 1) (wq s 5)) 3)]) [] (w5.alloc bx)) := fun bx => h5.push bx
     have hcnt : ∀ bx, (w5.alloc bx).cell? ⟨H, r + 1, none⟩ = some (.int .i64 ((wq s 5 (r + 1) : Nat) : Int)) := fun bx => by
      rw [cell_at ((h5.push bx).at (b := H) (o := .cells (icells (sn + 1) (wq s 5)) 3) (by simp))]
      exact icells_at _ _ _ (by omega)
     clear h5 HTX c0 c11
     rw [hwa] at hcnt
     clear hwa
     generalize (s.tx (r + 1)).waits.isSome = wt at *
     generalize (s.tx (r + 1)).stamp = tst at *
     generalize (s.tx (r + 1)).state = tz at *
     generalize (s.tx (r + 1)).next = tnx at *
     generalize (s.tx (r + 1)).wounded = twd at *
     generalize (s.tx (r + 1)).agains = tag at *
     generalize (s.tx (r + 1)).reads.length = trl at *
     cases wt
     ·have HQ := HP5.out (.cells #[.int .i64 tst, .int .i64 tz, .int .i64 (tnx : Int), .bool twd, .bool false, .int .i64 tag, .slice (some ⟨a1, 0, none⟩) 4 4, .slice (some ⟨k1, 0, none⟩) trl trl] 69)
      have hc := hcnt (.cells #[.int .i64 tst, .int .i64 tz, .int .i64 (tnx : Int), .bool twd, .bool false, .int .i64 tag, .slice (some ⟨a1, 0, none⟩) 4 4, .slice (some ⟨k1, 0, none⟩) trl trl] 69)
      have HQ' : Hid _ := HQ
      have b4 : (w5.alloc (.cells #[.int .i64 tst, .int .i64 tz, .int .i64 (tnx : Int), .bool twd, .bool false, .int .i64 tag, .slice (some ⟨a1, 0, none⟩) 4 4, .slice (some ⟨k1, 0, none⟩) trl trl] 69)).cell? ⟨w5.heap.size, 4, none⟩ = some (.bool false) := by rw [cell_at (block_alloc_new w5 _)]; rfl
      clear HQ HP5 hcnt
      go_wp2_with fail
      generalize w5.alloc (.cells #[.int .i64 tst, .int .i64 tz, .int .i64 (tnx : Int), .bool twd, .bool false, .int .i64 tag, .slice (some ⟨a1, 0, none⟩) 4 4, .slice (some ⟨k1, 0, none⟩) trl trl] 69) = W6 at *
      generalize w5.heap.size = ub at *
      have hc' : W6.cell? ⟨H, r + 1, none⟩ = some (.int .i64 0) := hc
      clear hc
      go_quiet (fail)
      go_wp2_with fail
      go_roundw
      case rel => exact ⟨r + 1, by omega, by go_num, (HQ'.out.keep0 ((Kept.refl NoBlk _).drewN _)).sub (fun p hp => List.mem_cons_of_mem _ hp) (fun r hr => hr)⟩
      case measure => simp [intOf]; omega
     ·have HQ := HP5.out (.cells #[.int .i64 tst, .int .i64 tz, .int .i64 (tnx : Int), .bool twd, .bool true, .int .i64 tag, .slice (some ⟨a1, 0, none⟩) 4 4, .slice (some ⟨k1, 0, none⟩) trl trl] 69)
      have hc := hcnt (.cells #[.int .i64 tst, .int .i64 tz, .int .i64 (tnx : Int), .bool twd, .bool true, .int .i64 tag, .slice (some ⟨a1, 0, none⟩) 4 4, .slice (some ⟨k1, 0, none⟩) trl trl] 69)
      have HQ' : Hid _ := HQ
      have b4 : (w5.alloc (.cells #[.int .i64 tst, .int .i64 tz, .int .i64 (tnx : Int), .bool twd, .bool true, .int .i64 tag, .slice (some ⟨a1, 0, none⟩) 4 4, .slice (some ⟨k1, 0, none⟩) trl trl] 69)).cell? ⟨w5.heap.size, 4, none⟩ = some (.bool true) := by rw [cell_at (block_alloc_new w5 _)]; rfl
      clear HQ HP5 hcnt
      go_wp2_with fail
      generalize w5.alloc (.cells #[.int .i64 tst, .int .i64 tz, .int .i64 (tnx : Int), .bool twd, .bool true, .int .i64 tag, .slice (some ⟨a1, 0, none⟩) 4 4, .slice (some ⟨k1, 0, none⟩) trl trl] 69) = W6 at *
      generalize w5.heap.size = ub at *
      have hc' : W6.cell? ⟨H, r + 1, none⟩ = some (.int .i64 1) := hc
      clear hc
      go_quiet (fail)
      go_wp2_with fail
      go_roundw
      case rel => exact ⟨r + 1, by omega, by go_num, (HQ'.out.keep0 ((Kept.refl NoBlk _).drewN _)).sub (fun p hp => List.mem_cons_of_mem _ hp) (fun r hr => hr)⟩
      case measure => simp [intOf]; omega
    ·have HE : Hid (KSt L bs ow j s wr ∧ Kept (OwnP ow) w wr) := ⟨hst.st, hst.kept⟩
     clear hst c0
     go_wp2_with fail
     go_ret
     exact ⟨rfl, HE.out⟩
end Go.Proofs.YtmcajfefagdbnaaGreat
