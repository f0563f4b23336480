import Derived.Test.YtmcajfefagdbnaaGreatLKRun0
namespace Go.Proofs.YtmcajfefagdbnaaGreat
open Go Go.RowKit
set_option maxRecDepth 20000 in
set_option maxHeartbeats 3200000 in
theorem run_any (f : Int → Option Int) (v : Value) (l : List Op4) (w : World) (hv : RowAt w 114 4 v l.length (opCells l)) (hl : l.length ≤ 6) (ho : ∀ o ∈ l, OpLaw o) :
    Calls Tryz.prog 21 #[.agg #[.bool (Tf f 0), .bool (Tf f 1), .bool (Tf f 2), .bool (Tf f 3), .bool (Tf f 4), .int .i64 (Vf f 0), .int .i64 (Vf f 1), .int .i64 (Vf f 2), .int .i64 (Vf f 3), .int .i64 (Vf f 4)], v] w fun e w' => ((clean f l ∧ ∃ x, e = .returned (.tuple #[.agg #[.bool (Tf (runP f l).f 0), .bool (Tf (runP f l).f 1), .bool (Tf (runP f l).f 2), .bool (Tf (runP f l).f 3), .bool (Tf (runP f l).f 4), .int .i64 (Vf (runP f l).f 0), .int .i64 (Vf (runP f l).f 1), .int .i64 (Vf (runP f l).f 2), .int .i64 (Vf (runP f l).f 3), .int .i64 (Vf (runP f l).f 4)], x, .agg #[.int .i64 ((runP f l).regs 0), .int .i64 ((runP f l).regs 1), .int .i64 ((runP f l).regs 2), .int .i64 ((runP f l).regs 3)], .bool true]) ∧ RowAt w' 105 3 x (runP f l).reads.length (seenCells (runP f l).reads) ∧ ∀ j, x.ownBlock = some j → w.heap.size ≤ j) ∨ (¬ clean f l ∧ ∃ r : Int → Int, e = .returned (.tuple #[.agg #[.bool (Tf f 0), .bool (Tf f 1), .bool (Tf f 2), .bool (Tf f 3), .bool (Tf f 4), .int .i64 (Vf f 0), .int .i64 (Vf f 1), .int .i64 (Vf f 2), .int .i64 (Vf f 3), .int .i64 (Vf f 4)], .slice none 0 0, .agg #[.int .i64 (r 0), .int .i64 (r 1), .int .i64 (r 2), .int .i64 (r 3)], .bool false]))) ∧ Kept NoBlk w w' := by
  obtain ⟨va, vc, rfl, _⟩ := hv.form
  have HV : Hid (RowAt w 114 4 (.slice va l.length vc) l.length (opCells l)) := hv
  have HO : Hid (∀ o ∈ l, OpLaw o) := ho
  generalize hn : l.length = n at *
  have HN : Hid (l.length = n) := hn
  clear hv ho hn
  go_enter Tryz.func21, Tryz.ntmps21
  go_wp2_with fail
  generalize hHH : w.heap.size = H at *
  have HHH : Hid (w.heap.size = H) := hHH
  clear hHH
  go_loopw [10, 11] (fun x i wr => ∃ k : Nat, k ≤ n ∧ i = .int .i64 k ∧ clean f (l.take k) ∧ RunAt w H f (runP f (l.take k)) x wr) (fun _ i _ => n - (intOf i).toNat)
  case atStart =>
    refine ⟨0, by omega, rfl, clean_nil _, ?_⟩
    have b0 := block_alloc_new w (.cells (cells5 (Tf f) (Vf f)) 58)
    have b1 := block_alloc_new (w.alloc (.cells (cells5 (Tf f) (Vf f)) 58)) (.cells (cells5 (fun _ => false) (fun _ => 0)) 58)
    have b2 := block_alloc_new ((w.alloc (.cells (cells5 (Tf f) (Vf f)) 58)).alloc (.cells (cells5 (fun _ => false) (fun _ => 0)) 58)) (.cells (cells4 (fun _ => 0)) 62)
    have b3 := block_alloc_new (((w.alloc (.cells (cells5 (Tf f) (Vf f)) 58)).alloc (.cells (cells5 (fun _ => false) (fun _ => 0)) 58)).alloc (.cells (cells4 (fun _ => 0)) 62)) (.cells (cells5 (Tf f) (Vf f)) 58)
    have b4 := block_alloc_new ((((w.alloc (.cells (cells5 (Tf f) (Vf f)) 58)).alloc (.cells (cells5 (fun _ => false) (fun _ => 0)) 58)).alloc (.cells (cells4 (fun _ => 0)) 62)).alloc (.cells (cells5 (Tf f) (Vf f)) 58)) (.cells (cells4 (fun _ => 0)) 62)
    simp only [alloc_size, HHH.out] at b0 b1 b2 b3 b4
    exact ⟨block_alloc_old _ (block_alloc_old _ (block_alloc_old _ (block_alloc_old _ b0))), block_alloc_old _ (block_alloc_old _ (block_alloc_old _ b1)), block_alloc_old _ (block_alloc_old _ b2), block_alloc_old _ b3, b4, RowAt.nil _ _ _, fun j hj => by simp [Value.ownBlock] at hj, (((((Kept.refl _ _).alloc _).alloc _).alloc _).alloc _).alloc _⟩
  case round =>
    obtain ⟨k, hk, rfl, hcl, hat⟩ := hrel
    by_cases hlt : k < n
    · obtain ⟨g, off, c, he, _, g0, g1, g2, g3⟩ := HV.out.op k (by rw [HN.out]; exact hlt)
      obtain ⟨rfl, _, rfl⟩ : va = some ⟨g, off, none⟩ ∧ n = n ∧ vc = c := by simpa using he
      have z0 := hat.kept.cell0 g0
      have z1 := hat.kept.cell0 g1
      have z2 := hat.kept.cell0 g2
      have z3 := hat.kept.cell0 g3
      have HO1 : Hid (OpLaw (l.getD k Op4.z)) := HO.out _ (by rw [List.getD_eq_getElem?_getD, List.getElem?_eq_getElem (by rw [HN.out]; exact hlt)]; exact List.getElem_mem _)
      have HTS : Hid (l.take (k + 1) = l.take k ++ [l.getD k Op4.z]) := take_snoc l k (by rw [HN.out]; exact hlt)
      have HRL : Hid ((runP f (l.take k)).reads.length ≤ 6) := by
        have h1 : ∀ (l : List Op4) (p : Pr), (l.foldl Pr.op p).reads.length ≤ p.reads.length + l.length := by
          intro l
          induction l with
          | nil => intro p; simp
          | cons o l ih =>
            intro p
            have h2 : (p.op o).reads.length ≤ p.reads.length + 1 := by unfold Pr.op; repeat' split
                                                                       all_goals simp
            have h3 := ih (p.op o)
            rw [List.foldl_cons, List.length_cons]; omega
        have h2 := h1 (l.take k) ⟨f, fun _ => 0, [], []⟩
        have h3 := HN.out
        simp only [List.length_take, List.length_nil] at h2
        unfold Hid runP
        omega
      have HPT : Hid (runP f (l.take (k + 1)) = (runP f (l.take k)).op (l.getD k Op4.z)) := by unfold Hid; rw [HTS.out, runP_snoc]
      clear g0 g1 g2 g3 he
      have HC : Hid (clean f (l.take k)) := hcl
      have HA : Hid (RunAt w H f (runP f (l.take k)) u10 wr) := hat
      have h4 : H + 4 < wr.heap.size := lt_of_block hat.regs
      clear hcl hat
      have HCL : Hid (∀ (o : Op4), o = l.getD k Op4.z → (o.k = 5 → (runP f (l.take k)).regs o.a ≠ 0) → clean f (l.take (k + 1))) := fun o e h => by rw [HTS.out]; subst e; exact clean_snoc HC.out h
      have HNC : Hid (∀ (o : Op4), o = l.getD k Op4.z → o.k = 5 → (runP f (l.take k)).regs o.a = 0 → ¬ clean f l) := fun o e h5 h0 hc => by
        subst e
        refine hc (l.take k) (l.getD k Op4.z) (l.drop (k + 1)) ?_ h5 h0
        rw [← List.singleton_append, ← List.append_assoc, ← HTS.out, List.take_append_drop]
      generalize l.getD k Op4.z = o at *
      generalize runP f (l.take k) = p at *
      obtain ⟨ok, oa, ob, oc⟩ := o
      obtain ⟨⟨o1, o2⟩, o3, ⟨o5, o6⟩, o7⟩ := HO1.out
      simp only at z0 z1 z2 z3 o1 o2 o3 o5 o6 o7
      obtain ⟨b, rfl⟩ : ∃ b : Nat, ob = (b : Int) := ⟨ob.toNat, by omega⟩
      obtain ⟨a, rfl⟩ : ∃ a : Nat, oa = (a : Int) := ⟨oa.toNat, by by_cases h : ok ≤ 3 <;> omega⟩
      have j0 : (0 : Int) ≤ (k : Int) := by omega
      have j1 : (k : Int) < (n : Int) := by omega
      have HW : Hid (RunAt w H f p u10 (wr.alloc (.cells #[.int .i64 ok, .int .i64 (a : Int), .int .i64 (b : Int), .int .i64 oc] 114))) := HA.out.keep ((Kept.refl _ _).alloc _)
      have bx := block_alloc_new wr (.cells #[.int .i64 ok, .int .i64 (a : Int), .int .i64 (b : Int), .int .i64 oc] 114)
      have y0 : (wr.alloc (.cells #[.int .i64 ok, .int .i64 (a : Int), .int .i64 (b : Int), .int .i64 oc] 114)).cell? ⟨wr.heap.size, 0, none⟩ = some (.int .i64 ok) := by rw [cell_at bx]; rfl
      have y1 : (wr.alloc (.cells #[.int .i64 ok, .int .i64 (a : Int), .int .i64 (b : Int), .int .i64 oc] 114)).cell? ⟨wr.heap.size, 1, none⟩ = some (.int .i64 (a : Int)) := by rw [cell_at bx]; rfl
      have y2 : (wr.alloc (.cells #[.int .i64 ok, .int .i64 (a : Int), .int .i64 (b : Int), .int .i64 oc] 114)).cell? ⟨wr.heap.size, 2, none⟩ = some (.int .i64 (b : Int)) := by rw [cell_at bx]; rfl
      have y3 : (wr.alloc (.cells #[.int .i64 ok, .int .i64 (a : Int), .int .i64 (b : Int), .int .i64 oc] 114)).cell? ⟨wr.heap.size, 3, none⟩ = some (.int .i64 oc) := by rw [cell_at bx]; rfl
      have c4 : (wr.alloc (.cells #[.int .i64 ok, .int .i64 (a : Int), .int .i64 (b : Int), .int .i64 oc] 114)).cell? ⟨H + 1 + 1 + 1 + 1, b, none⟩ = some (.int .i64 (p.regs (b : Int))) := (cell_at HW.out.regs b).trans (cells4_at _ b (by omega))
      have hf0 : ∀ j, (wr.alloc (.cells #[.int .i64 ok, .int .i64 (a : Int), .int .i64 (b : Int), .int .i64 oc] 114)).frozen? ⟨H, j, none⟩ = false := frozen_at HW.out.cur
      have hf4 : ∀ j, (wr.alloc (.cells #[.int .i64 ok, .int .i64 (a : Int), .int .i64 (b : Int), .int .i64 oc] 114)).frozen? ⟨H + 1 + 1 + 1 + 1, j, none⟩ = false := frozen_at HW.out.regs
      have n1 : ¬ H = wr.heap.size := by omega
      have n2 : ¬ H + 1 + 1 + 1 + 1 = wr.heap.size := by omega
      have n3 : ¬ wr.heap.size = H := by omega
      have n4 : ¬ wr.heap.size = H + 1 + 1 + 1 + 1 := by omega
      have n5 : ¬ H = H + 1 + 1 + 1 + 1 := by omega
      have n6 : ¬ H + 1 + 1 + 1 + 1 = H := by omega
      have b4 : (b : Int) < 4 := o6
      have b40 : (0 : Int) ≤ (b : Int) := o5
      have HOB : Hid (∀ j, u10.ownBlock = some j → H + 5 ≤ j ∧ j < wr.heap.size) := fun j hj => ⟨HA.out.own j hj, HA.out.seen.lt j hj⟩
      clear bx o5 o6 HA
      have hcase : ok = 1 ∨ ok = 2 ∨ ok = 3 ∨ ok = 4 ∨ ok = 5 := by omega
      rcases hcase with rfl | rfl | rfl | rfl | rfl
      · have a5 := o3 (by omega)
        clear o3 o7
        have c0 := cell_at HW.out.cur a
        rw [(cells5_T _ _ a (by omega)).1] at c0
        have c5 := cell_at HW.out.cur (5 + a)
        rw [(cells5_T _ _ a (by omega)).2] at c5
        generalize hrn : p.reads.length = rn at *
        have HRN : Hid (p.reads.length = rn) := hrn
        obtain ⟨i1, hi1, hy0, hy1, hy2⟩ := info_parts infoSeenR
        have HI : Hid (Tryz.prog.info? 105 = some i1 ∧ i1.zero = some (.agg #[.int .i64 0, .bool false, .int .i64 0]) ∧ i1.size = 3 ∧ i1.bytes = 24) := ⟨hi1, hy0, hy1, hy2⟩
        have HB5 : Hid ((rn + 1) * 24 ≤ 140737488355328) := by have := HRL.out; unfold Hid; omega
        have HB6 : Hid (rn + 1 ≤ maxLen) := by have := HRL.out; unfold Hid maxLen; omega
        clear hi1 hy0 hy1 hy2 hrn
        go_wp2_with fail
        generalize (wr.alloc (.cells #[.int .i64 1, .int .i64 (a : Int), .int .i64 (b : Int), .int .i64 oc] 114)) = W0 at *
        have HRW : Hid (RowAt W0 105 3 u10 rn (seenCells p.reads)) := by have := HW.out.seen; rw [HRN.out] at this; exact this
        have k1 : ∀ o, (W0.alloc o).cell? ⟨wr.heap.size, 1, none⟩ = some (.int .i64 (a : Int)) := fun o => ((Kept.refl NoBlk W0).alloc o).cell0 y1
        have k2 : ∀ o, (W0.alloc o).cell? ⟨H, a, none⟩ = some (.bool (Tf p.f a)) := fun o => ((Kept.refl NoBlk W0).alloc o).cell0 c0
        have k3 : ∀ o, (W0.alloc o).cell? ⟨H, 5 + a, none⟩ = some (.int .i64 (Vf p.f a)) := fun o => ((Kept.refl NoBlk W0).alloc o).cell0 c5
        generalize hth : Tf p.f a = th at *
        generalize hvl : Vf p.f a = vl at *
        have HTV : Hid (Tf p.f a = th ∧ Vf p.f a = vl) := ⟨hth, hvl⟩
        clear hth hvl
        refine' cut2 (X := Option Addr) (Y := Nat) _ (fun ao' c' w5 => RowAt w5 105 3 (.slice ao' (rn + 1) c') (rn + 1) (seenCells p.reads ++ [.int .i64 (a : Int), .bool th, .int .i64 vl]) ∧ Moved (W0.alloc (.cells #[.int .i64 (a : Int), .bool th, .int .i64 vl] 105)).drew w5 u10 (.slice ao' (rn + 1) c') (rn + 1)) ?_ ?_
        rotate_left
        · go_region_law (refine step_append_row (by rfl) _ _ 61 (by rfl) 105 i1 _ 3 24 Tryz.underlying61 HI.out.1 HI.out.2.1 HI.out.2.2.1 HI.out.2.2.2 (by rfl) u10 rn (seenCells p.reads) (by rfl) (RowAt.kept HRW.out ((Kept.refl NoBlk W0).alloc _).drew (fun _ _ x => x)) (.slice (some ⟨W0.heap.size, 0, none⟩) 1 1) 1 [.int .i64 (a : Int), .bool th, .int .i64 vl] (by rfl) (FromMem.drew (from_new3 W0 _ _ _ _ rfl rfl rfl)) HB6.out HB5.out ?_; intro ao' c' w5 hrow5 hmv5)
          all_goals (refine ⟨ao', c', ?_, hrow5, hmv5⟩; exact rfl)
        rintro ao' c' w5 ⟨hrow5, hmv5⟩
        have HF1 := ((HW.out : RunAt w H f p u10 W0).keep ((Kept.refl NoBlk W0).alloc (.cells #[.int .i64 (a : Int), .bool th, .int .i64 vl] 105)).drew).read HHH.out HRN.out hmv5 ⟨a, th, vl⟩ hrow5
        have HF : Hid (RunAt w H f (p.op ⟨1, a, b, oc⟩) (.slice ao' (rn + 1) c') (w5.setCell ⟨H + 1 + 1 + 1 + 1, b, none⟩ (.int .i64 vl))) := by
          have h1 := HF1.reg HHH.out b (by omega) vl
          obtain ⟨e1, e2⟩ := HTV.out
          have e3 : sawOf p.f (a : Int) = ⟨a, th, vl⟩ := by rw [← e1, ← e2]; rfl
          have e4 : (p.f (a : Int)).getD 0 = vl := e2
          show RunAt w H f { p with regs := upd p.regs (b : Int) ((p.f (a : Int)).getD 0), reads := p.reads ++ [sawOf p.f (a : Int)] } _ _
          rw [e3, e4]
          exact h1
        have kk : Kept (fun k => u10.ownBlock = some k) W0 w5 := (((Kept.refl NoBlk W0).alloc _).drew.mono (fun _ x => x.elim)).trans hmv5.keptOf (fun k e => .inl e)
        have q1 := kk.cell y1 (fun e => by have := (HOB.out _ e).2; simp only at this; omega)
        have q2 := kk.cell y2 (fun e => by have := (HOB.out _ e).2; simp only at this; omega)
        have q4 := kk.cell c4 (fun e => by have := (HOB.out _ e).1; simp only at this; omega)
        have q5 := kk.cell c5 (fun e => by have := (HOB.out _ e).1; simp only at this; omega)
        have qf : ∀ j, w5.frozen? ⟨H + 1 + 1 + 1 + 1, j, none⟩ = false := frozen_at HF1.regs
        clear y0 y1 y2 y3 c0 c4 c5 k1 k2 k3 hf0 hf4 hrow5 hmv5 HF1 kk
        go_wp2_with fail
        go_region
        go_wp2_with fail
        go_roundw
        case rel =>
          refine ⟨k + 1, by omega, by go_num, HCL.out _ rfl (fun e => by simp at e), ?_⟩
          rw [HPT.out]
          exact HF.out.keep (by first | exact Kept.refl _ _ | exact (Kept.refl _ _).drew)
        case measure => simp [intOf]; omega
        all_goals
          refine ⟨⟨k + 1, by omega, by go_num, HCL.out _ rfl (fun e => by simp at e), ?_⟩, by simp [intOf]; omega⟩
          rw [HPT.out]
          exact HF.out.keep (Kept.refl _ _).drew
      · have a5 := o3 (by omega)
        clear o3 o7
        have c0 := cell_at HW.out.cur a
        rw [(cells5_T _ _ a (by omega)).1] at c0
        have c5 := cell_at HW.out.cur (5 + a)
        rw [(cells5_T _ _ a (by omega)).2] at c5
        go_wp2_with fail
        have d1 : ((wr.alloc (.cells #[.int .i64 2, .int .i64 (a : Int), .int .i64 (b : Int), .int .i64 oc] 114)).setCell ⟨H, a, none⟩ (.bool true)).cell? ⟨wr.heap.size, 1, none⟩ = some (.int .i64 (a : Int)) := (World.cell?_setCell_other _ _ _ _ (by intro e; simp only [Addr.mk.injEq] at e; omega)).trans y1
        have d2 : ((wr.alloc (.cells #[.int .i64 2, .int .i64 (a : Int), .int .i64 (b : Int), .int .i64 oc] 114)).setCell ⟨H, a, none⟩ (.bool true)).cell? ⟨wr.heap.size, 2, none⟩ = some (.int .i64 (b : Int)) := (World.cell?_setCell_other _ _ _ _ (by intro e; simp only [Addr.mk.injEq] at e; omega)).trans y2
        have d4 : ((wr.alloc (.cells #[.int .i64 2, .int .i64 (a : Int), .int .i64 (b : Int), .int .i64 oc] 114)).setCell ⟨H, a, none⟩ (.bool true)).cell? ⟨H + 1 + 1 + 1 + 1, b, none⟩ = some (.int .i64 (p.regs (b : Int))) := (World.cell?_setCell_other _ _ _ _ (by intro e; simp only [Addr.mk.injEq] at e; omega)).trans c4
        have d5 : ((wr.alloc (.cells #[.int .i64 2, .int .i64 (a : Int), .int .i64 (b : Int), .int .i64 oc] 114)).setCell ⟨H, a, none⟩ (.bool true)).cell? ⟨H, 5 + a, none⟩ = some (.int .i64 (Vf p.f a)) := (World.cell?_setCell_other _ _ _ _ (by intro e; simp only [Addr.mk.injEq] at e; omega)).trans c5
        have df : ∀ j, ((wr.alloc (.cells #[.int .i64 2, .int .i64 (a : Int), .int .i64 (b : Int), .int .i64 oc] 114)).setCell ⟨H, a, none⟩ (.bool true)).frozen? ⟨H, j, none⟩ = false := fun j => by rw [World.frozen?_setCell]; exact hf0 j
        have HF : Hid (RunAt w H f (p.op ⟨2, a, b, oc⟩) u10 (((wr.alloc (.cells #[.int .i64 2, .int .i64 (a : Int), .int .i64 (b : Int), .int .i64 oc] 114)).setCell ⟨H, a, none⟩ (.bool true)).setCell ⟨H, 5 + a, none⟩ (.int .i64 (p.regs (b : Int))))) := HW.out.put HHH.out a (by omega) (some (p.regs (b : Int))) _
        clear c0 c4 c5 hf0 hf4 y0 y1 y2 y3
        generalize (wr.alloc (.cells #[.int .i64 2, .int .i64 (a : Int), .int .i64 (b : Int), .int .i64 oc] 114)).setCell ⟨H, a, none⟩ (.bool true) = W2 at *
        go_region
        go_wp2_with fail
        go_roundw
        case rel =>
          refine ⟨k + 1, by omega, by go_num, HCL.out _ rfl (fun e => by simp at e), ?_⟩
          rw [HPT.out]
          exact HF.out.keep (by first | exact Kept.refl _ _ | exact (Kept.refl _ _).drew)
        case measure => simp [intOf]; omega
      · have a5 := o3 (by omega)
        clear o3 o7
        have c0 := cell_at HW.out.cur a
        rw [(cells5_T _ _ a (by omega)).1] at c0
        have c5 := cell_at HW.out.cur (5 + a)
        rw [(cells5_T _ _ a (by omega)).2] at c5
        have HF : Hid (RunAt w H f (p.op ⟨3, a, b, oc⟩) u10 (((wr.alloc (.cells #[.int .i64 3, .int .i64 (a : Int), .int .i64 (b : Int), .int .i64 oc] 114)).setCell ⟨H, a, none⟩ (.bool false)).setCell ⟨H, 5 + a, none⟩ (.int .i64 0))) := HW.out.put HHH.out a (by omega) none _
        go_wp2_with fail
        go_roundw
        case rel =>
          refine ⟨k + 1, by omega, by go_num, HCL.out _ rfl (fun e => by simp at e), ?_⟩
          rw [HPT.out]
          exact HF.out.keep (by first | exact Kept.refl _ _ | exact (Kept.refl _ _).drew)
        case measure => simp [intOf]; omega
      · have a4 := o7 (by omega)
        clear o3 o7
        have ca : (wr.alloc (.cells #[.int .i64 4, .int .i64 (a : Int), .int .i64 (b : Int), .int .i64 oc] 114)).cell? ⟨H + 1 + 1 + 1 + 1, a, none⟩ = some (.int .i64 (p.regs (a : Int))) := (cell_at HW.out.regs a).trans (cells4_at _ a (by omega))
        have HF : Hid (RunAt w H f (p.op ⟨4, a, b, oc⟩) u10 ((wr.alloc (.cells #[.int .i64 4, .int .i64 (a : Int), .int .i64 (b : Int), .int .i64 oc] 114)).setCell ⟨H + 4, a, none⟩ (.int .i64 (wrap64 (wrap64 (p.regs a + p.regs b) + oc))))) := by
          have e : IntKind.wrap .i64 (IntKind.wrap .i64 (p.regs a + p.regs b) + oc) = wrap64 (wrap64 (p.regs a + p.regs b) + oc) := by simp only [IntKind.wrap_i64]; unfold wrap64; omega
          rw [← e]
          exact HW.out.reg HHH.out a (by omega) _
        go_wp2_with fail
        generalize (wr.alloc (.cells #[.int .i64 4, .int .i64 (a : Int), .int .i64 (b : Int), .int .i64 oc] 114)) = W0 at *
        go_region
        go_wp2_with fail
        go_roundw
        case rel =>
          refine ⟨k + 1, by omega, by go_num, HCL.out _ rfl (fun e => by simp at e), ?_⟩
          rw [HPT.out]
          exact HF.out.keep (by first | exact Kept.refl _ _ | exact (Kept.refl _ _).drew)
        case measure => simp [intOf]; omega
      · have a4 := o7 (by omega)
        clear o3 o7
        have ca : (wr.alloc (.cells #[.int .i64 5, .int .i64 (a : Int), .int .i64 (b : Int), .int .i64 oc] 114)).cell? ⟨H + 1 + 1 + 1 + 1, a, none⟩ = some (.int .i64 (p.regs (a : Int))) := (cell_at HW.out.regs a).trans (cells4_at _ a (by omega))
        by_cases hz : p.regs (a : Int) = 0
        · have hz' : (p.regs (a : Int) == 0) = true := by rw [beq_iff_eq]; exact hz
          have HNC2 : Hid (¬ clean f l) := HNC.out _ rfl rfl hz
          go_wp2_with fail
          clear y0 y1 y2 y3 c4 hf0 hf4 ca z0 z1 z2 z3
          generalize (wr.alloc (.cells #[.int .i64 5, .int .i64 (a : Int), .int .i64 (b : Int), .int .i64 oc] 114)) = W0 at *
          have s0 : W0.cell? ⟨H + 1 + 1 + 1, 0, none⟩ = some (.bool (Tf f 0)) := by rw [cell_at HW.out.was]; rfl
          have s1 : W0.cell? ⟨H + 1 + 1 + 1, 1, none⟩ = some (.bool (Tf f 1)) := by rw [cell_at HW.out.was]; rfl
          have s2 : W0.cell? ⟨H + 1 + 1 + 1, 2, none⟩ = some (.bool (Tf f 2)) := by rw [cell_at HW.out.was]; rfl
          have s3 : W0.cell? ⟨H + 1 + 1 + 1, 3, none⟩ = some (.bool (Tf f 3)) := by rw [cell_at HW.out.was]; rfl
          have s4 : W0.cell? ⟨H + 1 + 1 + 1, 4, none⟩ = some (.bool (Tf f 4)) := by rw [cell_at HW.out.was]; rfl
          have s5 : W0.cell? ⟨H + 1 + 1 + 1, 5, none⟩ = some (.int .i64 (Vf f 0)) := by rw [cell_at HW.out.was]; rfl
          have s6 : W0.cell? ⟨H + 1 + 1 + 1, 6, none⟩ = some (.int .i64 (Vf f 1)) := by rw [cell_at HW.out.was]; rfl
          have s7 : W0.cell? ⟨H + 1 + 1 + 1, 7, none⟩ = some (.int .i64 (Vf f 2)) := by rw [cell_at HW.out.was]; rfl
          have s8 : W0.cell? ⟨H + 1 + 1 + 1, 8, none⟩ = some (.int .i64 (Vf f 3)) := by rw [cell_at HW.out.was]; rfl
          have s9 : W0.cell? ⟨H + 1 + 1 + 1, 9, none⟩ = some (.int .i64 (Vf f 4)) := by rw [cell_at HW.out.was]; rfl
          have e0 : W0.cell? ⟨H + 1, 0, none⟩ = some (.bool false) := by rw [cell_at HW.out.res]; rfl
          have e1 : W0.cell? ⟨H + 1, 1, none⟩ = some (.bool false) := by rw [cell_at HW.out.res]; rfl
          have e2 : W0.cell? ⟨H + 1, 2, none⟩ = some (.bool false) := by rw [cell_at HW.out.res]; rfl
          have e3 : W0.cell? ⟨H + 1, 3, none⟩ = some (.bool false) := by rw [cell_at HW.out.res]; rfl
          have e4 : W0.cell? ⟨H + 1, 4, none⟩ = some (.bool false) := by rw [cell_at HW.out.res]; rfl
          have e5 : W0.cell? ⟨H + 1, 5, none⟩ = some (.int .i64 0) := by rw [cell_at HW.out.res]; rfl
          have e6 : W0.cell? ⟨H + 1, 6, none⟩ = some (.int .i64 0) := by rw [cell_at HW.out.res]; rfl
          have e7 : W0.cell? ⟨H + 1, 7, none⟩ = some (.int .i64 0) := by rw [cell_at HW.out.res]; rfl
          have e8 : W0.cell? ⟨H + 1, 8, none⟩ = some (.int .i64 0) := by rw [cell_at HW.out.res]; rfl
          have e9 : W0.cell? ⟨H + 1, 9, none⟩ = some (.int .i64 0) := by rw [cell_at HW.out.res]; rfl
          have r0 : W0.cell? ⟨H + 1 + 1 + 1 + 1, 0, none⟩ = some (.int .i64 (p.regs 0)) := by rw [cell_at HW.out.regs]; rfl
          have v0 : W0.cell? ⟨H + 1 + 1, 0, none⟩ = some (.int .i64 0) := by rw [cell_at HW.out.resR]; rfl
          have r1 : W0.cell? ⟨H + 1 + 1 + 1 + 1, 1, none⟩ = some (.int .i64 (p.regs 1)) := by rw [cell_at HW.out.regs]; rfl
          have v1 : W0.cell? ⟨H + 1 + 1, 1, none⟩ = some (.int .i64 0) := by rw [cell_at HW.out.resR]; rfl
          have r2 : W0.cell? ⟨H + 1 + 1 + 1 + 1, 2, none⟩ = some (.int .i64 (p.regs 2)) := by rw [cell_at HW.out.regs]; rfl
          have v2 : W0.cell? ⟨H + 1 + 1, 2, none⟩ = some (.int .i64 0) := by rw [cell_at HW.out.resR]; rfl
          have r3 : W0.cell? ⟨H + 1 + 1 + 1 + 1, 3, none⟩ = some (.int .i64 (p.regs 3)) := by rw [cell_at HW.out.regs]; rfl
          have v3 : W0.cell? ⟨H + 1 + 1, 3, none⟩ = some (.int .i64 0) := by rw [cell_at HW.out.resR]; rfl
          have ef : ∀ j, W0.frozen? ⟨H + 1, j, none⟩ = false := frozen_at HW.out.res
          have vf : ∀ j, W0.frozen? ⟨H + 1 + 1, j, none⟩ = false := frozen_at HW.out.resR
          have m0 : ¬ H = H + 1 := by omega
          have m1 : ¬ H = H + 1 + 1 := by omega
          have m2 : ¬ H = H + 1 + 1 + 1 := by omega
          have m3 : ¬ H = H + 1 + 1 + 1 + 1 := by omega
          have m4 : ¬ H + 1 = H := by omega
          have m5 : ¬ H + 1 = H + 1 + 1 := by omega
          have m6 : ¬ H + 1 = H + 1 + 1 + 1 := by omega
          have m7 : ¬ H + 1 = H + 1 + 1 + 1 + 1 := by omega
          have m8 : ¬ H + 1 + 1 = H := by omega
          have m9 : ¬ H + 1 + 1 = H + 1 := by omega
          have m10 : ¬ H + 1 + 1 = H + 1 + 1 + 1 := by omega
          have m11 : ¬ H + 1 + 1 = H + 1 + 1 + 1 + 1 := by omega
          have m12 : ¬ H + 1 + 1 + 1 = H := by omega
          have m13 : ¬ H + 1 + 1 + 1 = H + 1 := by omega
          have m14 : ¬ H + 1 + 1 + 1 = H + 1 + 1 := by omega
          have m15 : ¬ H + 1 + 1 + 1 = H + 1 + 1 + 1 + 1 := by omega
          have m16 : ¬ H + 1 + 1 + 1 + 1 = H := by omega
          have m17 : ¬ H + 1 + 1 + 1 + 1 = H + 1 := by omega
          have m18 : ¬ H + 1 + 1 + 1 + 1 = H + 1 + 1 := by omega
          have m19 : ¬ H + 1 + 1 + 1 + 1 = H + 1 + 1 + 1 := by omega
          go_region
          obtain ⟨f1, f2, f3, f4⟩ := HW.out.ret HHH.out (f) (p.regs)
          have HF : Hid (RowAt (setRet W0 H (f) (p.regs)).drew 105 3 u10 p.reads.length (seenCells p.reads) ∧ Kept NoBlk w (setRet W0 H (f) (p.regs)).drew) := ⟨f3, f4⟩
          rw [show ((((((((((((((W0.setCell ⟨H + 1, 0, none⟩ (.bool (Tf f 0))).setCell ⟨H + 1, 1, none⟩ (.bool (Tf f 1))).setCell ⟨H + 1, 2, none⟩ (.bool (Tf f 2))).setCell ⟨H + 1, 3, none⟩ (.bool (Tf f 3))).setCell ⟨H + 1, 4, none⟩ (.bool (Tf f 4))).setCell ⟨H + 1, 5, none⟩ (.int .i64 (Vf f 0))).setCell ⟨H + 1, 6, none⟩ (.int .i64 (Vf f 1))).setCell ⟨H + 1, 7, none⟩ (.int .i64 (Vf f 2))).setCell ⟨H + 1, 8, none⟩ (.int .i64 (Vf f 3))).setCell ⟨H + 1, 9, none⟩ (.int .i64 (Vf f 4))).setCell ⟨H + 1 + 1, 0, none⟩ (.int .i64 (p.regs 0))).setCell ⟨H + 1 + 1, 1, none⟩ (.int .i64 (p.regs 1))).setCell ⟨H + 1 + 1, 2, none⟩ (.int .i64 (p.regs 2))).setCell ⟨H + 1 + 1, 3, none⟩ (.int .i64 (p.regs 3))) = setRet W0 H (f) (p.regs) from rfl]
          clear s0 e0 s1 e1 s2 e2 s3 e3 s4 e4 s5 e5 s6 e6 s7 e7 s8 e8 s9 e9 r0 r1 r2 r3 v0 v1 v2 v3 ef vf f3 f4
          generalize (setRet W0 H (f) (p.regs)).drew = W3 at *
          have s0 : W3.cell? ⟨H + 1, 0, none⟩ = some (.bool (Tf f 0)) := by rw [cell_at f1]; rfl
          have s1 : W3.cell? ⟨H + 1, 1, none⟩ = some (.bool (Tf f 1)) := by rw [cell_at f1]; rfl
          have s2 : W3.cell? ⟨H + 1, 2, none⟩ = some (.bool (Tf f 2)) := by rw [cell_at f1]; rfl
          have s3 : W3.cell? ⟨H + 1, 3, none⟩ = some (.bool (Tf f 3)) := by rw [cell_at f1]; rfl
          have s4 : W3.cell? ⟨H + 1, 4, none⟩ = some (.bool (Tf f 4)) := by rw [cell_at f1]; rfl
          have s5 : W3.cell? ⟨H + 1, 5, none⟩ = some (.int .i64 (Vf f 0)) := by rw [cell_at f1]; rfl
          have s6 : W3.cell? ⟨H + 1, 6, none⟩ = some (.int .i64 (Vf f 1)) := by rw [cell_at f1]; rfl
          have s7 : W3.cell? ⟨H + 1, 7, none⟩ = some (.int .i64 (Vf f 2)) := by rw [cell_at f1]; rfl
          have s8 : W3.cell? ⟨H + 1, 8, none⟩ = some (.int .i64 (Vf f 3)) := by rw [cell_at f1]; rfl
          have s9 : W3.cell? ⟨H + 1, 9, none⟩ = some (.int .i64 (Vf f 4)) := by rw [cell_at f1]; rfl
          have r0 : W3.cell? ⟨H + 1 + 1, 0, none⟩ = some (.int .i64 (p.regs 0)) := by rw [cell_at f2]; rfl
          have r1 : W3.cell? ⟨H + 1 + 1, 1, none⟩ = some (.int .i64 (p.regs 1)) := by rw [cell_at f2]; rfl
          have r2 : W3.cell? ⟨H + 1 + 1, 2, none⟩ = some (.int .i64 (p.regs 2)) := by rw [cell_at f2]; rfl
          have r3 : W3.cell? ⟨H + 1 + 1, 3, none⟩ = some (.int .i64 (p.regs 3)) := by rw [cell_at f2]; rfl
          go_wp2_with fail
          refine bodyPost_ret (v := .tuple #[.agg #[.bool (Tf f 0), .bool (Tf f 1), .bool (Tf f 2), .bool (Tf f 3), .bool (Tf f 4), .int .i64 (Vf f 0), .int .i64 (Vf f 1), .int .i64 (Vf f 2), .int .i64 (Vf f 3), .int .i64 (Vf f 4)], .slice none 0 0, .agg #[.int .i64 (p.regs 0), .int .i64 (p.regs 1), .int .i64 (p.regs 2), .int .i64 (p.regs 3)], .bool false]) (by simp [results, Tryz.results21, go_sem, s0, s1, s2, s3, s4, s5, s6, s7, s8, s9, r0, r1, r2, r3]) rfl ?_
          exact ⟨.inr ⟨HNC2.out, p.regs, rfl⟩, HF.out.2⟩
        · have hz' : (p.regs (a : Int) == 0) = false := by rw [beq_eq_false_iff_ne]; exact hz
          have HCL2 : Hid (clean f (l.take (k + 1))) := HCL.out _ rfl (fun _ => hz)
          go_wp2_with fail
          go_roundw
          case rel =>
            refine ⟨k + 1, by omega, by go_num, HCL2.out, ?_⟩
            rw [HPT.out]
            exact HW.out.keep (by first | exact Kept.refl _ _ | exact (Kept.refl _ _).drew)
          case measure => simp [intOf]; omega
    · obtain rfl : k = n := by omega
      rw [← HN.out, List.take_length] at hcl hat
      have HC : Hid (clean f l) := hcl
      have HW : Hid (RunAt w H f (runP f l) u10 wr) := hat
      clear hcl hat
      generalize hp : runP f l = p at *
      have HP : Hid (runP f l = p) := hp
      clear hp
      have s0 : wr.cell? ⟨H, 0, none⟩ = some (.bool (Tf p.f 0)) := by rw [cell_at HW.out.cur]; rfl
      have s1 : wr.cell? ⟨H, 1, none⟩ = some (.bool (Tf p.f 1)) := by rw [cell_at HW.out.cur]; rfl
      have s2 : wr.cell? ⟨H, 2, none⟩ = some (.bool (Tf p.f 2)) := by rw [cell_at HW.out.cur]; rfl
      have s3 : wr.cell? ⟨H, 3, none⟩ = some (.bool (Tf p.f 3)) := by rw [cell_at HW.out.cur]; rfl
      have s4 : wr.cell? ⟨H, 4, none⟩ = some (.bool (Tf p.f 4)) := by rw [cell_at HW.out.cur]; rfl
      have s5 : wr.cell? ⟨H, 5, none⟩ = some (.int .i64 (Vf p.f 0)) := by rw [cell_at HW.out.cur]; rfl
      have s6 : wr.cell? ⟨H, 6, none⟩ = some (.int .i64 (Vf p.f 1)) := by rw [cell_at HW.out.cur]; rfl
      have s7 : wr.cell? ⟨H, 7, none⟩ = some (.int .i64 (Vf p.f 2)) := by rw [cell_at HW.out.cur]; rfl
      have s8 : wr.cell? ⟨H, 8, none⟩ = some (.int .i64 (Vf p.f 3)) := by rw [cell_at HW.out.cur]; rfl
      have s9 : wr.cell? ⟨H, 9, none⟩ = some (.int .i64 (Vf p.f 4)) := by rw [cell_at HW.out.cur]; rfl
      have e0 : wr.cell? ⟨H + 1, 0, none⟩ = some (.bool false) := by rw [cell_at HW.out.res]; rfl
      have e1 : wr.cell? ⟨H + 1, 1, none⟩ = some (.bool false) := by rw [cell_at HW.out.res]; rfl
      have e2 : wr.cell? ⟨H + 1, 2, none⟩ = some (.bool false) := by rw [cell_at HW.out.res]; rfl
      have e3 : wr.cell? ⟨H + 1, 3, none⟩ = some (.bool false) := by rw [cell_at HW.out.res]; rfl
      have e4 : wr.cell? ⟨H + 1, 4, none⟩ = some (.bool false) := by rw [cell_at HW.out.res]; rfl
      have e5 : wr.cell? ⟨H + 1, 5, none⟩ = some (.int .i64 0) := by rw [cell_at HW.out.res]; rfl
      have e6 : wr.cell? ⟨H + 1, 6, none⟩ = some (.int .i64 0) := by rw [cell_at HW.out.res]; rfl
      have e7 : wr.cell? ⟨H + 1, 7, none⟩ = some (.int .i64 0) := by rw [cell_at HW.out.res]; rfl
      have e8 : wr.cell? ⟨H + 1, 8, none⟩ = some (.int .i64 0) := by rw [cell_at HW.out.res]; rfl
      have e9 : wr.cell? ⟨H + 1, 9, none⟩ = some (.int .i64 0) := by rw [cell_at HW.out.res]; rfl
      have r0 : wr.cell? ⟨H + 1 + 1 + 1 + 1, 0, none⟩ = some (.int .i64 (p.regs 0)) := by rw [cell_at HW.out.regs]; rfl
      have v0 : wr.cell? ⟨H + 1 + 1, 0, none⟩ = some (.int .i64 0) := by rw [cell_at HW.out.resR]; rfl
      have r1 : wr.cell? ⟨H + 1 + 1 + 1 + 1, 1, none⟩ = some (.int .i64 (p.regs 1)) := by rw [cell_at HW.out.regs]; rfl
      have v1 : wr.cell? ⟨H + 1 + 1, 1, none⟩ = some (.int .i64 0) := by rw [cell_at HW.out.resR]; rfl
      have r2 : wr.cell? ⟨H + 1 + 1 + 1 + 1, 2, none⟩ = some (.int .i64 (p.regs 2)) := by rw [cell_at HW.out.regs]; rfl
      have v2 : wr.cell? ⟨H + 1 + 1, 2, none⟩ = some (.int .i64 0) := by rw [cell_at HW.out.resR]; rfl
      have r3 : wr.cell? ⟨H + 1 + 1 + 1 + 1, 3, none⟩ = some (.int .i64 (p.regs 3)) := by rw [cell_at HW.out.regs]; rfl
      have v3 : wr.cell? ⟨H + 1 + 1, 3, none⟩ = some (.int .i64 0) := by rw [cell_at HW.out.resR]; rfl
      have ef : ∀ j, wr.frozen? ⟨H + 1, j, none⟩ = false := frozen_at HW.out.res
      have vf : ∀ j, wr.frozen? ⟨H + 1 + 1, j, none⟩ = false := frozen_at HW.out.resR
      have m0 : ¬ H = H + 1 := by omega
      have m1 : ¬ H = H + 1 + 1 := by omega
      have m2 : ¬ H = H + 1 + 1 + 1 := by omega
      have m3 : ¬ H = H + 1 + 1 + 1 + 1 := by omega
      have m4 : ¬ H + 1 = H := by omega
      have m5 : ¬ H + 1 = H + 1 + 1 := by omega
      have m6 : ¬ H + 1 = H + 1 + 1 + 1 := by omega
      have m7 : ¬ H + 1 = H + 1 + 1 + 1 + 1 := by omega
      have m8 : ¬ H + 1 + 1 = H := by omega
      have m9 : ¬ H + 1 + 1 = H + 1 := by omega
      have m10 : ¬ H + 1 + 1 = H + 1 + 1 + 1 := by omega
      have m11 : ¬ H + 1 + 1 = H + 1 + 1 + 1 + 1 := by omega
      have m12 : ¬ H + 1 + 1 + 1 = H := by omega
      have m13 : ¬ H + 1 + 1 + 1 = H + 1 := by omega
      have m14 : ¬ H + 1 + 1 + 1 = H + 1 + 1 := by omega
      have m15 : ¬ H + 1 + 1 + 1 = H + 1 + 1 + 1 + 1 := by omega
      have m16 : ¬ H + 1 + 1 + 1 + 1 = H := by omega
      have m17 : ¬ H + 1 + 1 + 1 + 1 = H + 1 := by omega
      have m18 : ¬ H + 1 + 1 + 1 + 1 = H + 1 + 1 := by omega
      have m19 : ¬ H + 1 + 1 + 1 + 1 = H + 1 + 1 + 1 := by omega
      go_wp2_with fail
      go_region
      obtain ⟨f1, f2, f3, f4⟩ := HW.out.ret HHH.out (p.f) (p.regs)
      have HF : Hid (RowAt (setRet wr H (p.f) (p.regs)).drew 105 3 u10 p.reads.length (seenCells p.reads) ∧ Kept NoBlk w (setRet wr H (p.f) (p.regs)).drew) := ⟨f3, f4⟩
      rw [show ((((((((((((((wr.setCell ⟨H + 1, 0, none⟩ (.bool (Tf p.f 0))).setCell ⟨H + 1, 1, none⟩ (.bool (Tf p.f 1))).setCell ⟨H + 1, 2, none⟩ (.bool (Tf p.f 2))).setCell ⟨H + 1, 3, none⟩ (.bool (Tf p.f 3))).setCell ⟨H + 1, 4, none⟩ (.bool (Tf p.f 4))).setCell ⟨H + 1, 5, none⟩ (.int .i64 (Vf p.f 0))).setCell ⟨H + 1, 6, none⟩ (.int .i64 (Vf p.f 1))).setCell ⟨H + 1, 7, none⟩ (.int .i64 (Vf p.f 2))).setCell ⟨H + 1, 8, none⟩ (.int .i64 (Vf p.f 3))).setCell ⟨H + 1, 9, none⟩ (.int .i64 (Vf p.f 4))).setCell ⟨H + 1 + 1, 0, none⟩ (.int .i64 (p.regs 0))).setCell ⟨H + 1 + 1, 1, none⟩ (.int .i64 (p.regs 1))).setCell ⟨H + 1 + 1, 2, none⟩ (.int .i64 (p.regs 2))).setCell ⟨H + 1 + 1, 3, none⟩ (.int .i64 (p.regs 3))) = setRet wr H (p.f) (p.regs) from rfl]
      clear s0 e0 s1 e1 s2 e2 s3 e3 s4 e4 s5 e5 s6 e6 s7 e7 s8 e8 s9 e9 r0 r1 r2 r3 v0 v1 v2 v3 ef vf f3 f4
      generalize (setRet wr H (p.f) (p.regs)).drew = W3 at *
      have s0 : W3.cell? ⟨H + 1, 0, none⟩ = some (.bool (Tf p.f 0)) := by rw [cell_at f1]; rfl
      have s1 : W3.cell? ⟨H + 1, 1, none⟩ = some (.bool (Tf p.f 1)) := by rw [cell_at f1]; rfl
      have s2 : W3.cell? ⟨H + 1, 2, none⟩ = some (.bool (Tf p.f 2)) := by rw [cell_at f1]; rfl
      have s3 : W3.cell? ⟨H + 1, 3, none⟩ = some (.bool (Tf p.f 3)) := by rw [cell_at f1]; rfl
      have s4 : W3.cell? ⟨H + 1, 4, none⟩ = some (.bool (Tf p.f 4)) := by rw [cell_at f1]; rfl
      have s5 : W3.cell? ⟨H + 1, 5, none⟩ = some (.int .i64 (Vf p.f 0)) := by rw [cell_at f1]; rfl
      have s6 : W3.cell? ⟨H + 1, 6, none⟩ = some (.int .i64 (Vf p.f 1)) := by rw [cell_at f1]; rfl
      have s7 : W3.cell? ⟨H + 1, 7, none⟩ = some (.int .i64 (Vf p.f 2)) := by rw [cell_at f1]; rfl
      have s8 : W3.cell? ⟨H + 1, 8, none⟩ = some (.int .i64 (Vf p.f 3)) := by rw [cell_at f1]; rfl
      have s9 : W3.cell? ⟨H + 1, 9, none⟩ = some (.int .i64 (Vf p.f 4)) := by rw [cell_at f1]; rfl
      have r0 : W3.cell? ⟨H + 1 + 1, 0, none⟩ = some (.int .i64 (p.regs 0)) := by rw [cell_at f2]; rfl
      have r1 : W3.cell? ⟨H + 1 + 1, 1, none⟩ = some (.int .i64 (p.regs 1)) := by rw [cell_at f2]; rfl
      have r2 : W3.cell? ⟨H + 1 + 1, 2, none⟩ = some (.int .i64 (p.regs 2)) := by rw [cell_at f2]; rfl
      have r3 : W3.cell? ⟨H + 1 + 1, 3, none⟩ = some (.int .i64 (p.regs 3)) := by rw [cell_at f2]; rfl
      go_wp2_with fail
      refine bodyPost_ret (v := .tuple #[.agg #[.bool (Tf p.f 0), .bool (Tf p.f 1), .bool (Tf p.f 2), .bool (Tf p.f 3), .bool (Tf p.f 4), .int .i64 (Vf p.f 0), .int .i64 (Vf p.f 1), .int .i64 (Vf p.f 2), .int .i64 (Vf p.f 3), .int .i64 (Vf p.f 4)], u10, .agg #[.int .i64 (p.regs 0), .int .i64 (p.regs 1), .int .i64 (p.regs 2), .int .i64 (p.regs 3)], .bool true]) (by simp [results, Tryz.results21, go_sem, s0, s1, s2, s3, s4, s5, s6, s7, s8, s9, r0, r1, r2, r3]) rfl ?_
      rw [HP.out]; exact ⟨.inl ⟨HC.out, u10, rfl, HF.out.1, fun j hj => by have h1 := HW.out.own j hj; have h2 := HHH.out; omega⟩, HF.out.2⟩
end Go.Proofs.YtmcajfefagdbnaaGreat
