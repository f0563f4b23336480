import Derived.Test.YtmcajfefagdbnaaGreatJ45
namespace Go.Proofs.YtmcajfefagdbnaaGreat
open Go Go.RowKit
theorem did_tx (s : St) (i : Nat) (o : Op4) : ((s.did i o).tx i).next = (s.tx i).next := by
 unfold St.did
 dsimp only
 repeat' split
 all_goals simp [St.setTx]
set_option maxRecDepth 20000 in
set_option maxHeartbeats 3200000 in
theorem hStep_actA {ow : OwB} {q N0 j : Nat} {s : St} {cl : List Cl} {w : World} (h : HSt ow q N0 j s cl w) {i : Nat} (hi : i < s.n) (hz : (s.tx (i + 1)).state = 0) (hn : s.n ≤ 1048576) (hw : (s.tx (i + 1)).wounded = false) (hwt : (s.tx (i + 1)).waits = none) (hnx : (s.tx (i + 1)).next < (s.tx (i + 1)).ops.length) (h12 : (s.tx (i + 1)).ops.length ≤ 12) (hj : j ≤ 2097152) (hN : N0 ≤ 1048576) (hm : ¬ (s.lk (s.tx (i + 1)).op.a).h (i + 1) < modeOf (s.tx (i + 1)).op) (hok : (s.tx (i + 1)).op.ok = true) (hun : (s.tx (i + 1)).undo.length ≤ 12 ∧ (s.tx (i + 1)).reads.length ≤ 12) (hk5 : (s.tx (i + 1)).op.k ≠ 5) :
  Calls Tryz.prog 44 #[.pointer (some ⟨q, 0, none⟩), .int .i64 ((i : Int) + 1)] w fun e w' => e = .returned (.tuple #[.int .i64 1, .int .i64 0]) ∧ HAft ow q N0 (j + 2) w (s.doOp (i + 1) (s.tx (i + 1)).op) w' := by
 have HT := hThere0 h hi hz hn
 have HH : Hid (HSt ow q N0 j s cl w) := h
 obtain ⟨o, ho⟩ : ∃ o, (s.tx (i + 1)).op = o := ⟨_, rfl⟩
 have HWW : Hid ((s.tx (i + 1)).wounded = false ∧ (s.tx (i + 1)).waits = none ∧ (s.tx (i + 1)).next < (s.tx (i + 1)).ops.length ∧ (s.tx (i + 1)).op = o) := ⟨hw, hwt, hnx, ho⟩
 have HHD : Hid (∀ W, Kept NoBlk w W → Calls Tryz.prog 82 #[.pointer (some ⟨q, 0, none⟩), .int .i64 o.a, .int .i64 ((i : Int) + 1)] W fun e w' => e = .returned (.int .i64 ((s.lk o.a).h (i + 1))) ∧ Kept NoBlk W w') := fun W hk => hHeld (h.kept0 hk) o.a i (by omega)
 have HMD : Hid (∀ W, Calls Tryz.prog 81 #[.agg #[.int .i64 o.k, .int .i64 o.a, .int .i64 o.b, .int .i64 o.c]] W fun e w' => e = .returned (.int .i64 (modeOf o)) ∧ Kept NoBlk W w') := fun W => wmode o W
 have j4 : (0 : Int) ≤ (i : Int) := by omega
 have j5 : (i : Int) < (s.n : Int) := by omega
 have hwi : IntKind.wrap .i64 (i : Int) = (i : Int) := by rw [IntKind.wrap_i64]; omega
 rw [ho] at hm
 have gm1 : decide ((s.lk o.a).h (i + 1) < modeOf o) = false := by simpa using hm
 have HOK : Hid (o.ok = true) := by rw [← ho]; exact hok
 have HUN : Hid ((s.tx (i + 1)).undo.length ≤ 12 ∧ (s.tx (i + 1)).reads.length ≤ 12) := hun
 have H12 : Hid ((s.tx (i + 1)).ops.length ≤ 12) := h12
 have k5 : (o.k == 5) = false := by rw [← ho]; simpa using hk5
 rw [ho]
 clear hun hok hm hk5 h12
 clear h hw hz hwt hnx ho
 generalize hnn : s.n = n at *
 go_enter Tryz.func44, Tryz.ntmps44
 go_wp2_with fail
 refine HT.out.mono ?_
 rintro e w1 ⟨rfl, hk1⟩
 obtain ⟨g, cap, r, oa, oc, rd, uv, c1, c2, c3, c4, c5⟩ := (HH.out.kept0 hk1).cells (by rw [hnn]; exact hi)
 rw [hnn] at c1
 generalize hB : ow.bs.getD i 0 = b at *
 have HB : Hid (ow.bs.getD i 0 = b) := hB
 have HK1 : Hid (Kept NoBlk w w1) := hk1
 have d2 : w1.cell? ⟨b, 2, none⟩ = some (.int .i64 ((s.tx (i + 1)).next : Int)) := by rw [cell_at c3]; rfl
 have d3 : w1.cell? ⟨b, 3, none⟩ = some (.bool false) := by rw [cell_at c3, ← HWW.out.1]; rfl
 have d4 : w1.cell? ⟨b, 4, none⟩ = some (.bool false) := by rw [cell_at c3, show false = (s.tx (i + 1)).waits.isSome from by rw [HWW.out.2.1]; rfl]; rfl
 have d8 : w1.cell? ⟨b, 8, none⟩ = some (.slice oa (s.tx (i + 1)).ops.length oc) := by rw [cell_at c3]; rfl
 have en : ((((s.tx (i + 1)).next : Int)) == ((s.tx (i + 1)).ops.length : Int)) = false := by have := HWW.out.2.2.1; simp; omega
 have nx0 : (0 : Int) ≤ ((s.tx (i + 1)).next : Int) := by omega
 have nx1 : ((s.tx (i + 1)).next : Int) < ((s.tx (i + 1)).ops.length : Int) := by have := HWW.out.2.2.1; omega
 obtain ⟨ao, cp, eo, hoo⟩ := c4
 obtain ⟨ob, off, rfl, hat⟩ := hoo (by have := HWW.out.2.2.1; omega)
 simp only [Value.slice.injEq, true_and] at eo
 obtain ⟨rfl, rfl⟩ := eo
 obtain ⟨x0, x1, x2, x3⟩ := hat (s.tx (i + 1)).next HWW.out.2.2.1
 rw [show (s.tx (i + 1)).ops.getD (s.tx (i + 1)).next Op4.z = o from HWW.out.2.2.2] at x0 x1 x2 x3
 clear hk1 HT c3 c5 hB hat hoo
 generalize (s.tx (i + 1)).ops.length = ol at *
 generalize hnxe : (s.tx (i + 1)).next = nx at *
 have HNX : Hid ((s.tx (i + 1)).next = nx) := hnxe
 clear hnxe
 go_wp2_with fail
 go_quiet (fail)
 generalize hW : World.drewN w1 _ = W at *
 have y1 : W.cell? ⟨q, 1, none⟩ = some (.slice (some ⟨g, 0, none⟩) n cap) := by rw [← hW]; exact c1
 have hkW : Kept NoBlk w1 W := by rw [← hW]; exact (Kept.refl _ _).drewN _
 clear hW
 have z2 := hkW.cell0 d2
 have z8 := hkW.cell0 d8
 have t0 := hkW.cell0 x0
 have t1 := hkW.cell0 x1
 have t2 := hkW.cell0 x2
 have t3 := hkW.cell0 x3
 have nb : ¬ b = W.heap.size := fun e => by have := World.block_lt_of_cell? W _ z2; simp only at this; omega
 have nb' : ¬ W.heap.size = b := fun e => nb e.symm
 have no : ¬ ob = W.heap.size := fun e => by have := World.block_lt_of_cell? W _ t0; simp only at this; omega
 have no' : ¬ W.heap.size = ob := fun e => no e.symm
 have HKW : Hid (Kept NoBlk w1 W) := hkW
 clear d2 d3 d4 d8 x0 x1 x2 x3 c1 c2 y1 hkW
 go_wp2_with fail
 go_region_held3 (fun w' => w'.cell? ⟨b, 8, none⟩ = some (.slice (some ⟨ob, off, none⟩) ol oc) ∧ w'.cell? ⟨b, 2, none⟩ = some (.int .i64 (nx : Int)) ∧ w'.cell? ⟨ob, off + nx * 4, none⟩ = some (.int .i64 o.k) ∧ w'.cell? ⟨ob, off + nx * 4 + 1, none⟩ = some (.int .i64 o.a) ∧ w'.cell? ⟨ob, off + nx * 4 + 2, none⟩ = some (.int .i64 o.b) ∧ w'.cell? ⟨ob, off + nx * 4 + 3, none⟩ = some (.int .i64 o.c)) (go_keep) (fail)
 have HBX : Hid ((W.alloc (.cells #[.int .i64 o.k, .int .i64 o.a, .int .i64 o.b, .int .i64 o.c] 114)).drew.heap[W.heap.size]? = some (.cells #[.int .i64 o.k, .int .i64 o.a, .int .i64 o.b, .int .i64 o.c] 114 (0, 0))) := block_alloc_new W _
 have HKV : Hid (Kept NoBlk w (W.alloc (.cells #[.int .i64 o.k, .int .i64 o.a, .int .i64 o.b, .int .i64 o.c] 114)).drew) := ((HK1.out.trans' HKW.out).alloc _).drew
 generalize (W.alloc (.cells #[.int .i64 o.k, .int .i64 o.a, .int .i64 o.b, .int .i64 o.c] 114)).drew = V at *
 have HHN : Hid (w.heap.size ≤ W.heap.size) := Nat.le_trans HK1.out.size HKW.out.size
 generalize W.heap.size = H at *
 have v0 : V.cell? ⟨H, 0, none⟩ = some (.int .i64 o.k) := by rw [cell_at HBX.out]; rfl
 have v1 : V.cell? ⟨H, 1, none⟩ = some (.int .i64 o.a) := by rw [cell_at HBX.out]; rfl
 have v2 : V.cell? ⟨H, 2, none⟩ = some (.int .i64 o.b) := by rw [cell_at HBX.out]; rfl
 have v3 : V.cell? ⟨H, 3, none⟩ = some (.int .i64 o.c) := by rw [cell_at HBX.out]; rfl
 clear z2 z8 t0 t1 t2 t3 nb nb' no no' HKW HK1 en nx0 nx1
 go_wp2_with fail
 refine (HMD.out _).mono ?_
 rintro e V1 ⟨rfl, hkv⟩
 have HBX1 : Hid (V1.heap[H]? = some (.cells #[.int .i64 o.k, .int .i64 o.a, .int .i64 o.b, .int .i64 o.c] 114 (0, 0))) := hkv.heap HBX.out (fun x => x)
 have HK2 : Hid (Kept NoBlk w V1) := HKV.out.trans' hkv
 have u0 : V1.cell? ⟨H, 0, none⟩ = some (.int .i64 o.k) := by rw [cell_at HBX1.out]; rfl
 have u1 : V1.cell? ⟨H, 1, none⟩ = some (.int .i64 o.a) := by rw [cell_at HBX1.out]; rfl
 clear v0 v1 v2 v3 hkv HBX HKV HMD
 have HHC' : Hid (Calls Tryz.prog 82 #[.pointer (some ⟨q, 0, none⟩), .int .i64 o.a, .int .i64 ((i : Int) + 1)] V1 fun e w' => e = .returned (.int .i64 ((s.lk o.a).h (i + 1))) ∧ Kept NoBlk V1 w') := HHD.out V1 HK2.out
 clear HHD
 generalize hmd : modeOf o = md at *
 generalize hhd : (s.lk o.a).h (i + 1) = hd at *
 go_wp2_with fail
 refine HHC'.out.mono ?_
 rintro e V2 ⟨rfl, hk2⟩
 have HK3 : Hid (Kept NoBlk w V2) := HK2.out.trans' hk2
 have HBX2 : Hid (V2.heap[H]? = some (.cells #[.int .i64 o.k, .int .i64 o.a, .int .i64 o.b, .int .i64 o.c] 114 (0, 0))) := hk2.heap HBX1.out (fun x => x)
 have s0 : V2.cell? ⟨H, 0, none⟩ = some (.int .i64 o.k) := by rw [cell_at HBX2.out]; rfl
 have s1 : V2.cell? ⟨H, 1, none⟩ = some (.int .i64 o.a) := by rw [cell_at HBX2.out]; rfl
 clear u0 u1 hk2 HBX1 HK2 HHC'
 have s2 : V2.cell? ⟨H, 2, none⟩ = some (.int .i64 o.b) := by rw [cell_at HBX2.out]; rfl
 have s3 : V2.cell? ⟨H, 3, none⟩ = some (.int .i64 o.c) := by rw [cell_at HBX2.out]; rfl
 obtain ⟨cl3, hcl3⟩ : ∃ c, cl = c := ⟨_, rfl⟩
 have HS3 : Hid (HSt ow q N0 j s cl3 V2) := by rw [← hcl3]; exact HH.out.kept0 HK3.out
 have HA3 : Hid (Agree w ow ow) := Agree.refl _ _
 have HKK : Hid (Kept (Own ow) w V2) := HK3.out.mono (fun _ x => x.elim)
 clear hcl3
 have hi3 : i < s.n := by show i < s.n; rw [hnn]; exact hi
 obtain ⟨g3, cap3, r3, oa3, oc3, rd3, uv3, e1, e2, e3, e4, e5⟩ := HS3.out.cells hi3
 have hb3 : ow.bs.getD i 0 = b := by rw [HA3.out.bs]; exact HB.out
 have HDO : Hid (∀ W, Kept NoBlk V2 W → Calls Tryz.prog 85 #[.pointer (some ⟨q, 0, none⟩), .pointer (some ⟨b, 0, none⟩), .agg #[.int .i64 o.k, .int .i64 o.a, .int .i64 o.b, .int .i64 o.c]] W fun e w' => e = .returned (.tuple #[]) ∧ ∃ ow', Agree W ow ow' ∧ HSt ow' q N0 (j + 1) (s.did (i + 1) o) cl3 w' ∧ Kept (Own ow) W w') := fun W hk => by
  have := hDo (HS3.out.kept0 hk) hi3 o HOK.out HUN.out.1 HUN.out.2 (by omega) (by omega)
  rw [hb3] at this
  exact this
 clear e1 e2 e3 e4 e5
 go_wp2_with fail
 go_quiet (fail)
 generalize hV5 : World.drewN V2 _ = V5 at *
 have hk5' : Kept NoBlk V2 V5 := by rw [← hV5]; exact (Kept.refl _ _).drewN _
 have HBX5 : V5.heap[H]? = some (.cells #[.int .i64 o.k, .int .i64 o.a, .int .i64 o.b, .int .i64 o.c] 114 (0, 0)) := hk5'.heap HBX2.out (fun x => x)
 have p0 : V5.cell? ⟨H, 0, none⟩ = some (.int .i64 o.k) := by rw [cell_at HBX5]; rfl
 have p1 : V5.cell? ⟨H, 1, none⟩ = some (.int .i64 o.a) := by rw [cell_at HBX5]; rfl
 have p2 : V5.cell? ⟨H, 2, none⟩ = some (.int .i64 o.b) := by rw [cell_at HBX5]; rfl
 have p3 : V5.cell? ⟨H, 3, none⟩ = some (.int .i64 o.c) := by rw [cell_at HBX5]; rfl
 clear hV5 HBX5
 clear s0 s1 s2 s3
 have HKK5 : Hid (Kept (Own ow) w V5) := HKK.out.trans hk5' (fun _ x => x.elim)
 have HDOC : Hid (Calls Tryz.prog 85 #[.pointer (some ⟨q, 0, none⟩), .pointer (some ⟨b, 0, none⟩), .agg #[.int .i64 o.k, .int .i64 o.a, .int .i64 o.b, .int .i64 o.c]] V5 fun e w' => e = .returned (.tuple #[]) ∧ ∃ ow', Agree V5 ow ow' ∧ HSt ow' q N0 (j + 1) (s.did (i + 1) o) cl3 w' ∧ Kept (Own ow) V5 w') := HDO.out V5 hk5'
 clear hk5' HDO
 go_wp2_with fail
 refine HDOC.out.mono ?_
 rintro e W6 ⟨rfl, ow6, a61, a62, a63⟩
 have hi6 : i < (s.did (i + 1) o).n := by rw [(did_n s (i + 1) o).1]; exact hi3
 have hb6 : ow6.bs.getD i 0 = b := by rw [a61.bs]; exact hb3
 have hdt : ((s.did (i + 1) o).tx (i + 1)).next = (s.tx (i + 1)).next := did_tx s (i + 1) o
 obtain ⟨g6, cap6, r6, oa6, oc6, rd6, uv6, f1, f2, f3, f4, f5⟩ := a62.cells hi6
 have hst := a62.setTxn hi6 (fun t => { t with next := t.next + 1 }) (fld := 2) (v := .int .i64 ((((s.did (i + 1) o).tx (i + 1)).next + 1 : Nat) : Int)) rfl rfl rfl rfl (fun _ _ _ _ => rfl)
 rw [hb6] at f3 hst
 rw [did_next] at hst
 have d6 : W6.cell? ⟨b, 2, none⟩ = some (.int .i64 ((s.tx (i + 1)).next : Int)) := by rw [cell_at f3, ← hdt]; rfl
 have df6 : ∀ j, W6.frozen? ⟨b, j, none⟩ = false := frozen_at f3
 rw [hdt, show (((s.tx (i + 1)).next + 1 : Nat) : Int) = ((s.tx (i + 1)).next : Int) + 1 from rfl] at hst
 have HF : Hid (HAft ow q N0 (j + 2) w (s.doOp (i + 1) o) (W6.setCell ⟨b, 2, none⟩ (.int .i64 (((s.tx (i + 1)).next : Int) + 1)))) := by
  have hag : Agree w ow ow6 := HA3.out.trans HKK5.out.size a61
  have hk6 : Kept (Own ow) w W6 := HKK5.out.trans a63 (fun k x => own_old HA3.out k x)
  exact ⟨⟨ow6, cl3, hst.1.mono (by omega), hag.out⟩, hk6.trans hst.2 (fun k x => own_old hag k x)⟩
 have nx1 : ((s.tx (i + 1)).next : Int) ≤ 12 := by have := HWW.out.2.2.1; have := H12.out; have := HNX.out; omega
 have nx0 : (0 : Int) ≤ ((s.tx (i + 1)).next : Int) := by omega
 clear a61 a62 a63 hst f1 f2 f3 f4 f5 HDOC hdt HNX
 generalize (s.tx (i + 1)).next = nx at *
 go_wp2_with fail
 go_ret2
 exact ⟨rfl, HF.out⟩
set_option maxRecDepth 20000 in
set_option maxHeartbeats 3200000 in
theorem hStep_actC {ow : OwB} {q N0 j : Nat} {s : St} {cl : List Cl} {w : World} (h : HSt ow q N0 j s cl w) (hI : Inv s) {i : Nat} (hi : i < s.n) (hz : (s.tx (i + 1)).state = 0) (hn : s.n ≤ 1048576) (hw : (s.tx (i + 1)).wounded = false) (hwt : (s.tx (i + 1)).waits = none) (hnx : (s.tx (i + 1)).next < (s.tx (i + 1)).ops.length) (h12 : (s.tx (i + 1)).ops.length ≤ 12) (hj : j ≤ 2097152) (hN : N0 ≤ 1048576) (hm : (s.lk (s.tx (i + 1)).op.a).h (i + 1) < modeOf (s.tx (i + 1)).op) (hm0 : 0 < modeOf (s.tx (i + 1)).op) (hcr : s.crowded (s.tx (i + 1)).op.a = false) (hq : (s.lk (s.tx (i + 1)).op.a).q.isEmpty = true) (hh : hind s.n (s.lk (s.tx (i + 1)).op.a).h (i + 1) (modeOf (s.tx (i + 1)).op) = false) (hok : (s.tx (i + 1)).op.ok = true) (hun : (s.tx (i + 1)).undo.length ≤ 12 ∧ (s.tx (i + 1)).reads.length ≤ 12) :
  Calls Tryz.prog 44 #[.pointer (some ⟨q, 0, none⟩), .int .i64 ((i : Int) + 1)] w fun e w' => e = .returned (.tuple #[.int .i64 1, .int .i64 0]) ∧ HAft ow q N0 (j + 2) w ((s.grant (i + 1) (s.tx (i + 1)).op.a (modeOf (s.tx (i + 1)).op)).doOp (i + 1) (s.tx (i + 1)).op) w' := by
 have HT := hThere0 h hi hz hn
 have HH : Hid (HSt ow q N0 j s cl w) := h
 obtain ⟨o, ho⟩ : ∃ o, (s.tx (i + 1)).op = o := ⟨_, rfl⟩
 have HWW : Hid ((s.tx (i + 1)).wounded = false ∧ (s.tx (i + 1)).waits = none ∧ (s.tx (i + 1)).next < (s.tx (i + 1)).ops.length ∧ (s.tx (i + 1)).op = o) := ⟨hw, hwt, hnx, ho⟩
 have HHD : Hid (∀ W, Kept NoBlk w W → Calls Tryz.prog 82 #[.pointer (some ⟨q, 0, none⟩), .int .i64 o.a, .int .i64 ((i : Int) + 1)] W fun e w' => e = .returned (.int .i64 ((s.lk o.a).h (i + 1))) ∧ Kept NoBlk W w') := fun W hk => hHeld (h.kept0 hk) o.a i (by omega)
 have HMD : Hid (∀ W, Calls Tryz.prog 81 #[.agg #[.int .i64 o.k, .int .i64 o.a, .int .i64 o.b, .int .i64 o.c]] W fun e w' => e = .returned (.int .i64 (modeOf o)) ∧ Kept NoBlk W w') := fun W => wmode o W
 have j4 : (0 : Int) ≤ (i : Int) := by omega
 have j5 : (i : Int) < (s.n : Int) := by omega
 have hwi : IntKind.wrap .i64 (i : Int) = (i : Int) := by rw [IntKind.wrap_i64]; omega
 have hm0' := hm0
 rw [ho] at hm hm0
 have gm1 : decide ((s.lk o.a).h (i + 1) < modeOf o) = true := by simpa using hm
 have gm2 : decide (0 < modeOf o) = true := by simpa using hm0
 have HCR : Hid (∀ W, Kept NoBlk w W → Calls Tryz.prog 83 #[.pointer (some ⟨q, 0, none⟩), .int .i64 o.a] W fun e w' => e = .returned (.bool false) ∧ Kept NoBlk W w') := fun W hk => by
  have := hCrowded (h.kept0 hk) hI o.a (by omega)
  rw [ho] at hcr
  rw [hcr] at this
  exact this
 have HWA : Hid (∀ W, Kept NoBlk w W → Calls Tryz.prog 84 #[.pointer (some ⟨q, 0, none⟩), .int .i64 o.a, .int .i64 ((i : Int) + 1), .int .i64 (modeOf o)] W fun e w' => e = .returned (.bool true) ∧ ∃ ow' cl', Agree W ow ow' ∧ HSt ow' q N0 (j + 1) (s.grant (i + 1) o.a (modeOf o)) cl' w' ∧ Kept (Own ow) W w') := fun W hk => by
  rw [ho] at hq hh
  exact hWants_yes (h.kept0 hk) o.a (modeOf o) hi (modeOf_pos hm0) hq hh (by omega)
 have HOK : Hid (o.ok = true) := by rw [← ho]; exact hok
 have HUN : Hid ((s.tx (i + 1)).undo.length ≤ 12 ∧ (s.tx (i + 1)).reads.length ≤ 12) := hun
 have H12 : Hid ((s.tx (i + 1)).ops.length ≤ 12) := h12
 have k5 : (o.k == 5) = false := by rw [← ho]; simpa using modeOf_stop hm0'
 rw [ho]
 clear hun hok hcr hm hm0 hm0' h12 hq hh
 clear h hw hz hI hwt hnx ho
 generalize hnn : s.n = n at *
 go_enter Tryz.func44, Tryz.ntmps44
 go_wp2_with fail
 refine HT.out.mono ?_
 rintro e w1 ⟨rfl, hk1⟩
 obtain ⟨g, cap, r, oa, oc, rd, uv, c1, c2, c3, c4, c5⟩ := (HH.out.kept0 hk1).cells (by rw [hnn]; exact hi)
 rw [hnn] at c1
 generalize hB : ow.bs.getD i 0 = b at *
 have HB : Hid (ow.bs.getD i 0 = b) := hB
 have HK1 : Hid (Kept NoBlk w w1) := hk1
 have d2 : w1.cell? ⟨b, 2, none⟩ = some (.int .i64 ((s.tx (i + 1)).next : Int)) := by rw [cell_at c3]; rfl
 have d3 : w1.cell? ⟨b, 3, none⟩ = some (.bool false) := by rw [cell_at c3, ← HWW.out.1]; rfl
 have d4 : w1.cell? ⟨b, 4, none⟩ = some (.bool false) := by rw [cell_at c3, show false = (s.tx (i + 1)).waits.isSome from by rw [HWW.out.2.1]; rfl]; rfl
 have d8 : w1.cell? ⟨b, 8, none⟩ = some (.slice oa (s.tx (i + 1)).ops.length oc) := by rw [cell_at c3]; rfl
 have en : ((((s.tx (i + 1)).next : Int)) == ((s.tx (i + 1)).ops.length : Int)) = false := by have := HWW.out.2.2.1; simp; omega
 have nx0 : (0 : Int) ≤ ((s.tx (i + 1)).next : Int) := by omega
 have nx1 : ((s.tx (i + 1)).next : Int) < ((s.tx (i + 1)).ops.length : Int) := by have := HWW.out.2.2.1; omega
 obtain ⟨ao, cp, eo, hoo⟩ := c4
 obtain ⟨ob, off, rfl, hat⟩ := hoo (by have := HWW.out.2.2.1; omega)
 simp only [Value.slice.injEq, true_and] at eo
 obtain ⟨rfl, rfl⟩ := eo
 obtain ⟨x0, x1, x2, x3⟩ := hat (s.tx (i + 1)).next HWW.out.2.2.1
 rw [show (s.tx (i + 1)).ops.getD (s.tx (i + 1)).next Op4.z = o from HWW.out.2.2.2] at x0 x1 x2 x3
 clear hk1 HT c3 c5 hB hat hoo
 generalize (s.tx (i + 1)).ops.length = ol at *
 generalize hnxe : (s.tx (i + 1)).next = nx at *
 have HNX : Hid ((s.tx (i + 1)).next = nx) := hnxe
 clear hnxe
 go_wp2_with fail
 go_quiet (fail)
 generalize hW : World.drewN w1 _ = W at *
 have y1 : W.cell? ⟨q, 1, none⟩ = some (.slice (some ⟨g, 0, none⟩) n cap) := by rw [← hW]; exact c1
 have hkW : Kept NoBlk w1 W := by rw [← hW]; exact (Kept.refl _ _).drewN _
 clear hW
 have z2 := hkW.cell0 d2
 have z8 := hkW.cell0 d8
 have t0 := hkW.cell0 x0
 have t1 := hkW.cell0 x1
 have t2 := hkW.cell0 x2
 have t3 := hkW.cell0 x3
 have nb : ¬ b = W.heap.size := fun e => by have := World.block_lt_of_cell? W _ z2; simp only at this; omega
 have nb' : ¬ W.heap.size = b := fun e => nb e.symm
 have no : ¬ ob = W.heap.size := fun e => by have := World.block_lt_of_cell? W _ t0; simp only at this; omega
 have no' : ¬ W.heap.size = ob := fun e => no e.symm
 have HKW : Hid (Kept NoBlk w1 W) := hkW
 clear d2 d3 d4 d8 x0 x1 x2 x3 c1 c2 y1 hkW
 go_wp2_with fail
 go_region_held3 (fun w' => w'.cell? ⟨b, 8, none⟩ = some (.slice (some ⟨ob, off, none⟩) ol oc) ∧ w'.cell? ⟨b, 2, none⟩ = some (.int .i64 (nx : Int)) ∧ w'.cell? ⟨ob, off + nx * 4, none⟩ = some (.int .i64 o.k) ∧ w'.cell? ⟨ob, off + nx * 4 + 1, none⟩ = some (.int .i64 o.a) ∧ w'.cell? ⟨ob, off + nx * 4 + 2, none⟩ = some (.int .i64 o.b) ∧ w'.cell? ⟨ob, off + nx * 4 + 3, none⟩ = some (.int .i64 o.c)) (go_keep) (fail)
 have HBX : Hid ((W.alloc (.cells #[.int .i64 o.k, .int .i64 o.a, .int .i64 o.b, .int .i64 o.c] 114)).drew.heap[W.heap.size]? = some (.cells #[.int .i64 o.k, .int .i64 o.a, .int .i64 o.b, .int .i64 o.c] 114 (0, 0))) := block_alloc_new W _
 have HKV : Hid (Kept NoBlk w (W.alloc (.cells #[.int .i64 o.k, .int .i64 o.a, .int .i64 o.b, .int .i64 o.c] 114)).drew) := ((HK1.out.trans' HKW.out).alloc _).drew
 generalize (W.alloc (.cells #[.int .i64 o.k, .int .i64 o.a, .int .i64 o.b, .int .i64 o.c] 114)).drew = V at *
 have HHN : Hid (w.heap.size ≤ W.heap.size) := Nat.le_trans HK1.out.size HKW.out.size
 generalize W.heap.size = H at *
 have v0 : V.cell? ⟨H, 0, none⟩ = some (.int .i64 o.k) := by rw [cell_at HBX.out]; rfl
 have v1 : V.cell? ⟨H, 1, none⟩ = some (.int .i64 o.a) := by rw [cell_at HBX.out]; rfl
 have v2 : V.cell? ⟨H, 2, none⟩ = some (.int .i64 o.b) := by rw [cell_at HBX.out]; rfl
 have v3 : V.cell? ⟨H, 3, none⟩ = some (.int .i64 o.c) := by rw [cell_at HBX.out]; rfl
 clear z2 z8 t0 t1 t2 t3 nb nb' no no' HKW HK1 en nx0 nx1
 go_wp2_with fail
 refine (HMD.out _).mono ?_
 rintro e V1 ⟨rfl, hkv⟩
 have HBX1 : Hid (V1.heap[H]? = some (.cells #[.int .i64 o.k, .int .i64 o.a, .int .i64 o.b, .int .i64 o.c] 114 (0, 0))) := hkv.heap HBX.out (fun x => x)
 have HK2 : Hid (Kept NoBlk w V1) := HKV.out.trans' hkv
 have u0 : V1.cell? ⟨H, 0, none⟩ = some (.int .i64 o.k) := by rw [cell_at HBX1.out]; rfl
 have u1 : V1.cell? ⟨H, 1, none⟩ = some (.int .i64 o.a) := by rw [cell_at HBX1.out]; rfl
 clear v0 v1 v2 v3 hkv HBX HKV HMD
 have HHC' : Hid (Calls Tryz.prog 82 #[.pointer (some ⟨q, 0, none⟩), .int .i64 o.a, .int .i64 ((i : Int) + 1)] V1 fun e w' => e = .returned (.int .i64 ((s.lk o.a).h (i + 1))) ∧ Kept NoBlk V1 w') := HHD.out V1 HK2.out
 clear HHD
 generalize hmd : modeOf o = md at *
 generalize hhd : (s.lk o.a).h (i + 1) = hd at *
 go_wp2_with fail
 refine HHC'.out.mono ?_
 rintro e V2 ⟨rfl, hk2⟩
 have HK3 : Hid (Kept NoBlk w V2) := HK2.out.trans' hk2
 have HBX2 : Hid (V2.heap[H]? = some (.cells #[.int .i64 o.k, .int .i64 o.a, .int .i64 o.b, .int .i64 o.c] 114 (0, 0))) := hk2.heap HBX1.out (fun x => x)
 have s0 : V2.cell? ⟨H, 0, none⟩ = some (.int .i64 o.k) := by rw [cell_at HBX2.out]; rfl
 have s1 : V2.cell? ⟨H, 1, none⟩ = some (.int .i64 o.a) := by rw [cell_at HBX2.out]; rfl
 clear u0 u1 hk2 HBX1 HK2 HHC'
 have HC3 : Hid (Calls Tryz.prog 83 #[.pointer (some ⟨q, 0, none⟩), .int .i64 o.a] V2 fun e w' => e = .returned (.bool false) ∧ Kept NoBlk V2 w') := HCR.out V2 HK3.out
 clear HCR
 go_wp2_with fail
 refine HC3.out.mono ?_
 rintro e V3 ⟨rfl, hk3⟩
 have HK4 : Hid (Kept NoBlk w V3) := HK3.out.trans' hk3
 have HBX3 : Hid (V3.heap[H]? = some (.cells #[.int .i64 o.k, .int .i64 o.a, .int .i64 o.b, .int .i64 o.c] 114 (0, 0))) := hk3.heap HBX2.out (fun x => x)
 have r1 : V3.cell? ⟨H, 1, none⟩ = some (.int .i64 o.a) := by rw [cell_at HBX3.out]; rfl
 clear s0 s1 hk3 HBX2 HK3 HC3
 have HW3 : Hid (Calls Tryz.prog 84 #[.pointer (some ⟨q, 0, none⟩), .int .i64 o.a, .int .i64 ((i : Int) + 1), .int .i64 md] V3 fun e w' => e = .returned (.bool true) ∧ ∃ ow' cl', Agree V3 ow ow' ∧ HSt ow' q N0 (j + 1) (s.grant (i + 1) o.a md) cl' w' ∧ Kept (Own ow) V3 w') := HWA.out V3 HK4.out
 clear HWA
 go_wp2_with fail
 refine HW3.out.mono ?_
 rintro e V4 ⟨rfl, ow4, cl4, a1, a2, a3⟩
 have HS3 : Hid (HSt ow4 q N0 (j + 1) (s.grant (i + 1) o.a md) cl4 V4) := a2
 have HA3 : Hid (Agree w ow ow4) := a1.less HK4.out.size
 have HKK : Hid (Kept (Own ow) w V4) := (HK4.out.mono (fun _ x => x.elim)).trans' a3
 have hnH : ¬ Own ow H := fun e => by
  obtain ⟨rl, g1, _⟩ := HH.out.ex
  have := g1.lt H e
  have := HHN.out
  omega
 have HBX4 : Hid (V4.heap[H]? = some (.cells #[.int .i64 o.k, .int .i64 o.a, .int .i64 o.b, .int .i64 o.c] 114 (0, 0))) := a3.heap HBX3.out hnH
 have s0 : V4.cell? ⟨H, 0, none⟩ = some (.int .i64 o.k) := by rw [cell_at HBX4.out]; rfl
 have s1 : V4.cell? ⟨H, 1, none⟩ = some (.int .i64 o.a) := by rw [cell_at HBX4.out]; rfl
 have s2 : V4.cell? ⟨H, 2, none⟩ = some (.int .i64 o.b) := by rw [cell_at HBX4.out]; rfl
 have s3 : V4.cell? ⟨H, 3, none⟩ = some (.int .i64 o.c) := by rw [cell_at HBX4.out]; rfl
 obtain ⟨cl3, hcl3⟩ : ∃ c, cl4 = c := ⟨_, rfl⟩
 rw [hcl3] at HS3
 clear a1 a2 a3 HW3 r1 hcl3 hnH
 have hi3 : i < (s.grant (i + 1) o.a md).n := by show i < s.n; rw [hnn]; exact hi
 obtain ⟨g3, cap3, r3, oa3, oc3, rd3, uv3, e1, e2, e3, e4, e5⟩ := HS3.out.cells hi3
 have hb3 : ow4.bs.getD i 0 = b := by rw [HA3.out.bs]; exact HB.out
 have HDO : Hid (∀ W, Kept NoBlk V4 W → Calls Tryz.prog 85 #[.pointer (some ⟨q, 0, none⟩), .pointer (some ⟨b, 0, none⟩), .agg #[.int .i64 o.k, .int .i64 o.a, .int .i64 o.b, .int .i64 o.c]] W fun e w' => e = .returned (.tuple #[]) ∧ ∃ ow', Agree W ow4 ow' ∧ HSt ow' q N0 ((j + 1) + 1) ((s.grant (i + 1) o.a md).did (i + 1) o) cl3 w' ∧ Kept (Own ow4) W w') := fun W hk => by
  have := hDo (HS3.out.kept0 hk) hi3 o HOK.out HUN.out.1 HUN.out.2 (by omega) (by omega)
  rw [hb3] at this
  exact this
 clear e1 e2 e3 e4 e5
 go_wp2_with fail
 go_quiet (fail)
 generalize hV5 : World.drewN V4 _ = V5 at *
 have hk5' : Kept NoBlk V4 V5 := by rw [← hV5]; exact (Kept.refl _ _).drewN _
 have HBX5 : V5.heap[H]? = some (.cells #[.int .i64 o.k, .int .i64 o.a, .int .i64 o.b, .int .i64 o.c] 114 (0, 0)) := hk5'.heap HBX4.out (fun x => x)
 have p0 : V5.cell? ⟨H, 0, none⟩ = some (.int .i64 o.k) := by rw [cell_at HBX5]; rfl
 have p1 : V5.cell? ⟨H, 1, none⟩ = some (.int .i64 o.a) := by rw [cell_at HBX5]; rfl
 have p2 : V5.cell? ⟨H, 2, none⟩ = some (.int .i64 o.b) := by rw [cell_at HBX5]; rfl
 have p3 : V5.cell? ⟨H, 3, none⟩ = some (.int .i64 o.c) := by rw [cell_at HBX5]; rfl
 clear hV5 HBX5
 clear s0 s1 s2 s3
 have HKK5 : Hid (Kept (Own ow) w V5) := HKK.out.trans hk5' (fun _ x => x.elim)
 have HDOC : Hid (Calls Tryz.prog 85 #[.pointer (some ⟨q, 0, none⟩), .pointer (some ⟨b, 0, none⟩), .agg #[.int .i64 o.k, .int .i64 o.a, .int .i64 o.b, .int .i64 o.c]] V5 fun e w' => e = .returned (.tuple #[]) ∧ ∃ ow', Agree V5 ow4 ow' ∧ HSt ow' q N0 ((j + 1) + 1) ((s.grant (i + 1) o.a md).did (i + 1) o) cl3 w' ∧ Kept (Own ow4) V5 w') := HDO.out V5 hk5'
 clear hk5' HDO
 go_wp2_with fail
 refine HDOC.out.mono ?_
 rintro e W6 ⟨rfl, ow6, a61, a62, a63⟩
 have hi6 : i < ((s.grant (i + 1) o.a md).did (i + 1) o).n := by rw [(did_n (s.grant (i + 1) o.a md) (i + 1) o).1]; exact hi3
 have hb6 : ow6.bs.getD i 0 = b := by rw [a61.bs]; exact hb3
 have hdt : (((s.grant (i + 1) o.a md).did (i + 1) o).tx (i + 1)).next = (s.tx (i + 1)).next := did_tx (s.grant (i + 1) o.a md) (i + 1) o
 obtain ⟨g6, cap6, r6, oa6, oc6, rd6, uv6, f1, f2, f3, f4, f5⟩ := a62.cells hi6
 have hst := a62.setTxn hi6 (fun t => { t with next := t.next + 1 }) (fld := 2) (v := .int .i64 (((((s.grant (i + 1) o.a md).did (i + 1) o).tx (i + 1)).next + 1 : Nat) : Int)) rfl rfl rfl rfl (fun _ _ _ _ => rfl)
 rw [hb6] at f3 hst
 rw [did_next] at hst
 have d6 : W6.cell? ⟨b, 2, none⟩ = some (.int .i64 ((s.tx (i + 1)).next : Int)) := by rw [cell_at f3, ← hdt]; rfl
 have df6 : ∀ j, W6.frozen? ⟨b, j, none⟩ = false := frozen_at f3
 rw [hdt, show (((s.tx (i + 1)).next + 1 : Nat) : Int) = ((s.tx (i + 1)).next : Int) + 1 from rfl] at hst
 have HF : Hid (HAft ow q N0 (j + 2) w ((s.grant (i + 1) o.a md).doOp (i + 1) o) (W6.setCell ⟨b, 2, none⟩ (.int .i64 (((s.tx (i + 1)).next : Int) + 1)))) := by
  have hag : Agree w ow ow6 := HA3.out.trans HKK5.out.size a61
  have hk6 : Kept (Own ow) w W6 := HKK5.out.trans a63 (fun k x => own_old HA3.out k x)
  exact ⟨⟨ow6, cl3, hst.1.mono (by omega), hag.out⟩, hk6.trans hst.2 (fun k x => own_old hag k x)⟩
 have nx1 : ((s.tx (i + 1)).next : Int) ≤ 12 := by have := HWW.out.2.2.1; have := H12.out; have := HNX.out; omega
 have nx0 : (0 : Int) ≤ ((s.tx (i + 1)).next : Int) := by omega
 clear a61 a62 a63 hst f1 f2 f3 f4 f5 HDOC hdt HNX
 generalize (s.tx (i + 1)).next = nx at *
 go_wp2_with fail
 go_ret2
 rw [hmd]
 exact ⟨rfl, HF.out⟩
set_option maxRecDepth 20000 in
set_option maxHeartbeats 3200000 in
theorem hStep_goes {ow : OwB} {q N0 j : Nat} {s : St} {cl : List Cl} {w : World} (h : HSt ow q N0 j s cl w) {i : Nat} (hi : i < s.n) (hz : (s.tx (i + 1)).state = 0) (hn : s.n ≤ 1048576) (hw : (s.tx (i + 1)).wounded = false) (hwt : (s.tx (i + 1)).waits = none) (hnx : (s.tx (i + 1)).next < (s.tx (i + 1)).ops.length) (h12 : (s.tx (i + 1)).ops.length ≤ 12) (hj : j ≤ 2097152) (hN : N0 ≤ 1048576) (hm : ¬ (s.lk (s.tx (i + 1)).op.a).h (i + 1) < modeOf (s.tx (i + 1)).op) (hok : (s.tx (i + 1)).op.ok = true) (hun : (s.tx (i + 1)).undo.length ≤ 12 ∧ (s.tx (i + 1)).reads.length ≤ 12) (hk5 : (s.tx (i + 1)).op.k = 5) (hrg : (s.tx (i + 1)).regs (s.tx (i + 1)).op.a ≠ 0) :
  Calls Tryz.prog 44 #[.pointer (some ⟨q, 0, none⟩), .int .i64 ((i : Int) + 1)] w fun e w' => e = .returned (.tuple #[.int .i64 1, .int .i64 0]) ∧ HAft ow q N0 (j + 2) w (s.doOp (i + 1) (s.tx (i + 1)).op) w' := by
 have HT := hThere0 h hi hz hn
 have HH : Hid (HSt ow q N0 j s cl w) := h
 obtain ⟨o, ho⟩ : ∃ o, (s.tx (i + 1)).op = o := ⟨_, rfl⟩
 have HWW : Hid ((s.tx (i + 1)).wounded = false ∧ (s.tx (i + 1)).waits = none ∧ (s.tx (i + 1)).next < (s.tx (i + 1)).ops.length ∧ (s.tx (i + 1)).op = o) := ⟨hw, hwt, hnx, ho⟩
 have HHD : Hid (∀ W, Kept NoBlk w W → Calls Tryz.prog 82 #[.pointer (some ⟨q, 0, none⟩), .int .i64 o.a, .int .i64 ((i : Int) + 1)] W fun e w' => e = .returned (.int .i64 ((s.lk o.a).h (i + 1))) ∧ Kept NoBlk W w') := fun W hk => hHeld (h.kept0 hk) o.a i (by omega)
 have HMD : Hid (∀ W, Calls Tryz.prog 81 #[.agg #[.int .i64 o.k, .int .i64 o.a, .int .i64 o.b, .int .i64 o.c]] W fun e w' => e = .returned (.int .i64 (modeOf o)) ∧ Kept NoBlk W w') := fun W => wmode o W
 have j4 : (0 : Int) ≤ (i : Int) := by omega
 have j5 : (i : Int) < (s.n : Int) := by omega
 have hwi : IntKind.wrap .i64 (i : Int) = (i : Int) := by rw [IntKind.wrap_i64]; omega
 rw [ho] at hm
 have gm1 : decide ((s.lk o.a).h (i + 1) < modeOf o) = false := by simpa using hm
 have HOK : Hid (o.ok = true) := by rw [← ho]; exact hok
 have HUN : Hid ((s.tx (i + 1)).undo.length ≤ 12 ∧ (s.tx (i + 1)).reads.length ≤ 12) := hun
 have H12 : Hid ((s.tx (i + 1)).ops.length ≤ 12) := h12
 have k5 : (o.k == 5) = true := by rw [← ho]; simpa using hk5
 obtain ⟨a', hoa, ha'⟩ : ∃ k : Nat, o.a = (k : Int) ∧ k < 4 := by
  have h1 := HOK.out
  unfold Op4.ok opB at h1
  rw [← ho] at h1 ⊢
  rw [hk5] at h1
  exact reg_nat (by simpa using h1)
 have a0 : (0 : Int) ≤ (a' : Int) := by omega
 have a4 : (a' : Int) < 4 := by omega
 have HOA : Hid (o.a = (a' : Int)) := hoa
 have rz : ((s.tx (i + 1)).regs (a' : Int) == 0) = false := by rw [← hoa, ← ho]; simpa using hrg
 rw [ho]
 clear hun hok hm hk5 h12 hrg hoa
 clear h hw hz hwt hnx ho
 generalize hnn : s.n = n at *
 go_enter Tryz.func44, Tryz.ntmps44
 go_wp2_with fail
 refine HT.out.mono ?_
 rintro e w1 ⟨rfl, hk1⟩
 obtain ⟨g, cap, r, oa, oc, rd, uv, c1, c2, c3, c4, c5⟩ := (HH.out.kept0 hk1).cells (by rw [hnn]; exact hi)
 rw [hnn] at c1
 generalize hB : ow.bs.getD i 0 = b at *
 have HB : Hid (ow.bs.getD i 0 = b) := hB
 have HK1 : Hid (Kept NoBlk w w1) := hk1
 have d2 : w1.cell? ⟨b, 2, none⟩ = some (.int .i64 ((s.tx (i + 1)).next : Int)) := by rw [cell_at c3]; rfl
 have d3 : w1.cell? ⟨b, 3, none⟩ = some (.bool false) := by rw [cell_at c3, ← HWW.out.1]; rfl
 have d4 : w1.cell? ⟨b, 4, none⟩ = some (.bool false) := by rw [cell_at c3, show false = (s.tx (i + 1)).waits.isSome from by rw [HWW.out.2.1]; rfl]; rfl
 have d8 : w1.cell? ⟨b, 8, none⟩ = some (.slice oa (s.tx (i + 1)).ops.length oc) := by rw [cell_at c3]; rfl
 have en : ((((s.tx (i + 1)).next : Int)) == ((s.tx (i + 1)).ops.length : Int)) = false := by have := HWW.out.2.2.1; simp; omega
 have nx0 : (0 : Int) ≤ ((s.tx (i + 1)).next : Int) := by omega
 have nx1 : ((s.tx (i + 1)).next : Int) < ((s.tx (i + 1)).ops.length : Int) := by have := HWW.out.2.2.1; omega
 obtain ⟨ao, cp, eo, hoo⟩ := c4
 obtain ⟨ob, off, rfl, hat⟩ := hoo (by have := HWW.out.2.2.1; omega)
 simp only [Value.slice.injEq, true_and] at eo
 obtain ⟨rfl, rfl⟩ := eo
 obtain ⟨x0, x1, x2, x3⟩ := hat (s.tx (i + 1)).next HWW.out.2.2.1
 rw [show (s.tx (i + 1)).ops.getD (s.tx (i + 1)).next Op4.z = o from HWW.out.2.2.2] at x0 x1 x2 x3
 clear hk1 HT c3 c5 hB hat hoo
 generalize (s.tx (i + 1)).ops.length = ol at *
 generalize hnxe : (s.tx (i + 1)).next = nx at *
 have HNX : Hid ((s.tx (i + 1)).next = nx) := hnxe
 clear hnxe
 go_wp2_with fail
 go_quiet (fail)
 generalize hW : World.drewN w1 _ = W at *
 have y1 : W.cell? ⟨q, 1, none⟩ = some (.slice (some ⟨g, 0, none⟩) n cap) := by rw [← hW]; exact c1
 have hkW : Kept NoBlk w1 W := by rw [← hW]; exact (Kept.refl _ _).drewN _
 clear hW
 have z2 := hkW.cell0 d2
 have z8 := hkW.cell0 d8
 have t0 := hkW.cell0 x0
 have t1 := hkW.cell0 x1
 have t2 := hkW.cell0 x2
 have t3 := hkW.cell0 x3
 have nb : ¬ b = W.heap.size := fun e => by have := World.block_lt_of_cell? W _ z2; simp only at this; omega
 have nb' : ¬ W.heap.size = b := fun e => nb e.symm
 have no : ¬ ob = W.heap.size := fun e => by have := World.block_lt_of_cell? W _ t0; simp only at this; omega
 have no' : ¬ W.heap.size = ob := fun e => no e.symm
 have HKW : Hid (Kept NoBlk w1 W) := hkW
 clear d2 d3 d4 d8 x0 x1 x2 x3 c1 c2 y1 hkW
 go_wp2_with fail
 go_region_held3 (fun w' => w'.cell? ⟨b, 8, none⟩ = some (.slice (some ⟨ob, off, none⟩) ol oc) ∧ w'.cell? ⟨b, 2, none⟩ = some (.int .i64 (nx : Int)) ∧ w'.cell? ⟨ob, off + nx * 4, none⟩ = some (.int .i64 o.k) ∧ w'.cell? ⟨ob, off + nx * 4 + 1, none⟩ = some (.int .i64 o.a) ∧ w'.cell? ⟨ob, off + nx * 4 + 2, none⟩ = some (.int .i64 o.b) ∧ w'.cell? ⟨ob, off + nx * 4 + 3, none⟩ = some (.int .i64 o.c)) (go_keep) (fail)
 have HBX : Hid ((W.alloc (.cells #[.int .i64 o.k, .int .i64 o.a, .int .i64 o.b, .int .i64 o.c] 114)).drew.heap[W.heap.size]? = some (.cells #[.int .i64 o.k, .int .i64 o.a, .int .i64 o.b, .int .i64 o.c] 114 (0, 0))) := block_alloc_new W _
 have HKV : Hid (Kept NoBlk w (W.alloc (.cells #[.int .i64 o.k, .int .i64 o.a, .int .i64 o.b, .int .i64 o.c] 114)).drew) := ((HK1.out.trans' HKW.out).alloc _).drew
 generalize (W.alloc (.cells #[.int .i64 o.k, .int .i64 o.a, .int .i64 o.b, .int .i64 o.c] 114)).drew = V at *
 have HHN : Hid (w.heap.size ≤ W.heap.size) := Nat.le_trans HK1.out.size HKW.out.size
 generalize W.heap.size = H at *
 have v0 : V.cell? ⟨H, 0, none⟩ = some (.int .i64 o.k) := by rw [cell_at HBX.out]; rfl
 have v1 : V.cell? ⟨H, 1, none⟩ = some (.int .i64 o.a) := by rw [cell_at HBX.out]; rfl
 have v2 : V.cell? ⟨H, 2, none⟩ = some (.int .i64 o.b) := by rw [cell_at HBX.out]; rfl
 have v3 : V.cell? ⟨H, 3, none⟩ = some (.int .i64 o.c) := by rw [cell_at HBX.out]; rfl
 clear z2 z8 t0 t1 t2 t3 nb nb' no no' HKW HK1 en nx0 nx1
 go_wp2_with fail
 refine (HMD.out _).mono ?_
 rintro e V1 ⟨rfl, hkv⟩
 have HBX1 : Hid (V1.heap[H]? = some (.cells #[.int .i64 o.k, .int .i64 o.a, .int .i64 o.b, .int .i64 o.c] 114 (0, 0))) := hkv.heap HBX.out (fun x => x)
 have HK2 : Hid (Kept NoBlk w V1) := HKV.out.trans' hkv
 have u0 : V1.cell? ⟨H, 0, none⟩ = some (.int .i64 o.k) := by rw [cell_at HBX1.out]; rfl
 have u1 : V1.cell? ⟨H, 1, none⟩ = some (.int .i64 o.a) := by rw [cell_at HBX1.out]; rfl
 clear v0 v1 v2 v3 hkv HBX HKV HMD
 have HHC' : Hid (Calls Tryz.prog 82 #[.pointer (some ⟨q, 0, none⟩), .int .i64 o.a, .int .i64 ((i : Int) + 1)] V1 fun e w' => e = .returned (.int .i64 ((s.lk o.a).h (i + 1))) ∧ Kept NoBlk V1 w') := HHD.out V1 HK2.out
 clear HHD
 generalize hmd : modeOf o = md at *
 generalize hhd : (s.lk o.a).h (i + 1) = hd at *
 go_wp2_with fail
 refine HHC'.out.mono ?_
 rintro e V2 ⟨rfl, hk2⟩
 have HK3 : Hid (Kept NoBlk w V2) := HK2.out.trans' hk2
 have HBX2 : Hid (V2.heap[H]? = some (.cells #[.int .i64 o.k, .int .i64 o.a, .int .i64 o.b, .int .i64 o.c] 114 (0, 0))) := hk2.heap HBX1.out (fun x => x)
 have s0 : V2.cell? ⟨H, 0, none⟩ = some (.int .i64 o.k) := by rw [cell_at HBX2.out]; rfl
 have s1 : V2.cell? ⟨H, 1, none⟩ = some (.int .i64 o.a) := by rw [cell_at HBX2.out]; rfl
 clear u0 u1 hk2 HBX1 HK2 HHC'
 have s2 : V2.cell? ⟨H, 2, none⟩ = some (.int .i64 o.b) := by rw [cell_at HBX2.out]; rfl
 have s3 : V2.cell? ⟨H, 3, none⟩ = some (.int .i64 o.c) := by rw [cell_at HBX2.out]; rfl
 obtain ⟨cl3, hcl3⟩ : ∃ c, cl = c := ⟨_, rfl⟩
 have HS3 : Hid (HSt ow q N0 j s cl3 V2) := by rw [← hcl3]; exact HH.out.kept0 HK3.out
 have HA3 : Hid (Agree w ow ow) := Agree.refl _ _
 have HKK : Hid (Kept (Own ow) w V2) := HK3.out.mono (fun _ x => x.elim)
 clear hcl3
 have hi3 : i < s.n := by show i < s.n; rw [hnn]; exact hi
 obtain ⟨g3, cap3, r3, oa3, oc3, rd3, uv3, e1, e2, e3, e4, e5⟩ := HS3.out.cells hi3
 have hb3 : ow.bs.getD i 0 = b := by rw [HA3.out.bs]; exact HB.out
 have HDO : Hid (∀ W, Kept NoBlk V2 W → Calls Tryz.prog 85 #[.pointer (some ⟨q, 0, none⟩), .pointer (some ⟨b, 0, none⟩), .agg #[.int .i64 o.k, .int .i64 (a' : Int), .int .i64 o.b, .int .i64 o.c]] W fun e w' => e = .returned (.tuple #[]) ∧ ∃ ow', Agree W ow ow' ∧ HSt ow' q N0 (j + 1) (s.did (i + 1) o) cl3 w' ∧ Kept (Own ow) W w') := fun W hk => by
  have := hDo (HS3.out.kept0 hk) hi3 o HOK.out HUN.out.1 HUN.out.2 (by omega) (by omega)
  rw [hb3] at this
  rw [HOA.out] at this; exact this
 rw [HOA.out] at s1
 have hBX2' := HBX2.out
 rw [HOA.out] at hBX2'
 have HBX2a : Hid (V2.heap[H]? = some (.cells #[.int .i64 o.k, .int .i64 (a' : Int), .int .i64 o.b, .int .i64 o.c] 114 (0, 0))) := hBX2'
 have hr6 : V2.cell? ⟨b, 6, none⟩ = some (.slice (some ⟨r3, 0, none⟩) 4 4) := by rw [hb3] at e3; rw [cell_at e3]; rfl
 have hra := e5 a' ha'
 clear e1 e2 e3 e4 e5 hBX2'
 generalize (s.tx (i + 1)).regs (a' : Int) = rg at *
 go_wp2_with fail
 go_quiet (fail)
 generalize hV5 : World.drewN V2 _ = V5 at *
 have hk5' : Kept NoBlk V2 V5 := by rw [← hV5]; exact (Kept.refl _ _).drewN _
 have HBX5 : V5.heap[H]? = some (.cells #[.int .i64 o.k, .int .i64 (a' : Int), .int .i64 o.b, .int .i64 o.c] 114 (0, 0)) := hk5'.heap HBX2a.out (fun x => x)
 have p0 : V5.cell? ⟨H, 0, none⟩ = some (.int .i64 o.k) := by rw [cell_at HBX5]; rfl
 have p1 : V5.cell? ⟨H, 1, none⟩ = some (.int .i64 (a' : Int)) := by rw [cell_at HBX5]; rfl
 have p2 : V5.cell? ⟨H, 2, none⟩ = some (.int .i64 o.b) := by rw [cell_at HBX5]; rfl
 have p3 : V5.cell? ⟨H, 3, none⟩ = some (.int .i64 o.c) := by rw [cell_at HBX5]; rfl
 clear hV5 HBX5
 clear s0 s1 s2 s3 hr6 hra
 have HKK5 : Hid (Kept (Own ow) w V5) := HKK.out.trans hk5' (fun _ x => x.elim)
 have HDOC : Hid (Calls Tryz.prog 85 #[.pointer (some ⟨q, 0, none⟩), .pointer (some ⟨b, 0, none⟩), .agg #[.int .i64 o.k, .int .i64 (a' : Int), .int .i64 o.b, .int .i64 o.c]] V5 fun e w' => e = .returned (.tuple #[]) ∧ ∃ ow', Agree V5 ow ow' ∧ HSt ow' q N0 (j + 1) (s.did (i + 1) o) cl3 w' ∧ Kept (Own ow) V5 w') := HDO.out V5 hk5'
 clear hk5' HDO
 go_wp2_with fail
 refine HDOC.out.mono ?_
 rintro e W6 ⟨rfl, ow6, a61, a62, a63⟩
 have hi6 : i < (s.did (i + 1) o).n := by rw [(did_n s (i + 1) o).1]; exact hi3
 have hb6 : ow6.bs.getD i 0 = b := by rw [a61.bs]; exact hb3
 have hdt : ((s.did (i + 1) o).tx (i + 1)).next = (s.tx (i + 1)).next := did_tx s (i + 1) o
 obtain ⟨g6, cap6, r6, oa6, oc6, rd6, uv6, f1, f2, f3, f4, f5⟩ := a62.cells hi6
 have hst := a62.setTxn hi6 (fun t => { t with next := t.next + 1 }) (fld := 2) (v := .int .i64 ((((s.did (i + 1) o).tx (i + 1)).next + 1 : Nat) : Int)) rfl rfl rfl rfl (fun _ _ _ _ => rfl)
 rw [hb6] at f3 hst
 rw [did_next] at hst
 have d6 : W6.cell? ⟨b, 2, none⟩ = some (.int .i64 ((s.tx (i + 1)).next : Int)) := by rw [cell_at f3, ← hdt]; rfl
 have df6 : ∀ j, W6.frozen? ⟨b, j, none⟩ = false := frozen_at f3
 rw [hdt, show (((s.tx (i + 1)).next + 1 : Nat) : Int) = ((s.tx (i + 1)).next : Int) + 1 from rfl] at hst
 have HF : Hid (HAft ow q N0 (j + 2) w (s.doOp (i + 1) o) (W6.setCell ⟨b, 2, none⟩ (.int .i64 (((s.tx (i + 1)).next : Int) + 1)))) := by
  have hag : Agree w ow ow6 := HA3.out.trans HKK5.out.size a61
  have hk6 : Kept (Own ow) w W6 := HKK5.out.trans a63 (fun k x => own_old HA3.out k x)
  exact ⟨⟨ow6, cl3, hst.1.mono (by omega), hag.out⟩, hk6.trans hst.2 (fun k x => own_old hag k x)⟩
 have nx1 : ((s.tx (i + 1)).next : Int) ≤ 12 := by have := HWW.out.2.2.1; have := H12.out; have := HNX.out; omega
 have nx0 : (0 : Int) ≤ ((s.tx (i + 1)).next : Int) := by omega
 clear a61 a62 a63 hst f1 f2 f3 f4 f5 HDOC hdt HNX
 generalize (s.tx (i + 1)).next = nx at *
 go_wp2_with fail
 go_ret2
 exact ⟨rfl, HF.out⟩
set_option maxRecDepth 20000 in
set_option maxHeartbeats 3200000 in
theorem hStep_stop {ow : OwB} {q N0 j : Nat} {s : St} {cl : List Cl} {w : World} (h : HSt ow q N0 j s cl w) (hI : Inv s) {i : Nat} (hi : i < s.n) (hz : (s.tx (i + 1)).state = 0) (hn : s.n ≤ 1048576) (hw : (s.tx (i + 1)).wounded = false) (hwt : (s.tx (i + 1)).waits = none) (hnx : (s.tx (i + 1)).next < (s.tx (i + 1)).ops.length) (h12 : (s.tx (i + 1)).ops.length ≤ 12) (hj : j ≤ 2097152) (hN : N0 ≤ 1048576) (hm : ¬ (s.lk (s.tx (i + 1)).op.a).h (i + 1) < modeOf (s.tx (i + 1)).op) (hok : (s.tx (i + 1)).op.ok = true) (hun : (s.tx (i + 1)).undo.length ≤ 12 ∧ (s.tx (i + 1)).reads.length ≤ 12) (hk5 : (s.tx (i + 1)).op.k = 5) (hrg : (s.tx (i + 1)).regs (s.tx (i + 1)).op.a = 0) :
  Calls Tryz.prog 44 #[.pointer (some ⟨q, 0, none⟩), .int .i64 ((i : Int) + 1)] w fun e w' => e = .returned (.tuple #[.int .i64 4, .int .i64 0]) ∧ HAft ow q N0 (j + 2) w (s.fell (i + 1) 2) w' := by
 have HT := hThere0 h hi hz hn
 have HH : Hid (HSt ow q N0 j s cl w) := h
 obtain ⟨o, ho⟩ : ∃ o, (s.tx (i + 1)).op = o := ⟨_, rfl⟩
 have HWW : Hid ((s.tx (i + 1)).wounded = false ∧ (s.tx (i + 1)).waits = none ∧ (s.tx (i + 1)).next < (s.tx (i + 1)).ops.length ∧ (s.tx (i + 1)).op = o) := ⟨hw, hwt, hnx, ho⟩
 have HHD : Hid (∀ W, Kept NoBlk w W → Calls Tryz.prog 82 #[.pointer (some ⟨q, 0, none⟩), .int .i64 o.a, .int .i64 ((i : Int) + 1)] W fun e w' => e = .returned (.int .i64 ((s.lk o.a).h (i + 1))) ∧ Kept NoBlk W w') := fun W hk => hHeld (h.kept0 hk) o.a i (by omega)
 have HMD : Hid (∀ W, Calls Tryz.prog 81 #[.agg #[.int .i64 o.k, .int .i64 o.a, .int .i64 o.b, .int .i64 o.c]] W fun e w' => e = .returned (.int .i64 (modeOf o)) ∧ Kept NoBlk W w') := fun W => wmode o W
 have j4 : (0 : Int) ≤ (i : Int) := by omega
 have j5 : (i : Int) < (s.n : Int) := by omega
 have hwi : IntKind.wrap .i64 (i : Int) = (i : Int) := by rw [IntKind.wrap_i64]; omega
 rw [ho] at hm
 have gm1 : decide ((s.lk o.a).h (i + 1) < modeOf o) = false := by simpa using hm
 have HOK : Hid (o.ok = true) := by rw [← ho]; exact hok
 have HUN : Hid ((s.tx (i + 1)).undo.length ≤ 12 ∧ (s.tx (i + 1)).reads.length ≤ 12) := hun
 have H12 : Hid ((s.tx (i + 1)).ops.length ≤ 12) := h12
 have k5 : (o.k == 5) = true := by rw [← ho]; simpa using hk5
 obtain ⟨a', hoa, ha'⟩ : ∃ k : Nat, o.a = (k : Int) ∧ k < 4 := by
  have h1 := HOK.out
  unfold Op4.ok opB at h1
  rw [← ho] at h1 ⊢
  rw [hk5] at h1
  exact reg_nat (by simpa using h1)
 have a0 : (0 : Int) ≤ (a' : Int) := by omega
 have a4 : (a' : Int) < 4 := by omega
 have HOA : Hid (o.a = (a' : Int)) := hoa
 have rz : ((s.tx (i + 1)).regs (a' : Int) == 0) = true := by rw [← hoa, ← ho]; simpa using hrg
 have HU : Hid (∀ W, Kept NoBlk w W → Calls Tryz.prog 79 #[.pointer (some ⟨q, 0, none⟩), .int .i64 ((i : Int) + 1)] W fun e w' => e = .returned (.tuple #[]) ∧ ∃ ow' cl', Agree W ow ow' ∧ HSt ow' q N0 (j + 1) (s.undone (i + 1)) cl' w' ∧ Kept (Own ow) W w') := fun W hk => hUndone (h.kept0 hk) hI i hi hun.1 hn (by omega) (by omega)
 clear hun hok hm hk5 h12 hrg hoa
 clear h hw hz hI hwt hnx ho
 generalize hnn : s.n = n at *
 go_enter Tryz.func44, Tryz.ntmps44
 go_wp2_with fail
 refine HT.out.mono ?_
 rintro e w1 ⟨rfl, hk1⟩
 obtain ⟨g, cap, r, oa, oc, rd, uv, c1, c2, c3, c4, c5⟩ := (HH.out.kept0 hk1).cells (by rw [hnn]; exact hi)
 rw [hnn] at c1
 generalize hB : ow.bs.getD i 0 = b at *
 have HB : Hid (ow.bs.getD i 0 = b) := hB
 have HK1 : Hid (Kept NoBlk w w1) := hk1
 have d2 : w1.cell? ⟨b, 2, none⟩ = some (.int .i64 ((s.tx (i + 1)).next : Int)) := by rw [cell_at c3]; rfl
 have d3 : w1.cell? ⟨b, 3, none⟩ = some (.bool false) := by rw [cell_at c3, ← HWW.out.1]; rfl
 have d4 : w1.cell? ⟨b, 4, none⟩ = some (.bool false) := by rw [cell_at c3, show false = (s.tx (i + 1)).waits.isSome from by rw [HWW.out.2.1]; rfl]; rfl
 have d8 : w1.cell? ⟨b, 8, none⟩ = some (.slice oa (s.tx (i + 1)).ops.length oc) := by rw [cell_at c3]; rfl
 have en : ((((s.tx (i + 1)).next : Int)) == ((s.tx (i + 1)).ops.length : Int)) = false := by have := HWW.out.2.2.1; simp; omega
 have nx0 : (0 : Int) ≤ ((s.tx (i + 1)).next : Int) := by omega
 have nx1 : ((s.tx (i + 1)).next : Int) < ((s.tx (i + 1)).ops.length : Int) := by have := HWW.out.2.2.1; omega
 obtain ⟨ao, cp, eo, hoo⟩ := c4
 obtain ⟨ob, off, rfl, hat⟩ := hoo (by have := HWW.out.2.2.1; omega)
 simp only [Value.slice.injEq, true_and] at eo
 obtain ⟨rfl, rfl⟩ := eo
 obtain ⟨x0, x1, x2, x3⟩ := hat (s.tx (i + 1)).next HWW.out.2.2.1
 rw [show (s.tx (i + 1)).ops.getD (s.tx (i + 1)).next Op4.z = o from HWW.out.2.2.2] at x0 x1 x2 x3
 clear hk1 HT c3 c5 hB hat hoo
 generalize (s.tx (i + 1)).ops.length = ol at *
 generalize hnxe : (s.tx (i + 1)).next = nx at *
 have HNX : Hid ((s.tx (i + 1)).next = nx) := hnxe
 clear hnxe
 go_wp2_with fail
 go_quiet (fail)
 generalize hW : World.drewN w1 _ = W at *
 have y1 : W.cell? ⟨q, 1, none⟩ = some (.slice (some ⟨g, 0, none⟩) n cap) := by rw [← hW]; exact c1
 have hkW : Kept NoBlk w1 W := by rw [← hW]; exact (Kept.refl _ _).drewN _
 clear hW
 have z2 := hkW.cell0 d2
 have z8 := hkW.cell0 d8
 have t0 := hkW.cell0 x0
 have t1 := hkW.cell0 x1
 have t2 := hkW.cell0 x2
 have t3 := hkW.cell0 x3
 have nb : ¬ b = W.heap.size := fun e => by have := World.block_lt_of_cell? W _ z2; simp only at this; omega
 have nb' : ¬ W.heap.size = b := fun e => nb e.symm
 have no : ¬ ob = W.heap.size := fun e => by have := World.block_lt_of_cell? W _ t0; simp only at this; omega
 have no' : ¬ W.heap.size = ob := fun e => no e.symm
 have HKW : Hid (Kept NoBlk w1 W) := hkW
 clear d2 d3 d4 d8 x0 x1 x2 x3 c1 c2 y1 hkW
 go_wp2_with fail
 go_region_held3 (fun w' => w'.cell? ⟨b, 8, none⟩ = some (.slice (some ⟨ob, off, none⟩) ol oc) ∧ w'.cell? ⟨b, 2, none⟩ = some (.int .i64 (nx : Int)) ∧ w'.cell? ⟨ob, off + nx * 4, none⟩ = some (.int .i64 o.k) ∧ w'.cell? ⟨ob, off + nx * 4 + 1, none⟩ = some (.int .i64 o.a) ∧ w'.cell? ⟨ob, off + nx * 4 + 2, none⟩ = some (.int .i64 o.b) ∧ w'.cell? ⟨ob, off + nx * 4 + 3, none⟩ = some (.int .i64 o.c)) (go_keep) (fail)
 have HBX : Hid ((W.alloc (.cells #[.int .i64 o.k, .int .i64 o.a, .int .i64 o.b, .int .i64 o.c] 114)).drew.heap[W.heap.size]? = some (.cells #[.int .i64 o.k, .int .i64 o.a, .int .i64 o.b, .int .i64 o.c] 114 (0, 0))) := block_alloc_new W _
 have HKV : Hid (Kept NoBlk w (W.alloc (.cells #[.int .i64 o.k, .int .i64 o.a, .int .i64 o.b, .int .i64 o.c] 114)).drew) := ((HK1.out.trans' HKW.out).alloc _).drew
 generalize (W.alloc (.cells #[.int .i64 o.k, .int .i64 o.a, .int .i64 o.b, .int .i64 o.c] 114)).drew = V at *
 have HHN : Hid (w.heap.size ≤ W.heap.size) := Nat.le_trans HK1.out.size HKW.out.size
 generalize W.heap.size = H at *
 have v0 : V.cell? ⟨H, 0, none⟩ = some (.int .i64 o.k) := by rw [cell_at HBX.out]; rfl
 have v1 : V.cell? ⟨H, 1, none⟩ = some (.int .i64 o.a) := by rw [cell_at HBX.out]; rfl
 have v2 : V.cell? ⟨H, 2, none⟩ = some (.int .i64 o.b) := by rw [cell_at HBX.out]; rfl
 have v3 : V.cell? ⟨H, 3, none⟩ = some (.int .i64 o.c) := by rw [cell_at HBX.out]; rfl
 clear z2 z8 t0 t1 t2 t3 nb nb' no no' HKW HK1 en nx0 nx1
 go_wp2_with fail
 refine (HMD.out _).mono ?_
 rintro e V1 ⟨rfl, hkv⟩
 have HBX1 : Hid (V1.heap[H]? = some (.cells #[.int .i64 o.k, .int .i64 o.a, .int .i64 o.b, .int .i64 o.c] 114 (0, 0))) := hkv.heap HBX.out (fun x => x)
 have HK2 : Hid (Kept NoBlk w V1) := HKV.out.trans' hkv
 have u0 : V1.cell? ⟨H, 0, none⟩ = some (.int .i64 o.k) := by rw [cell_at HBX1.out]; rfl
 have u1 : V1.cell? ⟨H, 1, none⟩ = some (.int .i64 o.a) := by rw [cell_at HBX1.out]; rfl
 clear v0 v1 v2 v3 hkv HBX HKV HMD
 have HHC' : Hid (Calls Tryz.prog 82 #[.pointer (some ⟨q, 0, none⟩), .int .i64 o.a, .int .i64 ((i : Int) + 1)] V1 fun e w' => e = .returned (.int .i64 ((s.lk o.a).h (i + 1))) ∧ Kept NoBlk V1 w') := HHD.out V1 HK2.out
 clear HHD
 generalize hmd : modeOf o = md at *
 generalize hhd : (s.lk o.a).h (i + 1) = hd at *
 go_wp2_with fail
 refine HHC'.out.mono ?_
 rintro e V2 ⟨rfl, hk2⟩
 have HK3 : Hid (Kept NoBlk w V2) := HK2.out.trans' hk2
 have HBX2 : Hid (V2.heap[H]? = some (.cells #[.int .i64 o.k, .int .i64 o.a, .int .i64 o.b, .int .i64 o.c] 114 (0, 0))) := hk2.heap HBX1.out (fun x => x)
 have s0 : V2.cell? ⟨H, 0, none⟩ = some (.int .i64 o.k) := by rw [cell_at HBX2.out]; rfl
 have s1 : V2.cell? ⟨H, 1, none⟩ = some (.int .i64 o.a) := by rw [cell_at HBX2.out]; rfl
 clear u0 u1 hk2 HBX1 HK2 HHC'
 have s2 : V2.cell? ⟨H, 2, none⟩ = some (.int .i64 o.b) := by rw [cell_at HBX2.out]; rfl
 have s3 : V2.cell? ⟨H, 3, none⟩ = some (.int .i64 o.c) := by rw [cell_at HBX2.out]; rfl
 obtain ⟨cl3, hcl3⟩ : ∃ c, cl = c := ⟨_, rfl⟩
 have HS3 : Hid (HSt ow q N0 j s cl3 V2) := by rw [← hcl3]; exact HH.out.kept0 HK3.out
 have HA3 : Hid (Agree w ow ow) := Agree.refl _ _
 have HKK : Hid (Kept (Own ow) w V2) := HK3.out.mono (fun _ x => x.elim)
 clear hcl3
 have hi3 : i < s.n := by show i < s.n; rw [hnn]; exact hi
 obtain ⟨g3, cap3, r3, oa3, oc3, rd3, uv3, e1, e2, e3, e4, e5⟩ := HS3.out.cells hi3
 have hb3 : ow.bs.getD i 0 = b := by rw [HA3.out.bs]; exact HB.out
 have HDO : Hid (∀ W, Kept NoBlk V2 W → Calls Tryz.prog 85 #[.pointer (some ⟨q, 0, none⟩), .pointer (some ⟨b, 0, none⟩), .agg #[.int .i64 o.k, .int .i64 (a' : Int), .int .i64 o.b, .int .i64 o.c]] W fun e w' => e = .returned (.tuple #[]) ∧ ∃ ow', Agree W ow ow' ∧ HSt ow' q N0 (j + 1) (s.did (i + 1) o) cl3 w' ∧ Kept (Own ow) W w') := fun W hk => by
  have := hDo (HS3.out.kept0 hk) hi3 o HOK.out HUN.out.1 HUN.out.2 (by omega) (by omega)
  rw [hb3] at this
  rw [HOA.out] at this; exact this
 rw [HOA.out] at s1
 have hBX2' := HBX2.out
 rw [HOA.out] at hBX2'
 have HBX2a : Hid (V2.heap[H]? = some (.cells #[.int .i64 o.k, .int .i64 (a' : Int), .int .i64 o.b, .int .i64 o.c] 114 (0, 0))) := hBX2'
 have hr6 : V2.cell? ⟨b, 6, none⟩ = some (.slice (some ⟨r3, 0, none⟩) 4 4) := by rw [hb3] at e3; rw [cell_at e3]; rfl
 have hra := e5 a' ha'
 clear e1 e2 e3 e4 e5 hBX2' HDO
 generalize (s.tx (i + 1)).regs (a' : Int) = rg at *
 go_wp2_with fail
 go_quiet (fail)
 generalize hV5 : World.drewN V2 _ = V5 at *
 have hk5' : Kept NoBlk V2 V5 := by rw [← hV5]; exact (Kept.refl _ _).drewN _
 have HBX5 : V5.heap[H]? = some (.cells #[.int .i64 o.k, .int .i64 (a' : Int), .int .i64 o.b, .int .i64 o.c] 114 (0, 0)) := hk5'.heap HBX2a.out (fun x => x)
 have p0 : V5.cell? ⟨H, 0, none⟩ = some (.int .i64 o.k) := by rw [cell_at HBX5]; rfl
 have p1 : V5.cell? ⟨H, 1, none⟩ = some (.int .i64 (a' : Int)) := by rw [cell_at HBX5]; rfl
 have p2 : V5.cell? ⟨H, 2, none⟩ = some (.int .i64 o.b) := by rw [cell_at HBX5]; rfl
 have p3 : V5.cell? ⟨H, 3, none⟩ = some (.int .i64 o.c) := by rw [cell_at HBX5]; rfl
 clear hV5 HBX5
 have HK5 : Hid (Kept NoBlk w V5) := HK3.out.trans' hk5'
 clear s0 s1 s2 s3 hr6 hra p0 p1 p2 p3 hk5'
 have HU1 : Hid (Calls Tryz.prog 79 #[.pointer (some ⟨q, 0, none⟩), .int .i64 ((i : Int) + 1)] V5 fun e w' => e = .returned (.tuple #[]) ∧ ∃ ow' cl', Agree V5 ow ow' ∧ HSt ow' q N0 (j + 1) (s.undone (i + 1)) cl' w' ∧ Kept (Own ow) V5 w') := HU.out V5 HK5.out
 clear HU
 go_wp2_with fail
 refine HU1.out.mono ?_
 rintro e w2 ⟨rfl, ow2, cl2, a1, a2, a3⟩
 have hb2 : ow2.bs.getD i 0 = b := by rw [a1.bs]; exact HB.out
 have hi2 : i < (s.undone (i + 1)).n := by show i < s.n; rw [hnn]; exact hi
 obtain ⟨g2, cap2, r2, oa2, oc2, rd2, uv2, e1, e2, e3, e4, e5⟩ := a2.cells hi2
 have hst := a2.setTxn hi2 (fun t => { t with state := 2 }) (fld := 1) (v := .int .i64 2) rfl rfl rfl rfl (fun _ _ _ _ => rfl)
 rw [hb2] at e3 hst
 have d5 : w2.cell? ⟨b, 1, none⟩ = some (.int .i64 ((s.undone (i + 1)).tx (i + 1)).state) := by rw [cell_at e3]; rfl
 have df : ∀ j, w2.frozen? ⟨b, j, none⟩ = false := frozen_at e3
 have HF : Hid (HAft ow q N0 (j + 2) w (s.fell (i + 1) 2) (w2.setCell ⟨b, 1, none⟩ (.int .i64 2))) := by
  refine ⟨⟨ow2, cl2, hst.1.mono (by omega), fun k hk => a1.out k (Nat.lt_of_lt_of_le hk HK5.out.size)⟩, ((HK5.out.mono (fun _ x => x.elim)).trans' a3).trans hst.2 (fun k e => ?_)⟩
  rcases own_old a1 k e with y | y
  ·exact .inl y
  ·exact .inr (Nat.le_trans HK5.out.size y)
 clear a1 a2 a3 hst e1 e2 e3 e4 e5 HU1
 go_wp2_with fail
 go_ret2
 exact ⟨rfl, HF.out⟩
end Go.Proofs.YtmcajfefagdbnaaGreat
