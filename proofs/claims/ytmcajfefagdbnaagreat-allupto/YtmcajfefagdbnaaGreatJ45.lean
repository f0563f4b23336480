import Derived.Test.YtmcajfefagdbnaaGreatJ44
import Derived.Test.YtmcajfefagdbnaaGreatJ06
namespace Go.Proofs.YtmcajfefagdbnaaGreat
open Go Go.RowKit
set_option maxRecDepth 20000 in
set_option maxHeartbeats 1600000 in
theorem hStep_commit {ow : OwB} {q N0 j : Nat} {s : St} {cl : List Cl} {w : World} (h : HSt ow q N0 j s cl w) (hI : Inv s) {i : Nat} (hi : i < s.n) (hz : (s.tx (i + 1)).state = 0) (hn : s.n ≤ 1048576) (hw : (s.tx (i + 1)).wounded = false) (hwt : (s.tx (i + 1)).waits = none) (hnx : (s.tx (i + 1)).next = (s.tx (i + 1)).ops.length) (hj : j ≤ 4194304) (hwl : s.wins.length ≤ 4194304) :
  Calls Tryz.prog 44 #[.pointer (some ⟨q, 0, none⟩), .int .i64 ((i : Int) + 1)] w fun e w' => e = .returned (.tuple #[.int .i64 6, .int .i64 0]) ∧ HAft ow q N0 (j + 1) w (s.commit (i + 1)) w' := by
 have HT := hThere0 h hi hz hn
 have HH : Hid (HSt ow q N0 j s cl w) := h
 have HWW : Hid ((s.tx (i + 1)).wounded = false ∧ (s.tx (i + 1)).waits = none ∧ (s.tx (i + 1)).next = (s.tx (i + 1)).ops.length) := ⟨hw, hwt, hnx⟩
 have HFR : Hid (∀ ow3 rl3 W3, WSt ow3 q rl3 cl s.n (upd s.tx (i + 1) { s.tx (i + 1) with state := 1 }) (s.wins ++ [i + 1]) s.clock W3 → Calls Tryz.prog 80 #[.pointer (some ⟨q, 0, none⟩), .int .i64 ((i : Int) + 1)] W3 fun e w' => e = .returned (.tuple #[]) ∧ ∃ ow' cl', Agree W3 ow3 ow' ∧
   WSt ow' q rl3 cl' s.n (fun a => (upd s.tx (i + 1) { s.tx (i + 1) with state := 1 } a).look (fun k => (s.lk k).freed s.n (i + 1)) a) (s.wins ++ [i + 1]) s.clock w' ∧ Rep s.n cl' (fun k => (s.lk k).freed s.n (i + 1)) ∧ cl'.length ≤ cl.length ∧ Kept (Own ow3) W3 w') := fun ow3 rl3 W3 hW =>
  wfreed (id := i + 1) hW h.rep (hI.wtx (i + 1) _) (by rw [upd_same]; exact hwt) hI.still (fun k => (hI.row k).once) (hI.oneQ (i + 1)) (by have := h.few; omega) (by omega)
 have j4 : (0 : Int) ≤ (i : Int) := by omega
 have j5 : (i : Int) < (s.n : Int) := by omega
 have hwi : IntKind.wrap .i64 (i : Int) = (i : Int) := by rw [IntKind.wrap_i64]; omega
 clear h hw hz hI hwt hnx
 go_enter Tryz.func44, Tryz.ntmps44
 go_wp2_with fail
 refine HT.out.mono ?_
 rintro e w1 ⟨rfl, hk1⟩
 obtain ⟨g, cap, r, oa, oc, rd, uv, c1, c2, c3, c4, c5⟩ := (HH.out.kept0 hk1).cells hi
 generalize hB : ow.bs.getD i 0 = b at *
 have HB : Hid (ow.bs.getD i 0 = b) := hB
 have HK1 : Hid (Kept NoBlk w w1) := hk1
 have d2 : w1.cell? ⟨b, 2, none⟩ = some (.int .i64 ((s.tx (i + 1)).ops.length : Int)) := by rw [cell_at c3, ← HWW.out.2.2]; rfl
 have d3 : w1.cell? ⟨b, 3, none⟩ = some (.bool false) := by rw [cell_at c3, ← HWW.out.1]; rfl
 have d4 : w1.cell? ⟨b, 4, none⟩ = some (.bool false) := by rw [cell_at c3, show false = (s.tx (i + 1)).waits.isSome from by rw [HWW.out.2.1]; rfl]; rfl
 have d8 : w1.cell? ⟨b, 8, none⟩ = some (.slice oa (s.tx (i + 1)).ops.length oc) := by rw [cell_at c3]; rfl
 have en : (((s.tx (i + 1)).ops.length : Int) == ((s.tx (i + 1)).ops.length : Int)) = true := by simp
 clear hk1 HT c3 c4 c5 hB
 generalize (s.tx (i + 1)).ops.length = ol at *
 go_wp2_with fail
 go_quiet (fail)
 generalize hW : World.drewN w1 _ = W at *
 have hkW : Kept NoBlk w W := by rw [← hW]; exact HK1.out.drewN _
 clear hW d2 d3 d4 d8 c1 c2 HK1
 have hH1 := HH.out.kept0 hkW
 obtain ⟨g', cap', r', oa', oc', rd', uv', _, _, c3, _, _⟩ := hH1.cells hi
 have hst := hH1.setTxn hi (fun t => { t with state := 1 }) (fld := 1) (v := .int .i64 1) rfl rfl rfl rfl (fun _ _ _ _ => rfl)
 rw [HB.out] at c3 hst
 have d1 : W.cell? ⟨b, 1, none⟩ = some (.int .i64 (s.tx (i + 1)).state) := by rw [cell_at c3]; rfl
 have df : ∀ j, W.frozen? ⟨b, j, none⟩ = false := frozen_at c3
 obtain ⟨rl1, s1, s2, s3⟩ := hst.1.ex
 have HK2 : Hid (Kept NoBlk w W ∧ Kept (Own ow) W (W.setCell ⟨b, 1, none⟩ (.int .i64 1))) := ⟨hkW, hst.2⟩
 have HS1 : Hid (WSt ow q rl1 cl s.n (upd s.tx (i + 1) { s.tx (i + 1) with state := 1 }) s.wins s.clock (W.setCell ⟨b, 1, none⟩ (.int .i64 1)) ∧ RowsOf s.rows rl1 ∧ rl1.length ≤ N0 + 13 * j) := ⟨s1, s2, s3⟩
 obtain ⟨rv, tv, cv, wv, bs, q1, q2, q3, q4, q5, q6, q7, q8⟩ := s1.body
 obtain ⟨wa, wc, rfl⟩ := ownsRow_form q7.1
 have w3 : (W.setCell ⟨b, 1, none⟩ (.int .i64 1)).cell? ⟨q, 3, none⟩ = some (.slice wa s.wins.length wc) := by rw [cell_at q1]; rfl
 have HQ : Hid ((W.setCell ⟨b, 1, none⟩ (.int .i64 1)).heap[q]? = some (.cells #[rv, tv, cv, .slice wa s.wins.length wc, .int .i64 s.clock] 47 (0, 0)) ∧ (W.setCell ⟨b, 1, none⟩ (.int .i64 1)).ownsRow 0 3 1 (.slice wa s.wins.length wc) s.wins.length (winCells s.wins)) := ⟨q1, q7.1⟩
 obtain ⟨i1, hi1, hy0, hy1, hy2⟩ := info_parts infoInt
 have HI : Hid (Tryz.prog.info? 3 = some i1 ∧ i1.zero = some (.int .i64 0) ∧ i1.size = 1 ∧ i1.bytes = 8) := ⟨hi1, hy0, hy1, hy2⟩
 have HW3 : Hid ((W.setCell ⟨b, 1, none⟩ (.int .i64 1)).cell? ⟨q, 3, none⟩ = some (.slice wa s.wins.length wc)) := w3
 have HLE : Hid (s.wins.length + 1 ≤ maxLen ∧ (s.wins.length + 1) * 8 ≤ 140737488355328) := by unfold Hid maxLen; omega
 clear hkW hH1 hst s1 s2 s3 q1 q2 q3 q4 q5 q6 q7 q8 hi1 hy0 hy1 hy2 c3
 generalize hwlen : s.wins.length = wl at *
 have HWL : Hid (s.wins.length = wl) := hwlen
 clear hwlen
 have HFM : Hid (FromMem ((W.setCell ⟨b, 1, none⟩ (.int .i64 1)).alloc (.cells #[.int .i64 ((i : Int) + 1)] 3)) 1 (.slice (some ⟨W.heap.size, 0, none⟩) 1 1) 1 [.int .i64 ((i : Int) + 1)]) := by
  have := from_new (W.setCell ⟨b, 1, none⟩ (.int .i64 1)) [.int .i64 ((i : Int) + 1)] 3 1 1 rfl (by simp [Value.oneCell'])
  rw [show (W.setCell ⟨b, 1, none⟩ (.int .i64 1)).heap.size = W.heap.size from by simp [World.setCell]] at this
  exact this
 go_wp2_with (at_builtin; refine wpList_append_at (by rfl) _ _ 45 (by rfl) 3 i1 _ 1 8 Tryz.underlying45 HI.out.1 HI.out.2.1 HI.out.2.2.1 HI.out.2.2.2 (by rfl) (.slice wa wl wc) wl (winCells s.wins) (by rfl) (ownsRow_kept HQ.out.2 ((Kept.refl NoBlk _).alloc _) (fun _ _ x => x)) (.slice (some ⟨W.heap.size, 0, none⟩) 1 1) 1 [.int .i64 ((i : Int) + 1)] (by rfl) HFM.out HLE.out.1 HLE.out.2 ?_)
 intro a1 c1 W2 hown2 hmv2
 have hq2 := hmv2.keptOf.heap (((Kept.refl NoBlk (W.setCell ⟨b, 1, none⟩ (.int .i64 1))).alloc (.cells #[.int .i64 ((i : Int) + 1)] 3)).heap HQ.out.1 (fun x => x)) (fun e => by
  obtain ⟨cur, hc⟩ := ownsRow_block HQ.out.2 e
  exact blocks_apart hc HQ.out.1 (by decide) rfl)
 have g3 : W2.cell? ⟨q, 3, none⟩ = some (.slice wa wl wc) := by rw [cell_at hq2]; rfl
 have gf : ∀ j, W2.frozen? ⟨q, j, none⟩ = false := frozen_at hq2
 obtain ⟨ow3, a3, s3, k3⟩ := HS1.out.1.winsT (v' := .slice a1 (wl + 1) c1) (m := wl + 1) ((Kept.refl NoBlk _).alloc _) (i + 1) HW3.out (by rw [HWL.out]) hown2 hmv2
 have HF3 : Hid (Calls Tryz.prog 80 #[.pointer (some ⟨q, 0, none⟩), .int .i64 ((i : Int) + 1)] (W2.setCell ⟨q, 3, none⟩ (.slice a1 (wl + 1) c1)) fun e w' => e = .returned (.tuple #[]) ∧ HAft ow q N0 (j + 1) w (s.commit (i + 1)) w') := by
  refine (HFR.out ow3 _ _ s3).mono ?_
  rintro e w' ⟨rfl, ow4, cl4, b1, b2, b3, b4, b5⟩
  have hfew := HH.out.few
  have hag : Agree w ow ow3 := a3.less (Nat.le_trans HK2.out.1.size HK2.out.2.size)
  have hk3 : Kept (Own ow) w (W2.setCell ⟨q, 3, none⟩ (.slice a1 (wl + 1) c1)) := ((HK2.out.1.mono (fun _ x => x.elim)).trans' HK2.out.2).trans' k3
  refine ⟨rfl, ⟨ow4, cl4, ⟨⟨rl1, b2, HS1.out.2.1, by have := HS1.out.2.2; omega⟩, b3, by omega⟩, (hag.trans hk3.size b1).out⟩, hk3.trans b5 (fun k x => own_old hag k x)⟩
 clear hown2 hmv2 hq2 a3 s3 k3 d1 df w3 en HFM HQ HW3 HI
 go_wp2_with fail
 refine HF3.out.mono ?_
 rintro e w5 ⟨rfl, h5⟩
 have H5 : Hid (HAft ow q N0 (j + 1) w (s.commit (i + 1)) w5) := h5
 clear h5 HF3
 go_wp2_with fail
 go_ret2
 exact ⟨rfl, H5.out⟩
end Go.Proofs.YtmcajfefagdbnaaGreat
namespace Go.Proofs.YtmcajfefagdbnaaGreat
open Go Go.RowKit
theorem hHeld {ow : OwB} {q N0 j : Nat} {s : St} {cl : List Cl} {w : World} (h : HSt ow q N0 j s cl w) (key : Int) (i : Nat) (hj : j ≤ 4194304) :
  Calls Tryz.prog 82 #[.pointer (some ⟨q, 0, none⟩), .int .i64 key, .int .i64 ((i : Int) + 1)] w fun e w' => e = .returned (.int .i64 ((s.lk key).h (i + 1))) ∧ Kept NoBlk w w' := by
 obtain ⟨rl, g1, _⟩ := h.ex
 obtain ⟨cv, u1, u2⟩ := g1.claimsAt
 have := wheld q cl cv key ((i : Int) + 1) w u1 u2 (by have := h.few; omega)
 have e := h.rep.heldL key (i + 1)
 rw [show (((i + 1 : Nat) : Int)) = (i : Int) + 1 from rfl] at e
 rw [e] at this
 exact this
theorem hCrowded {ow : OwB} {q N0 j : Nat} {s : St} {cl : List Cl} {w : World} (h : HSt ow q N0 j s cl w) (hI : Inv s) (key : Int) (hj : j ≤ 4194304) :
  Calls Tryz.prog 83 #[.pointer (some ⟨q, 0, none⟩), .int .i64 key] w fun e w' => e = .returned (.bool (s.crowded key)) ∧ Kept NoBlk w w' := by
 obtain ⟨rl, g1, _⟩ := h.ex
 obtain ⟨cv, u1, u2⟩ := g1.claimsAt
 have := wcrowded q cl cv key w u1 u2 (by have := h.few; omega)
 rw [crowdC_eq hI h.rep] at this
 exact this
theorem Rep.wait0 {n : Nat} {cl : List Cl} {lk : Int → Lk} (h : Rep n cl lk) (k : Int) : waitL cl k < 0 ↔ (lk k).q = [] := by
 constructor
 ·intro hw
  cases hq : (lk k).q with
  | nil => rfl
  | cons x q =>
   obtain ⟨i, h1, _⟩ := h.unwait k hq
   unfold waitL at hw
   rw [h1] at hw
   simp at hw
   omega
 ·intro hq
  unfold waitL
  rw [h.nowait k hq]
  simp
theorem hWants_yes {ow : OwB} {q N0 j : Nat} {s : St} {cl : List Cl} {w : World} (h : HSt ow q N0 j s cl w) (key mode : Int) {i : Nat} (hi : i < s.n) (hm : mode = 1 ∨ mode = 2) (hq : (s.lk key).q.isEmpty = true) (hh : hind s.n (s.lk key).h (i + 1) mode = false) (hj : j ≤ 4194304) :
  Calls Tryz.prog 84 #[.pointer (some ⟨q, 0, none⟩), .int .i64 key, .int .i64 ((i : Int) + 1), .int .i64 mode] w fun e w' => e = .returned (.bool true) ∧ ∃ ow' cl', Agree w ow ow' ∧ HSt ow' q N0 (j + 1) (s.grant (i + 1) key mode) cl' w' ∧ Kept (Own ow) w w' := by
 obtain ⟨rl, g1, g2, g3⟩ := h.ex
 have hfew := h.few
 have hhi := h.rep.hind key (i + 1) mode
 rw [hh, show (((i + 1 : Nat) : Int)) = (i : Int) + 1 from rfl] at hhi
 refine (wwants_yes g1 key ((i : Int) + 1) mode ((h.rep.wait0 key).2 (by simpa using hq)) hhi (by omega)).mono ?_
 rintro e w' ⟨rfl, ow', a1, a2, a3⟩
 have hr := h.rep.hold key (i + 1) mode ⟨by omega, by omega⟩ hm
 refine ⟨rfl, ow', _, a1, ⟨⟨rl, a2, g2, by omega⟩, hr, ?_⟩, a3⟩
 have : (holdL cl key ((i : Int) + 1) mode).length ≤ cl.length + 1 := by
  unfold holdL
  split
  ·rw [List.length_set]; omega
  ·simp
 omega
theorem hWants_no {ow : OwB} {q N0 j : Nat} {s : St} {cl : List Cl} {w : World} (h : HSt ow q N0 j s cl w) (key mode : Int) {i : Nat} (hi : i < s.n) (hm : mode = 1 ∨ mode = 2) (hh : ((s.lk key).q.isEmpty && !hind s.n (s.lk key).h (i + 1) mode) = false) (hn : s.n ≤ 1048576) (hj : j ≤ 4194304) :
  Calls Tryz.prog 84 #[.pointer (some ⟨q, 0, none⟩), .int .i64 key, .int .i64 ((i : Int) + 1), .int .i64 mode] w fun e w' => e = .returned (.bool false) ∧ ∃ ow' cl', Agree w ow ow' ∧ HSt ow' q N0 (j + 1) (s.enq (i + 1) key mode) cl' w' ∧ Kept (Own ow) w w' := by
 obtain ⟨rl, g1, g2, g3⟩ := h.ex
 have hfew := h.few
 have hhi := h.rep.hind key (i + 1) mode
 rw [show (((i + 1 : Nat) : Int)) = (i : Int) + 1 from rfl] at hhi
 refine (wwants_no g1 key mode i hi (fun x hx => (h.rep.ids x hx).1) (fun ⟨e1, e2⟩ => ?_) (by omega) (by omega)).mono ?_
 ·rw [e2] at hhi
  rw [(h.rep.wait0 key).1 e1, ← hhi] at hh
  simp at hh
 rintro e w' ⟨rfl, ow', a1, a2, a3⟩
 have hr := h.rep.wait key (i + 1) mode ⟨by omega, by omega⟩ hm
 have et := enq_txC h.rep key (i + 1) mode
 rw [et] at a2
 exact ⟨rfl, ow', _, a1, ⟨⟨rl, a2, g2, by omega⟩, hr, by simp; omega⟩, a3⟩
end Go.Proofs.YtmcajfefagdbnaaGreat
namespace Go.Proofs.YtmcajfefagdbnaaGreat
open Go Go.RowKit
set_option maxRecDepth 20000 in
set_option maxHeartbeats 3200000 in
theorem hStep_crowd {ow : OwB} {q N0 j : Nat} {s : St} {cl : List Cl} {w : World} (h : HSt ow q N0 j s cl w) (hI : Inv s) {i : Nat} (hi : i < s.n) (hz : (s.tx (i + 1)).state = 0) (hn : s.n ≤ 1048576) (hw : (s.tx (i + 1)).wounded = false) (hwt : (s.tx (i + 1)).waits = none) (hnx : (s.tx (i + 1)).next < (s.tx (i + 1)).ops.length) (h12 : (s.tx (i + 1)).ops.length ≤ 12) (hj : j ≤ 2097152) (hN : N0 ≤ 1048576) (hm : (s.lk (s.tx (i + 1)).op.a).h (i + 1) < modeOf (s.tx (i + 1)).op) (hm0 : 0 < modeOf (s.tx (i + 1)).op) (hcr : s.crowded (s.tx (i + 1)).op.a = true) (hun : (s.tx (i + 1)).undo.length ≤ 12) :
  Calls Tryz.prog 44 #[.pointer (some ⟨q, 0, none⟩), .int .i64 ((i : Int) + 1)] w fun e w' => e = .returned (.tuple #[.int .i64 5, .int .i64 0]) ∧ HAft ow q N0 (j + 2) w (s.fell (i + 1) 3) w' := by
 have HT := hThere0 h hi hz hn
 have HH : Hid (HSt ow q N0 j s cl w) := h
 obtain ⟨o, ho⟩ : ∃ o, (s.tx (i + 1)).op = o := ⟨_, rfl⟩
 have HWW : Hid ((s.tx (i + 1)).wounded = false ∧ (s.tx (i + 1)).waits = none ∧ (s.tx (i + 1)).next < (s.tx (i + 1)).ops.length ∧ (s.tx (i + 1)).op = o) := ⟨hw, hwt, hnx, ho⟩
 have HHD : Hid (∀ W, Kept NoBlk w W → Calls Tryz.prog 82 #[.pointer (some ⟨q, 0, none⟩), .int .i64 o.a, .int .i64 ((i : Int) + 1)] W fun e w' => e = .returned (.int .i64 ((s.lk o.a).h (i + 1))) ∧ Kept NoBlk W w') := fun W hk => hHeld (h.kept0 hk) o.a i (by omega)
 have HMD : Hid (∀ W, Calls Tryz.prog 81 #[.agg #[.int .i64 o.k, .int .i64 o.a, .int .i64 o.b, .int .i64 o.c]] W fun e w' => e = .returned (.int .i64 (modeOf o)) ∧ Kept NoBlk W w') := fun W => wmode o W
 have j4 : (0 : Int) ≤ (i : Int) := by omega
 have j5 : (i : Int) < (s.n : Int) := by omega
 have hwi : IntKind.wrap .i64 (i : Int) = (i : Int) := by rw [IntKind.wrap_i64]; omega
 rw [ho] at hm hm0
 have gm1 : decide ((s.lk o.a).h (i + 1) < modeOf o) = true := by simpa using hm
 have gm2 : decide (0 < modeOf o) = true := by simpa using hm0
 have HCR : Hid (∀ W, Kept NoBlk w W → Calls Tryz.prog 83 #[.pointer (some ⟨q, 0, none⟩), .int .i64 o.a] W fun e w' => e = .returned (.bool true) ∧ Kept NoBlk W w') := fun W hk => by
  have := hCrowded (h.kept0 hk) hI o.a (by omega)
  rw [ho] at hcr
  rw [hcr] at this
  exact this
 have HU : Hid (∀ W, Kept NoBlk w W → Calls Tryz.prog 79 #[.pointer (some ⟨q, 0, none⟩), .int .i64 ((i : Int) + 1)] W fun e w' => e = .returned (.tuple #[]) ∧ ∃ ow' cl', Agree W ow ow' ∧ HSt ow' q N0 (j + 1) (s.undone (i + 1)) cl' w' ∧ Kept (Own ow) W w') := fun W hk => hUndone (h.kept0 hk) hI i hi hun hn (by omega) (by omega)
 clear hun hcr hm hm0
 clear h hw hz hI hwt hnx ho
 generalize hnn : s.n = n at *
 go_enter Tryz.func44, Tryz.ntmps44
 go_wp2_with fail
 refine HT.out.mono ?_
 rintro e w1 ⟨rfl, hk1⟩
 obtain ⟨g, cap, r, oa, oc, rd, uv, c1, c2, c3, c4, c5⟩ := (HH.out.kept0 hk1).cells (by rw [hnn]; exact hi)
 rw [hnn] at c1
 generalize hB : ow.bs.getD i 0 = b at *
 have HB : Hid (ow.bs.getD i 0 = b) := hB
 have HK1 : Hid (Kept NoBlk w w1) := hk1
 have d2 : w1.cell? ⟨b, 2, none⟩ = some (.int .i64 ((s.tx (i + 1)).next : Int)) := by rw [cell_at c3]; rfl
 have d3 : w1.cell? ⟨b, 3, none⟩ = some (.bool false) := by rw [cell_at c3, ← HWW.out.1]; rfl
 have d4 : w1.cell? ⟨b, 4, none⟩ = some (.bool false) := by rw [cell_at c3, show false = (s.tx (i + 1)).waits.isSome from by rw [HWW.out.2.1]; rfl]; rfl
 have d8 : w1.cell? ⟨b, 8, none⟩ = some (.slice oa (s.tx (i + 1)).ops.length oc) := by rw [cell_at c3]; rfl
 have en : ((((s.tx (i + 1)).next : Int)) == ((s.tx (i + 1)).ops.length : Int)) = false := by have := HWW.out.2.2.1; simp; omega
 have nx0 : (0 : Int) ≤ ((s.tx (i + 1)).next : Int) := by omega
 have nx1 : ((s.tx (i + 1)).next : Int) < ((s.tx (i + 1)).ops.length : Int) := by have := HWW.out.2.2.1; omega
 obtain ⟨ao, cp, eo, hoo⟩ := c4
 obtain ⟨ob, off, rfl, hat⟩ := hoo (by have := HWW.out.2.2.1; omega)
 simp only [Value.slice.injEq, true_and] at eo
 obtain ⟨rfl, rfl⟩ := eo
 obtain ⟨x0, x1, x2, x3⟩ := hat (s.tx (i + 1)).next HWW.out.2.2.1
 rw [show (s.tx (i + 1)).ops.getD (s.tx (i + 1)).next Op4.z = o from HWW.out.2.2.2] at x0 x1 x2 x3
 clear hk1 HT c3 c5 hB hat hoo
 generalize (s.tx (i + 1)).ops.length = ol at *
 generalize hnxe : (s.tx (i + 1)).next = nx at *
 have HNX : Hid ((s.tx (i + 1)).next = nx) := hnxe
 clear hnxe
 go_wp2_with fail
 go_quiet (fail)
 generalize hW : World.drewN w1 _ = W at *
 have y1 : W.cell? ⟨q, 1, none⟩ = some (.slice (some ⟨g, 0, none⟩) n cap) := by rw [← hW]; exact c1
 have hkW : Kept NoBlk w1 W := by rw [← hW]; exact (Kept.refl _ _).drewN _
 clear hW
 have z2 := hkW.cell0 d2
 have z8 := hkW.cell0 d8
 have t0 := hkW.cell0 x0
 have t1 := hkW.cell0 x1
 have t2 := hkW.cell0 x2
 have t3 := hkW.cell0 x3
 have nb : ¬ b = W.heap.size := fun e => by have := World.block_lt_of_cell? W _ z2; simp only at this; omega
 have nb' : ¬ W.heap.size = b := fun e => nb e.symm
 have no : ¬ ob = W.heap.size := fun e => by have := World.block_lt_of_cell? W _ t0; simp only at this; omega
 have no' : ¬ W.heap.size = ob := fun e => no e.symm
 have HKW : Hid (Kept NoBlk w1 W) := hkW
 clear d2 d3 d4 d8 x0 x1 x2 x3 c1 c2 y1 hkW
 go_wp2_with fail
 go_region_held3 (fun w' => w'.cell? ⟨b, 8, none⟩ = some (.slice (some ⟨ob, off, none⟩) ol oc) ∧ w'.cell? ⟨b, 2, none⟩ = some (.int .i64 (nx : Int)) ∧ w'.cell? ⟨ob, off + nx * 4, none⟩ = some (.int .i64 o.k) ∧ w'.cell? ⟨ob, off + nx * 4 + 1, none⟩ = some (.int .i64 o.a) ∧ w'.cell? ⟨ob, off + nx * 4 + 2, none⟩ = some (.int .i64 o.b) ∧ w'.cell? ⟨ob, off + nx * 4 + 3, none⟩ = some (.int .i64 o.c)) (go_keep) (fail)
 have HBX : Hid ((W.alloc (.cells #[.int .i64 o.k, .int .i64 o.a, .int .i64 o.b, .int .i64 o.c] 114)).drew.heap[W.heap.size]? = some (.cells #[.int .i64 o.k, .int .i64 o.a, .int .i64 o.b, .int .i64 o.c] 114 (0, 0))) := block_alloc_new W _
 have HKV : Hid (Kept NoBlk w (W.alloc (.cells #[.int .i64 o.k, .int .i64 o.a, .int .i64 o.b, .int .i64 o.c] 114)).drew) := ((HK1.out.trans' HKW.out).alloc _).drew
 generalize (W.alloc (.cells #[.int .i64 o.k, .int .i64 o.a, .int .i64 o.b, .int .i64 o.c] 114)).drew = V at *
 have HHN : Hid (w.heap.size ≤ W.heap.size) := Nat.le_trans HK1.out.size HKW.out.size
 generalize W.heap.size = H at *
 have v0 : V.cell? ⟨H, 0, none⟩ = some (.int .i64 o.k) := by rw [cell_at HBX.out]; rfl
 have v1 : V.cell? ⟨H, 1, none⟩ = some (.int .i64 o.a) := by rw [cell_at HBX.out]; rfl
 have v2 : V.cell? ⟨H, 2, none⟩ = some (.int .i64 o.b) := by rw [cell_at HBX.out]; rfl
 have v3 : V.cell? ⟨H, 3, none⟩ = some (.int .i64 o.c) := by rw [cell_at HBX.out]; rfl
 clear z2 z8 t0 t1 t2 t3 nb nb' no no' HKW HK1 en nx0 nx1
 go_wp2_with fail
 refine (HMD.out _).mono ?_
 rintro e V1 ⟨rfl, hkv⟩
 have HBX1 : Hid (V1.heap[H]? = some (.cells #[.int .i64 o.k, .int .i64 o.a, .int .i64 o.b, .int .i64 o.c] 114 (0, 0))) := hkv.heap HBX.out (fun x => x)
 have HK2 : Hid (Kept NoBlk w V1) := HKV.out.trans' hkv
 have u0 : V1.cell? ⟨H, 0, none⟩ = some (.int .i64 o.k) := by rw [cell_at HBX1.out]; rfl
 have u1 : V1.cell? ⟨H, 1, none⟩ = some (.int .i64 o.a) := by rw [cell_at HBX1.out]; rfl
 clear v0 v1 v2 v3 hkv HBX HKV HMD
 have HHC' : Hid (Calls Tryz.prog 82 #[.pointer (some ⟨q, 0, none⟩), .int .i64 o.a, .int .i64 ((i : Int) + 1)] V1 fun e w' => e = .returned (.int .i64 ((s.lk o.a).h (i + 1))) ∧ Kept NoBlk V1 w') := HHD.out V1 HK2.out
 clear HHD
 generalize hmd : modeOf o = md at *
 generalize hhd : (s.lk o.a).h (i + 1) = hd at *
 go_wp2_with fail
 refine HHC'.out.mono ?_
 rintro e V2 ⟨rfl, hk2⟩
 have HK3 : Hid (Kept NoBlk w V2) := HK2.out.trans' hk2
 have HBX2 : Hid (V2.heap[H]? = some (.cells #[.int .i64 o.k, .int .i64 o.a, .int .i64 o.b, .int .i64 o.c] 114 (0, 0))) := hk2.heap HBX1.out (fun x => x)
 have s0 : V2.cell? ⟨H, 0, none⟩ = some (.int .i64 o.k) := by rw [cell_at HBX2.out]; rfl
 have s1 : V2.cell? ⟨H, 1, none⟩ = some (.int .i64 o.a) := by rw [cell_at HBX2.out]; rfl
 clear u0 u1 hk2 HBX1 HK2 HHC'
 have HC3 : Hid (Calls Tryz.prog 83 #[.pointer (some ⟨q, 0, none⟩), .int .i64 o.a] V2 fun e w' => e = .returned (.bool true) ∧ Kept NoBlk V2 w') := HCR.out V2 HK3.out
 clear HCR
 go_wp2_with fail
 refine HC3.out.mono ?_
 rintro e V3 ⟨rfl, hk3⟩
 have HK4 : Hid (Kept NoBlk w V3) := HK3.out.trans' hk3
 have HBX3 : Hid (V3.heap[H]? = some (.cells #[.int .i64 o.k, .int .i64 o.a, .int .i64 o.b, .int .i64 o.c] 114 (0, 0))) := hk3.heap HBX2.out (fun x => x)
 have r1 : V3.cell? ⟨H, 1, none⟩ = some (.int .i64 o.a) := by rw [cell_at HBX3.out]; rfl
 clear s0 s1 hk3 HBX2 HK3 HC3
 clear r1
 have HU1 : Hid (Calls Tryz.prog 79 #[.pointer (some ⟨q, 0, none⟩), .int .i64 ((i : Int) + 1)] V3 fun e w' => e = .returned (.tuple #[]) ∧ ∃ ow' cl', Agree V3 ow ow' ∧ HSt ow' q N0 (j + 1) (s.undone (i + 1)) cl' w' ∧ Kept (Own ow) V3 w') := HU.out V3 HK4.out
 clear HU
 go_wp2_with fail
 refine HU1.out.mono ?_
 rintro e w2 ⟨rfl, ow2, cl2, a1, a2, a3⟩
 have hb2 : ow2.bs.getD i 0 = b := by rw [a1.bs]; exact HB.out
 have hi2 : i < (s.undone (i + 1)).n := by show i < s.n; rw [hnn]; exact hi
 obtain ⟨g2, cap2, r2, oa2, oc2, rd2, uv2, e1, e2, e3, e4, e5⟩ := a2.cells hi2
 have hst := a2.setTxn hi2 (fun t => { t with state := 3 }) (fld := 1) (v := .int .i64 3) rfl rfl rfl rfl (fun _ _ _ _ => rfl)
 rw [hb2] at e3 hst
 have d5 : w2.cell? ⟨b, 1, none⟩ = some (.int .i64 ((s.undone (i + 1)).tx (i + 1)).state) := by rw [cell_at e3]; rfl
 have df : ∀ j, w2.frozen? ⟨b, j, none⟩ = false := frozen_at e3
 have HF : Hid (HAft ow q N0 (j + 2) w (s.fell (i + 1) 3) (w2.setCell ⟨b, 1, none⟩ (.int .i64 3))) := by
  refine ⟨⟨ow2, cl2, hst.1.mono (by omega), fun k hk => a1.out k (Nat.lt_of_lt_of_le hk HK4.out.size)⟩, ((HK4.out.mono (fun _ x => x.elim)).trans' a3).trans hst.2 (fun k e => ?_)⟩
  rcases own_old a1 k e with y | y
  ·exact .inl y
  ·exact .inr (Nat.le_trans HK4.out.size y)
 clear a1 a2 a3 hst e1 e2 e3 e4 e5 HU1
 go_wp2_with fail
 go_ret2
 exact ⟨rfl, HF.out⟩
set_option maxRecDepth 20000 in
set_option maxHeartbeats 3200000 in
theorem hStep_enq {ow : OwB} {q N0 j : Nat} {s : St} {cl : List Cl} {w : World} (h : HSt ow q N0 j s cl w) (hI : Inv s) {i : Nat} (hi : i < s.n) (hz : (s.tx (i + 1)).state = 0) (hn : s.n ≤ 1048576) (hw : (s.tx (i + 1)).wounded = false) (hwt : (s.tx (i + 1)).waits = none) (hnx : (s.tx (i + 1)).next < (s.tx (i + 1)).ops.length) (h12 : (s.tx (i + 1)).ops.length ≤ 12) (hj : j ≤ 2097152) (hm : (s.lk (s.tx (i + 1)).op.a).h (i + 1) < modeOf (s.tx (i + 1)).op) (hm0 : 0 < modeOf (s.tx (i + 1)).op) (hcr : s.crowded (s.tx (i + 1)).op.a = false) (hq : ((s.lk (s.tx (i + 1)).op.a).q.isEmpty && !hind s.n (s.lk (s.tx (i + 1)).op.a).h (i + 1) (modeOf (s.tx (i + 1)).op)) = false) :
  Calls Tryz.prog 44 #[.pointer (some ⟨q, 0, none⟩), .int .i64 ((i : Int) + 1)] w fun e w' => e = .returned (.tuple #[.int .i64 2, .int .i64 0]) ∧ HAft ow q N0 (j + 2) w (s.enq (i + 1) (s.tx (i + 1)).op.a (modeOf (s.tx (i + 1)).op)) w' := by
 have HT := hThere0 h hi hz hn
 have HH : Hid (HSt ow q N0 j s cl w) := h
 obtain ⟨o, ho⟩ : ∃ o, (s.tx (i + 1)).op = o := ⟨_, rfl⟩
 have HWW : Hid ((s.tx (i + 1)).wounded = false ∧ (s.tx (i + 1)).waits = none ∧ (s.tx (i + 1)).next < (s.tx (i + 1)).ops.length ∧ (s.tx (i + 1)).op = o) := ⟨hw, hwt, hnx, ho⟩
 have HHD : Hid (∀ W, Kept NoBlk w W → Calls Tryz.prog 82 #[.pointer (some ⟨q, 0, none⟩), .int .i64 o.a, .int .i64 ((i : Int) + 1)] W fun e w' => e = .returned (.int .i64 ((s.lk o.a).h (i + 1))) ∧ Kept NoBlk W w') := fun W hk => hHeld (h.kept0 hk) o.a i (by omega)
 have HMD : Hid (∀ W, Calls Tryz.prog 81 #[.agg #[.int .i64 o.k, .int .i64 o.a, .int .i64 o.b, .int .i64 o.c]] W fun e w' => e = .returned (.int .i64 (modeOf o)) ∧ Kept NoBlk W w') := fun W => wmode o W
 have j4 : (0 : Int) ≤ (i : Int) := by omega
 have j5 : (i : Int) < (s.n : Int) := by omega
 have hwi : IntKind.wrap .i64 (i : Int) = (i : Int) := by rw [IntKind.wrap_i64]; omega
 rw [ho] at hm hm0
 have gm1 : decide ((s.lk o.a).h (i + 1) < modeOf o) = true := by simpa using hm
 have gm2 : decide (0 < modeOf o) = true := by simpa using hm0
 have HCR : Hid (∀ W, Kept NoBlk w W → Calls Tryz.prog 83 #[.pointer (some ⟨q, 0, none⟩), .int .i64 o.a] W fun e w' => e = .returned (.bool false) ∧ Kept NoBlk W w') := fun W hk => by
  have := hCrowded (h.kept0 hk) hI o.a (by omega)
  rw [ho] at hcr
  rw [hcr] at this
  exact this
 have HWA : Hid (∀ W, Kept NoBlk w W → Calls Tryz.prog 84 #[.pointer (some ⟨q, 0, none⟩), .int .i64 o.a, .int .i64 ((i : Int) + 1), .int .i64 (modeOf o)] W fun e w' => e = .returned (.bool false) ∧ ∃ ow' cl', Agree W ow ow' ∧ HSt ow' q N0 (j + 1) (s.enq (i + 1) o.a (modeOf o)) cl' w' ∧ Kept (Own ow) W w') := fun W hk => by
  rw [ho] at hq
  exact hWants_no (h.kept0 hk) o.a (modeOf o) hi (modeOf_pos hm0) hq hn (by omega)
 rw [ho]
 clear hcr hm hm0 hq
 clear h hw hz hI hwt hnx ho
 generalize hnn : s.n = n at *
 go_enter Tryz.func44, Tryz.ntmps44
 go_wp2_with fail
 refine HT.out.mono ?_
 rintro e w1 ⟨rfl, hk1⟩
 obtain ⟨g, cap, r, oa, oc, rd, uv, c1, c2, c3, c4, c5⟩ := (HH.out.kept0 hk1).cells (by rw [hnn]; exact hi)
 rw [hnn] at c1
 generalize hB : ow.bs.getD i 0 = b at *
 have HB : Hid (ow.bs.getD i 0 = b) := hB
 have HK1 : Hid (Kept NoBlk w w1) := hk1
 have d2 : w1.cell? ⟨b, 2, none⟩ = some (.int .i64 ((s.tx (i + 1)).next : Int)) := by rw [cell_at c3]; rfl
 have d3 : w1.cell? ⟨b, 3, none⟩ = some (.bool false) := by rw [cell_at c3, ← HWW.out.1]; rfl
 have d4 : w1.cell? ⟨b, 4, none⟩ = some (.bool false) := by rw [cell_at c3, show false = (s.tx (i + 1)).waits.isSome from by rw [HWW.out.2.1]; rfl]; rfl
 have d8 : w1.cell? ⟨b, 8, none⟩ = some (.slice oa (s.tx (i + 1)).ops.length oc) := by rw [cell_at c3]; rfl
 have en : ((((s.tx (i + 1)).next : Int)) == ((s.tx (i + 1)).ops.length : Int)) = false := by have := HWW.out.2.2.1; simp; omega
 have nx0 : (0 : Int) ≤ ((s.tx (i + 1)).next : Int) := by omega
 have nx1 : ((s.tx (i + 1)).next : Int) < ((s.tx (i + 1)).ops.length : Int) := by have := HWW.out.2.2.1; omega
 obtain ⟨ao, cp, eo, hoo⟩ := c4
 obtain ⟨ob, off, rfl, hat⟩ := hoo (by have := HWW.out.2.2.1; omega)
 simp only [Value.slice.injEq, true_and] at eo
 obtain ⟨rfl, rfl⟩ := eo
 obtain ⟨x0, x1, x2, x3⟩ := hat (s.tx (i + 1)).next HWW.out.2.2.1
 rw [show (s.tx (i + 1)).ops.getD (s.tx (i + 1)).next Op4.z = o from HWW.out.2.2.2] at x0 x1 x2 x3
 clear hk1 HT c3 c5 hB hat hoo
 generalize (s.tx (i + 1)).ops.length = ol at *
 generalize hnxe : (s.tx (i + 1)).next = nx at *
 have HNX : Hid ((s.tx (i + 1)).next = nx) := hnxe
 clear hnxe
 go_wp2_with fail
 go_quiet (fail)
 generalize hW : World.drewN w1 _ = W at *
 have y1 : W.cell? ⟨q, 1, none⟩ = some (.slice (some ⟨g, 0, none⟩) n cap) := by rw [← hW]; exact c1
 have hkW : Kept NoBlk w1 W := by rw [← hW]; exact (Kept.refl _ _).drewN _
 clear hW
 have z2 := hkW.cell0 d2
 have z8 := hkW.cell0 d8
 have t0 := hkW.cell0 x0
 have t1 := hkW.cell0 x1
 have t2 := hkW.cell0 x2
 have t3 := hkW.cell0 x3
 have nb : ¬ b = W.heap.size := fun e => by have := World.block_lt_of_cell? W _ z2; simp only at this; omega
 have nb' : ¬ W.heap.size = b := fun e => nb e.symm
 have no : ¬ ob = W.heap.size := fun e => by have := World.block_lt_of_cell? W _ t0; simp only at this; omega
 have no' : ¬ W.heap.size = ob := fun e => no e.symm
 have HKW : Hid (Kept NoBlk w1 W) := hkW
 clear d2 d3 d4 d8 x0 x1 x2 x3 c1 c2 y1 hkW
 go_wp2_with fail
 go_region_held3 (fun w' => w'.cell? ⟨b, 8, none⟩ = some (.slice (some ⟨ob, off, none⟩) ol oc) ∧ w'.cell? ⟨b, 2, none⟩ = some (.int .i64 (nx : Int)) ∧ w'.cell? ⟨ob, off + nx * 4, none⟩ = some (.int .i64 o.k) ∧ w'.cell? ⟨ob, off + nx * 4 + 1, none⟩ = some (.int .i64 o.a) ∧ w'.cell? ⟨ob, off + nx * 4 + 2, none⟩ = some (.int .i64 o.b) ∧ w'.cell? ⟨ob, off + nx * 4 + 3, none⟩ = some (.int .i64 o.c)) (go_keep) (fail)
 have HBX : Hid ((W.alloc (.cells #[.int .i64 o.k, .int .i64 o.a, .int .i64 o.b, .int .i64 o.c] 114)).drew.heap[W.heap.size]? = some (.cells #[.int .i64 o.k, .int .i64 o.a, .int .i64 o.b, .int .i64 o.c] 114 (0, 0))) := block_alloc_new W _
 have HKV : Hid (Kept NoBlk w (W.alloc (.cells #[.int .i64 o.k, .int .i64 o.a, .int .i64 o.b, .int .i64 o.c] 114)).drew) := ((HK1.out.trans' HKW.out).alloc _).drew
 generalize (W.alloc (.cells #[.int .i64 o.k, .int .i64 o.a, .int .i64 o.b, .int .i64 o.c] 114)).drew = V at *
 have HHN : Hid (w.heap.size ≤ W.heap.size) := Nat.le_trans HK1.out.size HKW.out.size
 generalize W.heap.size = H at *
 have v0 : V.cell? ⟨H, 0, none⟩ = some (.int .i64 o.k) := by rw [cell_at HBX.out]; rfl
 have v1 : V.cell? ⟨H, 1, none⟩ = some (.int .i64 o.a) := by rw [cell_at HBX.out]; rfl
 have v2 : V.cell? ⟨H, 2, none⟩ = some (.int .i64 o.b) := by rw [cell_at HBX.out]; rfl
 have v3 : V.cell? ⟨H, 3, none⟩ = some (.int .i64 o.c) := by rw [cell_at HBX.out]; rfl
 clear z2 z8 t0 t1 t2 t3 nb nb' no no' HKW HK1 en nx0 nx1
 go_wp2_with fail
 refine (HMD.out _).mono ?_
 rintro e V1 ⟨rfl, hkv⟩
 have HBX1 : Hid (V1.heap[H]? = some (.cells #[.int .i64 o.k, .int .i64 o.a, .int .i64 o.b, .int .i64 o.c] 114 (0, 0))) := hkv.heap HBX.out (fun x => x)
 have HK2 : Hid (Kept NoBlk w V1) := HKV.out.trans' hkv
 have u0 : V1.cell? ⟨H, 0, none⟩ = some (.int .i64 o.k) := by rw [cell_at HBX1.out]; rfl
 have u1 : V1.cell? ⟨H, 1, none⟩ = some (.int .i64 o.a) := by rw [cell_at HBX1.out]; rfl
 clear v0 v1 v2 v3 hkv HBX HKV HMD
 have HHC' : Hid (Calls Tryz.prog 82 #[.pointer (some ⟨q, 0, none⟩), .int .i64 o.a, .int .i64 ((i : Int) + 1)] V1 fun e w' => e = .returned (.int .i64 ((s.lk o.a).h (i + 1))) ∧ Kept NoBlk V1 w') := HHD.out V1 HK2.out
 clear HHD
 generalize hmd : modeOf o = md at *
 generalize hhd : (s.lk o.a).h (i + 1) = hd at *
 go_wp2_with fail
 refine HHC'.out.mono ?_
 rintro e V2 ⟨rfl, hk2⟩
 have HK3 : Hid (Kept NoBlk w V2) := HK2.out.trans' hk2
 have HBX2 : Hid (V2.heap[H]? = some (.cells #[.int .i64 o.k, .int .i64 o.a, .int .i64 o.b, .int .i64 o.c] 114 (0, 0))) := hk2.heap HBX1.out (fun x => x)
 have s0 : V2.cell? ⟨H, 0, none⟩ = some (.int .i64 o.k) := by rw [cell_at HBX2.out]; rfl
 have s1 : V2.cell? ⟨H, 1, none⟩ = some (.int .i64 o.a) := by rw [cell_at HBX2.out]; rfl
 clear u0 u1 hk2 HBX1 HK2 HHC'
 have HC3 : Hid (Calls Tryz.prog 83 #[.pointer (some ⟨q, 0, none⟩), .int .i64 o.a] V2 fun e w' => e = .returned (.bool false) ∧ Kept NoBlk V2 w') := HCR.out V2 HK3.out
 clear HCR
 go_wp2_with fail
 refine HC3.out.mono ?_
 rintro e V3 ⟨rfl, hk3⟩
 have HK4 : Hid (Kept NoBlk w V3) := HK3.out.trans' hk3
 have HBX3 : Hid (V3.heap[H]? = some (.cells #[.int .i64 o.k, .int .i64 o.a, .int .i64 o.b, .int .i64 o.c] 114 (0, 0))) := hk3.heap HBX2.out (fun x => x)
 have r1 : V3.cell? ⟨H, 1, none⟩ = some (.int .i64 o.a) := by rw [cell_at HBX3.out]; rfl
 clear s0 s1 hk3 HBX2 HK3 HC3
 have HW3 : Hid (Calls Tryz.prog 84 #[.pointer (some ⟨q, 0, none⟩), .int .i64 o.a, .int .i64 ((i : Int) + 1), .int .i64 md] V3 fun e w' => e = .returned (.bool false) ∧ ∃ ow' cl', Agree V3 ow ow' ∧ HSt ow' q N0 (j + 1) (s.enq (i + 1) o.a md) cl' w' ∧ Kept (Own ow) V3 w') := HWA.out V3 HK4.out
 clear HWA
 go_wp2_with fail
 refine HW3.out.mono ?_
 rintro e V4 ⟨rfl, ow4, cl4, a1, a2, a3⟩
 have HF : Hid (HAft ow q N0 (j + 2) w (s.enq (i + 1) o.a md) V4) := ⟨⟨ow4, cl4, a2.mono (by omega), fun k hk => a1.out k (Nat.lt_of_lt_of_le hk HK4.out.size)⟩, (HK4.out.mono (fun _ x => x.elim)).trans' a3⟩
 clear a1 a2 a3 HW3 r1
 go_wp2_with fail
 go_ret2
 rw [hmd]
 exact ⟨rfl, HF.out⟩
end Go.Proofs.YtmcajfefagdbnaaGreat
