import Derived.Test.YtmcajfefagdbnaaGreatQ15
import Derived.Test.YtmcajfefagdbnaaGreatQ09
import Derived.Test.YtmcajfefagdbnaaGreatQ11
namespace Go.Proofs.YtmcajfefagdbnaaGreat
open Go Go.RowKit Go.Sort Go.Lib
theorem TxnAt.number {ow : Ow} {p : Nat} {w : World} {i b : Nat} {t : Tx} (h : TxnAt ow p w i b t) : w.cell? ⟨b, 0, none⟩ = some (.int .i64 (i : Int)) := by
 obtain ⟨ov, rv, dv, h1, _⟩ := h
 rw [cell_at h1]
 rfl
theorem PSt.dropH {L : Lay} {bs : Nat → Nat} {A : List Nat} {ow : Ow} {m : Nat} {mu lv : Int} {s : St} {w : World} (h : PSt L bs A ow m mu lv s w) (k : Int) (i : Nat) (hk : inI k) (hi : i ∈ A) (ty : TypeId) :
  ∃ w', (Builtin.delete_ #[124, 168] ty #[.map (some L.hb), .agg #[.int .i64 k, .int .i64 (i : Int)]]).run Tryz.prog w = .ok (.tuple #[]) w' ∧ PSt L bs A ow m mu lv (s.withLk (upd s.lk k ⟨upd (s.lk k).h i 0, (s.lk k).q⟩)) w' ∧ Kept (Blk L.hb) w w' := by
 have hin := h.among i hi
 have hnm := h.nmax
 obtain ⟨w', hrun, hm', hkk, _⟩ := h.hold.drop Tryz.underlying124 (a := (k, (i : Int))) ⟨hk, inI_nat (by omega)⟩ ty
 have he : put (hvals (holdF s.lk)) (k, (i : Int)) none = hvals (holdF (upd s.lk k ⟨upd (s.lk k).h i 0, (s.lk k).q⟩)) := by
  rw [← holdF_drop]
  funext c
  simp only [put, hvals]
  split <;> rfl
 rw [he] at hm'
 refine ⟨w', hrun, h.turnHold hkk (Nat.le_refl _) hm' (fun k' => ?_) (fun k' j hj => ?_), hkk⟩
 ·by_cases e : k' = k
  ·subst e; rw [upd_same]
  ·rw [upd_other _ _ _ _ e]
 ·by_cases e : k' = k
  ·subst e
   rw [upd_same] at hj
   by_cases e2 : j = i
   ·subst e2; simp at hj
   ·simp only [upd_other _ _ _ _ e2] at hj
    exact h.hdom _ _ hj
  ·rw [upd_other _ _ _ _ e] at hj
   exact h.hdom _ _ hj
theorem settle_h_out {n : Nat} {h : Nat → Int} {q : List (Nat × Int)} {i : Nat} (hi : ∀ m, (i, m) ∉ q) : (settle n h q).h i = h i := by
 induction q generalizing h with
 | nil => rfl
 | cons x q ih =>
  obtain ⟨j, m⟩ := x
  have hij : i ≠ j := fun e => hi m (by rw [e]; exact List.mem_cons_self)
  have hi' : ∀ m, (i, m) ∉ q := fun m' hm => hi m' (List.mem_cons_of_mem _ hm)
  simp only [settle]
  split
  ·rfl
  ·rw [ih hi', upd_other _ _ _ _ hij]
theorem PSt.queueLen {L : Lay} {bs : Nat → Nat} {A : List Nat} {ow : Ow} {m : Nat} {mu lv : Int} {s : St} {w : World} (h : PSt L bs A ow m mu lv s w) (k : Int) (hq : ((s.lk k).q.map (·.1)).Nodup) : (s.lk k).q.length ≤ 12 := by
 have := nodup_len _ A hq (fun x hx => by
  obtain ⟨y, hy, rfl⟩ := List.mem_map.1 hx
  exact (h.qdom k y hy).2)
 have := h.few
 rw [List.length_map] at *
 omega
structure GoneP (L : Lay) (bs : Nat → Nat) (A : List Nat) (ow : Ow) (mu lv : Int) (s : St) (tx0 : Nat → Tx) (lk0 : Int → Lk) (i : Nat) (w1 : World) (m : Nat) (l : List Int) (k : Nat) (lk1 : Int → Lk) (tx1 : Nat → Tx) (wr : World) : Prop where
 st : PSt L bs A ow (m + 20 * k) mu lv ((s.withLk lk1).withTx tx1) wr
 fr : FrM s.n tx0 lk0 i lk1 tx1
 gone : ∀ r ∈ l.take k, (lk1 r).h i = 0
 none : ∀ r, (s.lk r).h i = 0 → (lk1 r).h i = 0
 mode : ∀ k x, x ∈ (lk1 k).q → x.2 ≠ 0
 kept : Kept (OwnP ow) w1 wr
theorem GoneP.next {L : Lay} {bs : Nat → Nat} {A : List Nat} {ow : Ow} {mu lv : Int} {s : St} {tx0 : Nat → Tx} {lk0 : Int → Lk} {i : Nat} {w1 : World} {m : Nat} {l : List Int} {k : Nat} {lk1 : Int → Lk} {tx1 : Nat → Tx} {wr : World} (h : GoneP L bs A ow mu lv s tx0 lk0 i w1 m l k lk1 tx1 wr) (hk : k < l.length) {r : Int} (hr : l.getD k 0 = r)
  {pre : List (Nat × Int)} {w' : World} (hpre : (lk1 r).q = pre ++ (settle s.n (upd (lk1 r).h i 0) (lk1 r).q).q) (hst : PSt L bs A ow (m + 20 * (k + 1)) mu lv ((s.withLk (upd lk1 r (settle s.n (upd (lk1 r).h i 0) (lk1 r).q))).withTx (clr pre tx1)) w') (hkk : Kept (OwnP ow) w1 w') :
  GoneP L bs A ow mu lv s tx0 lk0 i w1 m l (k + 1) (upd lk1 r (settle s.n (upd (lk1 r).h i 0) (lk1 r).q)) (clr pre tx1) w' := by
 have h0 : (settle s.n (upd (lk1 r).h i 0) (lk1 r).q).h i = 0 := by rw [settle_h_out (h.fr.out r), upd_same]
 refine ⟨hst, h.fr.next hpre, fun r' hr' => ?_, fun r' hr' => ?_, fun k' x hx => ?_, hkk⟩
 ·by_cases e : r' = r
  ·subst e; rw [upd_same]; exact h0
  ·rw [upd_other _ _ _ _ e]
   rw [List.take_add_one, List.mem_append] at hr'
   rcases hr' with hr' | hr'
   ·exact h.gone r' hr'
   ·have : l[k]? = some (l.getD k 0) := by simp [List.getD, hk]
    rw [this, hr] at hr'
    simp at hr'
    exact absurd hr' e
 ·by_cases e : r' = r
  ·subst e; rw [upd_same]; exact h0
  ·rw [upd_other _ _ _ _ e]; exact h.none r' hr'
 ·by_cases e : k' = r
  ·subst e; rw [upd_same] at hx; exact h.mode k' x (settle_mem hx)
  ·rw [upd_other _ _ _ _ e] at hx; exact h.mode k' x hx
set_option maxRecDepth 20000 in
set_option maxHeartbeats 6400000 in
theorem pletAllGo {L : Lay} {bs : Nat → Nat} {A : List Nat} {ow : Ow} {m : Nat} {mu lv : Int} {s : St} {w : World} (h : PSt L bs A ow m mu lv s w) (i : Nat) (hi : i ∈ A) (tx0 : Nat → Tx) (lk0 : Int → Lk) (hF : FrM s.n tx0 lk0 i s.lk s.tx)
  (hrows : ∀ l : List Int, l.Nodup → (∀ k ∈ l, (s.lk k).h i ≠ 0) → l.length ≤ 16) (hmode : ∀ k x, x ∈ (s.lk k).q → x.2 ≠ 0) (hmm : m + 400 ≤ 1099511627776) :
  Calls Tryz.prog 127 #[.pointer (some ⟨L.p, 0, none⟩), .pointer (some ⟨bs i, 0, none⟩)] w fun e w' => ∃ lk' tx', e = .returned (.tuple #[]) ∧ PSt L bs A ow (m + 320) mu lv ((s.withLk lk').withTx tx') w' ∧ FrM s.n tx0 lk0 i lk' tx' ∧ (∀ k, (lk' k).h i = 0) ∧ Kept (OwnP ow) w w' := by
 obtain ⟨u, tv, wv, b1, c3, c6, c7, c4, b2⟩ := h.cells
 have hin := h.among i hi
 have hnum := (h.txs i hin.1 hin.2).number
 have hcon := rowsHeldBy_any L.p L.hb m (bs i) (i : Int) (holdF s.lk) w c6 h.hold hnum (holdF_ok h) (by omega)
 have HH : Hid (PSt L bs A ow m mu lv s w) := h
 have HF : Hid (FrM s.n tx0 lk0 i s.lk s.tx) := hF
 have HRS : Hid (∀ l : List Int, l.Nodup → (∀ k ∈ l, (s.lk k).h i ≠ 0) → l.length ≤ 16) := hrows
 have HMD : Hid (∀ k x, x ∈ (s.lk k).q → x.2 ≠ 0) := hmode
 clear b2 b1 h c3 c4 c7 hF hrows hmode
 go_enter Tryz.func127, Tryz.ntmps127
 go_wp2_with fail
 refine hcon.mono ?_
 rintro e w1 ⟨v, l, rfl, hown, hbl, hrl, hk⟩
 obtain ⟨ao, c, rfl⟩ := ownsRow_form hown
 have hl16 : l.length ≤ 16 := by
  refine HRS.out l (hrl.1.imp (fun {a b} h => by omega)) (fun k hk => ?_)
  have := (hrl.2 k).1 hk
  unfold holdF at this
  split at this
  ·rename_i h; simpa using h.2
  ·cases this
 have HO : Hid (w1.ownsRow 0 3 1 (.slice ao l.length c) l.length (l.map (Value.int .i64))) := hown
 have HBL : Hid (∀ b, (Value.slice ao l.length c).ownBlock = some b → w.heap.size ≤ b) := hbl
 have HRL : Hid (RowsL (holdF s.lk) (i : Int) l) := hrl
 have HK : Hid (Kept NoBlk w w1) := hk
 clear hown hbl hrl hk hcon c6 hnum
 have hn0 : ∀ b, w.heap.size ≤ b → ¬ OwnP ow b := fun b hb ho => by have := (HH.out : PSt L bs A ow m mu lv s w).lt b ho; omega
 have HN0 : Hid (∀ b, w.heap.size ≤ b → ¬ OwnP ow b) := hn0
 have HIN : Hid (1 ≤ i ∧ i ≤ s.n) := hin
 have HI : Hid (i ∈ A) := hi
 generalize hn : l.length = n at *
 have Hn : Hid (l.length = n) := hn
 clear hn hn0 hin
 go_wp2_with fail
 go_loopw [10] (fun v wr => ∃ (k : Nat) (lk1 : Int → Lk) (tx1 : Nat → Tx), k ≤ n ∧ v = .int .i64 (k : Int) ∧ GoneP L bs A ow mu lv s tx0 lk0 i w1 m l k lk1 tx1 wr) (fun v _ => n - (intOf v).toNat)
 case atStart =>
  have e : (s.withLk s.lk).withTx s.tx = s := rfl
  exact ⟨0, s.lk, s.tx, Nat.zero_le _, rfl, ⟨by rw [e]; exact (HH.out : PSt L bs A ow m mu lv s w).kept0 HK.out, HF.out, fun r hr => by simp at hr, fun r hr => hr, HMD.out, Kept.refl _ _⟩⟩
 case round =>
  obtain ⟨k, lk1, tx1, hk, rfl, hg⟩ := hrel
  have HG : Hid (GoneP L bs A ow mu lv s tx0 lk0 i w1 m l k lk1 tx1 wr) := hg
  by_cases hlt : k < n
  ·have hrowat : wr.ownsRow 0 3 1 (.slice ao n c) n (l.map (Value.int .i64)) := ownsRow_kept HO.out hg.kept (fun b hb ho => HN0.out b (HBL.out b hb) ho)
   have hRA := RowAt.owns hrowat
   have hkl : k < l.length := by rw [Hn.out]; exact hlt
   obtain ⟨g, rfl, hcell⟩ : ∃ g, ao = some ⟨g, 0, none⟩ ∧ wr.cell? ⟨g, k, none⟩ = some (.int .i64 (l.getD k 0)) := by
    obtain ⟨g, cap, hform, _, _⟩ := hrowat.form (by omega)
    simp only [Value.slice.injEq] at hform
    obtain ⟨rfl, _, rfl⟩ := hform
    refine ⟨g, rfl, ?_⟩
    have := hRA.cell (g := g) (off := 0) k (u := .int .i64 (l.getD k 0)) (by simp [List.getD, hkl])
    rw [Nat.zero_add] at this
    exact this
   generalize hr : l.getD k 0 = r at *
   have HR : Hid (l.getD k 0 = r) := hr
   have hmem : r ∈ l := by rw [← hr]; simp [List.getD, hkl]
   have hold : (s.lk r).h i ≠ 0 := by
    have := (HRL.out.2 r).1 hmem
    unfold holdF at this
    split at this
    ·rename_i h; simpa using h.2
    ·cases this
   have hir : inI r := ((HH.out : PSt L bs A ow m mu lv s w).hdom r i hold).1
   have hst0 : PSt L bs A ow (m + 20 * k) mu lv ((s.withLk lk1).withTx tx1) wr.drew := hg.st.of_same (Nat.le_refl _) (fun _ _ => rfl)
   obtain ⟨w2, hrun, hst2, hk2⟩ := hst0.dropH r i hir HI.out 0
   obtain ⟨_, _, _, _, _, c6, _, _, _⟩ := hg.st.cells
   have hnum := (hg.st.txs i HIN.out.1 HIN.out.2).number
   have HST2 : Hid (PSt L bs A ow (m + 20 * k) mu lv (((s.withLk lk1).withTx tx1).withLk (upd lk1 r ⟨upd (lk1 r).h i 0, (lk1 r).q⟩)) w2) := hst2
   have HMX : Hid (m + 400 ≤ 1099511627776) := hmm
   have HK2 : Hid (Kept (Blk L.hb) wr w2) := ⟨hk2.os, hk2.tape, hk2.output, hk2.size, hk2.block⟩
   have HKL : Hid (k < l.length) := hkl
   have HIR : Hid (inI r) := hir
   have hbl2 := World.block_lt_of_cell? _ _ hnum
   clear hg hst0 hst2 hk2 hrowat hRA hmem hold hr hir
   go_wp2_with fail
   go_region
   go_wp2_with fail
   have hst3 : PSt L bs A ow (m + 20 * k) mu lv (((s.withLk lk1).withTx tx1).withLk (upd lk1 r ⟨upd (lk1 r).h i 0, (lk1 r).q⟩)) w2 := HST2.out
   have hg3 : GoneP L bs A ow mu lv s tx0 lk0 i w1 m l k lk1 tx1 wr := HG.out
   have elk : (((s.withLk lk1).withTx tx1).withLk (upd lk1 r ⟨upd (lk1 r).h i 0, (lk1 r).q⟩)).lk r = ⟨upd (lk1 r).h i 0, (lk1 r).q⟩ := by show upd lk1 r _ r = _; rw [upd_same]
   have hq12 := hst3.queueLen r (by rw [elk]; exact hg3.fr.once r)
   refine (pgrant hst3 r HIR.out hq12 (by rw [elk]; exact hg3.mode r) (by have := HMX.out; omega)).mono ?_
   rintro e w3 ⟨pre, rfl, hpre, hst4, hk4⟩
   rw [elk] at hpre hst4
   have e4 : (((((s.withLk lk1).withTx tx1).withLk (upd lk1 r ⟨upd (lk1 r).h i 0, (lk1 r).q⟩)).withLk (upd (((s.withLk lk1).withTx tx1).withLk (upd lk1 r ⟨upd (lk1 r).h i 0, (lk1 r).q⟩)).lk r (settle (((s.withLk lk1).withTx tx1).withLk (upd lk1 r ⟨upd (lk1 r).h i 0, (lk1 r).q⟩)).n (upd (lk1 r).h i 0) (lk1 r).q))).withTx (clr pre (((s.withLk lk1).withTx tx1).withLk (upd lk1 r ⟨upd (lk1 r).h i 0, (lk1 r).q⟩)).tx))
     = (s.withLk (upd lk1 r (settle s.n (upd (lk1 r).h i 0) (lk1 r).q))).withTx (clr pre tx1) := by
    show (s.withLk (upd (upd lk1 r ⟨upd (lk1 r).h i 0, (lk1 r).q⟩) r (settle s.n (upd (lk1 r).h i 0) (lk1 r).q))).withTx (clr pre tx1) = _
    rw [upd_upd]
   rw [e4] at hst4
   have hn : OwnP ow L.hb := by unfold OwnP; rw [hst3.tags.2.2.1]; exact tagNe (by omega)
   have hkk : Kept (OwnP ow) w1 w3 := (hg3.kept.trans HK2.out (fun k e => by cases e; exact .inl hn)).trans' hk4
   have HGN : Hid (GoneP L bs A ow mu lv s tx0 lk0 i w1 m l (k + 1) (upd lk1 r (settle s.n (upd (lk1 r).h i 0) (lk1 r).q)) (clr pre tx1) w3) := hg3.next HKL.out HR.out hpre (hst4.mono (by omega)) hkk
   clear hst3 hg3 elk hq12 hpre hst4 e4 hk4 hkk
   go_wp2_with fail
   exact ⟨⟨k + 1, _, _, by omega, by go_num, HGN.out⟩, by simp [intOf]; omega⟩
  ·obtain rfl : k = n := by omega
   go_wp2_with fail
   go_end0
   refine ⟨lk1, tx1, rfl, HG.out.st.mono (by omega), HG.out.fr, fun r => ?_, HK.out.mono (fun _ x => x.elim) |>.trans' HG.out.kept⟩
   by_cases h0 : (s.lk r).h i = 0
   ·exact HG.out.none r h0
   ·refine HG.out.gone r ?_
    rw [← Hn.out, List.take_length]
    exact (HRL.out.2 r).2 (by simp [holdF, h0])
end Go.Proofs.YtmcajfefagdbnaaGreat
namespace Go.Proofs.YtmcajfefagdbnaaGreat
open Go Go.RowKit Go.Sort Go.Lib
theorem TxnAt.cells {ow : Ow} {p : Nat} {w : World} {i b : Nat} {t : Tx} (h : TxnAt ow p w i b t) : ∃ ov rv dv, w.heap[b]? = some (.cells #[.int .i64 (i : Int), ov, .int .i64 t.stamp, .int .i64 t.state, .int .i64 t.agains, .int .i64 (t.next : Int), .bool t.wounded, .bool t.waits.isSome, .int .i64 (t.regs 0), .int .i64 (t.regs 1), .int .i64 (t.regs 2), .int .i64 (t.regs 3), rv, dv] 146 (0, 0)) ∧ w.cell? ⟨b, 0, none⟩ = some (.int .i64 (i : Int)) ∧ w.cell? ⟨b, 1, none⟩ = some ov ∧ w.cell? ⟨b, 5, none⟩ = some (.int .i64 (t.next : Int)) ∧ (t.state = 0 → LiveAt ow p w i t ov dv) := by
 obtain ⟨ov, rv, dv, h1, h2, h3, h4, h5⟩ := h
 exact ⟨ov, rv, dv, h1, by rw [cell_at h1]; rfl, by rw [cell_at h1]; rfl, by rw [cell_at h1]; rfl, fun h0 => (h5 h0).2⟩
theorem opCells_at (l : List Op4) : ∀ k, k < l.length → (opCells l)[k * 4]? = some (.int .i64 (l.getD k Op4.z).k) ∧ (opCells l)[k * 4 + 1]? = some (.int .i64 (l.getD k Op4.z).a) ∧ (opCells l)[k * 4 + 2]? = some (.int .i64 (l.getD k Op4.z).b) ∧ (opCells l)[k * 4 + 3]? = some (.int .i64 (l.getD k Op4.z).c) := by
 induction l with
 | nil => intro k hk; simp at hk
 | cons o l ih =>
  intro k hk
  cases k with
  | zero => simp [opCells, Op4.cells]
  | succ k =>
   have := ih k (by simpa using hk)
   rw [show (k + 1) * 4 = k * 4 + 4 from by omega]
   simpa [opCells, Op4.cells] using this
theorem RowAt.op {w : World} {n : Nat} {v : Value} {l : List Op4} (h : RowAt w 114 4 v n (opCells l)) (k : Nat) (hk : k < l.length) : ∃ g off c, v = .slice (some ⟨g, off, none⟩) n c ∧ l.length = n ∧ w.cell? ⟨g, off + k * 4, none⟩ = some (.int .i64 (l.getD k Op4.z).k) ∧ w.cell? ⟨g, off + k * 4 + 1, none⟩ = some (.int .i64 (l.getD k Op4.z).a) ∧
  w.cell? ⟨g, off + k * 4 + 2, none⟩ = some (.int .i64 (l.getD k Op4.z).b) ∧ w.cell? ⟨g, off + k * 4 + 3, none⟩ = some (.int .i64 (l.getD k Op4.z).c) := by
 have hl := h.1
 rw [opCells_len] at hl
 rcases h.2 with ⟨_, h1⟩ | ⟨g, off, cap, cur, h0, _⟩
 ·omega
 ·obtain rfl := h0
  obtain ⟨e0, e1, e2, e3⟩ := opCells_at l k hk
  refine ⟨g, off, cap, rfl, by omega, h.cell _ e0, ?_, ?_, ?_⟩ <;> (rw [Nat.add_assoc]; first | exact h.cell _ e1 | exact h.cell _ e2 | exact h.cell _ e3)
theorem qcast_filter (q : List (Nat × Int)) (i : Nat) : (qcast q).filter (fun x => x.1 != (i : Int)) = qcast (q.filter (fun x => x.1 != i)) := by
 unfold qcast
 rw [List.filter_map]
 congr 1
 apply List.filter_congr
 intro x _
 simp only [Function.comp]
 by_cases e : x.1 = i
 ·simp [e]
 ·have : (x.1 : Int) ≠ (i : Int) := by omega
  rw [bne_iff_ne.2 e, bne_iff_ne.2 this]
theorem PSt.restoreQ {L : Lay} {bs : Nat → Nat} {A : List Nat} {ow : Ow} {m : Nat} {mu lv : Int} {s : St} {W w1 : World} (h : PSt L bs A ow m mu lv s W) (row : Int) (hr : inI row) {g off c k : Nat} {r : List (Nat × Int)} (hg : ow g = (7, row)) (hk1 : Kept (Blk g) W w1) (hrow : RowAt w1 107 2 (.slice (some ⟨g, off, none⟩) k c) k (lkc (qcast r)))
  (hd : ∀ x ∈ r, x.1 ∈ A) (hm : m < 2305843009213693952) :
  ∃ w2, (Instr.mapUpdate 125 (.map (some L.qb)) (.int .i64 row) (.slice (some ⟨g, off, none⟩) k c)).run Tryz.prog w1 = .ok () w2 ∧ PSt L bs A ow (m + 1) mu lv (s.withLk (upd s.lk row ⟨(s.lk row).h, r⟩)) w2 ∧ Kept (fun b => ow b = (4, 0) ∨ ow b = (7, row)) W w2 := by
 obtain ⟨qf, q1, q2⟩ := h.que
 have t4 := h.tags.2.2.2
 have hqg : L.qb ≠ g := fun e => by rw [← e, t4] at hg; exact tagNe (by omega) hg
 obtain ⟨w2, hrun, hm', hk, _⟩ := (q1.kept hk1 hqg).store Tryz.underlying125 (by have := L.q0.isLt; unfold maxLen; omega) (a := row) hr (.slice (some ⟨g, off, none⟩) k c)
 have hkk : Kept (fun b => ow b = (4, 0) ∨ ow b = (7, row)) W w2 := (hk1.mono (fun b e => by cases e; exact .inr hg)).trans hk (fun b e => .inl (by cases e; exact .inl t4))
 have hlen : r.length = k := by have := hrow.1; rw [lkc_len] at this; simp [qcast] at this; omega
 refine ⟨w2, hrun, h.turnQueue row hkk (AgreeP.refl _ _) (fun b hb => Nat.lt_of_lt_of_le (h.lt b hb) hkk.size) (Nat.le_succ _) ⟨put qf row (some (.slice (some ⟨g, off, none⟩) k c)), hm'.mono (by omega), fun k' => ?_⟩ (fun k' => ?_) (fun k' x hx => ?_), hkk⟩
 ·by_cases e : k' = row
  ·subst e
   rw [upd_same]
   simp only [put, if_true]
   show RowT ow (7, k') w2 _ 2 _ r.length (lkc (qcast r))
   rw [hlen]
   refine ⟨hrow.kept hk (fun b hb e => ?_), fun b hb => by simp [Value.ownBlock] at hb; subst hb; exact hg⟩
   simp [Value.ownBlock] at hb
   subst hb
   exact hqg e.symm
  ·rw [upd_other _ _ _ _ e]
   simp only [put, if_neg e]
   refine (q2 k').kept (AgreeP.refl _ _) (fun j hj ej => hkk.block j hj (fun x => ?_))
   rcases x with x | x
   ·rw [ej] at x; exact tagNe (by omega) x
   ·rw [ej] at x; simp only [Prod.mk.injEq, true_and] at x; exact e x
 ·by_cases e : k' = row
  ·subst e; rw [upd_same]
  ·rw [upd_other _ _ _ _ e]
 ·by_cases e : k' = row
  ·subst e; rw [upd_same] at hx; exact ⟨hr, hd x hx⟩
  ·rw [upd_other _ _ _ _ e] at hx; exact h.qdom k' x hx
set_option maxRecDepth 20000 in
set_option maxHeartbeats 6400000 in
theorem pleaveQueue {L : Lay} {bs : Nat → Nat} {A : List Nat} {ow : Ow} {m : Nat} {mu lv : Int} {s : St} {w : World} (h : PSt L bs A ow m mu lv s w) (i : Nat) (hi : i ∈ A) (row md : Int) (hst : (s.tx i).state = 0) (hnx : (s.tx i).next < (s.tx i).ops.length) (hop : (s.tx i).op.a = row) (hq : (i, md) ∈ (s.lk row).q) (honce : ((s.lk row).q.map (·.1)).Nodup)
  (hmode : ∀ x ∈ (s.lk row).q, x.2 ≠ 0) (hmm : m + 400 ≤ 1099511627776) :
  Calls Tryz.prog 140 #[.pointer (some ⟨L.p, 0, none⟩), .pointer (some ⟨bs i, 0, none⟩)] w fun e w' => ∃ pre, e = .returned (.tuple #[]) ∧ (s.lk row).q.filter (fun x => x.1 != i) = pre ++ (settle s.n (s.lk row).h ((s.lk row).q.filter (fun x => x.1 != i))).q ∧
   PSt L bs A ow (m + 21) mu lv ((s.withLk (upd s.lk row (settle s.n (s.lk row).h ((s.lk row).q.filter (fun x => x.1 != i))))).withTx (clr pre (upd s.tx i { s.tx i with waits := none }))) w' ∧ Kept (OwnP ow) w w' := by
 have hin := h.among i hi
 have hr : inI row := (h.qdom row _ hq).1
 obtain ⟨ov, rv, dv, b1, c0, c1, c5, hlive⟩ := (h.txs i hin.1 hin.2).cells
 obtain ⟨l1, l2, l3, l4, l5, cs, l6, l7⟩ := hlive hst
 obtain ⟨og, oo, oc, rfl, _, o0, o1, _, _⟩ := l1.1.op (s.tx i).next hnx
 have hopa : ((s.tx i).ops.getD (s.tx i).next Op4.z).a = row := hop
 rw [hopa] at o1
 obtain ⟨u, tv, wv, p1, c3, c6, c7, c4, p2⟩ := h.cells
 generalize hw0 : w.alloc (.cells #[.pointer (some ⟨bs i, 0, none⟩)] 128) = w0
 have hk0 : Kept NoBlk w w0 := by rw [← hw0]; exact (Kept.refl _ _).alloc _
 have h0 := h.kept0 hk0
 have hbox : w0.cell? ⟨w.heap.size, 0, none⟩ = some (.pointer (some ⟨bs i, 0, none⟩)) := by rw [← hw0, cell_at (block_alloc_new w _)]; rfl
 have hwl : w.heap.size < w0.heap.size := World.block_lt_of_cell? _ _ hbox
 obtain ⟨v, hlook, hrow⟩ := h0.queueAt row hr
 obtain ⟨qg, qo, qc, rfl⟩ : ∃ g off c, v = .slice (some ⟨g, off, none⟩) (s.lk row).q.length c := by
  rcases hrow.1.2 with ⟨_, e⟩ | ⟨g, off, c, _, e, _⟩
  ·have := List.length_pos_of_mem hq; omega
  ·exact ⟨g, off, c, e⟩
 have hqt : ow qg = (7, row) := hrow.2 qg rfl
 have d1 := hk0.cell0 c1
 have d5 := hk0.cell0 c5
 have e1 := hk0.cell0 o1
 have d7 := hk0.cell0 c7
 have hbt : ow (bs i) = (8, (i : Int)) := by obtain ⟨_, _, _, _, x, _⟩ := h.txs i hin.1 hin.2; exact x
 have hwt : ow w.heap.size = (0, 0) := by
  by_cases e : ow w.heap.size = (0, 0)
  ·exact e
  ·have := h.lt _ e; omega
 have hq12 := h.queueLen row honce
 have HDEL : Hid (∀ W, W.heap = w0.heap → Calls Tryz.prog 169 #[.slice (some ⟨qg, qo, none⟩) (s.lk row).q.length qc, .func (.func 170) #[] #[.pointer (some ⟨w.heap.size, 0, none⟩)]] W fun e w' => ∃ k, e = .returned (.slice (some ⟨qg, qo, none⟩) k qc) ∧ RowAt w' 107 2 (.slice (some ⟨qg, qo, none⟩) k qc) k (lkc ((qcast (s.lk row).q).filter fun x => x.1 != (i : Int))) ∧ Kept (Blk qg) W w') := by
  intro W hW
  have hb1 : W.cell? ⟨w.heap.size, 0, none⟩ = some (.pointer (some ⟨bs i, 0, none⟩)) := by rw [← hbox]; simp only [World.cell?, hW]
  have hb2 : W.cell? ⟨bs i, 0, none⟩ = some (.int .i64 (i : Int)) := by have := hk0.cell0 c0; rw [← this]; simp only [World.cell?, hW]
  refine deleteFunc_any qg qo _ qc w.heap.size (bs i) (i : Int) (qcast (s.lk row).q) W (hrow.1.of_block (fun _ _ => by rw [hW])) (by omega) ⟨hb1, hb2⟩ ?_ ?_ ?_
  ·intro e; rw [← e, hwt] at hqt; exact tagNe (by omega) hqt
  ·intro e; rw [← e, hbt] at hqt; exact tagNe (by omega) hqt
  ·exact ⟨((i : Int), md), by unfold qcast; exact List.mem_map.2 ⟨(i, md), hq, rfl⟩, rfl⟩
 have HLK : Hid (∀ W : World, W.heap = w0.heap → (Instr.lookup 125 (.map (some L.qb)) (.int .i64 row) false).run Tryz.prog W = .ok (.slice (some ⟨qg, qo, none⟩) (s.lk row).q.length qc) W) := hlook
 have hblb : bs i < w0.heap.size := World.block_lt_of_cell? _ _ d1
 have hblo := World.block_lt_of_cell? _ _ e1
 have hblp := World.block_lt_of_cell? _ _ d7
 have HH : Hid (PSt L bs A ow m mu lv s w) := h
 have HH0 : Hid (PSt L bs A ow m mu lv s w0) := h0
 have HQ : Hid ((i, md) ∈ (s.lk row).q ∧ ((s.lk row).q.map (·.1)).Nodup ∧ ∀ x ∈ (s.lk row).q, x.2 ≠ 0) := ⟨hq, honce, hmode⟩
 have HK0 : Hid (Kept NoBlk w w0) := hk0
 have HT : Hid (ow qg = (7, row) ∧ ow (bs i) = (8, (i : Int)) ∧ ow w.heap.size = (0, 0)) := ⟨hqt, hbt, hwt⟩
 have HIN : Hid (1 ≤ i ∧ i ≤ s.n) := hin
 have HOP : Hid (inI row) := hr
 generalize (s.tx i).next = nx at *
 generalize (s.tx i).ops.length = no at *
 clear hlive l1 l3 l6 l7 cs hopa b1 p1 p2 c3 c6 c4 o0 l5 hlook hrow h h0 hq honce hmode hk0 hqt hbt hwt hin hr c0 c1 c5 o1 c7
 go_enter Tryz.func140, Tryz.ntmps140
 go_wp2_with fail
 clear hw0
 go_quiet (fail)
 go_wp2_with fail
 have hl1 := HLK.out (w0.drewN nq).drew rfl
 have hd1 := HDEL.out (w0.drewN nq).drew rfl
 have hd7 : (w0.drewN nq).cell? ⟨L.p, 7, none⟩ = some (.map (some L.qb)) := d7
 have hdb : (w0.drewN nq).cell? ⟨w.heap.size, 0, none⟩ = some (.pointer (some ⟨bs i, 0, none⟩)) := hbox
 have HW : Hid ((w0.drewN nq).heap = w0.heap) := rfl
 have hsz : (w0.drewN nq).heap.size = w0.heap.size := rfl
 have HST0 : Hid (PSt L bs A ow m mu lv s (w0.drewN nq).drew) := (HH0.out : PSt L bs A ow m mu lv s w0).of_same (Nat.le_refl _) (fun _ _ => rfl)
 have HKD : Hid (Kept NoBlk w (w0.drewN nq).drew) := (HK0.out.drewN nq).drew
 have HMM : Hid (m < 2305843009213693952) := by unfold Hid; omega
 have HPG : Hid (¬ Blk qg L.p) := fun e => by have t1 := (HH.out : PSt L bs A ow m mu lv s w).tags.1; have t2 := HT.out.1; unfold Blk at e; rw [← e, t1] at t2; exact tagNe (by omega) t2
 have HD7 : Hid ((w0.drewN nq).drew.cell? ⟨L.p, 7, none⟩ = some (.map (some L.qb))) := d7
 generalize w0.drewN nq = W at *
 go_region_law (go_simp; go_at_call 169; refine hd1.mono ?_; rintro e w1 ⟨k, rfl, hrow1, hk1⟩; rw [qcast_filter] at hrow1; obtain ⟨w2, hrun2, hst2, hk2⟩ := PSt.restoreQ HST0.out row HOP.out HT.out.1 hk1 hrow1 (fun x hx => ((HH.out : PSt L bs A ow m mu lv s w).qdom row x (List.mem_filter.1 hx).1).2) HMM.out; have p7 := hk1.cell HD7.out HPG.out)
 all_goals
  have hbx2 : w2.cell? ⟨w.heap.size, 0, none⟩ = some (.pointer (some ⟨bs i, 0, none⟩)) := hk2.cell (show W.drew.cell? _ = _ from hdb) (fun x => by have t := HT.out.2.2; rcases x with x | x <;> (rw [t] at x; exact tagNe (by omega) x))
  obtain ⟨tx', x7, xf, xk⟩ := (hst2.txs i HIN.out.1 HIN.out.2).unwait
  have HP3 : Hid (PSt L bs A ow (m + 1) mu lv ((s.withLk (upd s.lk row ⟨(s.lk row).h, (s.lk row).q.filter (fun x => x.1 != i)⟩)).withTx (upd s.tx i { s.tx i with waits := none })) (w2.setCell ⟨bs i, 7, none⟩ (.bool false))) := hst2.turnTx i _ xk (AgreeP.refl _ _) (fun b hb => Nat.lt_of_lt_of_le (hst2.lt b hb) xk.size) (fun _ _ => tx')
  have HK3 : Hid (Kept (OwnP ow) w (w2.setCell ⟨bs i, 7, none⟩ (.bool false))) := ((HKD.out.mono (fun _ x => x.elim)).trans hk2 (fun b e => .inl (by unfold OwnP; rcases e with e | e <;> (rw [e]; exact tagNe (by omega))))).trans xk (fun b e => .inl (by unfold OwnP; rcases e with e | e <;> (rw [e]; exact tagNe (by omega))))
  clear hst2 hk2 tx' xk hrow1 hk1 p7 hrun2 hd7 hdb hl1 hd1
  go_wp2_with fail
  have hp3 : PSt L bs A ow (m + 1) mu lv ((s.withLk (upd s.lk row ⟨(s.lk row).h, (s.lk row).q.filter (fun x => x.1 != i)⟩)).withTx (upd s.tx i { s.tx i with waits := none })) (w2.setCell ⟨bs i, 7, none⟩ (.bool false)) := HP3.out
  have elk : ((s.withLk (upd s.lk row ⟨(s.lk row).h, (s.lk row).q.filter (fun x => x.1 != i)⟩)).withTx (upd s.tx i { s.tx i with waits := none })).lk row = ⟨(s.lk row).h, (s.lk row).q.filter (fun x => x.1 != i)⟩ := by show upd s.lk row _ row = _; rw [upd_same]
  have hfn : (((s.lk row).q.filter (fun x => x.1 != i)).map (·.1)).Nodup := List.Sublist.nodup (List.Sublist.map _ List.filter_sublist) HQ.out.2.1
  have hql := hp3.queueLen row (by rw [elk]; exact hfn)
  refine (pgrant hp3 row HOP.out hql (by rw [elk]; exact fun x hx => HQ.out.2.2 x (List.mem_filter.1 hx).1) (by omega)).mono ?_
  rintro e w3 ⟨pre, rfl, hpre, hst4, hk4⟩
  rw [elk] at hpre hst4
  have e4 : ((((s.withLk (upd s.lk row ⟨(s.lk row).h, (s.lk row).q.filter (fun x => x.1 != i)⟩)).withTx (upd s.tx i { s.tx i with waits := none })).withLk (upd ((s.withLk (upd s.lk row ⟨(s.lk row).h, (s.lk row).q.filter (fun x => x.1 != i)⟩)).withTx (upd s.tx i { s.tx i with waits := none })).lk row (settle ((s.withLk (upd s.lk row ⟨(s.lk row).h, (s.lk row).q.filter (fun x => x.1 != i)⟩)).withTx (upd s.tx i { s.tx i with waits := none })).n (s.lk row).h ((s.lk row).q.filter (fun x => x.1 != i))))).withTx (clr pre ((s.withLk (upd s.lk row ⟨(s.lk row).h, (s.lk row).q.filter (fun x => x.1 != i)⟩)).withTx (upd s.tx i { s.tx i with waits := none })).tx))
    = (s.withLk (upd s.lk row (settle s.n (s.lk row).h ((s.lk row).q.filter (fun x => x.1 != i))))).withTx (clr pre (upd s.tx i { s.tx i with waits := none })) := by
   show (s.withLk (upd (upd s.lk row ⟨(s.lk row).h, (s.lk row).q.filter (fun x => x.1 != i)⟩) row (settle s.n (s.lk row).h ((s.lk row).q.filter (fun x => x.1 != i))))).withTx (clr pre (upd s.tx i { s.tx i with waits := none })) = _
   rw [upd_upd]
  rw [e4] at hst4
  have HE : Hid (PSt L bs A ow (m + 21) mu lv ((s.withLk (upd s.lk row (settle s.n (s.lk row).h ((s.lk row).q.filter (fun x => x.1 != i))))).withTx (clr pre (upd s.tx i { s.tx i with waits := none }))) w3) := hst4.mono (by omega)
  have HPR : Hid ((s.lk row).q.filter (fun x => x.1 != i) = pre ++ (settle s.n (s.lk row).h ((s.lk row).q.filter (fun x => x.1 != i))).q) := hpre
  have HK4 : Hid (Kept (OwnP ow) w w3) := HK3.out.trans' hk4
  clear hp3 elk hfn hql hpre hst4 hk4 e4
  go_wp2_with fail
  go_end0
  exact ⟨pre, rfl, HPR.out, HE.out, HK4.out⟩
end Go.Proofs.YtmcajfefagdbnaaGreat
