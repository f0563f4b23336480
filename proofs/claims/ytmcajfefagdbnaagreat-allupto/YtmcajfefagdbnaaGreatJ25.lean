import Derived.Test.YtmcajfefagdbnaaGreatJ24
import Derived.Test.YtmcajfefagdbnaaGreatJ15
namespace Go.Proofs.YtmcajfefagdbnaaGreat
open Go Go.RowKit Go.Sort Go.Lib
theorem TxnAt.number {ow : Ow} {p : Nat} {w : World} {i b : Nat} {t : Tx} (h : TxnAt ow p w i b t) : w.cell? ⟨b, 0, none⟩ = some (.int .i64 (i : Int)) := by
 obtain ⟨ov, rv, dv, h1, _⟩ := h
 rw [cell_at h1]
 rfl
theorem PSt.dropH {L : Lay} {bs : Nat → Nat} {A : List Nat} {ow : Ow} {m : Nat} {mu lv : Int} {s : St} {w : World} (h : PSt L bs A ow m mu lv s w) (k : Int) (i : Nat) (hk : inI k) (hi : i ∈ A) (ty : TypeId) :
  ∃ w', (Builtin.delete_ #[124, 168] ty #[.map (some L.hb), .agg #[.int .i64 k, .int .i64 (i : Int)]]).run Tryz.prog w = .ok (.tuple #[]) w' ∧ PSt L bs A ow m mu lv (s.withLk (upd s.lk k ⟨upd (s.lk k).h i 0, (s.lk k).q⟩)) w' ∧ Kept (Blk L.hb) w w' := by
 have hin := h.among i hi
 have hnm := h.nmax
 obtain ⟨w', hrun, hm', hkk, _⟩ := h.hold.drop Tryz.underlying124 (a := (k, (i : Int))) ⟨hk, inI_nat (by omega)⟩ ty
 have he : put (hvals (holdF s.lk)) (k, (i : Int)) none = hvals (holdF (upd s.lk k ⟨upd (s.lk k).h i 0, (s.lk k).q⟩)) := by
  rw [← holdF_drop]
  funext c
  simp only [put, hvals]
  split <;> rfl
 rw [he] at hm'
 refine ⟨w', hrun, h.turnHold hkk (Nat.le_refl _) hm' (fun k' => ?_) (fun k' j hj => ?_), hkk⟩
 ·by_cases e : k' = k
  ·subst e; rw [upd_same]
  ·rw [upd_other _ _ _ _ e]
 ·by_cases e : k' = k
  ·subst e
   rw [upd_same] at hj
   by_cases e2 : j = i
   ·subst e2; simp at hj
   ·simp only [upd_other _ _ _ _ e2] at hj
    exact h.hdom _ _ hj
  ·rw [upd_other _ _ _ _ e] at hj
   exact h.hdom _ _ hj
theorem settle_h_out {n : Nat} {h : Nat → Int} {q : List (Nat × Int)} {i : Nat} (hi : ∀ m, (i, m) ∉ q) : (settle n h q).h i = h i := by
 induction q generalizing h with
 | nil => rfl
 | cons x q ih =>
  obtain ⟨j, m⟩ := x
  have hij : i ≠ j := fun e => hi m (by rw [e]; exact List.mem_cons_self)
  have hi' : ∀ m, (i, m) ∉ q := fun m' hm => hi m' (List.mem_cons_of_mem _ hm)
  simp only [settle]
  split
  ·rfl
  ·rw [ih hi', upd_other _ _ _ _ hij]
theorem PSt.queueLen {L : Lay} {bs : Nat → Nat} {A : List Nat} {ow : Ow} {m : Nat} {mu lv : Int} {s : St} {w : World} (h : PSt L bs A ow m mu lv s w) (k : Int) (hq : ((s.lk k).q.map (·.1)).Nodup) : (s.lk k).q.length ≤ 12 := by
 have := nodup_len _ A hq (fun x hx => by
  obtain ⟨y, hy, rfl⟩ := List.mem_map.1 hx
  exact (h.qdom k y hy).2)
 have := h.few
 rw [List.length_map] at *
 omega
structure GoneP (L : Lay) (bs : Nat → Nat) (A : List Nat) (ow : Ow) (mu lv : Int) (s : St) (tx0 : Nat → Tx) (lk0 : Int → Lk) (i : Nat) (w1 : World) (m : Nat) (l : List Int) (k : Nat) (lk1 : Int → Lk) (tx1 : Nat → Tx) (wr : World) : Prop where
 st : PSt L bs A ow (m + 20 * k) mu lv ((s.withLk lk1).withTx tx1) wr
 fr : FrM s.n tx0 lk0 i lk1 tx1
 gone : ∀ r ∈ l.take k, (lk1 r).h i = 0
 none : ∀ r, (s.lk r).h i = 0 → (lk1 r).h i = 0
 mode : ∀ k x, x ∈ (lk1 k).q → x.2 ≠ 0
 kept : Kept (OwnP ow) w1 wr
theorem GoneP.next {L : Lay} {bs : Nat → Nat} {A : List Nat} {ow : Ow} {mu lv : Int} {s : St} {tx0 : Nat → Tx} {lk0 : Int → Lk} {i : Nat} {w1 : World} {m : Nat} {l : List Int} {k : Nat} {lk1 : Int → Lk} {tx1 : Nat → Tx} {wr : World} (h : GoneP L bs A ow mu lv s tx0 lk0 i w1 m l k lk1 tx1 wr) (hk : k < l.length) {r : Int} (hr : l.getD k 0 = r)
  {pre : List (Nat × Int)} {w' : World} (hpre : (lk1 r).q = pre ++ (settle s.n (upd (lk1 r).h i 0) (lk1 r).q).q) (hst : PSt L bs A ow (m + 20 * (k + 1)) mu lv ((s.withLk (upd lk1 r (settle s.n (upd (lk1 r).h i 0) (lk1 r).q))).withTx (clr pre tx1)) w') (hkk : Kept (OwnP ow) w1 w') :
  GoneP L bs A ow mu lv s tx0 lk0 i w1 m l (k + 1) (upd lk1 r (settle s.n (upd (lk1 r).h i 0) (lk1 r).q)) (clr pre tx1) w' := by
 have h0 : (settle s.n (upd (lk1 r).h i 0) (lk1 r).q).h i = 0 := by rw [settle_h_out (h.fr.out r), upd_same]
 refine ⟨hst, h.fr.next hpre, fun r' hr' => ?_, fun r' hr' => ?_, fun k' x hx => ?_, hkk⟩
 ·by_cases e : r' = r
  ·subst e; rw [upd_same]; exact h0
  ·rw [upd_other _ _ _ _ e]
   rw [List.take_add_one, List.mem_append] at hr'
   rcases hr' with hr' | hr'
   ·exact h.gone r' hr'
   ·have : l[k]? = some (l.getD k 0) := by simp [List.getD, hk]
    rw [this, hr] at hr'
    simp at hr'
    exact absurd hr' e
 ·by_cases e : r' = r
  ·subst e; rw [upd_same]; exact h0
  ·rw [upd_other _ _ _ _ e]; exact h.none r' hr'
 ·by_cases e : k' = r
  ·subst e; rw [upd_same] at hx; exact h.mode k' x (settle_mem hx)
  ·rw [upd_other _ _ _ _ e] at hx; exact h.mode k' x hx
set_option maxRecDepth 20000 in
set_option maxHeartbeats 6400000 in
theorem pletAllGo {L : Lay} {bs : Nat → Nat} {A : List Nat} {ow : Ow} {m : Nat} {mu lv : Int} {s : St} {w : World} (h : PSt L bs A ow m mu lv s w) (i : Nat) (hi : i ∈ A) (tx0 : Nat → Tx) (lk0 : Int → Lk) (hF : FrM s.n tx0 lk0 i s.lk s.tx)
  (hrows : ∀ l : List Int, l.Nodup → (∀ k ∈ l, (s.lk k).h i ≠ 0) → l.length ≤ 16) (hmode : ∀ k x, x ∈ (s.lk k).q → x.2 ≠ 0) (hmm : m + 400 ≤ 1099511627776) :
  Calls Tryz.prog 127 #[.pointer (some ⟨L.p, 0, none⟩), .pointer (some ⟨bs i, 0, none⟩)] w fun e w' => ∃ lk' tx', e = .returned (.tuple #[]) ∧ PSt L bs A ow (m + 320) mu lv ((s.withLk lk').withTx tx') w' ∧ FrM s.n tx0 lk0 i lk' tx' ∧ (∀ k, (lk' k).h i = 0) ∧ Kept (OwnP ow) w w' := by
 obtain ⟨u, tv, wv, b1, c3, c6, c7, c4, b2⟩ := h.cells
 have hin := h.among i hi
 have hnum := (h.txs i hin.1 hin.2).number
 have hcon := rowsHeldBy_any L.p L.hb m (bs i) (i : Int) (holdF s.lk) w c6 h.hold hnum (holdF_ok h) (by omega)
 have HH : Hid (PSt L bs A ow m mu lv s w) := h
 have HF : Hid (FrM s.n tx0 lk0 i s.lk s.tx) := hF
 have HRS : Hid (∀ l : List Int, l.Nodup → (∀ k ∈ l, (s.lk k).h i ≠ 0) → l.length ≤ 16) := hrows
 have HMD : Hid (∀ k x, x ∈ (s.lk k).q → x.2 ≠ 0) := hmode
 clear b2 b1 h c3 c4 c7 hF hrows hmode
 go_enter Tryz.func127, Tryz.ntmps127
 go_wp2_with fail
 refine hcon.mono ?_
 rintro e w1 ⟨v, l, rfl, hown, hbl, hrl, hk⟩
 obtain ⟨ao, c, rfl⟩ := ownsRow_form hown
 have hl16 : l.length ≤ 16 := by
  refine HRS.out l (hrl.1.imp (fun {a b} h => by omega)) (fun k hk => ?_)
  have := (hrl.2 k).1 hk
  unfold holdF at this
  split at this
  ·rename_i h; simpa using h.2
  ·cases this
 have HO : Hid (w1.ownsRow 0 3 1 (.slice ao l.length c) l.length (l.map (Value.int .i64))) := hown
 have HBL : Hid (∀ b, (Value.slice ao l.length c).ownBlock = some b → w.heap.size ≤ b) := hbl
 have HRL : Hid (RowsL (holdF s.lk) (i : Int) l) := hrl
 have HK : Hid (Kept NoBlk w w1) := hk
 clear hown hbl hrl hk hcon c6 hnum
 have hn0 : ∀ b, w.heap.size ≤ b → ¬ OwnP ow b := fun b hb ho => by have := (HH.out : PSt L bs A ow m mu lv s w).lt b ho; omega
 have HN0 : Hid (∀ b, w.heap.size ≤ b → ¬ OwnP ow b) := hn0
 have HIN : Hid (1 ≤ i ∧ i ≤ s.n) := hin
 have HI : Hid (i ∈ A) := hi
 generalize hn : l.length = n at *
 have Hn : Hid (l.length = n) := hn
 clear hn hn0 hin
 go_wp2_with fail
 go_loopw [10] (fun v wr => ∃ (k : Nat) (lk1 : Int → Lk) (tx1 : Nat → Tx), k ≤ n ∧ v = .int .i64 (k : Int) ∧ GoneP L bs A ow mu lv s tx0 lk0 i w1 m l k lk1 tx1 wr) (fun v _ => n - (intOf v).toNat)
 case atStart =>
  have e : (s.withLk s.lk).withTx s.tx = s := rfl
  exact ⟨0, s.lk, s.tx, Nat.zero_le _, rfl, ⟨by rw [e]; exact (HH.out : PSt L bs A ow m mu lv s w).kept0 HK.out, HF.out, fun r hr => by simp at hr, fun r hr => hr, HMD.out, Kept.refl _ _⟩⟩
 case round =>
  obtain ⟨k, lk1, tx1, hk, rfl, hg⟩ := hrel
  have HG : Hid (GoneP L bs A ow mu lv s tx0 lk0 i w1 m l k lk1 tx1 wr) := hg
  by_cases hlt : k < n
  ·have hrowat : wr.ownsRow 0 3 1 (.slice ao n c) n (l.map (Value.int .i64)) := ownsRow_kept HO.out hg.kept (fun b hb ho => HN0.out b (HBL.out b hb) ho)
   have hRA := RowAt.owns hrowat
   have hkl : k < l.length := by rw [Hn.out]; exact hlt
   obtain ⟨g, rfl, hcell⟩ : ∃ g, ao = some ⟨g, 0, none⟩ ∧ wr.cell? ⟨g, k, none⟩ = some (.int .i64 (l.getD k 0)) := by
    obtain ⟨g, cap, hform, _, _⟩ := hrowat.form (by omega)
    simp only [Value.slice.injEq] at hform
    obtain ⟨rfl, _, rfl⟩ := hform
    refine ⟨g, rfl, ?_⟩
    have := hRA.cell (g := g) (off := 0) k (u := .int .i64 (l.getD k 0)) (by simp [List.getD, hkl])
    rw [Nat.zero_add] at this
    exact this
   generalize hr : l.getD k 0 = r at *
   have HR : Hid (l.getD k 0 = r) := hr
   have hmem : r ∈ l := by rw [← hr]; simp [List.getD, hkl]
   have hold : (s.lk r).h i ≠ 0 := by
    have := (HRL.out.2 r).1 hmem
    unfold holdF at this
    split at this
    ·rename_i h; simpa using h.2
    ·cases this
   have hir : inI r := ((HH.out : PSt L bs A ow m mu lv s w).hdom r i hold).1
   have hst0 : PSt L bs A ow (m + 20 * k) mu lv ((s.withLk lk1).withTx tx1) wr.drew := hg.st.of_same (Nat.le_refl _) (fun _ _ => rfl)
   obtain ⟨w2, hrun, hst2, hk2⟩ := hst0.dropH r i hir HI.out 0
   obtain ⟨_, _, _, _, _, c6, _, _, _⟩ := hg.st.cells
   have hnum := (hg.st.txs i HIN.out.1 HIN.out.2).number
   have HST2 : Hid (PSt L bs A ow (m + 20 * k) mu lv (((s.withLk lk1).withTx tx1).withLk (upd lk1 r ⟨upd (lk1 r).h i 0, (lk1 r).q⟩)) w2) := hst2
   have HMX : Hid (m + 400 ≤ 1099511627776) := hmm
   have HK2 : Hid (Kept (Blk L.hb) wr w2) := ⟨hk2.os, hk2.tape, hk2.output, hk2.size, hk2.block⟩
   have HKL : Hid (k < l.length) := hkl
   have HIR : Hid (inI r) := hir
   have hbl2 := World.block_lt_of_cell? _ _ hnum
   clear hg hst0 hst2 hk2 hrowat hRA hmem hold hr hir
   go_wp2_with fail
   go_region
   go_wp2_with fail
   have hst3 : PSt L bs A ow (m + 20 * k) mu lv (((s.withLk lk1).withTx tx1).withLk (upd lk1 r ⟨upd (lk1 r).h i 0, (lk1 r).q⟩)) w2 := HST2.out
   have hg3 : GoneP L bs A ow mu lv s tx0 lk0 i w1 m l k lk1 tx1 wr := HG.out
   have elk : (((s.withLk lk1).withTx tx1).withLk (upd lk1 r ⟨upd (lk1 r).h i 0, (lk1 r).q⟩)).lk r = ⟨upd (lk1 r).h i 0, (lk1 r).q⟩ := by show upd lk1 r _ r = _; rw [upd_same]
   have hq12 := hst3.queueLen r (by rw [elk]; exact hg3.fr.once r)
   refine (pgrant hst3 r HIR.out hq12 (by rw [elk]; exact hg3.mode r) (by have := HMX.out; unfold maxLen; omega)).mono ?_
   rintro e w3 ⟨pre, rfl, hpre, hst4, hk4⟩
   rw [elk] at hpre hst4
   have e4 : (((((s.withLk lk1).withTx tx1).withLk (upd lk1 r ⟨upd (lk1 r).h i 0, (lk1 r).q⟩)).withLk (upd (((s.withLk lk1).withTx tx1).withLk (upd lk1 r ⟨upd (lk1 r).h i 0, (lk1 r).q⟩)).lk r (settle (((s.withLk lk1).withTx tx1).withLk (upd lk1 r ⟨upd (lk1 r).h i 0, (lk1 r).q⟩)).n (upd (lk1 r).h i 0) (lk1 r).q))).withTx (clr pre (((s.withLk lk1).withTx tx1).withLk (upd lk1 r ⟨upd (lk1 r).h i 0, (lk1 r).q⟩)).tx))
     = (s.withLk (upd lk1 r (settle s.n (upd (lk1 r).h i 0) (lk1 r).q))).withTx (clr pre tx1) := by
    show (s.withLk (upd (upd lk1 r ⟨upd (lk1 r).h i 0, (lk1 r).q⟩) r (settle s.n (upd (lk1 r).h i 0) (lk1 r).q))).withTx (clr pre tx1) = _
    rw [upd_upd]
   rw [e4] at hst4
   have hn : OwnP ow L.hb := by unfold OwnP; rw [hst3.tags.2.2.1]; exact tagNe (by omega)
   have hkk : Kept (OwnP ow) w1 w3 := (hg3.kept.trans HK2.out (fun k e => by cases e; exact .inl hn)).trans' hk4
   have HGN : Hid (GoneP L bs A ow mu lv s tx0 lk0 i w1 m l (k + 1) (upd lk1 r (settle s.n (upd (lk1 r).h i 0) (lk1 r).q)) (clr pre tx1) w3) := hg3.next HKL.out HR.out hpre (hst4.mono (by omega)) hkk
   clear hst3 hg3 elk hq12 hpre hst4 e4 hk4 hkk
   go_wp2_with fail
   exact ⟨⟨k + 1, _, _, by omega, by go_num, HGN.out⟩, by simp [intOf]; omega⟩
  ·obtain rfl : k = n := by omega
   go_wp2_with fail
   go_end0
   refine ⟨lk1, tx1, rfl, HG.out.st.mono (by omega), HG.out.fr, fun r => ?_, HK.out.mono (fun _ x => x.elim) |>.trans' HG.out.kept⟩
   by_cases h0 : (s.lk r).h i = 0
   ·exact HG.out.none r h0
   ·refine HG.out.gone r ?_
    rw [← Hn.out, List.take_length]
    exact (HRL.out.2 r).2 (by simp [holdF, h0])
end Go.Proofs.YtmcajfefagdbnaaGreat
