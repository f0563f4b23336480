import Derived.Test.YtmcajfefagdbnaaGreatJ10
import Derived.Test.YtmcajfefagdbnaaGreatJ08
namespace Go.Proofs.YtmcajfefagdbnaaGreat
open Go Go.RowKit Go.Sort Go.Lib

theorem TxnAt.number {ow : Ow} {p : Nat} {w : World} {i b : Nat} {t : Tx} (h : TxnAt ow p w i b t) : w.cell? ⟨b, 0, none⟩ = some (.int .i64 (i : Int)) := by
  obtain ⟨ov, rv, dv, h1, _⟩ := h
  rw [cell_at h1]
  rfl

/-- A hold is struck. -/
theorem PSt.dropH {L : Lay} {bs : Nat → Nat} {A : List Nat} {ow : Ow} {m : Nat} {mu lv : Int} {s : St} {w : World} (h : PSt L bs A ow m mu lv s w) (k : Int) (i : Nat) (hk : inI k) (hi : i ∈ A) (ty : TypeId) :
    ∃ w', (Builtin.delete_ #[124, 168] ty #[.map (some L.hb), .agg #[.int .i64 k, .int .i64 (i : Int)]]).run Tryz.prog w = .ok (.tuple #[]) w' ∧ PSt L bs A ow m mu lv (s.withLk (upd s.lk k ⟨upd (s.lk k).h i 0, (s.lk k).q⟩)) w' ∧ Kept (Blk L.hb) w w' := by
  have hin := h.among i hi
  have hnm := h.nmax
  obtain ⟨w', hrun, hm', hkk, _⟩ := h.hold.drop Tryz.underlying124 (a := (k, (i : Int))) ⟨hk, inI_nat (by omega)⟩ ty
  have he : put (hvals (holdF s.lk)) (k, (i : Int)) none = hvals (holdF (upd s.lk k ⟨upd (s.lk k).h i 0, (s.lk k).q⟩)) := by
    rw [← holdF_drop]
    funext c
    simp only [put, hvals]
    split <;> rfl
  rw [he] at hm'
  refine ⟨w', hrun, h.turnHold hkk (Nat.le_refl _) hm' (fun k' => ?_) (fun k' j hj => ?_), hkk⟩
  · by_cases e : k' = k
    · subst e; rw [upd_same]
    · rw [upd_other _ _ _ _ e]
  · by_cases e : k' = k
    · subst e
      rw [upd_same] at hj
      by_cases e2 : j = i
      · subst e2; simp at hj
      · simp only [upd_other _ _ _ _ e2] at hj
        exact h.hdom _ _ hj
    · rw [upd_other _ _ _ _ e] at hj
      exact h.hdom _ _ hj

theorem settle_h_out {n : Nat} {h : Nat → Int} {q : List (Nat × Int)} {i : Nat} (hi : ∀ m, (i, m) ∉ q) : (settle n h q).h i = h i := by
  induction q generalizing h with
  | nil => rfl
  | cons x q ih =>
    obtain ⟨j, m⟩ := x
    have hij : i ≠ j := fun e => hi m (by rw [e]; exact List.mem_cons_self)
    have hi' : ∀ m, (i, m) ∉ q := fun m' hm => hi m' (List.mem_cons_of_mem _ hm)
    simp only [settle]
    split
    · rfl
    · rw [ih hi', upd_other _ _ _ _ hij]

theorem PSt.queueLen {L : Lay} {bs : Nat → Nat} {A : List Nat} {ow : Ow} {m : Nat} {mu lv : Int} {s : St} {w : World} (h : PSt L bs A ow m mu lv s w) (k : Int) (hq : ((s.lk k).q.map (·.1)).Nodup) : (s.lk k).q.length ≤ 12 := by
  have := nodup_len _ A hq (fun x hx => by
    obtain ⟨y, hy, rfl⟩ := List.mem_map.1 hx
    exact (h.qdom k y hy).2)
  have := h.few
  rw [List.length_map] at *
  omega

/-- Letting go, one row. -/
structure GoneP (L : Lay) (bs : Nat → Nat) (A : List Nat) (ow : Ow) (mu lv : Int) (s : St) (tx0 : Nat → Tx) (lk0 : Int → Lk) (i : Nat) (w1 : World) (m : Nat) (l : List Int) (k : Nat) (lk1 : Int → Lk) (tx1 : Nat → Tx) (wr : World) : Prop where
  st : PSt L bs A ow (m + 20 * k) mu lv ((s.withLk lk1).withTx tx1) wr
  fr : FrM s.n tx0 lk0 i lk1 tx1
  gone : ∀ r ∈ l.take k, (lk1 r).h i = 0
  none : ∀ r, (s.lk r).h i = 0 → (lk1 r).h i = 0
  mode : ∀ k x, x ∈ (lk1 k).q → x.2 ≠ 0
  kept : Kept (OwnP ow) w1 wr

theorem GoneP.next {L : Lay} {bs : Nat → Nat} {A : List Nat} {ow : Ow} {mu lv : Int} {s : St} {tx0 : Nat → Tx} {lk0 : Int → Lk} {i : Nat} {w1 : World} {m : Nat} {l : List Int} {k : Nat} {lk1 : Int → Lk} {tx1 : Nat → Tx} {wr : World} (h : GoneP L bs A ow mu lv s tx0 lk0 i w1 m l k lk1 tx1 wr) (hk : k < l.length) {r : Int} (hr : l.getD k 0 = r)
    {pre : List (Nat × Int)} {w' : World} (hpre : (lk1 r).q = pre ++ (settle s.n (upd (lk1 r).h i 0) (lk1 r).q).q) (hst : PSt L bs A ow (m + 20 * (k + 1)) mu lv ((s.withLk (upd lk1 r (settle s.n (upd (lk1 r).h i 0) (lk1 r).q))).withTx (clr pre tx1)) w') (hkk : Kept (OwnP ow) w1 w') :
    GoneP L bs A ow mu lv s tx0 lk0 i w1 m l (k + 1) (upd lk1 r (settle s.n (upd (lk1 r).h i 0) (lk1 r).q)) (clr pre tx1) w' := by
  have h0 : (settle s.n (upd (lk1 r).h i 0) (lk1 r).q).h i = 0 := by rw [settle_h_out (h.fr.out r), upd_same]
  refine ⟨hst, h.fr.next hpre, fun r' hr' => ?_, fun r' hr' => ?_, fun k' x hx => ?_, hkk⟩
  · by_cases e : r' = r
    · subst e; rw [upd_same]; exact h0
    · rw [upd_other _ _ _ _ e]
      rw [List.take_add_one, List.mem_append] at hr'
      rcases hr' with hr' | hr'
      · exact h.gone r' hr'
      · have : l[k]? = some (l.getD k 0) := by simp [List.getD, hk]
        rw [this, hr] at hr'
        simp at hr'
        exact absurd hr' e
  · by_cases e : r' = r
    · subst e; rw [upd_same]; exact h0
    · rw [upd_other _ _ _ _ e]; exact h.none r' hr'
  · by_cases e : k' = r
    · subst e; rw [upd_same] at hx; exact h.mode k' x (settle_mem hx)
    · rw [upd_other _ _ _ _ e] at hx; exact h.mode k' x hx

set_option maxRecDepth 20000 in
set_option maxHeartbeats 6400000 in
theorem pletAllGo {L : Lay} {bs : Nat → Nat} {A : List Nat} {ow : Ow} {m : Nat} {mu lv : Int} {s : St} {w : World} (h : PSt L bs A ow m mu lv s w) (i : Nat) (hi : i ∈ A) (tx0 : Nat → Tx) (lk0 : Int → Lk) (hF : FrM s.n tx0 lk0 i s.lk s.tx)
    (hrows : ∀ l : List Int, l.Nodup → (∀ k ∈ l, (s.lk k).h i ≠ 0) → l.length ≤ 16) (hmode : ∀ k x, x ∈ (s.lk k).q → x.2 ≠ 0) (hmm : m + 400 ≤ 1099511627776) :
    Calls Tryz.prog 127 #[.pointer (some ⟨L.p, 0, none⟩), .pointer (some ⟨bs i, 0, none⟩)] w fun e w' => ∃ lk' tx', e = .returned (.tuple #[]) ∧ PSt L bs A ow (m + 320) mu lv ((s.withLk lk').withTx tx') w' ∧ FrM s.n tx0 lk0 i lk' tx' ∧ (∀ k, (lk' k).h i = 0) ∧ Kept (OwnP ow) w w' := by
  obtain ⟨u, tv, wv, b1, c3, c6, c7, c4, b2⟩ := h.cells
  have hin := h.among i hi
  have hnum := (h.txs i hin.1 hin.2).number
  have hcon := rowsHeldBy_any L.p L.hb m (bs i) (i : Int) (holdF s.lk) w c6 h.hold hnum (holdF_ok h) (by omega)
  have HH : Hid (PSt L bs A ow m mu lv s w) := h
  have HF : Hid (FrM s.n tx0 lk0 i s.lk s.tx) := hF
  have HRS : Hid (∀ l : List Int, l.Nodup → (∀ k ∈ l, (s.lk k).h i ≠ 0) → l.length ≤ 16) := hrows
  have HMD : Hid (∀ k x, x ∈ (s.lk k).q → x.2 ≠ 0) := hmode
  clear b2 b1 h c3 c4 c7 hF hrows hmode
  go_enter Tryz.func127, Tryz.ntmps127
  go_wp2_with fail
  refine hcon.mono ?_
  rintro e w1 ⟨v, l, rfl, hown, hbl, hrl, hk⟩
  obtain ⟨ao, c, rfl⟩ := ownsRow_form hown
  have hl16 : l.length ≤ 16 := by
    refine HRS.out l (hrl.1.imp (fun {a b} h => by omega)) (fun k hk => ?_)
    have := (hrl.2 k).1 hk
    unfold holdF at this
    split at this
    · rename_i h; simpa using h.2
    · cases this
  have HO : Hid (w1.ownsRow 0 3 1 (.slice ao l.length c) l.length (l.map (Value.int .i64))) := hown
  have HBL : Hid (∀ b, (Value.slice ao l.length c).ownBlock = some b → w.heap.size ≤ b) := hbl
  have HRL : Hid (RowsL (holdF s.lk) (i : Int) l) := hrl
  have HK : Hid (Kept NoBlk w w1) := hk
  clear hown hbl hrl hk hcon c6 hnum
  have hn0 : ∀ b, w.heap.size ≤ b → ¬ OwnP ow b := fun b hb ho => by have := (HH.out : PSt L bs A ow m mu lv s w).lt b ho; omega
  have HN0 : Hid (∀ b, w.heap.size ≤ b → ¬ OwnP ow b) := hn0
  have HIN : Hid (1 ≤ i ∧ i ≤ s.n) := hin
  have HI : Hid (i ∈ A) := hi
  generalize hn : l.length = n at *
  have Hn : Hid (l.length = n) := hn
  clear hn hn0 hin
  go_wp2_with fail
  go_loopw [10] (fun v wr => ∃ (k : Nat) (lk1 : Int → Lk) (tx1 : Nat → Tx), k ≤ n ∧ v = .int .i64 (k : Int) ∧ GoneP L bs A ow mu lv s tx0 lk0 i w1 m l k lk1 tx1 wr) (fun v _ => n - (intOf v).toNat)
  case atStart =>
    have e : (s.withLk s.lk).withTx s.tx = s := rfl
    exact ⟨0, s.lk, s.tx, Nat.zero_le _, rfl, ⟨by rw [e]; exact (HH.out : PSt L bs A ow m mu lv s w).kept0 HK.out, HF.out, fun r hr => by simp at hr, fun r hr => hr, HMD.out, Kept.refl _ _⟩⟩
  case round =>
    obtain ⟨k, lk1, tx1, hk, rfl, hg⟩ := hrel
    have HG : Hid (GoneP L bs A ow mu lv s tx0 lk0 i w1 m l k lk1 tx1 wr) := hg
    by_cases hlt : k < n
    · have hrowat : wr.ownsRow 0 3 1 (.slice ao n c) n (l.map (Value.int .i64)) := ownsRow_kept HO.out hg.kept (fun b hb ho => HN0.out b (HBL.out b hb) ho)
      have hRA := RowAt.owns hrowat
      have hkl : k < l.length := by rw [Hn.out]; exact hlt
      obtain ⟨g, rfl, hcell⟩ : ∃ g, ao = some ⟨g, 0, none⟩ ∧ wr.cell? ⟨g, k, none⟩ = some (.int .i64 (l.getD k 0)) := by
        obtain ⟨g, cap, hform, _, _⟩ := hrowat.form (by omega)
        simp only [Value.slice.injEq] at hform
        obtain ⟨rfl, _, rfl⟩ := hform
        refine ⟨g, rfl, ?_⟩
        have := hRA.cell (g := g) (off := 0) k (u := .int .i64 (l.getD k 0)) (by simp [List.getD, hkl])
        rw [Nat.zero_add] at this
        exact this
      generalize hr : l.getD k 0 = r at *
      have HR : Hid (l.getD k 0 = r) := hr
      have hmem : r ∈ l := by rw [← hr]; simp [List.getD, hkl]
      have hold : (s.lk r).h i ≠ 0 := by
        have := (HRL.out.2 r).1 hmem
        unfold holdF at this
        split at this
        · rename_i h; simpa using h.2
        · cases this
      have hir : inI r := ((HH.out : PSt L bs A ow m mu lv s w).hdom r i hold).1
      have hst0 : PSt L bs A ow (m + 20 * k) mu lv ((s.withLk lk1).withTx tx1) wr.drew := hg.st.of_same (Nat.le_refl _) (fun _ _ => rfl)
      obtain ⟨w2, hrun, hst2, hk2⟩ := hst0.dropH r i hir HI.out 0
      obtain ⟨_, _, _, _, _, c6, _, _, _⟩ := hg.st.cells
      have hnum := (hg.st.txs i HIN.out.1 HIN.out.2).number
      have HST2 : Hid (PSt L bs A ow (m + 20 * k) mu lv (((s.withLk lk1).withTx tx1).withLk (upd lk1 r ⟨upd (lk1 r).h i 0, (lk1 r).q⟩)) w2) := hst2
      have HMX : Hid (m + 400 ≤ 1099511627776) := hmm
      have HK2 : Hid (Kept (Blk L.hb) wr w2) := ⟨hk2.os, hk2.tape, hk2.output, hk2.size, hk2.block⟩
      have HKL : Hid (k < l.length) := hkl
      have HIR : Hid (inI r) := hir
      have hbl2 := World.block_lt_of_cell? _ _ hnum
      clear hg hst0 hst2 hk2 hrowat hRA hmem hold hr hir
      go_wp2_with fail
      go_region
      go_wp2_with fail
      have hst3 : PSt L bs A ow (m + 20 * k) mu lv (((s.withLk lk1).withTx tx1).withLk (upd lk1 r ⟨upd (lk1 r).h i 0, (lk1 r).q⟩)) w2 := HST2.out
      have hg3 : GoneP L bs A ow mu lv s tx0 lk0 i w1 m l k lk1 tx1 wr := HG.out
      have elk : (((s.withLk lk1).withTx tx1).withLk (upd lk1 r ⟨upd (lk1 r).h i 0, (lk1 r).q⟩)).lk r = ⟨upd (lk1 r).h i 0, (lk1 r).q⟩ := by show upd lk1 r _ r = _; rw [upd_same]
      have hq12 := hst3.queueLen r (by rw [elk]; exact hg3.fr.once r)
      refine (pgrant hst3 r HIR.out hq12 (by rw [elk]; exact hg3.mode r) (by have := HMX.out; unfold maxLen; omega)).mono ?_
      rintro e w3 ⟨pre, rfl, hpre, hst4, hk4⟩
      rw [elk] at hpre hst4
      have e4 : (((((s.withLk lk1).withTx tx1).withLk (upd lk1 r ⟨upd (lk1 r).h i 0, (lk1 r).q⟩)).withLk (upd (((s.withLk lk1).withTx tx1).withLk (upd lk1 r ⟨upd (lk1 r).h i 0, (lk1 r).q⟩)).lk r (settle (((s.withLk lk1).withTx tx1).withLk (upd lk1 r ⟨upd (lk1 r).h i 0, (lk1 r).q⟩)).n (upd (lk1 r).h i 0) (lk1 r).q))).withTx (clr pre (((s.withLk lk1).withTx tx1).withLk (upd lk1 r ⟨upd (lk1 r).h i 0, (lk1 r).q⟩)).tx))
          = (s.withLk (upd lk1 r (settle s.n (upd (lk1 r).h i 0) (lk1 r).q))).withTx (clr pre tx1) := by
        show (s.withLk (upd (upd lk1 r ⟨upd (lk1 r).h i 0, (lk1 r).q⟩) r (settle s.n (upd (lk1 r).h i 0) (lk1 r).q))).withTx (clr pre tx1) = _
        rw [upd_upd]
      rw [e4] at hst4
      have hn : OwnP ow L.hb := by unfold OwnP; rw [hst3.tags.2.2.1]; exact tagNe (by omega)
      have hkk : Kept (OwnP ow) w1 w3 := (hg3.kept.trans HK2.out (fun k e => by cases e; exact .inl hn)).trans' hk4
      have HGN : Hid (GoneP L bs A ow mu lv s tx0 lk0 i w1 m l (k + 1) (upd lk1 r (settle s.n (upd (lk1 r).h i 0) (lk1 r).q)) (clr pre tx1) w3) := hg3.next HKL.out HR.out hpre (hst4.mono (by omega)) hkk
      clear hst3 hg3 elk hq12 hpre hst4 e4 hk4 hkk
      go_wp2_with fail
      exact ⟨⟨k + 1, _, _, by omega, by go_num, HGN.out⟩, by simp [intOf]; omega⟩
    · obtain rfl : k = n := by omega
      go_wp2_with fail
      go_end0
      refine ⟨lk1, tx1, rfl, HG.out.st.mono (by omega), HG.out.fr, fun r => ?_, HK.out.mono (fun _ x => x.elim) |>.trans' HG.out.kept⟩
      by_cases h0 : (s.lk r).h i = 0
      · exact HG.out.none r h0
      · refine HG.out.gone r ?_
        rw [← Hn.out, List.take_length]
        exact (HRL.out.2 r).2 (by simp [holdF, h0])

end Go.Proofs.YtmcajfefagdbnaaGreat

namespace Go.Proofs.YtmcajfefagdbnaaGreat
open Go Go.RowKit Go.Sort Go.Lib

/-- The closure: is it this transaction's lock? bx: the box that holds the pointer; t: the transaction. -/
def IsBox (w : World) (bx t : Nat) (i : Int) : Prop := w.cell? ⟨bx, 0, none⟩ = some (.pointer (some ⟨t, 0, none⟩)) ∧ w.cell? ⟨t, 0, none⟩ = some (.int .i64 i)

theorem IsBox.kept {w w' : World} {bx t : Nat} {i : Int} {S : Nat → Prop} (h : IsBox w bx t i) (hk : Kept S w w') (h1 : ¬ S bx) (h2 : ¬ S t) : IsBox w' bx t i := ⟨hk.cell h.1 h1, hk.cell h.2 h2⟩

theorem mine_ok (bx t : Nat) (i : Int) (x : Int × Int) (w : World) (h : IsBox w bx t i) :
    Calls Tryz.prog 170 #[.agg #[.int .i64 x.1, .int .i64 x.2], .pointer (some ⟨bx, 0, none⟩)] w fun e w' => e = .returned (.bool (x.1 == i)) ∧ Kept NoBlk w w' := by
  obtain ⟨x1, x2⟩ := x
  obtain ⟨h1, h2⟩ := h
  have l1 := World.block_lt_of_cell? w _ h1
  have l2 := World.block_lt_of_cell? w _ h2
  have HK : Hid (∀ o1, Kept NoBlk w (w.alloc o1)) := fun o1 => (Kept.refl _ _).alloc _
  have HK2 : Hid (∀ o1, Kept NoBlk w (w.alloc o1).drew) := fun o1 => ((Kept.refl _ _).alloc _).drew
  go_enter Tryz.func170, Tryz.ntmps170
  go_wp2_with fail
  first
    | (go_region
       go_wp2_with fail
       go_ret
       exact ⟨rfl, HK2.out _⟩)
    | (go_ret
       exact ⟨rfl, HK.out _⟩)

set_option maxHeartbeats 1600000 in
theorem indexFunc_any (ao : Option Addr) (c bx t : Nat) (i : Int) (l : List (Int × Int)) (w : World) (hl : LksAt w ao l) (hc : l.length ≤ 1099511627776) (hb : IsBox w bx t i) :
    Calls Tryz.prog 186 #[.slice ao l.length c, .func (.func 170) #[] #[.pointer (some ⟨bx, 0, none⟩)]] w fun e w' => ∃ k : Int, e = .returned (.int .i64 k) ∧ Kept NoBlk w w' ∧
      ((k = -1 ∧ ∀ x ∈ l, x.1 ≠ i) ∨ ∃ k0 : Nat, k = (k0 : Int) ∧ k0 < l.length ∧ (l.getD k0 (0, 0)).1 = i ∧ ∀ x ∈ l.take k0, x.1 ≠ i) := by
  have HL : Hid (LksAt w ao l) := hl
  have HB : Hid (IsBox w bx t i) := hb
  generalize hn : l.length = n at *
  have Hn : Hid (l.length = n) := hn
  clear hn hl hb
  go_enter Tryz.func186, Tryz.ntmps186
  go_wp2_with fail
  go_loopw [8] (fun v wr => ∃ k : Nat, k ≤ n ∧ v = .int .i64 (k : Int) ∧ (∀ x ∈ l.take k, x.1 ≠ i) ∧ Kept NoBlk w wr) (fun v _ => n - (intOf v).toNat)
  case atStart => exact ⟨0, Nat.zero_le _, rfl, fun x hx => by simp at hx, Kept.refl _ _⟩
  case round =>
    obtain ⟨k, hk, rfl, hno, hkw⟩ := hrel
    have HNO : Hid (∀ x ∈ l.take k, x.1 ≠ i) := hno
    have HKW : Hid (Kept NoBlk w wr) := hkw
    clear hno
    by_cases hlt : k < n
    · have hkl : k < l.length := by rw [Hn.out]; exact hlt
      obtain ⟨g, off, rfl, g0, g1⟩ := (LksAt.kept HL.out hkw (fun _ _ x => x)) k hkl
      have hbx : IsBox wr bx t i := IsBox.kept HB.out hkw (fun x => x) (fun x => x)
      have HBX : Hid (IsBox wr bx t i) := hbx
      generalize hx : l.getD k (0, 0) = x at *
      have Hx : Hid (l.getD k (0, 0) = x) := hx
      have HKL : Hid (k < l.length) := hkl
      clear hx hkw hkl hbx
      go_wp2_with fail
      refine (mine_ok bx t i x wr HBX.out).mono ?_
      rintro e w2 ⟨rfl, hk2⟩
      have HK2 : Hid (Kept NoBlk w w2) := HKW.out.trans' hk2
      clear hk2 g0 g1
      cases hcf : (x.1 == i)
      · go_wp2_with fail
        refine ⟨⟨k + 1, by omega, by go_num, ?_, HK2.out⟩, by simp [intOf]; omega⟩
        intro y hy
        rw [List.take_add_one, List.mem_append] at hy
        rcases hy with hy | hy
        · exact HNO.out y hy
        · have : l[k]? = some (l.getD k (0, 0)) := by have := HKL.out; simp [List.getD, this]
          rw [this, Hx.out] at hy
          simp at hy
          rw [hy]
          exact beq_eq_false_iff_ne.1 hcf
      · go_wp2_with fail
        go_ret
        exact ⟨(k : Int), rfl, HK2.out, .inr ⟨k, rfl, hlt, by have := Hx.out; rw [this]; exact beq_iff_eq.1 hcf, HNO.out⟩⟩
    · obtain rfl : k = n := by omega
      go_wp2_with fail
      go_ret
      have := HNO.out
      rw [← Hn.out, List.take_length] at this
      exact ⟨-1, rfl, HKW.out, .inl ⟨rfl, this⟩⟩

theorem size_zc (z : Array Value) (n : Nat) : (Builtin.zeroCells z n).size = n * z.size := size_zeroCells z n

theorem zeroCells_one : ∀ n, ∀ u ∈ (Builtin.zeroCells (Value.agg #[.int .i64 0, .int .i64 0]).cells n).toList, u.oneCell' = true := by
  intro n u hu
  simp only [Builtin.zeroCells, Array.toList_map, List.mem_map] at hu
  obtain ⟨k, _, rfl⟩ := hu
  have : k % 2 = 0 ∨ k % 2 = 1 := by omega
  rcases this with h | h <;> (simp [Value.cells, h]; rfl)

/-- clear, of a part of a block. -/
theorem run_clear_row {P : Program} (w : World) (t e e' ty : TypeId) (z : Value) (size : Nat) (ht : P.underlying t = some (.slice e)) (hv : ∀ w, (zeroValue e).run P w = .ok z w) (hz : z.cells.size = size) (h1 : ∀ n, ∀ u ∈ (Builtin.zeroCells z.cells n).toList, u.oneCell' = true) (g off n c : Nat) (cur : Array Value) (hg : w.heap[g]? = some (.cells cur e' (0, 0))) (hn : 0 < n) (hfit : off + n * size ≤ cur.size) :
    ∃ cur', (Builtin.clear_ #[t] ty #[.slice (some ⟨g, off, none⟩) n c]).run P w = .ok (.tuple #[]) (w.setRow g cur') ∧ cur'.size = cur.size ∧ ∀ j, j < off → cur'[j]? = cur[j]? := by
  have hlen : (Builtin.zeroCells z.cells n).toList.length = n * size := by rw [Array.length_toList, size_zc, hz]
  have hst := run_storeCells_at P g off e' (Builtin.zeroCells z.cells n).toList 0 cur w hg (by rw [hlen]; omega) (h1 n)
  simp only [Nat.add_zero] at hst
  refine ⟨(cur.toList.take off ++ (Builtin.zeroCells z.cells n).toList ++ cur.toList.drop (off + (Builtin.zeroCells z.cells n).toList.length)).toArray, ?_, ?_, ?_⟩
  · obtain ⟨m, rfl⟩ : ∃ m, n = m + 1 := ⟨n - 1, by omega⟩
    simp [Builtin.clear_, run_underlying ht, hv, hst]
  · rw [hlen]
    rw [List.size_toArray, List.length_append, List.length_append, hlen, List.length_take, List.length_drop, Array.length_toList]
    omega
  · intro j hj
    simp only [List.getElem?_toArray]
    rw [List.append_assoc, List.getElem?_append_left (by simp; omega), List.getElem?_take_of_lt hj]
    simp

/-- A cell of a list is written. -/
theorem RowAt.setAt {w : World} {e : TypeId} {size n g off c : Nat} {xs : List Value} (h : RowAt w e size (.slice (some ⟨g, off, none⟩) n c) n xs) (j : Nat) (hj : j < xs.length) (v : Value) : RowAt (w.setCell ⟨g, off + j, none⟩ v) e size (.slice (some ⟨g, off, none⟩) n c) n (xs.set j v) := by
  have hl := h.1
  rcases h.2 with ⟨h0, _⟩ | ⟨g', off', cap', cur, h0, hg, h1, h2, h3, h4⟩
  · cases h0
  · simp only [Value.slice.injEq, Option.some.injEq, Addr.mk.injEq, and_true, true_and] at h0
    obtain ⟨⟨rfl, rfl⟩, rfl⟩ := h0
    refine ⟨by rw [List.length_set]; exact hl, .inr ⟨g, off, c, _, rfl, block_setCell hg v, h1, h2, by simpa using h3, fun k u hu => ?_⟩⟩
    by_cases e : k = j
    · subst e
      rw [List.getElem?_set_self hj] at hu
      have hjc : off + k < cur.size := by
        have := h4 k xs[k] (by simp)
        exact (Array.getElem?_eq_some_iff.1 this).1
      rw [Array.getElem?_setIfInBounds_self_of_lt hjc]
      exact hu
    · rw [List.getElem?_set_ne (fun e' => e e'.symm)] at hu
      rw [Array.getElem?_setIfInBounds_ne (by omega)]
      exact h4 k u hu

theorem lkc_set (l : List (Int × Int)) : ∀ (k : Nat) (x y : Int), k < l.length → lkc (l.set k (x, y)) = ((lkc l).set (k * 2) (.int .i64 x)).set (k * 2 + 1) (.int .i64 y) := by
  induction l with
  | nil => intro k x y hk; simp at hk
  | cons o l ih =>
    intro k x y hk
    cases k with
    | zero => simp [lkc]
    | succ k =>
      have := ih k x y (by simpa using hk)
      rw [show (k + 1) * 2 = k * 2 + 1 + 1 from by omega]
      simp only [lkc, List.set_cons_succ, List.flatMap_cons, List.cons_append, List.nil_append, List.cons.injEq, true_and] at this ⊢
      exact this

theorem RowAt.set2 {w : World} {n g off c : Nat} {l : List (Int × Int)} (h : RowAt w 107 2 (.slice (some ⟨g, off, none⟩) n c) n (lkc l)) (k : Nat) (hk : k < l.length) (x y : Int) :
    RowAt ((w.setCell ⟨g, off + k * 2, none⟩ (.int .i64 x)).setCell ⟨g, off + k * 2 + 1, none⟩ (.int .i64 y)) 107 2 (.slice (some ⟨g, off, none⟩) n c) n (lkc (l.set k (x, y))) := by
  rw [lkc_set l k x y hk]
  have h1 := h.setAt (k * 2) (by rw [lkc_len]; omega) (.int .i64 x)
  have h2 := h1.setAt (k * 2 + 1) (by rw [List.length_set, lkc_len]; omega) (.int .i64 y)
  rw [← Nat.add_assoc] at h2
  exact h2

/-- What the walk of DeleteFunc keeps. -/
structure DelInv (l : List (Int × Int)) (i : Int) (n ci j : Nat) (l' : List (Int × Int)) : Prop where
  lt : ci < j
  le : j ≤ n
  len : l'.length = n
  low : l'.take ci = (l.take j).filter fun x => x.1 != i
  high : l'.drop j = l.drop j

theorem DelInv.start {l : List (Int × Int)} {i : Int} {k0 : Nat} (hk : k0 < l.length) (hi : (l.getD k0 (0, 0)).1 = i) (hno : ∀ x ∈ l.take k0, x.1 ≠ i) : DelInv l i l.length k0 (k0 + 1) l := by
  refine ⟨by omega, by omega, rfl, ?_, rfl⟩
  rw [List.take_add_one, List.filter_append, List.filter_eq_self.2 (fun x hx => by simpa using hno x hx)]
  have : l[k0]? = some (l.getD k0 (0, 0)) := by simp [List.getD, hk]
  rw [this]
  generalize l.getD k0 (0, 0) = x at *
  simp [hi]

theorem DelInv.at {l : List (Int × Int)} {i : Int} {n ci j : Nat} {l' : List (Int × Int)} (h : DelInv l i n ci j l') : l'.getD j (0, 0) = l.getD j (0, 0) := by
  have := congrArg (fun x => x[0]?) h.high
  simp only [List.getElem?_drop, Nat.add_zero] at this
  simp [List.getD, this]

theorem drop_succ_of {α : Type} {l l' : List α} {j : Nat} (h : l'.drop j = l.drop j) : l'.drop (j + 1) = l.drop (j + 1) := by
  rw [← List.drop_drop, ← List.drop_drop, h]

theorem DelInv.skip {l : List (Int × Int)} {i : Int} {n ci j : Nat} {l' : List (Int × Int)} (h : DelInv l i n ci j l') (hl : l.length = n) (hj : j < n) (hx : (l.getD j (0, 0)).1 = i) : DelInv l i n ci (j + 1) l' := by
  refine ⟨by have := h.lt; omega, by omega, h.len, ?_, drop_succ_of h.high⟩
  rw [h.low, List.take_add_one, List.filter_append]
  have : l[j]? = some (l.getD j (0, 0)) := by simp [List.getD, show j < l.length by omega]
  rw [this]
  generalize l.getD j (0, 0) = x at *
  simp [hx]

theorem DelInv.keep {l : List (Int × Int)} {i : Int} {n ci j : Nat} {l' : List (Int × Int)} (h : DelInv l i n ci j l') (hl : l.length = n) (hj : j < n) (hx : (l.getD j (0, 0)).1 ≠ i) : DelInv l i n (ci + 1) (j + 1) (l'.set ci (l.getD j (0, 0))) := by
  have hlt := h.lt
  refine ⟨by omega, by omega, by rw [List.length_set]; exact h.len, ?_, ?_⟩
  · rw [List.take_add_one, List.take_set_of_le (Nat.le_refl _), h.low, List.take_add_one, List.filter_append]
    have e1 : l[j]? = some (l.getD j (0, 0)) := by simp [List.getD, show j < l.length by omega]
    have e2 : (l'.set ci (l.getD j (0, 0)))[ci]? = some (l.getD j (0, 0)) := List.getElem?_set_self (by rw [h.len]; omega)
    rw [e1, e2]
    have : ((l.getD j (0, 0)).1 != i) = true := by simpa using hx
    generalize l.getD j (0, 0) = x at *
    simp [this]
  · rw [List.drop_set_of_lt (by omega)]
    exact drop_succ_of h.high

theorem zeroLk (w : World) : (zeroValue 107).run Tryz.prog w = .ok (.agg #[.int .i64 0, .int .i64 0]) w := by kernel_rfl

set_option maxHeartbeats 3200000 in
theorem deleteFunc_any (g off n c bx t : Nat) (i : Int) (l : List (Int × Int)) (w : World) (hr : RowAt w 107 2 (.slice (some ⟨g, off, none⟩) n c) n (lkc l)) (hn : n ≤ 1099511627776) (hb : IsBox w bx t i) (hbg : bx ≠ g) (htg : t ≠ g) (hin : ∃ x ∈ l, x.1 = i) :
    Calls Tryz.prog 169 #[.slice (some ⟨g, off, none⟩) n c, .func (.func 170) #[] #[.pointer (some ⟨bx, 0, none⟩)]] w fun e w' => ∃ k, e = .returned (.slice (some ⟨g, off, none⟩) k c) ∧ RowAt w' 107 2 (.slice (some ⟨g, off, none⟩) k c) k (lkc (l.filter fun x => x.1 != i)) ∧ Kept (Blk g) w w' := by
  have hlen : l.length = n := by have := hr.1; rw [lkc_len] at this; omega
  have hcon := indexFunc_any (some ⟨g, off, none⟩) c bx t i l w hr.lks (by omega) hb
  rw [hlen] at hcon
  have HR : Hid (RowAt w 107 2 (.slice (some ⟨g, off, none⟩) n c) n (lkc l)) := hr
  have HB : Hid (IsBox w bx t i) := hb
  clear hr hb
  go_enter Tryz.func169, Tryz.ntmps169
  go_wp2_with fail
  refine hcon.mono ?_
  rintro e w1 ⟨k, rfl, hk1, hk⟩
  obtain ⟨k0, rfl, hk0, hki, hkno⟩ : ∃ k0 : Nat, k = (k0 : Int) ∧ k0 < n ∧ (l.getD k0 (0, 0)).1 = i ∧ ∀ x ∈ l.take k0, x.1 ≠ i := by
    rcases hk with ⟨_, h⟩ | h
    · obtain ⟨x, h1, h2⟩ := hin
      exact absurd h2 (h x h1)
    · exact h
  have hne : ¬ ((k0 : Int) = -1) := by omega
  have hne2 : ((k0 : Int) == -1) = false := beq_eq_false_iff_ne.2 (by omega)
  have HST : Hid (DelInv l i n k0 (k0 + 1) l) := by
    have := DelInv.start (by omega) hki hkno
    rw [hlen] at this
    exact this
  have HK1 : Hid (Kept (Blk g) w w1) := hk1.mono (fun _ x => x.elim)
  have HR1 : Hid (RowAt w1 107 2 (.slice (some ⟨g, off, none⟩) n c) n (lkc l)) := RowAt.kept HR.out hk1 (fun _ _ x => x)
  have HBG : Hid (bx ≠ g ∧ t ≠ g) := ⟨hbg, htg⟩
  have HLN : Hid (l.length = n) := hlen
  clear hcon hk hki hkno hk1 hin
  go_wp2_with fail
  go_loopw [5, 6] (fun a b wr => ∃ (ci j : Nat) (l' : List (Int × Int)), a = .int .i64 (ci : Int) ∧ b = .int .i64 (j : Int) ∧ DelInv l i n ci j l' ∧ RowAt wr 107 2 (.slice (some ⟨g, off, none⟩) n c) n (lkc l') ∧ Kept (Blk g) w wr) (fun _ b _ => n - (intOf b).toNat)
  case atStart => exact ⟨k0, k0 + 1, l, rfl, by go_num, HST.out, HR1.out, HK1.out⟩
  case round =>
    obtain ⟨ci, j, l', rfl, rfl, hinv, hrow, hkw⟩ := hrel
    have hcj := hinv.lt
    have hjn := hinv.le
    have HINV : Hid (DelInv l i n ci j l') := hinv
    have HROW : Hid (RowAt wr 107 2 (.slice (some ⟨g, off, none⟩) n c) n (lkc l')) := hrow
    have HKW : Hid (Kept (Blk g) w wr) := hkw
    have HBX : Hid (IsBox wr bx t i) := IsBox.kept HB.out hkw (fun e => HBG.out.1 e) (fun e => HBG.out.2 e)
    have hgl : g < wr.heap.size := hrow.lt g rfl
    by_cases hlt : j < n
    · obtain ⟨g', off', hgo, g0, g1⟩ := hrow.lks j (by rw [hinv.len]; exact hlt)
      obtain ⟨g2', off2', hgo2, i0, i1⟩ := hrow.lks ci (by rw [hinv.len]; omega)
      simp only [Option.some.injEq, Addr.mk.injEq, and_true] at hgo hgo2
      obtain ⟨rfl, rfl⟩ := hgo
      obtain ⟨rfl, rfl⟩ := hgo2
      rw [hinv.at] at g0 g1
      generalize hx : l.getD j (0, 0) = x at *
      have Hx : Hid (l.getD j (0, 0) = x) := hx
      generalize l'.getD ci (0, 0) = y at *
      have f0 := hrow.unfrozen (off + ci * 2)
      have f1 := hrow.unfrozen (off + ci * 2 + 1)
      clear hx hinv hrow hkw
      go_wp2_with fail
      refine (mine_ok bx t i x _ (IsBox.kept HBX.out ((Kept.refl NoBlk wr).alloc _) (fun x => x) (fun x => x))).mono ?_
      rintro e w2 ⟨rfl, hk2⟩
      have hk3 : Kept NoBlk wr w2 := ((Kept.refl NoBlk wr).alloc _).trans' hk2
      have hbox := hk2.heap (block_alloc_new wr _) (fun x => x)
      have b0 : w2.cell? ⟨wr.heap.size, 0, none⟩ = some (.int .i64 x.1) := by rw [cell_at hbox]; rfl
      have b1 : w2.cell? ⟨wr.heap.size, 1, none⟩ = some (.int .i64 x.2) := by rw [cell_at hbox]; rfl
      have i0' := hk3.cell0 i0
      have i1' := hk3.cell0 i1
      have hrow2 : RowAt w2 107 2 (.slice (some ⟨g, off, none⟩) n c) n (lkc l') := RowAt.kept HROW.out hk3 (fun _ _ x => x)
      have f0' := hrow2.unfrozen (off + ci * 2)
      have f1' := hrow2.unfrozen (off + ci * 2 + 1)
      have HROW2 : Hid (RowAt w2 107 2 (.slice (some ⟨g, off, none⟩) n c) n (lkc l')) := hrow2
      have HKW2 : Hid (Kept (Blk g) w w2) := HKW.out.trans hk3 (fun _ x => x.elim)
      have hgl2 := hrow2.lt g rfl
      have hwg : wr.heap.size ≠ g := by omega
      clear hk2 hk3 hbox hrow2 g0 g1 i0 i1 f0 f1
      cases hcf : (x.1 == i)
      · go_wp2_with fail
        have hset := RowAt.set2 HROW2.out ci (by rw [HINV.out.len]; omega) x.1 x.2
        have hkp := HINV.out.keep HLN.out hlt (by rw [Hx.out]; exact beq_eq_false_iff_ne.1 hcf)
        rw [Hx.out] at hkp
        exact ⟨⟨ci + 1, j + 1, _, by go_num, by go_num, hkp, hset, ((HKW2.out.trans' (Kept.set1 _ g _ _)).trans' (Kept.set1 _ g _ _))⟩, by simp [intOf]; omega⟩
      · go_wp2_with fail
        exact ⟨⟨ci, j + 1, l', rfl, by go_num, HINV.out.skip HLN.out hlt (by rw [Hx.out]; exact beq_iff_eq.1 hcf), HROW2.out, HKW2.out⟩, by simp [intOf]; omega⟩
    · obtain rfl : j = n := by omega
      obtain ⟨cur, hgc⟩ := hrow.block (k := g) rfl
      have hfit : off + ci * 2 + (j - ci) * 2 ≤ cur.size ∧ j ≤ c := by
        rcases hrow.2 with ⟨h0, _⟩ | ⟨g', off', cap', cur', h0, hg, h1, h2, h3, h4⟩
        · cases h0
        · simp only [Value.slice.injEq, Option.some.injEq, Addr.mk.injEq, and_true, true_and] at h0
          obtain ⟨⟨rfl, rfl⟩, rfl⟩ := h0
          rw [hgc] at hg
          simp only [Option.some.injEq, Obj.cells.injEq, and_true] at hg
          subst hg
          exact ⟨by omega, h1⟩
      obtain ⟨cur', hcl, hcs, hcl2⟩ := run_clear_row (P := Tryz.prog) wr 74 107 107 0 (.agg #[.int .i64 0, .int .i64 0]) 2 Tryz.underlying74 (fun w => zeroLk w) rfl zeroCells_one g (off + ci * 2) (j - ci) (c - ci) cur hgc (by omega) hfit.1
      · have hcc := hfit.2
        have HF : Hid (RowAt (wr.setRow g cur') 107 2 (.slice (some ⟨g, off, none⟩) ci c) ci (lkc (l.filter fun x => x.1 != i))) := by
          have hfl : l'.take ci = l.filter fun x => x.1 != i := by rw [hinv.low, ← HLN.out, List.take_length]
          rw [← hfl]
          rcases hrow.2 with ⟨h0, _⟩ | ⟨g', off', cap', cur2, h0, hg, h1, h2, h3, h4⟩
          · cases h0
          · simp only [Value.slice.injEq, Option.some.injEq, Addr.mk.injEq, and_true, true_and] at h0
            obtain ⟨⟨rfl, rfl⟩, rfl⟩ := h0
            rw [hgc] at hg
            simp only [Option.some.injEq, Obj.cells.injEq, and_true] at hg
            subst hg
            have hll : (l'.take ci).length = ci := by rw [List.length_take, hinv.len]; omega
            refine ⟨by rw [lkc_len, hll], .inr ⟨g, off, c, cur', rfl, setRow_heap wr g cur _ _ _ hgc, by omega, h2, by omega, fun q u hu => ?_⟩⟩
            have hq : q < ci * 2 := by have := (List.getElem?_eq_some_iff.1 hu).1; rw [lkc_len, hll] at this; exact this
            rw [hcl2 (off + q) (by omega)]
            refine h4 q u ?_
            have e1 : lkc l' = lkc (l'.take ci) ++ lkc (l'.drop ci) := by simp only [lkc]; rw [← List.flatMap_append, List.take_append_drop]
            rw [e1, List.getElem?_append_left (by rw [lkc_len, hll]; exact hq)]
            exact hu
        have HK : Hid (Kept (Blk g) w (wr.setRow g cur')) := HKW.out.trans' ⟨rfl, rfl, rfl, by simp [World.setRow], fun k _ hk => setRow_other wr g k _ (fun e => hk e)⟩
        clear hinv hrow hkw hcs hcl2 hgc hfit
        go_wp2_with fail
        go_ret
        exact ⟨ci, rfl, HF.out, HK.out⟩

end Go.Proofs.YtmcajfefagdbnaaGreat
