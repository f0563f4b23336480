import Derived.Test.YtmcajfefagdbnaaGreatLKCall
import Derived.Test.YtmcajfefagdbnaaGreatLKSame
import Derived.Test.YtmcajfefagdbnaaGreatLPRows
import Derived.Test.YtmcajfefagdbnaaGreatLPLocks
namespace Go.Proofs.YtmcajfefagdbnaaGreat
open Go Go.RowKit
theorem keys_eq {f : Int → Option Int} {a b : List Int} (ha : KeysL f a) (hb : KeysL f b) : a = b := by
 have na : a.Nodup := ha.1.imp (fun h e => by omega)
 have nb : b.Nodup := hb.1.imp (fun h e => by omega)
 have hp : a.Perm b := (List.perm_ext_iff_of_nodup na nb).2 (fun k => by rw [ha.2 k, hb.2 k])
 exact List.Perm.eq_of_pairwise (le := fun x y => x ≤ y) (fun x y _ _ h1 h2 => by omega) (ha.1.imp (fun h => by omega)) (hb.1.imp (fun h => by omega)) hp
theorem RowsOf.form {f : Int → Option Int} {l : List Row2} (h : RowsOf f l) : l = (l.map (·.k)).map (fun k => ⟨k, (f k).getD 0⟩) := by
 rw [List.map_map]
 have : l.map id = l := List.map_id l
 conv => lhs; rw [← this]
 apply List.map_congr_left
 intro r hr
 simp only [id, Function.comp_apply]
 rw [h.2 r hr]
 rfl
theorem RowsOf.eq {f : Int → Option Int} {a b : List Row2} (ha : RowsOf f a) (hb : RowsOf f b) : a = b := by
 rw [ha.form, hb.form, keys_eq ha.1 hb.1]
theorem foldRows_at (l : List Row2) (f : Int → Option Int) (hp : l.Pairwise fun a b => a.k < b.k) : (∀ r ∈ l, l.foldl (fun f r => upd f r.k (some r.v)) f r.k = some r.v) ∧ ∀ k, (∀ r ∈ l, r.k ≠ k) → l.foldl (fun f r => upd f r.k (some r.v)) f k = f k := by
 induction l generalizing f with
 | nil => exact ⟨fun r hr => (by cases hr), fun k _ => rfl⟩
 | cons x l ih =>
  obtain ⟨h1, h2⟩ := List.pairwise_cons.1 hp
  obtain ⟨i1, i2⟩ := ih (upd f x.k (some x.v)) h2
  constructor
  ·intro r hr
   rcases List.mem_cons.1 hr with e | e
   ·subst e
    show l.foldl _ (upd f r.k (some r.v)) r.k = _
    rw [i2 r.k (fun y hy e => by have := h1 y hy; omega)]
    simp
   ·exact i1 r e
  ·intro k hk
   show l.foldl _ (upd f x.k (some x.v)) k = _
   rw [i2 k (fun r hr => hk r (by simp [hr])), upd_other _ _ _ _ (fun e => hk x (by simp) e.symm)]
theorem rowsOf_list {l : List Row2} (hp : l.Pairwise fun a b => a.k < b.k) : RowsOf (rowsF l) l := by
 obtain ⟨h1, h2⟩ := foldRows_at l (fun _ => none) hp
 refine ⟨⟨by rw [List.pairwise_map]; exact hp, fun k => ?_⟩, h1⟩
 constructor
 ·intro hk
  obtain ⟨r, hr, rfl⟩ := List.mem_map.1 hk
  rw [show rowsF l r.k = some r.v from h1 r hr]; rfl
 ·intro hk
  obtain ⟨r, hr, e⟩ := rowsF_mem l k (fun e => by rw [e] at hk; cases hk)
  exact List.mem_map.2 ⟨r, hr, e⟩
theorem rows5_pair (T : Nat → Bool) (V : Nat → Int) (k : Nat) : (rows5 T V k).Pairwise fun a b => a.k < b.k := by
 unfold rows5
 rw [List.pairwise_map]
 refine List.Pairwise.imp (R := fun a b => a < b) ?_ (List.Pairwise.filter _ List.pairwise_lt_range)
 intro a b h
 show (a : Int) < (b : Int)
 omega
theorem kRows {L : Lay} {bs : Nat → Nat} {ow : Ow} {j : Nat} {s : St} {w : World} (h : KSt L bs ow j s w) (_hj : j ≤ 140737488355328) :
  Calls Tryz.prog 25 #[.pointer (some ⟨L.p, 0, none⟩)] w fun e w' => ∃ x l, e = .returned x ∧ RowAt w' 95 2 x l.length (rowCells l) ∧ (∀ k, x.ownBlock = some k → w.heap.size ≤ k) ∧ RowsOf s.rows l ∧ KSt L bs ow j s w' ∧ Kept (OwnP ow) w w' := by
 obtain ⟨q, hq, hP⟩ := h.ex
 refine (pRows hP (by omega)).mono ?_
 rintro e w' ⟨x, l, rfl, h1, h2, h3, h4, h5⟩
 exact ⟨x, l, rfl, h1, h2, h3, ⟨⟨q, hq, h4⟩, h.good, h.act, h.n5, h.ag, h.wins, h.clock, h.in9⟩, h5⟩
theorem queue_few {s : St} (hi : Inv s) (k : Int) : (s.lk k).q.length ≤ s.n := by
 have h := nodup_len _ (List.range' 1 s.n) (hi.row k).once (fun x hx => by
  obtain ⟨y, hy, rfl⟩ := List.mem_map.1 hx
  exact mem_range1.2 ((hi.row k).qmode y hy).1)
 simpa using h
theorem kLocks {L : Lay} {bs : Nat → Nat} {ow : Ow} {j : Nat} {s : St} {w : World} (h : KSt L bs ow j s w) (key : Int) (hkey : inI key) :
  Calls Tryz.prog 27 #[.pointer (some ⟨L.p, 0, none⟩), .int .i64 key] w fun e w' => ∃ vh l a, e = .returned (.tuple #[vh, .slice (some ⟨a, 0, none⟩) (s.lk key).q.length (s.lk key).q.length]) ∧ RowAt w' 107 2 vh l.length (lkc l) ∧ (∀ b, vh.ownBlock = some b → w.heap.size ≤ b) ∧ HoldsL (holdF s.lk) key l ∧ w.heap.size ≤ a ∧ w'.heap[a]? = some (.cells (lkc (qcast (s.lk key).q)).toArray 107 (0, 0)) ∧ KSt L bs ow j s w' ∧ Kept (OwnP ow) w w' := by
 have hq := queue_few h.good.inv key
 have h5 := h.n5
 obtain ⟨q, hq0, hP⟩ := h.ex
 refine (pLocks hP key hkey (by omega)).mono ?_
 rintro e w' ⟨vh, l, a, rfl, h1, h2, h3, ⟨h4, _⟩, h6, h7, h8⟩
 exact ⟨vh, l, a, rfl, h1, h2, h3, h4, h6, ⟨⟨q, hq0, h7⟩, h.good, h.act, h.n5, h.ag, h.wins, h.clock, h.in9⟩, h8⟩
theorem none_holds {s : St} {key : Int} {l : List (Int × Int)} (hl : HoldsL (holdF s.lk) key l) (h : ∀ j, (s.lk key).h j = 0) : l = [] := by
 cases l with
 | nil => rfl
 | cons x l =>
  have := (hl.2 x.1 x.2).1 (by simp)
  unfold holdF at this
  split at this
  ·rename_i hx; exact absurd (h _) hx.2
  ·cases this
end Go.Proofs.YtmcajfefagdbnaaGreat
