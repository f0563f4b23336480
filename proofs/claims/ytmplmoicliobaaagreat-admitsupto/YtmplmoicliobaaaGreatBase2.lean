import Derived.Test.YtmplmoicliobaaaGreatMem
import Derived.Deep.RegionLaw
import Derived.Deep.RegionHeld3
namespace Go.Proofs.YtmplmoicliobaaaGreat
open Go Go.RowKit

theorem Kept.set1 (w : World) (b o : Nat) (v : Value) : Kept (Blk b) w (w.setCell ⟨b, o, none⟩ v) := (Kept.refl (Blk b) w).setCell (p := ⟨b, o, none⟩) (.inl rfl) v

theorem Kept.cell0 {w w' : World} (h : Kept NoBlk w w') {a : Addr} {v : Value} (hc : w.cell? a = some v) : w'.cell? a = some v := h.cell hc (fun x => x)

/-- A slice literal of one element. -/
theorem from_new1 (w : World) (x : Value) (ty : TypeId) (h1 : x.oneCell' = true) : FromMem (w.alloc (.cells #[x] ty)) 1 (.slice (some ⟨w.heap.size, 0, none⟩) 1 1) 1 [x] := by
  refine ⟨⟨_, 1, rfl, fun h => by simp at h, ?_⟩, rfl, fun u hu => by simp at hu; subst hu; exact h1⟩
  intro ad had j u hu
  obtain rfl := Option.some.inj had
  match j, hu with
  | 0, hu => simp at hu; subst hu; rw [Addr.add_lit, cell_at (block_alloc_new w _)]; rfl
  | j + 1, hu => simp at hu

/-- append at a step of a region that draws its order. -/
theorem step_append_at {P : Program} {w : World} {ops : Array Oper} {o : Oper} {a : Act} {K : Act → World → Prop} {Q : Exit → Act → World → Prop} {E : Prop} (hgd : o.guard = none) (s x : Operand) (t : TypeId)
    (ho : o.op = .call { callee := .builtin .append, args := #[s, x], argTypes := #[t, t] })
    (e : TypeId) (i : TypeInfo) (z : Value) (size bytes : Nat) (ht : P.underlying t = some (.slice e)) (hi : P.info? e = some i) (hz : i.zero = some z)
    (hsize : i.size = size) (hby : i.bytes = bytes) (hzs : z.cells.size = size)
    (v : Value) (n : Nat) (xs : List Value) (hs : a.eval s = v) (hown : w.ownsRow 0 e size v n xs) (xv : Value) (m : Nat) (news : List Value) (hx : a.eval x = xv) (hsrc : FromMem w size xv m news)
    (h63 : n + m ≤ maxLen) (hbytes : (n + m) * bytes ≤ 140737488355328)
    (h : ∀ ao' c' w', w'.ownsRow 0 e size (.slice ao' (n + m) c') (n + m) (xs ++ news) → Moved w w' v (.slice ao' (n + m) c') (n + m) → K (a.put o.dst (.slice ao' (n + m) c')) w') :
    if Region.wanted o (yielded ops a.tmps) = true then Oper.wp P o a w K Q else E := by
  have hw : Region.wanted o (yielded ops a.tmps) = true := by simp [Region.wanted, hgd]
  rw [if_pos hw]
  obtain ⟨v', w', hr, h2, h3⟩ := run_append_at (P := P) w t o.type e i z size bytes ht hi hz hsize hby hzs v n xs hown xv m news hsrc h63 hbytes
  unfold Oper.wp
  simp only [execOp, ho, resolve, invoke, builtin, Sem.run_bind, Sem.run_pure, Result.andThen_ok, List.map_toArray, List.map_cons, List.map_nil, hs, hx, hr]
  obtain ⟨ao', c', rfl⟩ := ownsRow_form h2
  exact h ao' c' w' h2 h3

theorem Moved.keptOf {w w' : World} {v v' : Value} {need : Nat} (h : Moved w w' v v' need) : Kept (fun k => v.ownBlock = some k) w w' := by
  rcases h with ⟨_, _, _, hk⟩ | ⟨_, _, hk⟩
  · exact hk
  · exact hk.mono (fun _ x => x.elim)

theorem Moved.fresh {w w' : World} {v v' : Value} {need : Nat} (h : Moved w w' v v' need) : ∀ k, v'.ownBlock = some k → v.ownBlock = some k ∨ w.heap.size ≤ k := fun k hk => by
  rcases h with ⟨ho, _, _, _⟩ | ⟨_, ho, _⟩
  · left; rw [← ho]; exact hk
  · right; rw [hk] at ho; cases ho; exact Nat.le_refl _

theorem ownsRow_lt {w : World} {e : TypeId} {size : Nat} {v : Value} {n : Nat} {xs : List Value} (h : w.ownsRow 0 e size v n xs) : ∀ k, v.ownBlock = some k → k < w.heap.size := fun k hk => by
  obtain ⟨cur, hcur⟩ := ownsRow_block h hk
  exact lt_of_block hcur
end Go.Proofs.YtmplmoicliobaaaGreat
