import Derived.Test.YtmcajfefagdbnaaGreatLKAl2
import Derived.Test.YtmcajfefagdbnaaGreatLKApart
namespace Go.Proofs.YtmcajfefagdbnaaGreat
open Go Go.RowKit
def Kp (A : World → Prop) : Prop := ∀ W W', Kept NoBlk W W' → A W → A W'
theorem Kp.drew {A : World → Prop} (h : Kp A) {W : World} (ha : A W) : A W.drew := h _ _ ((Kept.refl NoBlk W).drew) ha
def Row1 (A : World → Prop) (l : List Row2) (y : Value) (W : World) : Prop := A W ∧ RowAt W 95 2 y l.length (rowCells l)
theorem Row1.kp {A : World → Prop} (h : Kp A) (l : List Row2) (y : Value) : Kp (Row1 A l y) := fun W W' hk ha => ⟨h W W' hk ha.1, ha.2.kept hk (fun _ _ x => x)⟩
theorem Row1.rows {A : World → Prop} (h : Kp A) (T : Nat → Bool) (V : Nat → Int) (y : Value) (W : World) (ha : Row1 A (rows5 T V 5) y W) : Calls Tryz.prog 26 #[.agg #[.bool (T 0), .bool (T 1), .bool (T 2), .bool (T 3), .bool (T 4), .int .i64 (V 0), .int .i64 (V 1), .int .i64 (V 2), .int .i64 (V 3), .int .i64 (V 4)]] W fun e w' => ∃ x, e = .returned x ∧ Row1 (Row1 A (rows5 T V 5) y) (rows5 T V 5) x w' :=
 (rows_any T V W).mono (fun _ _ ⟨x, e, h1, _, hk⟩ => ⟨x, e, Row1.kp h _ y _ _ hk ha, h1⟩)
theorem Row1.same {A : World → Prop} (h : Kp A) (T : Nat → Bool) (V : Nat → Int) (y x : Value) (W : World) (ha : Row1 (Row1 A (rows5 T V 5) y) (rows5 T V 5) x W) : Calls Tryz.prog 24 #[y, x] W fun e w' => e = .returned (.bool true) ∧ A w' := by
 have := rows5_len T V 5
 exact (sameRows_true _ _ (rows5 T V 5) W ha.1.2 ha.2 (by omega)).mono (fun _ _ ⟨e, hk⟩ => ⟨e, h _ _ hk ha.1.1⟩)
theorem cells4_nth (r : Int → Int) : ∀ p : Nat, p < 4 → (cells4 r)[p]? = some (.int .i64 (r (p : Int)))
 | 0, _ => rfl
 | 1, _ => rfl
 | 2, _ => rfl
 | 3, _ => rfl
 | n + 4, h => by omega
end Go.Proofs.YtmcajfefagdbnaaGreat
