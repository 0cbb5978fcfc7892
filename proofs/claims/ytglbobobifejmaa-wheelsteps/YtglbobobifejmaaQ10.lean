
/-
  symMergeCmpFunc.
-/
import Derived.Test.YtglbobobifejmaaQ9
namespace Go.Proofs.Ytglbobobifejmaa
open Go.RowKit

/-- SYMMERGE -/
theorem sym_any : ∀ (d : Nat) {B g n cap : Nat} {w : World} {f : Nat → Tg} (_ : RowT B w g n cap f) (a m b : Nat) (_ : a < m) (_ : m < b) (_ : b ≤ n) (_ : n ≤ 1000000) (_ : Two f a m b) (_ : b - a ≤ d),
    Calls Try.prog 40 #[.slice (some ⟨g, 0, none⟩) n cap, .int .i64 (a : Int), .int .i64 (m : Int), .int .i64 (b : Int), .func (.func 30) #[] #[]] w (SymEnd B g n cap w f a b) := by
  intro d
  induction d with
  | zero => intro B g n cap w f h a m b h1 h2 h3 h4 h5 h6; omega
  | succ d ih =>
    intro B g n cap w f h a m b h1 h2 h3 h4 h5 h6
    by_cases e1 : m = a + 1
    · exact (symA_any h a m b e1 h2 h3 h4 h5).mono (fun _ _ q => q)
    · by_cases e2 : b = m + 1
      · exact (symB_any h a m b (by omega) e2 h3 h4 h5).mono (fun _ _ q => q)
      · have IH : ∀ (w' : World) (f' : Nat → Tg) (a' m' b' : Nat), RowT B w' g n cap f' → a' < m' → m' < b' → b' ≤ n → Two f' a' m' b' → b' - a' < b - a → Calls Try.prog 40 #[.slice (some ⟨g, 0, none⟩) n cap, .int .i64 (a' : Int), .int .i64 (m' : Int), .int .i64 (b' : Int), .func (.func 30) #[] #[]] w' (SymEnd B g n cap w' f' a' b') := fun w' f' a' m' b' k1 k2 k3 k4 k5 k6 => ih k1 a' m' b' k2 k3 k4 h4 k5 (by omega)
        by_cases e3 : (a + b) / 2 < m
        · exact symC h a m b _ (by omega) (by omega) rfl e3 h3 h4 h5 IH
        · exact symD h a m b _ (by omega) (by omega) rfl (by omega) h3 h4 h5 IH
end Go.Proofs.Ytglbobobifejmaa
