/- Keys in order, one text more. -/
import Derived.Test.YteanipjgpekncaaDoorCqN
namespace Go.Proofs.YteanipjgpekncaaDoor
set_option linter.unusedVariables false
set_option linter.unusedSimpArgs false
namespace Co
theorem keysOk_value : ∀ (A : List (List UInt8)) (y : List UInt8), A.length % 2 = 1 → keysOk (A ++ [y]) = keysOk A
  | [], y, h => by simp at h
  | [a], y, h => rfl
  | [a, b], y, h => by simp at h
  | a :: b :: c :: A, y, h => by
    have ih := keysOk_value (c :: A) y (by rw [List.length_cons, List.length_cons] at h; omega)
    show (Op.bytesLess a c && keysOk (c :: A ++ [y])) = (Op.bytesLess a c && keysOk (c :: A))
    rw [ih]
theorem keysOk_key : ∀ (A : List (List UInt8)) (x : List UInt8), A.length % 2 = 0 → A ≠ [] → keysOk (A ++ [x]) = (keysOk A && Op.bytesLess (A.getD (A.length - 2) []) x)
  | [], x, h, h0 => absurd rfl h0
  | [a], x, h, _ => by simp at h
  | [a, b], x, h, _ => by
    show (Op.bytesLess a x && true) = (true && Op.bytesLess a x)
    rw [Bool.and_true, Bool.true_and]
  | [a, b, c], x, h, _ => by simp at h
  | a :: b :: c :: d :: A, x, h, _ => by
    have ih := keysOk_key (c :: d :: A) x (by rw [List.length_cons, List.length_cons] at h; exact (by omega)) (List.cons_ne_nil _ _)
    show (Op.bytesLess a c && keysOk (c :: d :: A ++ [x])) = (Op.bytesLess a c && keysOk (c :: d :: A) && Op.bytesLess ((a :: b :: c :: d :: A).getD (A.length + 1 + 1 + 1 + 1 - 2) []) x)
    rw [ih, Bool.and_assoc]
    congr 3
theorem keysOk_none : keysOk [] = true := rfl
theorem keysOk_one (x : List UInt8) : keysOk [x] = true := rfl
end Co
end Go.Proofs.YteanipjgpekncaaDoor
