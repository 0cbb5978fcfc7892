
/-
  Package udp: small functions; Encode.
-/
import Derived.Test.YtgempelfamjabaaU1
namespace Go.Proofs.Ytgempelfamjabaa
open Go.RowKit Go.Shelf

/-- is it a port? -/
def prt (n : Int) : Bool := decide (1 ≤ n) && decide (n ≤ 65535)
theorem prt_true {n : Int} (h : prt n = true) : 1 ≤ n ∧ n ≤ 65535 := by
  unfold prt at h
  simpa using h
/-- ahead of the sum; the sum; the datagram; what Encode answers -/
def uah (f t : Int) (n : Nat) : List Int := put16 f ++ put16 t ++ put16 (8 + (n : Int))
def usm (x y : I4) (f t : Int) (b : List Int) : Int := if csum (psB x y 17 (8 + (b.length : Int)) ++ uah f t b.length ++ b) = 0 then 65535 else csum (psB x y 17 (8 + (b.length : Int)) ++ uah f t b.length ++ b)
def udB (x y : I4) (f t : Int) (b : List Int) : List Int := uah f t b.length ++ put16 (usm x y f t b) ++ b
def ueE (f t : Int) (n : Nat) : Int := if prt f = false ∨ prt t = false then 1 else if 1016 < n then 2 else 0
def ueB (x y : I4) (f t : Int) (b : List Int) : List Int := if ueE f t b.length = 0 then udB x y f t b else []
theorem psB_len (x y : I4) (p n : Int) : (psB x y p n).length = 12 := rfl
theorem uah_len (f t : Int) (n : Nat) : (uah f t n).length = 6 := rfl
theorem psB_bytes {x y : I4} (hx : x.Ok) (hy : y.Ok) (p n : Int) : Bytes (psB x y p n) := by
  unfold psB
  refine (ipL_bytes hx).append ((ipL_bytes hy).append (Bytes.append ?_ (put16_bytes n)))
  intro z hz
  simp at hz
  omega
theorem uah_bytes (f t : Int) (n : Nat) : Bytes (uah f t n) := ((put16_bytes f).append (put16_bytes t)).append (put16_bytes _)
theorem udB_len (x y : I4) (f t : Int) (b : List Int) : (udB x y f t b).length = 8 + b.length := by simp [udB, uah, put16]; omega
theorem udB_bytes (x y : I4) (f t : Int) {b : List Int} (hb : Bytes b) : Bytes (udB x y f t b) := ((uah_bytes f t _).append (put16_bytes _)).append hb
theorem ueE_zero {f t : Int} {n : Nat} (h : ueE f t n = 0) : prt f = true ∧ prt t = true ∧ n ≤ 1016 := by
  unfold ueE at h
  split at h
  · cases h
  · rename_i h1
    split at h
    · cases h
    · refine ⟨?_, ?_, by omega⟩
      · cases e : prt f with
        | true => rfl
        | false => exact absurd (Or.inl e) h1
      · cases e : prt t with
        | true => rfl
        | false => exact absurd (Or.inr e) h1
end Go.Proofs.Ytgempelfamjabaa
