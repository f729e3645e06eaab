/-
  Plain functions on rows of bytes: digits, numbers in bytes, bound texts. Conditions: none. It names nothing of the translation.
-/
import Derived.RowKit
namespace Go.Proofs.YtibfpffoddhooaaDoor

/-- A half byte's digit. -/
def hexDig (n : Nat) : UInt8 := if n < 10 then UInt8.ofNat (48 + n) else UInt8.ofNat (87 + n)
def hexL : List UInt8 → List UInt8
  | [] => []
  | c :: r => hexDig (c.toNat / 16) :: hexDig (c.toNat % 16) :: hexL r
theorem hexL_append (a b : List UInt8) : hexL (a ++ b) = hexL a ++ hexL b := by
  induction a with
  | nil => rfl
  | cons c r ih => simp [hexL, ih]
theorem hexL_length (a : List UInt8) : (hexL a).length = 2 * a.length := by
  induction a with
  | nil => rfl
  | cons c r ih => simp [hexL, ih]; omega

/-- A number's k lowest bytes, the lowest first. -/
def wideL (n k : Nat) : List UInt8 := (List.range k).map fun i => UInt8.ofNat (n / 256 ^ i % 256)
theorem wideL_length (n k : Nat) : (wideL n k).length = k := by simp [wideL]
theorem wideL_succ (n k : Nat) : wideL n (k + 1) = wideL n k ++ [UInt8.ofNat (n / 256 ^ k % 256)] := by simp [wideL, List.range_succ]
end Go.Proofs.YtibfpffoddhooaaDoor
