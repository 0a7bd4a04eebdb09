/- Plain facts on the texts of addresses. No conditions. -/
import Derived.Test.YtbnmcplcfbghoaaDoorAdMath
import Derived.Lib.ItoaNum
namespace Go.Proofs.YtbnmcplcfbghoaaDoor.Ad
open Go.Lib

/-- The text of an address. -/
def textL (a : Nat) : List UInt8 := decDigits (a / 16777216) ++ 46 :: (decDigits (a / 65536 % 256) ++ 46 :: (decDigits (a / 256 % 256) ++ 46 :: decDigits (a % 256)))

/-- What stands of it behind so many rounds. -/
def textTo (a : Nat) : Nat → List UInt8
  | 0 => decDigits (a / 16777216)
  | 1 => decDigits (a / 16777216) ++ 46 :: decDigits (a / 65536 % 256)
  | 2 => decDigits (a / 16777216) ++ 46 :: (decDigits (a / 65536 % 256) ++ 46 :: decDigits (a / 256 % 256))
  | _ => textL a

theorem dec1 {n : Nat} (h : n < 10) : decDigits n = [UInt8.ofNat (48 + n)] := by rw [decDigits, dif_pos h]
theorem dec2 {n : Nat} (h1 : 10 ≤ n) (h2 : n < 100) : decDigits n = [UInt8.ofNat (48 + n / 10), UInt8.ofNat (48 + n % 10)] := by
  rw [decDigits, dif_neg (by omega), dec1 (by omega)]; rfl
theorem dec3 {n : Nat} (h1 : 100 ≤ n) (h2 : n < 1000) : decDigits n = [UInt8.ofNat (48 + n / 100), UInt8.ofNat (48 + n / 10 % 10), UInt8.ofNat (48 + n % 10)] := by
  rw [decDigits, dif_neg (by omega), dec2 (by omega) (by omega), Nat.div_div_eq_div_mul]; rfl
theorem dec_len {n : Nat} (h : n < 256) : (decDigits n).length ≤ 3 := by
  rcases Nat.lt_or_ge n 10 with h1 | h1
  · rw [dec1 h1]; simp
  · rcases Nat.lt_or_ge n 100 with h2 | h2
    · rw [dec2 h1 h2]; simp
    · rw [dec3 h2 (by omega)]; simp
theorem textL_len {a : Nat} (h : a < 4294967296) : (textL a).length ≤ 15 := by
  have h1 := dec_len (n := a / 16777216) (by omega)
  have h2 := dec_len (n := a / 65536 % 256) (by omega)
  have h3 := dec_len (n := a / 256 % 256) (by omega)
  have h4 := dec_len (n := a % 256) (by omega)
  simp only [textL, List.length_append, List.length_cons]
  omega
theorem textTo_len {a : Nat} (h : a < 4294967296) : ∀ k, (textTo a k).length ≤ 15 := by
  have h1 := dec_len (n := a / 16777216) (by omega)
  have h2 := dec_len (n := a / 65536 % 256) (by omega)
  have h3 := dec_len (n := a / 256 % 256) (by omega)
  have h4 := dec_len (n := a % 256) (by omega)
  intro k
  match k with
  | 0 => simp only [textTo]; omega
  | 1 => simp only [textTo, List.length_append, List.length_cons]; omega
  | 2 => simp only [textTo, List.length_append, List.length_cons]; omega
  | _ + 3 => exact textL_len h

theorem join3 (x y : List UInt8) : (⟨x.toArray⟩ : ByteArray) ++ (⟨#[46]⟩ ++ ⟨y.toArray⟩) = ⟨(x ++ 46 :: y).toArray⟩ := by
  apply ByteArray.ext
  simp
theorem join2 (x y : List UInt8) : (⟨x.toArray⟩ : ByteArray) ++ ⟨y.toArray⟩ = ⟨(x ++ y).toArray⟩ := by
  apply ByteArray.ext
  simp
end Go.Proofs.YtbnmcplcfbghoaaDoor.Ad
