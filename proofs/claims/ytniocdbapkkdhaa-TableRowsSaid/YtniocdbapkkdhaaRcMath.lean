/- The mathematics of layer 9 (record): leases as bytes. No program. -/
import Derived.Test.YtniocdbapkkdhaaCoMath
import Derived.Test.YtniocdbapkkdhaaKyMath
namespace Go.Proofs.Ytniocdbapkkdhaa.Rc
open Co Ky

structure L where
  addr : Int
  state : Int
  till : Int
  key : List UInt8
def zeroL : L := ⟨0, 0, 0, []⟩
def RightR (l : L) : Prop := (0 ≤ l.addr ∧ l.addr ≤ 4294967295) ∧ (1 ≤ l.state ∧ l.state ≤ 3) ∧ (0 ≤ l.till ∧ l.till ≤ 1125899906842624) ∧ rightK l.key = true
instance (l : L) : Decidable (RightR l) := by unfold RightR; infer_instance
def rightR (l : L) : Bool := decide (RightR l)
def encR (l : L) : List UInt8 := putL l.addr.toNat 4 ++ (UInt8.ofNat l.state.toNat :: (putL l.till.toNat 7 ++ l.key))
/-- What Write answers: the bytes, and the error. -/
def writeR (l : L) : List UInt8 × Int := if RightR l then (encR l, 0) else ([], 1)
def heldR (b : List UInt8) : L := ⟨(valL (b.take 4) : Nat), ((b.getD 4 0).toNat : Nat), (valL ((b.drop 5).take 7) : Nat), b.drop 12⟩
/-- What Read answers: the lease, and the error. -/
def readR (b : List UInt8) : L × Int := if b.length < 12 then (zeroL, 4) else if RightR (heldR b) then (heldR b, 0) else (zeroL, 2)
theorem enc_len (l : L) : (encR l).length = 12 + l.key.length := by
  unfold encR
  rw [List.length_append, putL_length, List.length_cons, List.length_append, putL_length]
  omega
theorem held_enc {l : L} (h : RightR l) : heldR (encR l) = l := by
  obtain ⟨⟨a0, a1⟩, ⟨s0, s1⟩, ⟨t0, t1⟩, _⟩ := h
  obtain ⟨a, s, t, k⟩ := l
  simp only at a0 a1 s0 s1 t0 t1
  have e1 : (encR ⟨a, s, t, k⟩).take 4 = putL a.toNat 4 := List.take_left' (putL_length 4 _)
  have e2 : (encR ⟨a, s, t, k⟩).drop 4 = UInt8.ofNat s.toNat :: (putL t.toNat 7 ++ k) := List.drop_left' (putL_length 4 _)
  have e3 : (encR ⟨a, s, t, k⟩).drop 5 = putL t.toNat 7 ++ k := by rw [show 5 = 4 + 1 from rfl, ← List.drop_drop, e2]; rfl
  have e4 : (encR ⟨a, s, t, k⟩).drop 12 = k := by rw [show 12 = 5 + 7 from rfl, ← List.drop_drop, e3]; exact List.drop_left' (putL_length 7 _)
  have e5 : (encR ⟨a, s, t, k⟩).getD 4 0 = UInt8.ofNat s.toNat := by
    have : (encR ⟨a, s, t, k⟩)[4]? = some (UInt8.ofNat s.toNat) := by
      have h0 := congrArg (·[0]?) e2
      simp only [List.getElem?_drop] at h0
      exact h0
    rw [List.getD_eq_getElem?_getD, this]
    rfl
  have e6 : ((encR ⟨a, s, t, k⟩).drop 5).take 7 = putL t.toNat 7 := by rw [e3]; exact List.take_left' (putL_length 7 _)
  have p4 : p256 4 = 4294967296 := by decide
  have p7 : p256 7 = 72057594037927936 := by decide
  unfold heldR
  rw [e1, e4, e5, e6, valL_putL 4 _ (by rw [p4]; omega), valL_putL 7 _ (by rw [p7]; omega), UInt8.toNat_ofNat']
  congr 1 <;> omega
/-- P9.3: a lease that was written is read as it was. -/
theorem read_write {l : L} (h : RightR l) : readR (encR l) = (l, 0) := by
  unfold readR
  rw [if_neg (by rw [enc_len]; omega), held_enc h, if_pos h]
theorem enc_held {b : List UInt8} (h : 12 ≤ b.length) : encR (heldR b) = b := by
  have hs : (b.getD 4 0).toNat < 256 := (b.getD 4 0).toNat_lt
  have e1 : putL (heldR b).addr.toNat 4 = b.take 4 := by
    show putL ((valL (b.take 4) : Nat) : Int).toNat 4 = _
    rw [Int.toNat_natCast, putL_valL 4 _ (by rw [List.length_take]; omega)]
  have e2 : putL (heldR b).till.toNat 7 = (b.drop 5).take 7 := by
    show putL ((valL ((b.drop 5).take 7) : Nat) : Int).toNat 7 = _
    rw [Int.toNat_natCast, putL_valL 7 _ (by rw [List.length_take, List.length_drop]; omega)]
  have e3 : UInt8.ofNat (heldR b).state.toNat = b.getD 4 0 := by
    show UInt8.ofNat (((b.getD 4 0).toNat : Nat) : Int).toNat = _
    rw [Int.toNat_natCast, UInt8.ofNat_toNat]
  unfold encR
  rw [e1, e2, e3]
  show b.take 4 ++ (b.getD 4 0 :: ((b.drop 5).take 7 ++ b.drop 12)) = b
  have e4 : (b.drop 5).take 7 ++ b.drop 12 = b.drop 5 := by
    have := List.take_append_drop 7 (b.drop 5)
    rw [List.drop_drop] at this
    exact this
  have h4 : 4 < b.length := by omega
  rw [e4, show b.getD 4 0 = b[4] by rw [List.getD_eq_getElem?_getD, List.getElem?_eq_getElem h4]; rfl, ← List.drop_eq_getElem_cons h4, List.take_append_drop]
theorem read_ok {b : List UInt8} (h : (readR b).2 = 0) : 12 ≤ b.length ∧ RightR (heldR b) ∧ readR b = (heldR b, 0) := by
  unfold readR at *
  split at h
  · cases h
  · split at h
    · next h1 h2 => exact ⟨by omega, h2, by rw [if_neg h1, if_pos h2]⟩
    · cases h
/-- P9.3: what was read has just the bytes that it was read from. -/
theorem read_only {b : List UInt8} (h : (readR b).2 = 0) : writeR (readR b).1 = (b, 0) := by
  obtain ⟨h1, h2, h3⟩ := read_ok h
  rw [h3]
  unfold writeR
  rw [if_pos h2, enc_held h1]
theorem read_err {b : List UInt8} (h : (readR b).2 ≠ 0) : (readR b).1 = zeroL := by
  unfold readR at *
  split
  · rfl
  · next h1 =>
    rw [if_neg h1] at h
    split
    · next h2 => rw [if_pos h2] at h; exact absurd rfl h
    · rfl
end Go.Proofs.Ytniocdbapkkdhaa.Rc
