/- What the document's own text of an address comes to. -/
import Derived.Test.YtbnmcplcfbghoaaDoorAdText1
namespace Go.Proofs.YtbnmcplcfbghoaaDoor
open Go.RowKit Ad

/-- The document's decimal numeral is the numeral. -/
def DecAt (n : Int) : Prop := ∀ w : World, Calls Tryd.prog 27 #[.int .i64 n] w fun e w' => e = .returned (.string ⟨(Lib.decDigits n.toNat).toArray⟩) ∧ Below w.heap.size w w'

theorem conv_digit (n : Int) (h0 : 0 ≤ n) (h1 : n < 10) (w : World) :
    (convert 46 9 (.slice (some ⟨w.heap.size, 0, none⟩) 1 1)).run Tryd.prog (w.alloc (.cells #[.int .u8 (48 + n)] 5)) = .ok (.string ⟨(Lib.decDigits n.toNat).toArray⟩) (w.alloc (.cells #[.int .u8 (48 + n)] 5)) := by
  rw [dec1 (n := n.toNat) (by omega)]
  refine run_convert_bytes_back _ _ _ 5 ⟨w.heap.size, 0, none⟩ 1 [UInt8.ofNat (48 + n.toNat)] Tryd.underlying46 Tryd.underlying5 Tryd.underlying9 ?_
  intro j hj
  have : j = 0 := by simpa using hj
  subst this
  have e : ((UInt8.ofNat (48 + n.toNat)).toNat : Int) = 48 + n := by
    rw [UInt8.toNat_ofNat']; omega
  have c := World.cell?_alloc_mark w #[.int .u8 (48 + n)] 5 (0, 0) 0
  refine c.trans ?_
  show some (Value.int .u8 (48 + n)) = some (Value.int .u8 ((UInt8.ofNat (48 + n.toNat)).toNat : Int))
  rw [e]

set_option maxHeartbeats 400000 in
theorem decimal_1 (n : Int) (h0 : 0 ≤ n) (h1 : n < 10) : DecAt n := by
  intro w
  have hc := conv_digit n h0 h1 w
  go_enter Tryd.func27, Tryd.ntmps27
  go_wp2
  go_ret
  exact ⟨rfl, (Below.refl _ _).alloc (Nat.le_refl _) _⟩

set_option maxHeartbeats 400000 in
theorem decimal_step (n : Int) (h0 : 10 ≤ n) (h1 : n < 1000) (i1 : DecAt (n / 10)) (i2 : DecAt (n % 10)) : DecAt n := by
  intro w
  have HD : Hid (Lib.decDigits n.toNat = Lib.decDigits (n / 10).toNat ++ Lib.decDigits (n % 10).toNat) := Lib.hid (by
    rw [dec1 (n := (n % 10).toNat) (by omega), Lib.decDigits, dif_neg (by omega), show n.toNat / 10 = (n / 10).toNat by omega, show (n % 10).toNat = n.toNat % 10 by omega])
  have l1 : (Lib.decDigits (n / 10).toNat).length ≤ 3 := dec_len (by omega)
  have l2 : (Lib.decDigits (n % 10).toNat).length ≤ 3 := dec_len (by omega)
  go_enter Tryd.func27, Tryd.ntmps27
  go_wp2_with fail
  refine (i1 _).mono ?_
  rintro e w1 ⟨rfl, hb1⟩
  go_wp2_with fail
  refine (i2 _).mono ?_
  rintro e w2 ⟨rfl, hb2⟩
  go_wp2
  go_ret
  refine ⟨congrArg (fun x => Ending.returned (Value.string x)) ?_, hb1.trans (hb2.mono hb1.size)⟩
  rw [HD.out, ← join2]

theorem decimal_any (n : Int) (h0 : 0 ≤ n) (h1 : n ≤ 255) : DecAt n := by
  by_cases h2 : n < 10
  · exact decimal_1 n h0 h2
  · have i2 := decimal_1 (n % 10) (by omega) (by omega)
    by_cases h3 : n < 100
    · exact decimal_step n (by omega) (by omega) (decimal_1 (n / 10) (by omega) (by omega)) i2
    · exact decimal_step n (by omega) (by omega) (decimal_step (n / 10) (by omega) (by omega) (decimal_1 _ (by omega) (by omega)) (decimal_1 _ (by omega) (by omega))) i2

set_option maxHeartbeats 400000 in
theorem refText_any (a : Int) (w : World) (h0 : 0 ≤ a) (h1 : a ≤ 4294967295) :
    Calls Tryd.prog 13 #[.int .i64 a] w fun e w' => e = .returned (.string ⟨(textL a.toNat).toArray⟩) ∧ Below w.heap.size w w' := by
  have HT : Hid (textL a.toNat = Lib.decDigits (a / 16777216).toNat ++ [46] ++ Lib.decDigits (a / 65536 % 256).toNat ++ [46] ++ Lib.decDigits (a / 256 % 256).toNat ++ [46] ++ Lib.decDigits (a % 256).toNat) := Lib.hid (by
    rw [show (a / 16777216).toNat = a.toNat / 16777216 by omega, show (a / 65536 % 256).toNat = a.toNat / 65536 % 256 by omega, show (a / 256 % 256).toNat = a.toNat / 256 % 256 by omega, show (a % 256).toNat = a.toNat % 256 by omega]
    simp [textL])
  have l1 : (Lib.decDigits (a / 16777216).toNat).length ≤ 3 := dec_len (by omega)
  have l2 : (Lib.decDigits (a / 65536 % 256).toNat).length ≤ 3 := dec_len (by omega)
  have l3 : (Lib.decDigits (a / 256 % 256).toNat).length ≤ 3 := dec_len (by omega)
  have l4 : (Lib.decDigits (a % 256).toNat).length ≤ 3 := dec_len (by omega)
  go_enter Tryd.func13, Tryd.ntmps13
  go_wp2_with fail
  refine (decimal_any _ (by omega) (by omega) _).mono ?_
  rintro e w1 ⟨rfl, hb1⟩
  go_wp2_with fail
  refine (decimal_any _ (by omega) (by omega) _).mono ?_
  rintro e w2 ⟨rfl, hb2⟩
  go_wp2_with fail
  refine (decimal_any _ (by omega) (by omega) _).mono ?_
  rintro e w3 ⟨rfl, hb3⟩
  go_wp2_with fail
  refine (decimal_any _ (by omega) (by omega) _).mono ?_
  rintro e w4 ⟨rfl, hb4⟩
  go_wp2
  go_ret
  have s1 := hb1.size
  have s2 := hb2.size
  have s3 := hb3.size
  refine ⟨congrArg (fun x => Ending.returned (Value.string x)) ?_, hb1.trans ((hb2.mono s1).trans ((hb3.mono (by omega)).trans (hb4.mono (by omega))))⟩
  rw [HT.out, ← join2, ← join2, ← join2, ← join2, ← join2, ← join2]
end Go.Proofs.YtbnmcplcfbghoaaDoor
