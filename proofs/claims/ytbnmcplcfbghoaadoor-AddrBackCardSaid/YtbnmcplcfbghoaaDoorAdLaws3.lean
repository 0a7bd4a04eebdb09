/- The statement that addresses and their texts are one to one, walked: it answers true, and nothing that was there is changed. -/
import Derived.Test.YtbnmcplcfbghoaaDoorAdKnows
namespace Go.Proofs.YtbnmcplcfbghoaaDoor
open Go.RowKit Ad

theorem text_size {a : Nat} (h : a < 4294967296) : (⟨(textL a).toArray⟩ : ByteArray).size ≤ 1000 := by
  have := textL_len h
  show (textL a).toArray.size ≤ 1000
  simp only [List.size_toArray]
  omega
theorem text_parse {a : Nat} (h : a < 4294967296) : parseL (⟨(textL a).toArray⟩ : ByteArray).data.toList = some a := parse_text h

set_option maxHeartbeats 1000000 in
theorem addrBack_rfar (a : Int) (s : ByteArray) (w : World) (hw : Env w) (h : rightB a = true) (hm : s.size ≤ maxLen) (hs : ¬ s.size ≤ 1000) :
    Calls Tryd.prog 5 #[.int .i64 a, .string s] w fun e w' => e = .returned (.bool true) ∧ Below w.heap.size w w' := by
  unfold maxLen at hm
  obtain ⟨h0, h1⟩ := rightB_iff.1 h
  have HS := Lib.hid (text_size (a := a.toNat) (by omega))
  have HT := Lib.hid (text_parse (a := a.toNat) (by omega))
  have hcast : Hid (((a.toNat : Nat) : Int) = a) := Lib.hid (by omega)
  go_enter Tryd.func5, Tryd.ntmps5
  go_wp2_with fail
  refine (text_yes _ _ hw h).mono ?_
  rintro e w1 ⟨rfl, hb1⟩
  have hw1 := hw.below hb1
  go_wp2_with fail
  refine (parse_yes _ _ hw1 HS.out _ HT.out).mono ?_
  rintro e w2 ⟨rfl, hb2⟩
  rw [hcast.out]
  have hw2 := hw1.below hb2
  have hbb : Below w.heap.size w w2 := hb1.trans (hb2.mono hb1.size)
  go_wp2_with fail
  refine (knows_any _ hw2).mono ?_
  rintro e w3 ⟨rfl, hb3⟩
  go_wp2
  go_ret
  exact ⟨rfl, hbb.trans (hb3.mono hbb.size)⟩

set_option maxHeartbeats 1000000 in
theorem addrBack_rno (a : Int) (s : ByteArray) (w : World) (hw : Env w) (h : rightB a = true) (hs : s.size ≤ 1000) (hp : parseL s.data.toList = none) :
    Calls Tryd.prog 5 #[.int .i64 a, .string s] w fun e w' => e = .returned (.bool true) ∧ Below w.heap.size w w' := by
  have HP := Lib.hid hp
  clear hp
  obtain ⟨h0, h1⟩ := rightB_iff.1 h
  have HS := Lib.hid (text_size (a := a.toNat) (by omega))
  have HT := Lib.hid (text_parse (a := a.toNat) (by omega))
  have hcast : Hid (((a.toNat : Nat) : Int) = a) := Lib.hid (by omega)
  go_enter Tryd.func5, Tryd.ntmps5
  go_wp2_with fail
  refine (text_yes _ _ hw h).mono ?_
  rintro e w1 ⟨rfl, hb1⟩
  have hw1 := hw.below hb1
  go_wp2_with fail
  refine (parse_yes _ _ hw1 HS.out _ HT.out).mono ?_
  rintro e w2 ⟨rfl, hb2⟩
  rw [hcast.out]
  have hw2 := hw1.below hb2
  have hbb : Below w.heap.size w w2 := hb1.trans (hb2.mono hb1.size)
  go_wp2_with fail
  refine (parse_no _ _ hw2 hs HP.out).mono ?_
  rintro e w3 ⟨rfl, hb3⟩
  have hw3 := hw2.below hb3
  go_wp2_with fail
  refine (knows_any _ hw3).mono ?_
  rintro e w4 ⟨rfl, hb4⟩
  go_wp2
  go_ret
  exact ⟨rfl, hbb.trans ((hb3.mono hbb.size).trans (hb4.mono (Nat.le_trans hbb.size hb3.size)))⟩

set_option maxHeartbeats 1000000 in
theorem addrBack_ryes (a : Int) (s : ByteArray) (w : World) (hw : Env w) (h : rightB a = true) (hs : s.size ≤ 1000) (v : Nat) (hp : parseL s.data.toList = some v) :
    Calls Tryd.prog 5 #[.int .i64 a, .string s] w fun e w' => e = .returned (.bool true) ∧ Below w.heap.size w w' := by
  have HP := Lib.hid hp
  have hv := (parse_some hp).1
  have HV : Hid ((⟨(textL v).toArray⟩ : ByteArray) = s) := Lib.hid (by rw [(parse_some hp).2])
  clear hp
  obtain ⟨h0, h1⟩ := rightB_iff.1 h
  have HS := Lib.hid (text_size (a := a.toNat) (by omega))
  have HT := Lib.hid (text_parse (a := a.toNat) (by omega))
  have hcast : Hid (((a.toNat : Nat) : Int) = a) := Lib.hid (by omega)
  go_enter Tryd.func5, Tryd.ntmps5
  go_wp2_with fail
  refine (text_yes _ _ hw h).mono ?_
  rintro e w1 ⟨rfl, hb1⟩
  have hw1 := hw.below hb1
  go_wp2_with fail
  refine (parse_yes _ _ hw1 HS.out _ HT.out).mono ?_
  rintro e w2 ⟨rfl, hb2⟩
  rw [hcast.out]
  have hw2 := hw1.below hb2
  have hbb : Below w.heap.size w w2 := hb1.trans (hb2.mono hb1.size)
  go_wp2_with fail
  refine (parse_yes _ _ hw2 hs _ HP.out).mono ?_
  rintro e w3 ⟨rfl, hb3⟩
  have hw3 := hw2.below hb3
  go_wp2_with fail
  refine (text_yes _ _ hw3 (rightB_iff.2 ⟨by omega, by omega⟩)).mono ?_
  rintro e w4 ⟨rfl, hb4⟩
  rw [Int.toNat_natCast, HV.out]
  have hw4 := hw3.below hb4
  go_wp2_with fail
  refine (knows_any _ hw4).mono ?_
  rintro e w5 ⟨rfl, hb5⟩
  go_wp2
  go_ret
  exact ⟨rfl, hbb.trans ((hb3.mono hbb.size).trans ((hb4.mono (Nat.le_trans hbb.size hb3.size)).trans (hb5.mono (Nat.le_trans (Nat.le_trans hbb.size hb3.size) hb4.size))))⟩

set_option maxHeartbeats 1000000 in
theorem addrBack_wfar (a : Int) (s : ByteArray) (w : World) (hw : Env w) (h : rightB a = false) (hm : s.size ≤ maxLen) (hs : ¬ s.size ≤ 1000) :
    Calls Tryd.prog 5 #[.int .i64 a, .string s] w fun e w' => e = .returned (.bool true) ∧ Below w.heap.size w w' := by
  unfold maxLen at hm
  go_enter Tryd.func5, Tryd.ntmps5
  go_wp2_with fail
  refine (text_no _ _ h).mono ?_
  rintro e w2 ⟨rfl, rfl⟩
  have hw2 := hw
  have hbb := Below.refl w.heap.size w
  go_wp2_with fail
  refine (knows_any _ hw2).mono ?_
  rintro e w3 ⟨rfl, hb3⟩
  go_wp2
  go_ret
  exact ⟨rfl, hbb.trans (hb3.mono hbb.size)⟩

set_option maxHeartbeats 1000000 in
theorem addrBack_wno (a : Int) (s : ByteArray) (w : World) (hw : Env w) (h : rightB a = false) (hs : s.size ≤ 1000) (hp : parseL s.data.toList = none) :
    Calls Tryd.prog 5 #[.int .i64 a, .string s] w fun e w' => e = .returned (.bool true) ∧ Below w.heap.size w w' := by
  have HP := Lib.hid hp
  clear hp
  go_enter Tryd.func5, Tryd.ntmps5
  go_wp2_with fail
  refine (text_no _ _ h).mono ?_
  rintro e w2 ⟨rfl, rfl⟩
  have hw2 := hw
  have hbb := Below.refl w.heap.size w
  go_wp2_with fail
  refine (parse_no _ _ hw2 hs HP.out).mono ?_
  rintro e w3 ⟨rfl, hb3⟩
  have hw3 := hw2.below hb3
  go_wp2_with fail
  refine (knows_any _ hw3).mono ?_
  rintro e w4 ⟨rfl, hb4⟩
  go_wp2
  go_ret
  exact ⟨rfl, hbb.trans ((hb3.mono hbb.size).trans (hb4.mono (Nat.le_trans hbb.size hb3.size)))⟩

set_option maxHeartbeats 1000000 in
theorem addrBack_wyes (a : Int) (s : ByteArray) (w : World) (hw : Env w) (h : rightB a = false) (hs : s.size ≤ 1000) (v : Nat) (hp : parseL s.data.toList = some v) :
    Calls Tryd.prog 5 #[.int .i64 a, .string s] w fun e w' => e = .returned (.bool true) ∧ Below w.heap.size w w' := by
  have HP := Lib.hid hp
  have hv := (parse_some hp).1
  have HV : Hid ((⟨(textL v).toArray⟩ : ByteArray) = s) := Lib.hid (by rw [(parse_some hp).2])
  clear hp
  go_enter Tryd.func5, Tryd.ntmps5
  go_wp2_with fail
  refine (text_no _ _ h).mono ?_
  rintro e w2 ⟨rfl, rfl⟩
  have hw2 := hw
  have hbb := Below.refl w.heap.size w
  go_wp2_with fail
  refine (parse_yes _ _ hw2 hs _ HP.out).mono ?_
  rintro e w3 ⟨rfl, hb3⟩
  have hw3 := hw2.below hb3
  go_wp2_with fail
  refine (text_yes _ _ hw3 (rightB_iff.2 ⟨by omega, by omega⟩)).mono ?_
  rintro e w4 ⟨rfl, hb4⟩
  rw [Int.toNat_natCast, HV.out]
  have hw4 := hw3.below hb4
  go_wp2_with fail
  refine (knows_any _ hw4).mono ?_
  rintro e w5 ⟨rfl, hb5⟩
  go_wp2
  go_ret
  exact ⟨rfl, hbb.trans ((hb3.mono hbb.size).trans ((hb4.mono (Nat.le_trans hbb.size hb3.size)).trans (hb5.mono (Nat.le_trans (Nat.le_trans hbb.size hb3.size) hb4.size))))⟩

theorem addrBack_walk (a : Int) (s : ByteArray) (w : World) (hw : Env w) (hm : s.size ≤ maxLen) :
    Calls Tryd.prog 5 #[.int .i64 a, .string s] w fun e w' => e = .returned (.bool true) ∧ Below w.heap.size w w' := by
  cases h : rightB a <;> by_cases hs : s.size ≤ 1000
  · cases hp : parseL s.data.toList with
    | none => exact addrBack_wno a s w hw h hs hp
    | some v => exact addrBack_wyes a s w hw h hs v hp
  · exact addrBack_wfar a s w hw h hm hs
  · cases hp : parseL s.data.toList with
    | none => exact addrBack_rno a s w hw h hs hp
    | some v => exact addrBack_ryes a s w hw h hs v hp
  · exact addrBack_rfar a s w hw h hm hs
end Go.Proofs.YtbnmcplcfbghoaaDoor
