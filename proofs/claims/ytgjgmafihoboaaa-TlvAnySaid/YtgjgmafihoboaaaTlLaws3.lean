/- The walk of TlvAny: it returns true, and what was in memory stays. For all inputs. -/
import Derived.Test.YtgjgmafihoboaaaTlLaws2
namespace Go.Proofs.Ytgjgmafihoboaaa
open Go.RowKit Tl By

theorem wf_byte {x : Int} (h : (Lit.int .u8 x).wf = true) : ∃ N : Nat, x = (N : Int) ∧ N < 256 := by
  simp only [Lit.wf, Bool.and_eq_true, decide_eq_true_eq] at h
  have h1 : IntKind.u8.min = 0 := rfl
  have h2 : IntKind.u8.max = 255 := rfl
  rw [h1, h2] at h
  exact ⟨x.toNat, by omega, by omega⟩
set_option maxRecDepth 100000 in
set_option maxHeartbeats 4000000 in
theorem tlvAny_walk (A : Option Addr) (n c : Nat) (l : List UInt8) (a : Int) (w : World) (h : Bs w A n c l) (ha : (Lit.int .u8 a).wf = true) :
    Calls Try.prog 8 #[.slice A n c, .int .u8 a] w (isTrue w) := by
  have hm := h.max
  have hcap := h.cap
  by_cases hg : 5000 < n
  · clear ha
    go_enter Try.func8, Try.ntmps8
    go_wp2_with fail
    refine (knows_yes _).mono ?_
    rintro e w1 ⟨rfl, hb1⟩
    go_wp2
    go_ret
    exact ⟨rfl, hb1⟩
  obtain ⟨N, rfl, hN⟩ := wf_byte ha
  clear ha
  obtain ⟨K, hK⟩ : ∃ K, K = N % 20 := ⟨_, rfl⟩
  have hK20 : K < 20 := by omega
  have hrem : (N : Int) % 20 = (K : Int) := by omega
  have HK := Lib.hid hK
  clear hK
  obtain ⟨hgood, hnil, herr⟩ := read_good l
  have HGOOD := Lib.hid hgood
  have HNIL := Lib.hid hnil
  have HZ := Lib.hid (read_zeros [] K l)
  clear hgood hnil herr
  obtain ⟨CS, hCS⟩ : ∃ CS, CS = madeCells (Value.int .u8 0).cells K := ⟨_, rfl⟩
  have HCS := Lib.hid hCS
  have hmk : ∀ W : World, (Instr.makeSlice 25 (.int .i64 (K : Int)) (.int .i64 (K : Int))).run Try.prog W = .ok (.slice (some ⟨W.heap.size, 0, none⟩) K K) (W.alloc (.cells CS 5)) := fun W => by rw [HCS.out]; exact byP.make K (by omega) W
  have hmade : ∀ W : World, Own 5 W.heap.size (W.alloc (.cells CS 5)) (some ⟨W.heap.size, 0, none⟩) K K (List.replicate K 0) := fun W => by rw [HCS.out]; exact Own.made 5 W K (by omega)
  have HMD := Lib.hid hmade
  clear hCS hmade
  go_enter Try.func8, Try.ntmps8
  go_wp2_with (first | fail | (at_builtin; refine wpList_app byP rfl (.tmp 18) (.tmp 19) rfl rfl (Own.lit0 5 w) rfl (h.alloc _) (by omega) (by simp) ?_; intro A' c' w2 hown2 hb2 _ _; simp only [Nat.zero_add, List.nil_append] at hown2))
  have hb02 : Below w.heap.size w w2 := ((Below.refl _ _).alloc (Nat.le_refl _) _).trans hb2
  refine (read_any _ _ _ l _ hown2.bs).mono ?_
  rintro e w3 ⟨A3, n3, c3, ps3, rfl, hps3, hown3, hb3⟩
  have hb03 : Below w.heap.size w w3 := hb02.trans (hb3.mono hb02.size)
  have hrd3 := hown3.rd
  have HP3 := Lib.hid hps3
  clear hown3 hown2 hps3
  have h3 := h.below hb03
  have hba : Below w3.heap.size w3 (w3.alloc (.cells CS 5)) := (Below.refl _ _).alloc (Nat.le_refl _) _
  have hmd := HMD.out w3
  go_wp2_with (first | fail | (at_builtin; refine wpList_app byP rfl (.tmp 28) (.tmp 29) rfl rfl hmd rfl (h3.below hba) (by omega) (by simp) ?_; intro A4 c4 w4 hown4 hb4 _ _))
  have hb34 := hba.trans hb4
  have hb04 : Below w.heap.size w w4 := hb03.trans (hb34.mono hb03.size)
  refine (read_any _ _ _ _ _ hown4.bs).mono ?_
  rw [HZ.out]
  rintro e w5 ⟨A5, n5, c5, ps5, rfl, hps5, hown5, hb5⟩
  have hb35 := hb34.trans (hb5.mono hb34.size)
  have hb05 : Below w.heap.size w w5 := hb03.trans (hb35.mono hb03.size)
  have hrd5 := hown5.rd
  have HQ := Lib.hid (same_self (HP3.out.trans hps5.symm))
  clear hown5 hps5 hown4 hmd hmk hrem
  by_cases he : (readL [] l).2 = 0
  rotate_left
  · have HL0 : Hid (n3 = 0) := by
      show n3 = 0
      rw [← hrd3.len, ← os_len, HP3.out, HNIL.out he]
      rfl
    have hx0 : (((readL [] l).2) != 0) = true := by simpa using he
    obtain rfl : n3 = 0 := HL0.out
    clear he HL0
    generalize (readL [] l).2 = x at hx0
    go_wp2_with fail
    refine (same_any _ _ _ _ _ _ _ _ _ (hrd3.below hb35) hrd5).mono ?_
    rw [HQ.out]
    rintro e w6 ⟨rfl, hb6⟩
    have hb06 : Below w.heap.size w w6 := hb05.trans (hb6.mono hb05.size)
    go_wp2_with fail
    refine (knows_yes _).mono ?_
    rintro e w7 ⟨rfl, hb7⟩
    go_wp2
    go_ret
    exact ⟨rfl, hb06.trans (hb7.mono hb06.size)⟩
  rw [he]
  have HR3 : Hid (rightL (osP ps3) = true) := by show rightL (osP ps3) = true; rw [HP3.out]; exact HGOOD.out
  have HRB : Hid (readL [] (writeL (osP ps3)) = (osP ps3, 0)) := by
    have := read_back HR3.out []
    rw [List.append_nil] at this
    exact this
  clear he
  go_wp2_with fail
  refine (same_any _ _ _ _ _ _ _ _ _ (hrd3.below hb35) hrd5).mono ?_
  rw [HQ.out]
  rintro e w6 ⟨rfl, hb6⟩
  have hb36 := hb35.trans (hb6.mono hb35.size)
  have hb06 : Below w.heap.size w w6 := hb05.trans (hb6.mono hb05.size)
  go_wp2_with fail
  refine (write_yes _ _ _ _ _ (hrd3.below hb36) HR3.out).mono ?_
  rintro e w7 ⟨A7, n7, c7, rfl, hown7, hb7⟩
  have hb37 := hb36.trans (hb7.mono hb36.size)
  have hb07 : Below w.heap.size w w7 := hb06.trans (hb7.mono hb06.size)
  go_wp2_with fail
  refine (read_any _ _ _ _ _ hown7.bs).mono ?_
  rw [HRB.out]
  rintro e w8 ⟨A8, n8, c8, ps8, rfl, hps8, hown8, hb8⟩
  have hb38 := hb37.trans (hb8.mono hb37.size)
  have hb08 : Below w.heap.size w w8 := hb07.trans (hb8.mono hb07.size)
  have hrd8 := hown8.rd
  have HQ8 := Lib.hid (same_self hps8.symm)
  clear hown8 hps8 hown7
  go_wp2_with fail
  refine (right_any _ _ _ _ _ (hrd3.below hb38)).mono ?_
  rw [HR3.out]
  rintro e w9 ⟨rfl, hb9⟩
  have hb39 := hb38.trans (hb9.mono hb38.size)
  have hb09 : Below w.heap.size w w9 := hb08.trans (hb9.mono hb08.size)
  go_wp2_with fail
  refine (refRight_any _ _ _ _ _ (hrd3.below hb39)).mono ?_
  rw [HR3.out]
  rintro e w' ⟨rfl, rfl⟩
  go_wp2_with fail
  refine (same_any _ _ _ _ _ _ _ _ _ (hrd3.below hb39) (hrd8.below hb9)).mono ?_
  rw [HQ8.out]
  rintro e w10 ⟨rfl, hb10⟩
  have hb010 : Below w.heap.size w w10 := hb09.trans (hb10.mono hb09.size)
  go_wp2_with fail
  refine (knows_yes _).mono ?_
  rintro e w11 ⟨rfl, hb11⟩
  go_wp2
  go_ret
  exact ⟨rfl, hb010.trans (hb11.mono hb010.size)⟩
end Go.Proofs.Ytgjgmafihoboaaa
