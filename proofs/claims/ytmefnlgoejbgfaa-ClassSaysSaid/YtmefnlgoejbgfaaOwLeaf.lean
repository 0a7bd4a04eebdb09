/- What opts.KindOf and opts.Number come to, and the document's own. For lists whose options have 1000 bytes at most. -/
import Derived.Test.YtmefnlgoejbgfaaTlRight
import Derived.Test.YtmefnlgoejbgfaaCoPut
import Derived.Test.YtmefnlgoejbgfaaMsMath
set_option maxRecDepth 8000
namespace Go.Proofs.Ytmefnlgoejbgfaa.Ow
open Go.RowKit Tl Ms Co By

def numL (l : List O) (c : Int) (k : Nat) : Option Nat := (findL l c).bind fun d => if d.length = k then some (valL d) else none
theorem num_no {l : List O} {c : Int} (k : Nat) (h : findL l c = none) : numL l c k = none := by unfold numL; rw [h]; rfl
theorem num_other {l : List O} {c : Int} {k : Nat} {d : List UInt8} (h : findL l c = some d) (hd : d.length ≠ k) : numL l c k = none := by unfold numL; rw [h]; simp [hd]
theorem num_yes {l : List O} {c : Int} {k : Nat} {d : List UInt8} (h : findL l c = some d) (hd : d.length = k) : numL l c k = some (valL d) := by unfold numL; rw [h]; simp [hd]
theorem num_some {l : List O} {c : Int} {k v : Nat} (h : numL l c k = some v) : ∃ d, findL l c = some d ∧ d.length = k ∧ v = valL d := by
  cases hf : findL l c with
  | none => rw [num_no k hf] at h; cases h
  | some d =>
    by_cases hd : d.length = k
    · rw [num_yes hf hd] at h
      cases h
      exact ⟨d, rfl, hd, rfl⟩
    · rw [num_other hf hd] at h; cases h
/-- What a call that answers a number, if there is one, answers. -/
def RN (w : World) (r : Option Nat) (e : Ending) (w' : World) : Prop := e = .returned (.tuple #[.int .i64 ((r.getD 0 : Nat) : Int), .bool r.isSome]) ∧ Below w.heap.size w w'
def kindL (l : List O) : Int := match numL l 53 1 with
  | none => 0
  | some v => if 1 ≤ v ∧ v ≤ 8 then (v : Int) else 0
theorem kind_no {l : List O} (h : numL l 53 1 = none) : kindL l = 0 := by unfold kindL; rw [h]
theorem kind_yes {l : List O} {v : Nat} (h : numL l 53 1 = some v) (h1 : 1 ≤ v) (h2 : v ≤ 8) : kindL l = (v : Int) := by unfold kindL; rw [h]; simp [h1, h2]
theorem kind_out {l : List O} {v : Nat} (h : numL l 53 1 = some v) (h1 : ¬ (1 ≤ v ∧ v ≤ 8)) : kindL l = 0 := by unfold kindL; rw [h]; simp only [if_neg h1]
theorem num_small {l : List O} {c : Int} {v : Nat} (h : numL l c 1 = some v) : v < 256 := by
  obtain ⟨d, _, hd, rfl⟩ := num_some h
  have := valL_lt d
  rw [hd] at this
  exact this

set_option maxHeartbeats 400000 in
theorem number_any (A : Option Addr) (n c : Nat) (ps : List Po) (code : Int) (k : Nat) (w : World) (h : RdO w A n c ps) (hsm : ∀ p ∈ ps, p.l.length ≤ 1000) (hk1 : 1 ≤ k) (hk7 : k ≤ 7) :
    Calls Try.prog 27 #[.slice A n c, .int .i64 code, .int .i64 (k : Int)] w (RN w (numL (osP ps) code k)) := by
  have HSM := Lib.hid hsm
  clear hsm
  obtain ⟨r, HR⟩ : ∃ r, Hid (findL (osP ps) code = r) := ⟨_, rfl⟩
  cases r with
  | none =>
    have H := Lib.hid (num_no k HR.out)
    go_enter Try.func27, Try.ntmps27
    go_wp2_with fail
    refine (Tw.find_any A n c ps code w h HSM.out).mono ?_
    rw [HR.out]
    rintro e w1 ⟨A1, m1, c1, rfl, hbs, hb1⟩
    clear hbs
    go_wp2
    go_ret2
    rw [H.out]
    exact ⟨rfl, hb1⟩
  | some d =>
    by_cases hd : d.length = k
    · have H := Lib.hid (num_yes HR.out hd)
      have H2 : Hid (valL ((d.drop 0).take k) = valL d) := by
        show valL ((d.drop 0).take k) = valL d
        rw [List.drop_zero, List.take_of_length_le (by omega)]
      have HD := Lib.hid hd
      clear hd
      go_enter Try.func27, Try.ntmps27
      go_wp2_with fail
      refine (Tw.find_any A n c ps code w h HSM.out).mono ?_
      rw [HR.out]
      rintro e w1 ⟨A1, m1, c1, rfl, hbs, hb1⟩
      obtain rfl : m1 = k := by have e1 := hbs.len; have e2 := HD.out; simp only [Option.getD_some] at e1; omega
      have hbs' : Bs w1 A1 m1 c1 d := hbs
      clear hbs
      go_wp2_with fail
      refine (Cw.get_ok A1 m1 c1 d 0 m1 w1 hbs' hk1 hk7 (by omega)).mono ?_
      rw [H2.out]
      rintro e w2 ⟨rfl, rfl⟩
      clear hbs'
      go_wp2
      go_ret2
      rw [H.out]
      exact ⟨rfl, hb1⟩
    · have H := Lib.hid (num_other HR.out hd)
      have HD := Lib.hid hd
      clear hd
      go_enter Try.func27, Try.ntmps27
      go_wp2_with fail
      refine (Tw.find_any A n c ps code w h HSM.out).mono ?_
      rw [HR.out]
      rintro e w1 ⟨A1, m1, c1, rfl, hbs, hb1⟩
      have hcap := hbs.cap
      have hmax := hbs.max
      have hne : ((m1 : Int) != (k : Int)) = true := by
        have e1 := hbs.len
        have e2 := HD.out
        simp only [Option.getD_some] at e1
        simp
        omega
      clear hbs
      go_wp2
      go_ret2
      rw [H.out]
      exact ⟨rfl, hb1⟩

theorem number4_any (A : Option Addr) (n c : Nat) (ps : List Po) (code : Int) (w : World) (h : RdO w A n c ps) (hsm : ∀ p ∈ ps, p.l.length ≤ 1000) :
    Calls Try.prog 22 #[.slice A n c, .int .i64 code] w (RN w (numL (osP ps) code 4)) := by
  have HSM := Lib.hid hsm
  clear hsm
  go_enter Try.func22, Try.ntmps22
  go_wp2_with fail
  refine (number_any A n c ps code 4 w h HSM.out (by omega) (by omega)).mono ?_
  rintro e w1 ⟨rfl, hb1⟩
  go_wp2
  go_ret2
  exact ⟨rfl, hb1⟩

theorem kindOf_any (A : Option Addr) (n c : Nat) (ps : List Po) (w : World) (h : RdO w A n c ps) (hsm : ∀ p ∈ ps, p.l.length ≤ 1000) :
    Calls Try.prog 20 #[.slice A n c] w fun e w' => e = .returned (.int .i64 (kindL (osP ps))) ∧ Below w.heap.size w w' := by
  have HSM := Lib.hid hsm
  clear hsm
  obtain ⟨r, HR⟩ : ∃ r, Hid (numL (osP ps) 53 1 = r) := ⟨_, rfl⟩
  cases r with
  | none =>
    have H := Lib.hid (kind_no HR.out)
    go_enter Try.func20, Try.ntmps20
    go_wp2_with fail
    refine (number_any A n c ps 53 1 w h HSM.out (by omega) (by omega)).mono ?_
    rw [HR.out]
    rintro e w1 ⟨rfl, hb1⟩
    go_wp2
    go_ret
    exact ⟨ret_int H.out.symm, hb1⟩
  | some v =>
    have hv := num_small HR.out
    by_cases h1 : 1 ≤ v ∧ v ≤ 8
    · have H := Lib.hid (kind_yes HR.out h1.1 h1.2)
      obtain ⟨h1, h2⟩ := h1
      go_enter Try.func20, Try.ntmps20
      go_wp2_with fail
      refine (number_any A n c ps 53 1 w h HSM.out (by omega) (by omega)).mono ?_
      rw [HR.out]
      rintro e w1 ⟨rfl, hb1⟩
      go_wp2
      go_ret
      exact ⟨ret_int H.out.symm, hb1⟩
    · have H := Lib.hid (kind_out HR.out h1)
      by_cases h2 : v = 0
      · subst h2
        go_enter Try.func20, Try.ntmps20
        go_wp2_with fail
        refine (number_any A n c ps 53 1 w h HSM.out (by omega) (by omega)).mono ?_
        rw [HR.out]
        rintro e w1 ⟨rfl, hb1⟩
        go_wp2
        go_ret
        exact ⟨ret_int H.out.symm, hb1⟩
      · have h3 : 8 < v := by omega
        clear h1 h2
        go_enter Try.func20, Try.ntmps20
        go_wp2_with fail
        refine (number_any A n c ps 53 1 w h HSM.out (by omega) (by omega)).mono ?_
        rw [HR.out]
        rintro e w1 ⟨rfl, hb1⟩
        go_wp2
        go_ret
        exact ⟨ret_int H.out.symm, hb1⟩

theorem refNumber_any (A : Option Addr) (n c : Nat) (ps : List Po) (code : Int) (w : World) (h : RdO w A n c ps) :
    Calls Try.prog 16 #[.slice A n c, .int .i64 code] w (RN w (numL (osP ps) code 4)) := by
  obtain ⟨r, HR⟩ : ∃ r, Hid (findL (osP ps) code = r) := ⟨_, rfl⟩
  cases r with
  | none =>
    have H := Lib.hid (num_no 4 HR.out)
    go_enter Try.func16, Try.ntmps16
    go_wp2_with fail
    refine (Tw.refFind_any A n c ps code w h).mono ?_
    rw [HR.out]
    rintro e w1 ⟨A1, m1, c1, rfl, hbs, rfl⟩
    clear hbs
    go_wp2
    go_ret2
    rw [H.out]
    exact ⟨rfl, Below.refl _ _⟩
  | some d =>
    by_cases hd : d.length = 4
    · have H := Lib.hid (num_yes HR.out hd)
      have HD := Lib.hid hd
      clear hd
      go_enter Try.func16, Try.ntmps16
      go_wp2_with fail
      refine (Tw.refFind_any A n c ps code w h).mono ?_
      rw [HR.out]
      rintro e w1 ⟨A1, m1, c1, rfl, hbs, rfl⟩
      obtain rfl : m1 = 4 := by have e1 := hbs.len; have e2 := HD.out; simp only [Option.getD_some] at e1; omega
      have hbs' : Bs w A1 4 c1 d := hbs
      clear hbs
      go_wp2_with fail
      refine (Cw.value_any A1 4 c1 d w hbs' (by omega)).mono ?_
      rintro e w2 ⟨rfl, rfl⟩
      go_wp2
      go_ret2
      rw [H.out]
      exact ⟨rfl, Below.refl _ _⟩
    · have H := Lib.hid (num_other HR.out hd)
      have HD := Lib.hid hd
      clear hd
      go_enter Try.func16, Try.ntmps16
      go_wp2_with fail
      refine (Tw.refFind_any A n c ps code w h).mono ?_
      rw [HR.out]
      rintro e w1 ⟨A1, m1, c1, rfl, hbs, rfl⟩
      have hcap := hbs.cap
      have hmax := hbs.max
      have hne : ((m1 : Int) == 4) = false := by
        have e1 := hbs.len
        have e2 := HD.out
        simp only [Option.getD_some] at e1
        simp
        omega
      clear hbs
      go_wp2
      go_ret2
      rw [H.out]
      exact ⟨rfl, Below.refl _ _⟩

theorem refKind_any (A : Option Addr) (n c : Nat) (ps : List Po) (w : World) (h : RdO w A n c ps) :
    Calls Try.prog 17 #[.slice A n c] w fun e w' => e = .returned (.int .i64 (kindL (osP ps))) ∧ w = w' := by
  obtain ⟨r, HR⟩ : ∃ r, Hid (findL (osP ps) 53 = r) := ⟨_, rfl⟩
  cases r with
  | none =>
    have H := Lib.hid (kind_no (num_no 1 HR.out))
    go_enter Try.func17, Try.ntmps17
    go_wp2_with fail
    refine (Tw.refFind_any A n c ps 53 w h).mono ?_
    rw [HR.out]
    rintro e w1 ⟨A1, m1, c1, rfl, hbs, rfl⟩
    clear hbs
    go_wp2
    go_ret
    exact ⟨ret_int H.out.symm, rfl⟩
  | some d =>
    by_cases hd : d.length = 1
    · obtain ⟨x, rfl⟩ := one_of_len hd
      have hnum := num_yes HR.out hd
      have hvx : valL [x] = x.toNat := by simp [valL]
      rw [hvx] at hnum
      have hx := x.toNat_lt
      have HN := Lib.hid hnum
      clear hnum hd hvx
      by_cases h1 : 1 ≤ x.toNat ∧ x.toNat ≤ 8
      · have H := Lib.hid (kind_yes HN.out h1.1 h1.2)
        obtain ⟨h1, h2⟩ := h1
        go_enter Try.func17, Try.ntmps17
        go_wp2_with fail
        refine (Tw.refFind_any A n c ps 53 w h).mono ?_
        rw [HR.out]
        rintro e w1 ⟨A1, m1, c1, rfl, hbs, rfl⟩
        obtain rfl : m1 = 1 := hbs.len.symm
        obtain ⟨b, o, rfl, hcell⟩ := hbs.at_ (k := 0) (by omega)
        have hc0 : w.cell? ⟨b, o, none⟩ = some (.int .u8 (x.toNat : Int)) := hcell 0 (by simp)
        have hcap := hbs.cap
        have hmax := hbs.max
        clear hcell hbs
        go_wp2
        go_ret
        exact ⟨ret_int H.out.symm, rfl⟩
      · have H := Lib.hid (kind_out HN.out h1)
        by_cases h2 : x.toNat = 0
        · go_enter Try.func17, Try.ntmps17
          go_wp2_with fail
          refine (Tw.refFind_any A n c ps 53 w h).mono ?_
          rw [HR.out]
          rintro e w1 ⟨A1, m1, c1, rfl, hbs, rfl⟩
          obtain rfl : m1 = 1 := hbs.len.symm
          obtain ⟨b, o, rfl, hcell⟩ := hbs.at_ (k := 0) (by omega)
          have hc0 : w.cell? ⟨b, o, none⟩ = some (.int .u8 0) := by have := hcell 0 (by simp); simp only [Option.getD_some, List.getElem_cons_zero, h2] at this; exact this
          have hcap := hbs.cap
          have hmax := hbs.max
          clear hcell hbs h1
          go_wp2
          go_ret
          exact ⟨ret_int H.out.symm, rfl⟩
        · have h3 : 8 < x.toNat := by omega
          clear h1 h2
          go_enter Try.func17, Try.ntmps17
          go_wp2_with fail
          refine (Tw.refFind_any A n c ps 53 w h).mono ?_
          rw [HR.out]
          rintro e w1 ⟨A1, m1, c1, rfl, hbs, rfl⟩
          obtain rfl : m1 = 1 := hbs.len.symm
          obtain ⟨b, o, rfl, hcell⟩ := hbs.at_ (k := 0) (by omega)
          have hc0 : w.cell? ⟨b, o, none⟩ = some (.int .u8 (x.toNat : Int)) := hcell 0 (by simp)
          have hcap := hbs.cap
          have hmax := hbs.max
          clear hcell hbs
          go_wp2
          go_ret
          exact ⟨ret_int H.out.symm, rfl⟩
    · have H := Lib.hid (kind_no (num_other HR.out hd))
      have HD := Lib.hid hd
      clear hd
      go_enter Try.func17, Try.ntmps17
      go_wp2_with fail
      refine (Tw.refFind_any A n c ps 53 w h).mono ?_
      rw [HR.out]
      rintro e w1 ⟨A1, m1, c1, rfl, hbs, rfl⟩
      have hcap := hbs.cap
      have hmax := hbs.max
      have hne : ((m1 : Int) == 1) = false := by
        have e1 := hbs.len
        have e2 := HD.out
        simp only [Option.getD_some] at e1
        simp
        omega
      clear hbs
      go_wp2
      go_ret
      exact ⟨ret_int H.out.symm, rfl⟩
end Go.Proofs.Ytmefnlgoejbgfaa.Ow
