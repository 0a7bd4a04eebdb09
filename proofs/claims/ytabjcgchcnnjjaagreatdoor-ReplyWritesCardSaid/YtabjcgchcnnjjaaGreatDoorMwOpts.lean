/- msg.takeOverload, joinField, readOptions: the options of a message's bytes, or the error. Condition: what msg's package-level variables hold (En.ok). -/
import Derived.Test.YtabjcgchcnnjjaaGreatDoorMwDel
import Derived.Test.YtabjcgchcnnjjaaGreatDoorMwRead
import Derived.OwnWalk
set_option maxRecDepth 8000
namespace Go.Proofs.YtabjcgchcnnjjaaGreatDoor.Mw
open Go.RowKit Tl Ms Co By

def strOverload : ByteArray := ⟨#[111, 118, 101, 114, 108, 111, 97, 100]⟩
def strOptions : ByteArray := ⟨#[111, 112, 116, 105, 111, 110, 115]⟩
def strFile : ByteArray := ⟨#[102, 105, 108, 101, 32, 102, 105, 101, 108, 100]⟩
def strName : ByteArray := ⟨#[110, 97, 109, 101, 32, 102, 105, 101, 108, 100]⟩
def strJoined : ByteArray := ⟨#[106, 111, 105, 110, 101, 100, 32, 111, 112, 116, 105, 111, 110, 115]⟩
def TakeN (B : Nat) (l : List O) (k : Int) (w : World) (e : Ending) (w' : World) : Prop := ∃ A n c qs, e = .returned (.tuple #[.slice A n c, .int .i64 k, .nilIface]) ∧ RdO w' A n c qs ∧ osP qs = l ∧ Below B w w' ∧ Fr B A n qs
theorem find_codes {l : List O} {c : Int} {d : List UInt8} (h : findL l c = some d) : c ∈ codesL l := by
  refine Classical.byContradiction fun hn => ?_
  rw [find_none hn] at h
  cases h

set_option maxHeartbeats 1000000 in
theorem take_none (B : Nat) (A : Option Addr) (n c : Nat) (ps : List Po) (w : World) (hB : B ≤ w.heap.size) (h : RdO w A n c ps) (hfr : Fr B A n ps) (hr : rightL (osP ps) = true) (hf : findL (osP ps) 52 = none) :
    Calls Tryz.prog 85 #[.slice A n c] w (TakeN B (osP ps) 0 w) := by
  have HF := Lib.hid hf
  have HS := Lib.hid (right_small hr)
  clear hf hr
  go_enter Tryz.func85, Tryz.ntmps85
  go_wp2_with fail
  refine (Tw.find_any A n c ps 52 _ h HS.out).mono ?_
  rw [HF.out]
  rintro e w1 ⟨A1, m1, c1, rfl, _, hb1⟩
  simp only [Option.isSome_none]
  go_wp2
  go_ret3
  exact ⟨A, n, c, ps, rfl, h.below hb1, rfl, hb1.mono hB, hfr⟩

set_option maxHeartbeats 1000000 in
theorem take_bad (E : En) (B : Nat) (A : Option Addr) (n c : Nat) (ps : List Po) (w : World) (hE : E.ok w) (hB : B ≤ w.heap.size) (h : RdO w A n c ps) (hr : rightL (osP ps) = true) (d : List UInt8) (hf : findL (osP ps) 52 = some d) (hd : ∀ x, d = [x] → x = 0 ∨ 3 < x) :
    Calls Tryz.prog 85 #[.slice A n c] w fun e w' => e = .returned (.tuple #[.slice none 0 0, .int .i64 0, (Er.flt strOverload (.sen E.F)).v]) ∧ Below B w w' := by
  have HF := Lib.hid hf
  have HS := Lib.hid (right_small hr)
  have HE := Lib.hid hE
  clear hf hr hE
  go_enter Tryz.func85, Tryz.ntmps85
  go_wp2_with fail
  refine (Tw.find_any A n c ps 52 _ h HS.out).mono ?_
  rw [HF.out]
  rintro e w1 ⟨A1, m1, c1, rfl, hb, hb1⟩
  simp only [Option.isSome_some, Option.getD_some] at hb ⊢
  have gF := (HE.out.below hb1).gF
  have hl := hb.len
  have hmx := hb.max
  have hcp := hb.cap
  by_cases h1 : m1 = 1
  · subst h1
    obtain ⟨x, rfl⟩ := one_of_len hl
    have hx := hd x rfl
    obtain ⟨b, o, rfl, hc⟩ := hb.at_ (k := 0) (by omega)
    have hc0 : w1.cell? ⟨b, o, none⟩ = some (.int .u8 (x.toNat : Int)) := hc 0 (by simp)
    have hlt := x.toNat_lt
    by_cases h0 : x = 0
    · subst h0
      clear hx hd HF hc
      have hc00 : w1.cell? ⟨b, o, none⟩ = some (.int .u8 0) := hc0
      clear hc0
      go_wp2_with fail
      go_quiet (fail)
      go_wp2
      go_ret3
      exact ⟨rfl, below_drewN (hb1.mono hB) _⟩
    · have h3 : 3 < x := hx.resolve_left h0
      have h3i : (3 : Int) < (x.toNat : Int) := by have : (3 : UInt8).toNat < x.toNat := h3; have e : (3 : UInt8).toNat = 3 := rfl; omega
      have h0i : ((x.toNat : Int) == 0) = false := by simp; omega
      generalize x.toNat = X at *
      clear hx hd HF hc h3 h0
      go_wp2_with fail
      go_quiet (fail)
      go_wp2
      go_ret3
      exact ⟨rfl, below_drewN (hb1.mono hB) _⟩
  · clear hd HF
    have h1i : ¬ (m1 : Int) = 1 := by omega
    go_wp2_with fail
    go_quiet (fail)
    go_wp2
    go_ret3
    exact ⟨rfl, below_drewN (hb1.mono hB) _⟩

set_option maxHeartbeats 400000 in
theorem find_own (A : Option Addr) (n c : Nat) (ps : List Po) (code : Int) (w : World) (h : RdO w A n c ps) (hsm : ∀ p ∈ ps, p.l.length ≤ 1000) (hd : code ∈ codesL (osP ps)) :
    Calls Tryz.prog 37 #[.slice A n c, .int .i64 code] w fun e w' => ∃ A1 m1 c1, e = .returned (.tuple #[.slice A1 m1 c1, .bool true]) ∧ Own 5 w.heap.size w' A1 m1 c1 ((findL (osP ps) code).getD []) ∧ Below w.heap.size w w' := by
  have hl := Lib.hid h.len
  have hm := h.max
  have hcap := h.cap
  have HSM := Lib.hid hsm
  clear hsm
  have HD := hd
  · obtain ⟨i, hi, hp, hcode, hno⟩ := place_mem hd
    have hin : i < n := by rw [os_len, hl.out] at hi; exact hi
    obtain ⟨b, o, co, A', m, c', l, rfl, _, _, _, HP0, HO, HM, _, _⟩ := h.at_ hin
    have HF : Hid (findL (osP ps) code = some l) := by
      obtain ⟨g1, g2⟩ := HO.out
      have := find_hit (c := code) hi hcode hno
      rw [g2] at this
      exact this
    have HPL := Lib.hid hp
    have hm1 : m ≤ 1000 := by
      have h1 := HSM.out _ (List.mem_of_getElem? HP0.out)
      have h2 := HM.out
      subst h2
      exact h1
    have HB : Hid (∀ W, Below w.heap.size w W → W.cell? ⟨b, o + i * 2 + 1, none⟩ = some (.slice A' m c') ∧ Bs W A' m c' l) := fun W hW => by
      obtain ⟨b2, o2, co2, A2, m2, c2, l2, e, h1, h2, h3, h4, h5, h6, _⟩ := (h.below hW).at_ hin
      cases e
      have h7 := h4.out.symm.trans HP0.out
      injection h7 with h7
      injection h7 with e1 e2 e3 e4
      subst e2; subst e3; subst e4
      have e5 := h6.out
      have e6 := HM.out
      rw [e5] at e6
      subst e6
      exact ⟨h2, h3⟩
    clear hp hcode hno hd hi HO
    go_enter Tryz.func37, Tryz.ntmps37
    go_wp2_with fail
    refine (Tw.place_any _ n c ps code _ h).mono ?_
    rw [HPL.out]
    rintro e w1 ⟨rfl, hb1⟩
    obtain ⟨hcell, hbs⟩ := HB.out w1 hb1
    go_wp2_with fail
    refine (Tw.clone_any A' m c' l _ hbs (by omega)).mono ?_
    rintro e w2 ⟨A3, c3, rfl, hown3, hb2⟩
    go_wp2
    go_ret2
    exact ⟨A3, m, c3, rfl, by rw [HF.out]; exact hown3.mono hb1.size, hb1.trans (hb2.mono hb1.size)⟩

set_option maxHeartbeats 1000000 in
theorem take_ok (B : Nat) (A : Option Addr) (n c : Nat) (ps : List Po) (w : World) (hB : B ≤ w.heap.size) (h : OwnO 46 5 B w A n c ps) (hr : rightL (osP ps) = true) (x : UInt8) (hf : findL (osP ps) 52 = some [x]) (hx0 : x ≠ 0) (hx3 : ¬ 3 < x) :
    Calls Tryz.prog 85 #[.slice A n c] w (TakeN B (withoutL (osP ps) 52) (x.toNat : Int) w) := by
  have HF := Lib.hid hf
  have HR := Lib.hid hr
  have HS := Lib.hid (right_small hr)
  have HM := Lib.hid (find_codes hf)
  have h3i : ¬ (3 : Int) < (x.toNat : Int) := by
    have : ¬ (3 : UInt8).toNat < x.toNat := hx3
    have e : (3 : UInt8).toNat = 3 := rfl
    omega
  have h0i : ((x.toNat : Int) == 0) = false := by
    have : x.toNat ≠ 0 := fun k => hx0 (UInt8.toNat_inj.1 k)
    simp
    omega
  clear hf hr hx0 hx3
  go_enter Tryz.func85, Tryz.ntmps85
  go_wp2_with fail
  refine (find_own A n c ps 52 _ h.rd HS.out HM.out).mono ?_
  rw [HF.out]
  rintro e w1 ⟨A1, m1, c1, rfl, hbo, hb1⟩
  simp only [Option.getD_some] at hbo
  have hb := hbo.bs
  have hl := hb.len
  have hmx := hb.max
  have hcp := hb.cap
  obtain rfl : m1 = 1 := by simpa using hl.symm
  obtain ⟨b, rfl, hbge, hblt⟩ := hbo.head (by omega)
  have hc0 : w1.cell? ⟨b, 0, none⟩ = some (.int .u8 (x.toNat : Int)) := by
    obtain ⟨b', o', e, hc⟩ := hb.at_ (k := 0) (by omega)
    cases e
    exact hc 0 (by simp)
  have hlt := x.toNat_lt
  have h1 := h.below hb1
  have hAne : ∀ a, A = some a → a.block ≠ b := fun a ha => by
    have hn : 0 < n := by
      have h5 := h.1.len
      have h6 := HM.out
      rcases Nat.eq_zero_or_pos n with k | k
      · rw [k] at h5
        rw [List.length_eq_zero_iff.1 h5] at h6
        cases h6
      · exact k
    obtain ⟨g, hA, _, hg⟩ := h.1.head hn
    rw [hA] at ha
    cases ha
    show g ≠ b
    omega
  clear hb hbo hl h
  go_wp2_with fail
  refine (delete52 B A n c ps w1 (by have := hb1.size; omega) h1 HR.out HM.out).mono ?_
  rintro e w2 ⟨A2, k2, c2, qs, rfl, hq, hqs, hb2, hfr2, hoth⟩
  have hd0 : w2.cell? ⟨b, 0, none⟩ = some (.int .u8 (x.toNat : Int)) := (World.cell?_of_block (w := w1) (a := ⟨b, 0, none⟩) (hoth b hblt hAne)).trans hc0
  have HQ := Lib.hid hqs
  clear hc0 hoth hAne hqs
  generalize x.toNat = X at *
  go_wp2
  go_quiet (fail)
  go_wp2
  go_ret3
  exact ⟨A2, k2, c2, qs, rfl, hq, HQ.out, below_drewN ((hb1.mono hB).trans hb2) _, hfr2⟩
end Go.Proofs.YtabjcgchcnnjjaaGreatDoor.Mw
