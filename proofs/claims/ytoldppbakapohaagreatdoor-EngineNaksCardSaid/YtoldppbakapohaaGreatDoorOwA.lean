/- What opts.KindOf and opts.Number come to, and the document's own. For lists whose options have 1000 bytes at most. -/
import Derived.Test.YtoldppbakapohaaGreatDoorTlA
import Derived.Test.YtoldppbakapohaaGreatDoorCoA
import Derived.Test.YtoldppbakapohaaGreatDoorMathA
import Derived.Test.YtoldppbakapohaaGreatDoorKitA
import Derived.OwnWalk
import Derived.Deep.QuietTactic
import Derived.Laws.CopyRow
import Derived.Laws.Rows
section
set_option maxRecDepth 8000
namespace Go.Proofs.YtoldppbakapohaaGreatDoor.Ow
open Go.RowKit Tl Ms Co By

def numL (l : List O) (c : Int) (k : Nat) : Option Nat := (findL l c).bind fun d => if d.length = k then some (valL d) else none
theorem num_no {l : List O} {c : Int} (k : Nat) (h : findL l c = none) : numL l c k = none := by unfold numL; rw [h]; rfl
theorem num_other {l : List O} {c : Int} {k : Nat} {d : List UInt8} (h : findL l c = some d) (hd : d.length ≠ k) : numL l c k = none := by unfold numL; rw [h]; simp [hd]
theorem num_yes {l : List O} {c : Int} {k : Nat} {d : List UInt8} (h : findL l c = some d) (hd : d.length = k) : numL l c k = some (valL d) := by unfold numL; rw [h]; simp [hd]
theorem num_some {l : List O} {c : Int} {k v : Nat} (h : numL l c k = some v) : ∃ d, findL l c = some d ∧ d.length = k ∧ v = valL d := by
  cases hf : findL l c with
  | none => rw [num_no k hf] at h; cases h
  | some d =>
    by_cases hd : d.length = k
    · rw [num_yes hf hd] at h
      cases h
      exact ⟨d, rfl, hd, rfl⟩
    · rw [num_other hf hd] at h; cases h
/-- What a call that answers a number, if there is one, answers. -/
def RN (w : World) (r : Option Nat) (e : Ending) (w' : World) : Prop := e = .returned (.tuple #[.int .i64 ((r.getD 0 : Nat) : Int), .bool r.isSome]) ∧ Below w.heap.size w w'
def kindL (l : List O) : Int := match numL l 53 1 with
  | none => 0
  | some v => if 1 ≤ v ∧ v ≤ 8 then (v : Int) else 0
theorem kind_no {l : List O} (h : numL l 53 1 = none) : kindL l = 0 := by unfold kindL; rw [h]
theorem kind_yes {l : List O} {v : Nat} (h : numL l 53 1 = some v) (h1 : 1 ≤ v) (h2 : v ≤ 8) : kindL l = (v : Int) := by unfold kindL; rw [h]; simp [h1, h2]
theorem kind_out {l : List O} {v : Nat} (h : numL l 53 1 = some v) (h1 : ¬ (1 ≤ v ∧ v ≤ 8)) : kindL l = 0 := by unfold kindL; rw [h]; simp only [if_neg h1]
theorem num_small {l : List O} {c : Int} {v : Nat} (h : numL l c 1 = some v) : v < 256 := by
  obtain ⟨d, _, hd, rfl⟩ := num_some h
  have := valL_lt d
  rw [hd] at this
  exact this

set_option maxHeartbeats 400000 in
theorem number_any (A : Option Addr) (n c : Nat) (ps : List Po) (code : Int) (k : Nat) (w : World) (h : RdO w A n c ps) (hsm : ∀ p ∈ ps, p.l.length ≤ 1000) (hk1 : 1 ≤ k) (hk7 : k ≤ 7) :
    Calls Tryz.prog 86 #[.slice A n c, .int .i64 code, .int .i64 (k : Int)] w (RN w (numL (osP ps) code k)) := by
  have HSM := Lib.hid hsm
  clear hsm
  obtain ⟨r, HR⟩ : ∃ r, Hid (findL (osP ps) code = r) := ⟨_, rfl⟩
  cases r with
  | none =>
    have H := Lib.hid (num_no k HR.out)
    go_enter Tryz.func86, Tryz.ntmps86
    go_wp2_with fail
    refine (Tw.find_any A n c ps code w h HSM.out).mono ?_
    rw [HR.out]
    rintro e w1 ⟨A1, m1, c1, rfl, hbs, hb1⟩
    clear hbs
    go_wp2
    go_ret2
    rw [H.out]
    exact ⟨rfl, hb1⟩
  | some d =>
    by_cases hd : d.length = k
    · have H := Lib.hid (num_yes HR.out hd)
      have H2 : Hid (valL ((d.drop 0).take k) = valL d) := by
        show valL ((d.drop 0).take k) = valL d
        rw [List.drop_zero, List.take_of_length_le (by omega)]
      have HD := Lib.hid hd
      clear hd
      go_enter Tryz.func86, Tryz.ntmps86
      go_wp2_with fail
      refine (Tw.find_any A n c ps code w h HSM.out).mono ?_
      rw [HR.out]
      rintro e w1 ⟨A1, m1, c1, rfl, hbs, hb1⟩
      obtain rfl : m1 = k := by have e1 := hbs.len; have e2 := HD.out; simp only [Option.getD_some] at e1; omega
      have hbs' : Bs w1 A1 m1 c1 d := hbs
      clear hbs
      go_wp2_with fail
      refine (Cw.get_ok A1 m1 c1 d 0 m1 w1 hbs' hk1 hk7 (by omega)).mono ?_
      rw [H2.out]
      rintro e w2 ⟨rfl, rfl⟩
      clear hbs'
      go_wp2
      go_ret2
      rw [H.out]
      exact ⟨rfl, hb1⟩
    · have H := Lib.hid (num_other HR.out hd)
      have HD := Lib.hid hd
      clear hd
      go_enter Tryz.func86, Tryz.ntmps86
      go_wp2_with fail
      refine (Tw.find_any A n c ps code w h HSM.out).mono ?_
      rw [HR.out]
      rintro e w1 ⟨A1, m1, c1, rfl, hbs, hb1⟩
      have hcap := hbs.cap
      have hmax := hbs.max
      have hne : ((m1 : Int) != (k : Int)) = true := by
        have e1 := hbs.len
        have e2 := HD.out
        simp only [Option.getD_some] at e1
        simp
        omega
      clear hbs
      go_wp2
      go_ret2
      rw [H.out]
      exact ⟨rfl, hb1⟩

theorem number4_any (A : Option Addr) (n c : Nat) (ps : List Po) (code : Int) (w : World) (h : RdO w A n c ps) (hsm : ∀ p ∈ ps, p.l.length ≤ 1000) :
    Calls Tryz.prog 138 #[.slice A n c, .int .i64 code] w (RN w (numL (osP ps) code 4)) := by
  have HSM := Lib.hid hsm
  clear hsm
  go_enter Tryz.func138, Tryz.ntmps138
  go_wp2_with fail
  refine (number_any A n c ps code 4 w h HSM.out (by omega) (by omega)).mono ?_
  rintro e w1 ⟨rfl, hb1⟩
  go_wp2
  go_ret2
  exact ⟨rfl, hb1⟩

theorem kindOf_any (A : Option Addr) (n c : Nat) (ps : List Po) (w : World) (h : RdO w A n c ps) (hsm : ∀ p ∈ ps, p.l.length ≤ 1000) :
    Calls Tryz.prog 40 #[.slice A n c] w fun e w' => e = .returned (.int .i64 (kindL (osP ps))) ∧ Below w.heap.size w w' := by
  have HSM := Lib.hid hsm
  clear hsm
  obtain ⟨r, HR⟩ : ∃ r, Hid (numL (osP ps) 53 1 = r) := ⟨_, rfl⟩
  cases r with
  | none =>
    have H := Lib.hid (kind_no HR.out)
    go_enter Tryz.func40, Tryz.ntmps40
    go_wp2_with fail
    refine (number_any A n c ps 53 1 w h HSM.out (by omega) (by omega)).mono ?_
    rw [HR.out]
    rintro e w1 ⟨rfl, hb1⟩
    go_wp2
    go_ret
    exact ⟨ret_int H.out.symm, hb1⟩
  | some v =>
    have hv := num_small HR.out
    by_cases h1 : 1 ≤ v ∧ v ≤ 8
    · have H := Lib.hid (kind_yes HR.out h1.1 h1.2)
      obtain ⟨h1, h2⟩ := h1
      go_enter Tryz.func40, Tryz.ntmps40
      go_wp2_with fail
      refine (number_any A n c ps 53 1 w h HSM.out (by omega) (by omega)).mono ?_
      rw [HR.out]
      rintro e w1 ⟨rfl, hb1⟩
      go_wp2
      go_ret
      exact ⟨ret_int H.out.symm, hb1⟩
    · have H := Lib.hid (kind_out HR.out h1)
      by_cases h2 : v = 0
      · subst h2
        go_enter Tryz.func40, Tryz.ntmps40
        go_wp2_with fail
        refine (number_any A n c ps 53 1 w h HSM.out (by omega) (by omega)).mono ?_
        rw [HR.out]
        rintro e w1 ⟨rfl, hb1⟩
        go_wp2
        go_ret
        exact ⟨ret_int H.out.symm, hb1⟩
      · have h3 : 8 < v := by omega
        clear h1 h2
        go_enter Tryz.func40, Tryz.ntmps40
        go_wp2_with fail
        refine (number_any A n c ps 53 1 w h HSM.out (by omega) (by omega)).mono ?_
        rw [HR.out]
        rintro e w1 ⟨rfl, hb1⟩
        go_wp2
        go_ret
        exact ⟨ret_int H.out.symm, hb1⟩

theorem refNumber_any (A : Option Addr) (n c : Nat) (ps : List Po) (code : Int) (w : World) (h : RdO w A n c ps) :
    Calls Tryz.prog 21 #[.slice A n c, .int .i64 code] w (RN w (numL (osP ps) code 4)) := by
  obtain ⟨r, HR⟩ : ∃ r, Hid (findL (osP ps) code = r) := ⟨_, rfl⟩
  cases r with
  | none =>
    have H := Lib.hid (num_no 4 HR.out)
    go_enter Tryz.func21, Tryz.ntmps21
    go_wp2_with fail
    refine (Tw.refFind_any A n c ps code w h).mono ?_
    rw [HR.out]
    rintro e w1 ⟨A1, m1, c1, rfl, hbs, rfl⟩
    clear hbs
    go_wp2
    go_ret2
    rw [H.out]
    exact ⟨rfl, Below.refl _ _⟩
  | some d =>
    by_cases hd : d.length = 4
    · have H := Lib.hid (num_yes HR.out hd)
      have HD := Lib.hid hd
      clear hd
      go_enter Tryz.func21, Tryz.ntmps21
      go_wp2_with fail
      refine (Tw.refFind_any A n c ps code w h).mono ?_
      rw [HR.out]
      rintro e w1 ⟨A1, m1, c1, rfl, hbs, rfl⟩
      obtain rfl : m1 = 4 := by have e1 := hbs.len; have e2 := HD.out; simp only [Option.getD_some] at e1; omega
      have hbs' : Bs w A1 4 c1 d := hbs
      clear hbs
      go_wp2_with fail
      refine (Cw.value_any A1 4 c1 d w hbs' (by omega)).mono ?_
      rintro e w2 ⟨rfl, rfl⟩
      go_wp2
      go_ret2
      rw [H.out]
      exact ⟨rfl, Below.refl _ _⟩
    · have H := Lib.hid (num_other HR.out hd)
      have HD := Lib.hid hd
      clear hd
      go_enter Tryz.func21, Tryz.ntmps21
      go_wp2_with fail
      refine (Tw.refFind_any A n c ps code w h).mono ?_
      rw [HR.out]
      rintro e w1 ⟨A1, m1, c1, rfl, hbs, rfl⟩
      have hcap := hbs.cap
      have hmax := hbs.max
      have hne : ((m1 : Int) == 4) = false := by
        have e1 := hbs.len
        have e2 := HD.out
        simp only [Option.getD_some] at e1
        simp
        omega
      clear hbs
      go_wp2
      go_ret2
      rw [H.out]
      exact ⟨rfl, Below.refl _ _⟩

theorem refKind_any (A : Option Addr) (n c : Nat) (ps : List Po) (w : World) (h : RdO w A n c ps) :
    Calls Tryz.prog 20 #[.slice A n c] w fun e w' => e = .returned (.int .i64 (kindL (osP ps))) ∧ w = w' := by
  obtain ⟨r, HR⟩ : ∃ r, Hid (findL (osP ps) 53 = r) := ⟨_, rfl⟩
  cases r with
  | none =>
    have H := Lib.hid (kind_no (num_no 1 HR.out))
    go_enter Tryz.func20, Tryz.ntmps20
    go_wp2_with fail
    refine (Tw.refFind_any A n c ps 53 w h).mono ?_
    rw [HR.out]
    rintro e w1 ⟨A1, m1, c1, rfl, hbs, rfl⟩
    clear hbs
    go_wp2
    go_ret
    exact ⟨ret_int H.out.symm, rfl⟩
  | some d =>
    by_cases hd : d.length = 1
    · obtain ⟨x, rfl⟩ := one_of_len hd
      have hnum := num_yes HR.out hd
      have hvx : valL [x] = x.toNat := by simp [valL]
      rw [hvx] at hnum
      have hx := x.toNat_lt
      have HN := Lib.hid hnum
      clear hnum hd hvx
      by_cases h1 : 1 ≤ x.toNat ∧ x.toNat ≤ 8
      · have H := Lib.hid (kind_yes HN.out h1.1 h1.2)
        obtain ⟨h1, h2⟩ := h1
        go_enter Tryz.func20, Tryz.ntmps20
        go_wp2_with fail
        refine (Tw.refFind_any A n c ps 53 w h).mono ?_
        rw [HR.out]
        rintro e w1 ⟨A1, m1, c1, rfl, hbs, rfl⟩
        obtain rfl : m1 = 1 := hbs.len.symm
        obtain ⟨b, o, rfl, hcell⟩ := hbs.at_ (k := 0) (by omega)
        have hc0 : w.cell? ⟨b, o, none⟩ = some (.int .u8 (x.toNat : Int)) := hcell 0 (by simp)
        have hcap := hbs.cap
        have hmax := hbs.max
        clear hcell hbs
        go_wp2
        go_ret
        exact ⟨ret_int H.out.symm, rfl⟩
      · have H := Lib.hid (kind_out HN.out h1)
        by_cases h2 : x.toNat = 0
        · go_enter Tryz.func20, Tryz.ntmps20
          go_wp2_with fail
          refine (Tw.refFind_any A n c ps 53 w h).mono ?_
          rw [HR.out]
          rintro e w1 ⟨A1, m1, c1, rfl, hbs, rfl⟩
          obtain rfl : m1 = 1 := hbs.len.symm
          obtain ⟨b, o, rfl, hcell⟩ := hbs.at_ (k := 0) (by omega)
          have hc0 : w.cell? ⟨b, o, none⟩ = some (.int .u8 0) := by have := hcell 0 (by simp); simp only [Option.getD_some, gZe, h2] at this; exact this
          have hcap := hbs.cap
          have hmax := hbs.max
          clear hcell hbs h1
          go_wp2
          go_ret
          exact ⟨ret_int H.out.symm, rfl⟩
        · have h3 : 8 < x.toNat := by omega
          clear h1 h2
          go_enter Tryz.func20, Tryz.ntmps20
          go_wp2_with fail
          refine (Tw.refFind_any A n c ps 53 w h).mono ?_
          rw [HR.out]
          rintro e w1 ⟨A1, m1, c1, rfl, hbs, rfl⟩
          obtain rfl : m1 = 1 := hbs.len.symm
          obtain ⟨b, o, rfl, hcell⟩ := hbs.at_ (k := 0) (by omega)
          have hc0 : w.cell? ⟨b, o, none⟩ = some (.int .u8 (x.toNat : Int)) := hcell 0 (by simp)
          have hcap := hbs.cap
          have hmax := hbs.max
          clear hcell hbs
          go_wp2
          go_ret
          exact ⟨ret_int H.out.symm, rfl⟩
    · have H := Lib.hid (kind_no (num_other HR.out hd))
      have HD := Lib.hid hd
      clear hd
      go_enter Tryz.func20, Tryz.ntmps20
      go_wp2_with fail
      refine (Tw.refFind_any A n c ps 53 w h).mono ?_
      rw [HR.out]
      rintro e w1 ⟨A1, m1, c1, rfl, hbs, rfl⟩
      have hcap := hbs.cap
      have hmax := hbs.max
      have hne : ((m1 : Int) == 1) = false := by
        have e1 := hbs.len
        have e2 := HD.out
        simp only [Option.getD_some] at e1
        simp
        omega
      clear hbs
      go_wp2
      go_ret
      exact ⟨ret_int H.out.symm, rfl⟩
end Go.Proofs.YtoldppbakapohaaGreatDoor.Ow
end
/- What opts.Listed and opts.Wants come to, the generic function that they go through, and the document's own. For lists whose options have 1000 bytes at most. -/
section
set_option maxRecDepth 8000
namespace Go.Proofs.YtoldppbakapohaaGreatDoor.Ow
open Go.RowKit Tl Ms Co By

def intsL (l : List UInt8) : List Value := l.map fun b => .int .i64 (b.toNat : Int)
theorem ints_len (l : List UInt8) : (intsL l).length = l.length := by simp [intsL]
theorem ints_get {l : List UInt8} {k : Nat} (h : k < l.length) : (intsL l)[k]'(by rw [ints_len]; exact h) = .int .i64 ((l[k]).toNat : Int) := by simp [intsL]
theorem ints_next {l : List UInt8} {k : Nat} (h : k < l.length) : intsL (l.take (k + 1)) = intsL (l.take k) ++ [.int .i64 ((l[k]).toNat : Int)] := by
  unfold intsL
  rw [List.take_succ_eq_append_getElem h, List.map_append]
  rfl
theorem elI : ElP Tryz.prog 118 3 (.int .i64 0) 8 := ⟨Tryz.underlying118, by kernel_rfl, rfl⟩
def listedL (l : List O) : List UInt8 := (findL l 55).getD []
def hasB (l : List UInt8) (c : Int) : Bool := l.any fun x => (x.toNat : Int) == c
def RI (w : World) (l : List UInt8) (e : Ending) (w' : World) : Prop := ∃ A m c, e = .returned (.slice A m c) ∧ Rd w' A m c (intsL l) ∧ Below w.heap.size w w'
theorem find_len {ps : List Po} (h : ∀ p ∈ ps, p.l.length ≤ 1000) (c : Int) : ((findL (osP ps) c).getD []).length ≤ 1000 := by
  unfold findL
  cases hf : (osP ps).find? fun o => o.1 == c with
  | none => simp
  | some o =>
    have hm := List.mem_of_find?_eq_some hf
    obtain ⟨p, hp, rfl⟩ := List.mem_map.1 hm
    exact h p hp
theorem has_hit {l : List UInt8} {k : Nat} {c : Int} (h : k < l.length) (e : ((l[k]).toNat : Int) = c) : hasB l c = true := by
  unfold hasB
  rw [List.any_eq_true]
  exact ⟨l[k], List.getElem_mem h, by simpa using e⟩
def noneTo (l : List UInt8) (c : Int) (k : Nat) : Prop := hasB (l.take k) c = false
theorem none_next {l : List UInt8} {k : Nat} {c : Int} (hs : noneTo l c k) (h : k < l.length) (e : ((l[k]).toNat : Int) ≠ c) : noneTo l c (k + 1) := by
  unfold noneTo hasB at *
  rw [List.take_succ_eq_append_getElem h, List.any_append, hs]
  simpa using e
theorem none_end {l : List UInt8} {k : Nat} {c : Int} (hs : noneTo l c k) (h : l.length ≤ k) : hasB l c = false := by
  unfold noneTo at hs
  rwa [List.take_of_length_le h] at hs

theorem int_of (x : UInt8) (w : World) : Calls Tryz.prog 263 #[.int .u8 (x.toNat : Int)] w fun e w' => e = .returned (.int .i64 (x.toNat : Int)) ∧ w = w' := by
  have hx := x.toNat_lt
  go_enter Tryz.func263, Tryz.ntmps263
  go_wp2
  go_ret
  exact ⟨rfl, rfl⟩

def StI (l : List UInt8) (n : Nat) (w : World) (v i : Value) (wr : World) : Prop :=
  ∃ (k : Nat) (A1 : Option Addr) (c1 : Nat), k ≤ n ∧ i = .int .i64 k ∧ v = .slice A1 k c1 ∧ OwnV 3 w.heap.size wr A1 k c1 (intsL (l.take k)) ∧ Below w.heap.size w wr
set_option maxHeartbeats 400000 in
theorem each_ints (A : Option Addr) (n c : Nat) (l : List UInt8) (w : World) (h : Bs w A n c l) (hn : n ≤ 1000) :
    Calls Tryz.prog 262 #[.slice A n c, .func (.func 263) #[] #[]] w (RI w l) := by
  have hl := Lib.hid h.len
  have hm := h.max
  have hcap := h.cap
  obtain ⟨i0, hi0, hz0, hz1, hz2⟩ := info_parts elI.hi
  have HI := Lib.hid hi0
  have HZ0 := Lib.hid hz0
  have HZ1 := Lib.hid hz1
  have HZ2 := Lib.hid hz2
  clear hi0 hz0 hz1 hz2
  go_enter Tryz.func262, Tryz.ntmps262
  go_wp2_with (refine wpList_make_own _ rfl _ (.tmp 9) 118 rfl w.heap.size 3 i0 _ 1 Tryz.underlying118 HI.out HZ0.out HZ1.out .i64 .i64 n n rfl rfl rfl (by rw [HZ2.out]; omega) (by unfold maxLen; omega) (Nat.le_refl _) ?_; intro w1 hown hgr)
  have hb1 : Below w.heap.size w w1 := (Below.refl _ _).grown hgr (Nat.le_refl _) (fun _ h => by cases h)
  clear hgr
  go_loopw [5, 13] (fun v i wr => StI l n w v i wr) (fun _ i _ => n - (intOf i).toNat)
  case atStart => exact ⟨0, _, n, by omega, rfl, rfl, hown, hb1⟩
  case round =>
    obtain ⟨k, A1, c1, hk, rfl, rfl, hownr, hbw⟩ := hrel
    by_cases hlt : k < n
    · obtain ⟨b, o, rfl, hc⟩ := h.at_ hlt
      have hkl : k < l.length := by have := hl.out; omega
      have hblt : b < w.heap.size := World.block_lt_of_cell? w _ (hc k hkl)
      have hcell : wr.cell? ⟨b, o + k, none⟩ = some (.int .u8 ((l[k]).toNat : Int)) := (hbw.cell (p := ⟨b, o + k, none⟩) hblt).trans (hc k hkl)
      have H := Lib.hid (ints_next hkl)
      clear hc
      generalize l[k] = y at hcell H
      have hy := y.toNat_lt
      have hba : Below wr.heap.size wr (wr.alloc (.cells #[.int .i64 (y.toNat : Int)] 3)) := (Below.refl _ _).alloc (Nat.le_refl _) _
      clear hkl
      go_wp2_with fail
      refine (int_of y _).mono ?_
      rintro e w2 ⟨rfl, rfl⟩
      go_wp2_with (at_builtin; refine wpList_appV elI rfl (.tmp 17) (.tmp 21) rfl rfl (hownr.below hba) rfl (OwnV.lit1 3 wr _).rd (by intro u hu; simp at hu; subst hu; rfl) (by unfold maxLen; omega) (by omega) (by have := hbw.size; simp; omega) ?_; intro A3 c3 w3 hown3 hb3 _ _)
      go_roundw
      case rel => exact ⟨k + 1, A3, c3, by omega, by go_num, rfl, by rw [H.out]; exact hown3, (hbw.trans (hba.mono hbw.size)).trans hb3⟩
      case measure => simp [intOf]; omega
    · obtain rfl : k = n := by omega
      have H : Hid (intsL (l.take k) = intsL l) := by show intsL (l.take k) = intsL l; rw [List.take_of_length_le (by have := hl.out; omega)]
      go_wp2
      go_ret
      exact ⟨A1, k, c1, rfl, by rw [← H.out]; exact hownr.rd, hbw⟩

theorem listed_any (A : Option Addr) (n c : Nat) (ps : List Po) (w : World) (h : RdO w A n c ps) (hsm : ∀ p ∈ ps, p.l.length ≤ 1000) :
    Calls Tryz.prog 257 #[.slice A n c] w (RI w (listedL (osP ps))) := by
  have HSM := Lib.hid hsm
  have HLn := Lib.hid (find_len hsm 55)
  clear hsm
  go_enter Tryz.func257, Tryz.ntmps257
  go_wp2_with fail
  refine (Tw.find_any A n c ps 55 w h HSM.out).mono ?_
  rintro e w1 ⟨A1, m1, c1, rfl, hbs, hb1⟩
  have hm1 : m1 ≤ 1000 := by have e1 := hbs.len; have e2 := HLn.out; omega
  have hbs' : Bs w1 A1 m1 c1 (listedL (osP ps)) := hbs
  clear hbs
  go_wp2_with fail
  refine (each_ints A1 m1 c1 _ _ hbs' hm1).mono ?_
  rintro e w2 ⟨A2, m2, c2, rfl, hrd, hb2⟩
  go_wp2
  go_ret
  exact ⟨A2, m2, c2, rfl, hrd, hb1.trans (hb2.mono hb1.size)⟩

theorem index_ints (A : Option Addr) (n c : Nat) (l : List UInt8) (code : Int) (w : World) (h : Rd w A n c (intsL l)) :
    Calls Tryz.prog 261 #[.slice A n c, .int .i64 code] w fun e w' => (∃ i : Int, e = .returned (.int .i64 i) ∧ decide (0 ≤ i) = hasB l code) ∧ w = w' := by
  have hl : Hid (l.length = n) := by have := h.len; rwa [ints_len] at this
  have hm := h.max
  have hcap := h.cap
  go_enter Tryz.func261, Tryz.ntmps261
  go_wp2
  go_loop [8] (fun i => ∃ k : Nat, k ≤ n ∧ i = .int .i64 k ∧ noneTo l code k) (fun i => n - (intOf i).toNat)
  case atStart => exact ⟨0, by omega, rfl, rfl⟩
  case round =>
    obtain ⟨k, hk, rfl, hs⟩ := hrel
    have HS := Lib.hid hs
    clear hs
    by_cases hlt : k < n
    · obtain ⟨b, o, rfl, hc⟩ := h.at_ hlt
      have hkl : k < l.length := by have := hl.out; omega
      have hcell := hc k (by rw [ints_len]; exact hkl)
      rw [ints_get hkl] at hcell
      clear hc
      by_cases he : ((l[k]).toNat : Int) = code
      · have H := Lib.hid (has_hit hkl he)
        rw [he] at hcell
        clear he hkl
        go_wp2
        go_ret
        exact ⟨⟨_, rfl, by rw [H.out]; simp⟩, rfl⟩
      · have H := Lib.hid (none_next HS.out hkl he)
        have hb : (code == ((l[k]).toNat : Int)) = false := by simp; exact fun e => he e.symm
        clear he
        generalize ((l[k]).toNat : Int) = y at hcell hb
        clear hkl
        go_wp2
        go_round
        case rel => exact ⟨k + 1, by omega, by go_num, H.out⟩
        case measure => simp [intOf]; omega
    · obtain rfl : k = n := by omega
      have H := Lib.hid (none_end HS.out (by have := hl.out; omega))
      go_wp2
      go_ret
      exact ⟨⟨_, rfl, by rw [H.out]; rfl⟩, rfl⟩

theorem wants_any (A : Option Addr) (n c : Nat) (ps : List Po) (code : Int) (w : World) (h : RdO w A n c ps) (hsm : ∀ p ∈ ps, p.l.length ≤ 1000) :
    Calls Tryz.prog 246 #[.slice A n c, .int .i64 code] w fun e w' => e = .returned (.bool (hasB (listedL (osP ps)) code)) ∧ Below w.heap.size w w' := by
  have HSM := Lib.hid hsm
  clear hsm
  go_enter Tryz.func246, Tryz.ntmps246
  go_wp2_with fail
  refine (listed_any A n c ps w h HSM.out).mono ?_
  rintro e w1 ⟨A1, m1, c1, rfl, hrd, hb1⟩
  have hK : Calls Tryz.prog 256 #[.slice A1 m1 c1, .int .i64 code] w1 fun e w' => e = .returned (.bool (hasB (listedL (osP ps)) code)) ∧ w1 = w' := by
    go_enter Tryz.func256, Tryz.ntmps256
    go_wp2_with fail
    refine (index_ints A1 m1 c1 _ code w1 hrd).mono ?_
    rintro e w2 ⟨⟨i, rfl, hi⟩, rfl⟩
    have HI := Lib.hid hi
    clear hi
    go_wp2
    go_ret
    exact ⟨ret_bool HI.out, rfl⟩
  have HK := Lib.hid hK
  clear hK hrd
  go_wp2_with fail
  refine HK.out.mono ?_
  rintro e w2 ⟨rfl, rfl⟩
  go_wp2
  go_ret
  exact ⟨rfl, hb1⟩

end Go.Proofs.YtoldppbakapohaaGreatDoor.Ow
end
/- slices.Clone and slices.DeleteFunc as opts.Keep calls them: options without those of a code, in an array of the call's own. For any list of up to 1000 options. -/
section
set_option maxRecDepth 8000
namespace Go.Proofs.YtoldppbakapohaaGreatDoor.Ow
open Go.RowKit Tl Ms Co By

/-! ### Memory: an option stored, a tail cleared -/
theorem cellsP_put (ps : List Po) (i : Nat) (h : i < ps.length) (q : Po) : ((cellsP ps).set (i * 2) (.int .i64 q.code)).set (i * 2 + 1) q.dv = cellsP (ps.set i q) := by
  induction ps generalizing i with
  | nil => cases h
  | cons p ps ih =>
    have e : ∀ x : Po, ∀ xs, cellsP (x :: xs) = .int .i64 x.code :: x.dv :: cellsP xs := fun x xs => by simp [cellsP, Po.cells]
    match i with
    | 0 => simp [e]
    | i + 1 =>
      rw [e, show (i + 1) * 2 = i * 2 + 2 by omega, show (i * 2 + 2) + 1 = (i * 2 + 1) + 2 by omega]
      simp only [sSu]
      rw [e, ih i (by simpa using h)]
theorem own_put {e B g n c : Nat} {w : World} {ps : List Po} (h : OwnC e B w (some ⟨g, 0, none⟩) n c ps) {i : Nat} (hi : i < ps.length) (q : Po) :
    OwnC e B ((w.setCell ⟨g, i * 2, none⟩ (.int .i64 q.code)).setCell ⟨g, i * 2 + 1, none⟩ q.dv) (some ⟨g, 0, none⟩) n c (ps.set i q) := by
  have h1 := (World.ownsRow.stored h (i * 2) (.int .i64 q.code)).1
  have h2 := (World.ownsRow.stored h1 (i * 2 + 1) q.dv).1
  unfold OwnC
  rw [← cellsP_put ps i hi q]
  exact h2
theorem grown_set (w : World) (g j : Nat) (v : Value) : w.grownBy (w.setCell ⟨g, j, none⟩ v) (some g) :=
  ⟨rfl, rfl, rfl, by simp, fun k _ hne => Below.heap_setCell w ⟨g, j, none⟩ v k (fun e => hne (by rw [e]))⟩
theorem grown_trans {a b c : World} {g : Nat} (h : a.grownBy b (some g)) (k : b.grownBy c (some g)) : a.grownBy c (some g) := grownBy_trans h k (.inl rfl)
theorem grown_below {a b c : World} {g : Nat} (h : a.grownBy b (some g)) (k : Below b.heap.size b c) : a.grownBy c (some g) := grown_trans h (grownBy_of_below k _)
theorem cellsP_take (ps : List Po) (i : Nat) : (cellsP ps).take (i * 2) = cellsP (ps.take i) := by
  induction ps generalizing i with
  | nil => simp [cellsP]
  | cons p ps ih =>
    have e : ∀ x : Po, ∀ xs, cellsP (x :: xs) = .int .i64 x.code :: x.dv :: cellsP xs := fun x xs => by simp [cellsP, Po.cells]
    match i with
    | 0 => simp [cellsP]
    | i + 1 =>
      rw [e, show (i + 1) * 2 = i * 2 + 2 by omega, List.take_succ_cons, List.take_succ_cons, List.take_succ_cons, e, ih i]
theorem zero_cells_one (m : Nat) : ∀ v ∈ (Builtin.zeroCells (Value.agg #[.int .i64 0, .slice none 0 0]).cells m).toList, v.oneCell' = true := by
  intro v hv
  have e : (Value.agg #[.int .i64 0, .slice none 0 0]).cells = #[.int .i64 0, .slice none 0 0] := by kernel_rfl
  rw [e] at hv
  simp only [Builtin.zeroCells, Array.toList_map, List.mem_map] at hv
  obtain ⟨i, _, rfl⟩ := hv
  have h2 : i % (#[Value.int .i64 0, Value.slice none 0 0] : Array Value).size = 0 ∨ i % (#[Value.int .i64 0, Value.slice none 0 0] : Array Value).size = 1 := by
    have : (#[Value.int .i64 0, Value.slice none 0 0] : Array Value).size = 2 := rfl
    rw [this]
    omega
  rcases h2 with h2 | h2 <;> rw [h2] <;> rfl
/-- 'clear(s[i:])', and what is left ahead. -/
theorem clear_tail {B g n c : Nat} {W : World} {qs : List Po} (hO : OwnC 74 B W (some ⟨g, 0, none⟩) n c qs) {i : Nat} (hi : i < n) :
    ∃ W', (∀ ty, (Builtin.clear_ #[27] ty #[.slice (some ⟨g, i * 2, none⟩) (n - i) (c - i)]).run Tryz.prog W = .ok (.tuple #[]) W') ∧ OwnC 74 B W' (some ⟨g, 0, none⟩) i c (qs.take i) ∧ W.grownBy W' (some g) := by
  have hlen := hO.1
  rcases hO.2 with ⟨h', _⟩ | ⟨g', cap, cur, h', hBg, hg, hnc, hcm, hsz, htake⟩
  · cases h'
  simp only [Value.slice.injEq, Option.some.injEq, Addr.mk.injEq, true_and, and_true] at h'
  obtain ⟨rfl, rfl⟩ := h'
  obtain ⟨m, hm⟩ : ∃ m, n - i = m + 1 := ⟨n - i - 1, by omega⟩
  have e : (Value.agg #[.int .i64 0, .slice none 0 0]).cells.size = 2 := by kernel_rfl
  have hvl : (Builtin.zeroCells (Value.agg #[.int .i64 0, .slice none 0 0]).cells (m + 1)).toList.length = (m + 1) * 2 := by
    rw [Array.length_toList, size_zeroCells, e]
  have hst := run_storeCells_at Tryz.prog g (i * 2) 74 _ 0 cur W hg (by rw [hvl]; omega) (zero_cells_one (m + 1))
  refine ⟨W.setRow g (cur.toList.take (i * 2 + 0) ++ (Builtin.zeroCells (Value.agg #[.int .i64 0, .slice none 0 0]).cells (m + 1)).toList ++ cur.toList.drop (i * 2 + 0 + (Builtin.zeroCells (Value.agg #[.int .i64 0, .slice none 0 0]).cells (m + 1)).toList.length)).toArray, fun ty => ?_, ⟨?_, .inr ⟨g, c, _, rfl, hBg, setRow_heap W g cur _ _ _ hg, by omega, hcm, ?_, ?_⟩⟩, ?_⟩
  · rw [hm]
    simp only [Builtin.clear_]
    simp [run_underlying Tryz.underlying27, hst, Result.andThen]
  · rw [cellsP_len, List.length_take]
    rw [cellsP_len] at hlen
    omega
  · simp only [List.size_toArray, List.length_append, List.length_take, List.length_drop, hvl, Array.length_toList, hsz]
    omega
  · rw [← cellsP_take, ← htake, List.take_take]
    simp only [Nat.add_zero]
    rw [List.append_assoc, List.take_append_of_le_length (by rw [List.length_take, Array.length_toList, hsz]; omega), List.take_take]
    congr 1
    omega
  · exact ⟨rfl, rfl, rfl, by simp, fun k _ hne => setRow_other W g k _ (fun e => hne (by rw [e]))⟩

theorem OwnC.lits0 (e : Nat) (w : World) : OwnC e w.heap.size (w.alloc (.cells #[] e)) (some ⟨w.heap.size, 0, none⟩) 0 0 [] := World.ownsRow_lit w #[] 0 (Nat.le_refl _) (by unfold maxLen; omega) rfl
/-! ### Mathematics -/
def keepP (ps : List Po) (c : Int) : List Po := ps.filter fun p => !(p.code == c)
theorem keepP_os (ps : List Po) (c : Int) : osP (keepP ps c) = withoutL (osP ps) c := by
  unfold keepP withoutL osP
  rw [List.filter_map]
  rfl
theorem keepP_none {ps : List Po} {c : Int} (h : c ∉ codesL (osP ps)) : keepP ps c = ps := by
  unfold keepP
  refine List.filter_eq_self.2 fun p hp => ?_
  have h1 : p.code ∈ codesL (osP ps) := codes_mem (os_mem hp)
  simp
  intro e
  exact h (by rw [← e]; exact h1)
theorem keepP_keep {ps : List Po} {c : Int} {j : Nat} (h : j < ps.length) (hc : (ps[j]).code ≠ c) : keepP (ps.take (j + 1)) c = keepP (ps.take j) c ++ [ps[j]] := by
  unfold keepP
  rw [List.take_succ_eq_append_getElem h, List.filter_append]
  simp [hc]
theorem keepP_drop {ps : List Po} {c : Int} {j : Nat} (h : j < ps.length) (hc : (ps[j]).code = c) : keepP (ps.take (j + 1)) c = keepP (ps.take j) c := by
  unfold keepP
  rw [List.take_succ_eq_append_getElem h, List.filter_append]
  simp [hc]
theorem keepP_mem {ps : List Po} {c : Int} {p : Po} (h : p ∈ keepP ps c) : p ∈ ps := (List.mem_filter.1 h).1
/-- What DeleteFunc's loop holds of the array. -/
def HalfK (ps qs : List Po) (code : Int) (i j : Nat) : Prop := qs.length = ps.length ∧ qs.take i = keepP (ps.take j) code ∧ qs.drop j = ps.drop j ∧ (keepP (ps.take j) code).length = i ∧ i < j
theorem half_start {ps : List Po} {code : Int} {i : Nat} (hi : i < ps.length) (hc : (ps[i]).code = code) (hn : code ∉ codesL ((osP ps).take i)) : HalfK ps ps code i (i + 1) := by
  have e : keepP (ps.take (i + 1)) code = ps.take i := by rw [keepP_drop hi hc, keepP_none (by rw [os_take]; exact hn)]
  exact ⟨rfl, e.symm, rfl, by rw [e, List.length_take]; omega, by omega⟩
theorem half_get {ps qs : List Po} {code : Int} {i j : Nat} (h : HalfK ps qs code i j) (hj : j < ps.length) : ∃ hq : j < qs.length, qs[j] = ps[j] := by
  obtain ⟨h1, _, h3, _⟩ := h
  have hq : j < qs.length := by omega
  refine ⟨hq, ?_⟩
  have e1 := List.drop_eq_getElem_cons hq
  have e2 := List.drop_eq_getElem_cons hj
  rw [h3, e2] at e1
  injection e1 with e1
  exact e1.symm
theorem half_drop {ps qs : List Po} {code : Int} {i j : Nat} (h : HalfK ps qs code i j) (hj : j < ps.length) (hc : (ps[j]).code = code) : HalfK ps qs code i (j + 1) := by
  obtain ⟨h1, h2, h3, h4, h5⟩ := h
  refine ⟨h1, by rw [keepP_drop hj hc]; exact h2, ?_, by rw [keepP_drop hj hc]; exact h4, by omega⟩
  rw [← List.drop_drop, h3, List.drop_drop]
theorem half_keep {ps qs : List Po} {code : Int} {i j : Nat} (h : HalfK ps qs code i j) (hj : j < ps.length) (hc : (ps[j]).code ≠ code) : HalfK ps (qs.set i ps[j]) code (i + 1) (j + 1) := by
  obtain ⟨h1, h2, h3, h4, h5⟩ := h
  refine ⟨by simpa using h1, ?_, ?_, by rw [keepP_keep hj hc, List.length_append, h4]; rfl, by omega⟩
  · rw [keepP_keep hj hc, ← h2]
    rw [List.take_succ_eq_append_getElem (by simp; omega), List.take_set_of_le (Nat.le_refl _)]
    simp
  · rw [List.drop_set_of_lt (by omega), ← List.drop_drop, h3, List.drop_drop]

/-! ### The calls -/
theorem code_isK (co code : Int) (A' : Option Addr) (m c' b : Nat) (w : World) (hb : b < w.heap.size) (hc : w.cell? ⟨b, 0, none⟩ = some (.int .i64 code)) :
    Calls Tryz.prog 105 #[.agg #[.int .i64 co, .slice A' m c'], .pointer (some ⟨b, 0, none⟩)] w fun e w' => e = .returned (.bool (co == code)) ∧ Below w.heap.size w w' := by
  have hne : b ≠ w.heap.size := by omega
  go_enter Tryz.func105, Tryz.ntmps105
  go_wp2
  go_ret
  exact ⟨by simp, (Below.refl _ _).alloc (Nat.le_refl _) _⟩

set_option maxHeartbeats 400000 in
theorem index_K (A : Option Addr) (n c : Nat) (ps : List Po) (code : Int) (g : Nat) (w : World) (h : RdO w A n c ps) (hg : g < w.heap.size) (hcode : w.cell? ⟨g, 0, none⟩ = some (.int .i64 code)) :
    Calls Tryz.prog 161 #[.slice A n c, .func (.func 105) #[] #[.pointer (some ⟨g, 0, none⟩)]] w fun e w' => e = .returned (.int .i64 (placeL (osP ps) code)) ∧ Below w.heap.size w w' := by
  have hl := Lib.hid h.len
  have hm := h.max
  have hcap := h.cap
  have HC := Lib.hid hcode
  clear hcode
  go_enter Tryz.func161, Tryz.ntmps161
  go_wp2
  go_loopw [8] (fun i wr => ∃ k : Nat, k ≤ n ∧ i = .int .i64 k ∧ code ∉ codesL ((osP ps).take k) ∧ Below w.heap.size w wr) (fun i _ => n - (intOf i).toNat)
  case atStart => exact ⟨0, by omega, rfl, by simp [codesL], Below.refl _ _⟩
  case round =>
    obtain ⟨k, hk, rfl, hs, hbw⟩ := hrel
    have HS := Lib.hid hs
    clear hs
    by_cases hlt : k < n
    · obtain ⟨b, o, co, A', m, c', l, rfl, hcell, hcell2, _, _, HO, _, _, _⟩ := (h.below hbw).at_ hlt
      have hsz := hbw.size
      go_wp2_with fail
      refine (code_isK co code A' m c' g _ (by omega) ((hbw.cell (p := ⟨g, 0, none⟩) hg).trans HC.out)).mono ?_
      rintro e w1 ⟨rfl, hb1⟩
      have hb01 := hbw.trans (hb1.mono hsz)
      by_cases he : co = code
      · subst he
        have H : Hid (placeL (osP ps) co = (k : Int)) := by
          obtain ⟨h1, h2⟩ := HO.out
          exact place_hit h1 (by rw [h2]) HS.out
        go_wp2
        go_ret
        exact ⟨ret_int H.out.symm, hb01⟩
      · have hb : (co == code) = false := by simpa using he
        have H : Hid (code ∉ codesL ((osP ps).take (k + 1))) := by
          obtain ⟨h1, h2⟩ := HO.out
          exact not_codes_next h1 HS.out (by rw [h2]; exact he)
        clear he
        go_wp2
        go_roundw
        case rel => exact ⟨k + 1, by omega, by go_num, H.out, hb01⟩
        case measure => simp [intOf]; omega
    · obtain rfl : k = n := by omega
      have H : Hid (placeL (osP ps) code = -1) := place_none (by have := HS.out; rwa [List.take_of_length_le (by rw [os_len, hl.out]; exact Nat.le_refl _)] at this)
      go_wp2
      go_ret
      exact ⟨ret_int H.out.symm, hbw⟩

def StK (B g n c : Nat) (ps : List Po) (code : Int) (w : World) (v5 v6 : Value) (wr : World) : Prop :=
  ∃ (i j : Nat) (qs : List Po), j ≤ n ∧ v6 = .int .i64 (j : Nat) ∧ v5 = .int .i64 (i : Nat) ∧ OwnC 74 B wr (some ⟨g, 0, none⟩) n c qs ∧ HalfK ps qs code i j ∧ w.grownBy wr (some g)
/-- A slice of the call's own array that holds the options qs. -/
def DelK (B : Nat) (w : World) (qs : List Po) (e : Ending) (w' : World) : Prop := ∃ A' k c', e = .returned (.slice A' k c') ∧ OwnC 74 B w' A' k c' qs ∧ Below B w w'
set_option maxHeartbeats 2000000 in
theorem delete_any (B : Nat) (A : Option Addr) (n c : Nat) (ps : List Po) (code : Int) (gb : Nat) (w : World) (hB : B ≤ w.heap.size) (hO : OwnC 74 B w A n c ps) (hrd : RdO w A n c ps) (hn : n ≤ 1000) (hgb : gb < B) (hcode : w.cell? ⟨gb, 0, none⟩ = some (.int .i64 code)) :
    Calls Tryz.prog 103 #[.slice A n c, .func (.func 105) #[] #[.pointer (some ⟨gb, 0, none⟩)]] w (DelK B w (keepP ps code)) := by
  have HL := Lib.hid hO.len
  have hmax := hrd.max
  have hcap := hrd.cap
  have HC := Lib.hid hcode
  clear hcode
  by_cases hm : code ∈ codesL (osP ps)
  rotate_left
  · have HP := Lib.hid (place_none hm)
    have HK := Lib.hid (keepP_none hm)
    clear hm
    go_enter Tryz.func103, Tryz.ntmps103
    go_wp2_with fail
    refine (index_K A n c ps code gb w hrd (by omega) HC.out).mono ?_
    rw [HP.out]
    rintro e w1 ⟨rfl, hb1⟩
    go_wp2
    go_ret
    exact ⟨A, n, c, rfl, by rw [HK.out]; exact hO.below hb1, hb1.mono hB⟩
  obtain ⟨i, hi, hp, hic, hno⟩ := place_mem hm
  have hi' : i < ps.length := by rw [os_len] at hi; exact hi
  have HH : Hid (HalfK ps ps code i (i + 1)) := half_start hi' (by rw [os_get hi'] at hic; exact hic) hno
  have HP := Lib.hid hp
  clear hp hm hno hic hi
  have hin : i < n := by have := HL.out; omega
  obtain ⟨g, rfl, hBg, hglt⟩ := hO.head (by omega)
  clear hi'
  have hi1 : ((i : Int) == -1) = false := by simp
  go_enter Tryz.func103, Tryz.ntmps103
  go_wp2_with fail
  refine (index_K _ n c ps code gb w hrd (by omega) HC.out).mono ?_
  rw [HP.out]
  rintro e w1 ⟨rfl, hb1⟩
  have hO1 := hO.below hb1
  have hg1 : w.grownBy w1 (some g) := grownBy_of_below hb1 _
  clear hrd
  go_wp2
  go_loopw [5, 6] (fun v5 v6 wr => StK B g n c ps code w v5 v6 wr) (fun _ v6 _ => n - (intOf v6).toNat)
  case atStart => exact ⟨i, i + 1, ps, by omega, by go_num, rfl, hO1, HH.out, hg1⟩
  case round =>
    clear hi1 hin HH HP hO1 hg1
    obtain ⟨i, j, qs, hjn, rfl, rfl, hOr, hhalf, hgr⟩ := hrel
    have HHr := Lib.hid hhalf
    have hij : i < j := hhalf.2.2.2.2
    clear hhalf
    have hbB : Below B w wr := (Below.refl _ _).grown hgr hB (fun k hk => by cases hk; exact hBg)
    have hgbr : wr.cell? ⟨gb, 0, none⟩ = some (.int .i64 code) := (hbB.cell (p := ⟨gb, 0, none⟩) hgb).trans HC.out
    by_cases hlt : j < n
    · have hjp : j < ps.length := by have := HL.out; omega
      obtain ⟨hjq, ed⟩ := half_get HHr.out hjp
      have hiq : i < qs.length := by omega
      obtain ⟨c1, c2⟩ := hOr.at_ hjq
      obtain ⟨d1, d2⟩ := hOr.at_ hiq
      rw [ed] at c1 c2
      have HKP : Hid ((ps[j]).code ≠ code → HalfK ps (qs.set i ps[j]) code (i + 1) (j + 1)) := half_keep HHr.out hjp
      have HDR : Hid ((ps[j]).code = code → HalfK ps qs code i (j + 1)) := half_drop HHr.out hjp
      generalize ps[j] = q at c1 c2 HKP HDR
      clear ed
      have hglr : g < wr.heap.size := World.block_lt_of_cell? wr _ c1
      have hgbl : gb < wr.heap.size := by omega
      have hba : Below wr.heap.size wr (wr.alloc (.cells #[.int .i64 q.code, .slice q.A q.l.length q.c] 74)) := (Below.refl _ _).alloc (Nat.le_refl _) _
      have hcel := Cel.born wr 74 #[.int .i64 q.code, .slice q.A q.l.length q.c]
      have c2' : wr.cell? ⟨g, j * 2 + 1, none⟩ = some (.slice q.A q.l.length q.c) := c2
      clear c2
      go_wp2_with fail
      refine (code_isK q.code code q.A q.l.length q.c gb _ (by simp; omega) ((hba.cell (p := ⟨gb, 0, none⟩) hgbl).trans hgbr)).mono ?_
      rintro e w2 ⟨rfl, hb2⟩
      have hb02 := hba.trans (hb2.mono hba.size)
      have hO2 := hOr.below hb02
      by_cases he : q.code = code
      · have hbe : (q.code == code) = true := by simpa using he
        have H := Lib.hid (HDR.out he)
        have hg2 := Lib.hid (grown_below hgr hb02)
        clear he hcel d1 d2 c1 c2'
        go_wp2
        go_roundw
        case rel => exact ⟨i, j + 1, qs, by omega, by go_num, rfl, hO2, H.out, hg2.out⟩
        case measure => simp [intOf]; omega
      · have hbe : (q.code == code) = false := by simpa using he
        have H := Lib.hid (HKP.out he)
        have hcel2 := hcel.below hb2 hcel.lt
        have k1 : w2.cell? ⟨wr.heap.size, 0, none⟩ = some (.int .i64 q.code) := by rw [hcel2.cell]; rfl
        have k2 : w2.cell? ⟨wr.heap.size, 1, none⟩ = some (.slice q.A q.l.length q.c) := by rw [hcel2.cell]; rfl
        have e1 : w2.cell? ⟨g, i * 2, none⟩ = some (.int .i64 (qs[i]).code) := (hb02.cell (p := ⟨g, i * 2, none⟩) hglr).trans d1
        have e2 : w2.cell? ⟨g, i * 2 + 1, none⟩ = some (qs[i]).dv := (hb02.cell (p := ⟨g, i * 2 + 1, none⟩) hglr).trans d2
        have f1 : w2.frozen? ⟨g, i * 2, none⟩ = false := hO2.frozen _
        have f2 : w2.frozen? ⟨g, i * 2 + 1, none⟩ = false := hO2.frozen _
        have hput := Lib.hid (own_put hO2 hiq q)
        have hg2 := Lib.hid (grown_trans (grown_trans (grown_below hgr hb02) (grown_set w2 g (i * 2) (.int .i64 q.code))) (grown_set _ g (i * 2 + 1) q.dv))
        clear hcel hcel2 hOr d1 d2 hO2 he c1 c2'
        go_wp2
        go_roundw
        case rel => exact ⟨i + 1, j + 1, qs.set i q, by omega, by go_num, by go_num, hput.out, H.out, hg2.out⟩
        case measure => simp [intOf]; omega
    · obtain rfl : j = n := by omega
      have HE : Hid (qs.take i = keepP ps code) := by
        obtain ⟨_, h2, _⟩ := HHr.out
        show qs.take i = keepP ps code
        rw [h2, List.take_of_length_le (by have := HL.out; omega)]
      obtain ⟨W', hclr, hown', hgr'⟩ := clear_tail hOr hij
      have HO' := Lib.hid hown'
      have HG' := Lib.hid (grown_trans hgr hgr')
      clear hown' hgr' hOr hgr hbB hgbr
      go_wp2
      go_ret
      exact ⟨_, i, c, rfl, by rw [← HE.out]; exact HO'.out, (Below.refl _ _).grown HG'.out hB (fun k hk => by cases hk; exact hBg)⟩

theorem cloneO_any (A : Option Addr) (n c : Nat) (ps : List Po) (w : World) (h : RdO w A n c ps) (hn : n ≤ 1000) :
    Calls Tryz.prog 104 #[.slice A n c] w (DelK w.heap.size w ps) := by
  have q : ∀ (w : World) (a : Option Addr) (n c n' c' : Nat), (binOp .eql 27 (.slice a n c) (.slice none n' c')).run Tryz.prog w = .ok (.bool a.isNone) w := fun w a n c n' c' => Lib.run_eql_slice_nil w _ _ a n c n' c' Tryz.underlying27
  have hl := Lib.hid h.len
  cases A with
  | none =>
    have h0 : n = 0 := by
      rcases Nat.eq_zero_or_pos n with h0 | h0
      · exact h0
      · obtain ⟨b, o, _, _, _, _, _, e, _⟩ := h.at_ h0
        cases e
    subst h0
    obtain rfl : ps = [] := List.length_eq_zero_iff.1 hl.out
    clear hl
    go_enter Tryz.func104, Tryz.ntmps104
    go_wp2
    go_ret
    exact ⟨none, 0, 0, rfl, OwnC.nil _ _ _, Below.refl _ _⟩
  | some a =>
    have hlit := Ow.OwnC.lits0 74 w
    go_enter Tryz.func104, Tryz.ntmps104
    go_wp2_with (at_builtin; refine wpList_appO Tw.opP rfl (.tmp 5) (.tmp 6) rfl rfl hlit rfl (h.alloc _).1 (by omega) (by simp) ?_; intro A' c' w2 hown2 hb2 _)
    go_ret
    exact ⟨A', n, c', by simp, by simpa using hown2, ((Below.refl _ _).alloc (Nat.le_refl _) _).trans hb2⟩
end Go.Proofs.YtoldppbakapohaaGreatDoor.Ow
end
/- What opts.Keep and opts.Set come to, and the document's own Keep and Fair. For lists of up to 1000 options with 1000 bytes at most. -/
section
set_option maxRecDepth 8000
namespace Go.Proofs.YtoldppbakapohaaGreatDoor.Ow
open Go.RowKit Tl Ms Co By

def keepL (l : List O) (c : Int) (b : List UInt8) : List O := withoutL l c ++ [(c, b)]
def fairO (c : Int) (b : List UInt8) : Bool := decide (1 ≤ c) && (decide (c ≤ 254) && decide (b.length ≤ 600))

/-! ### fresh, and the generic function over options -/
/-- A slice of options whose array and bytes are the call's own. -/
def OwnF (B : Nat) (w : World) (A : Option Addr) (n c : Nat) (ps : List Po) : Prop := OwnC 74 B w A n c ps ∧ ∀ p ∈ ps, Own 5 B w p.A p.l.length p.c p.l
theorem OwnF.rd {B : Nat} {w : World} {A : Option Addr} {n c : Nat} {ps : List Po} (h : OwnF B w A n c ps) : RdO w A n c ps := ⟨h.1.rdc, fun p hp => (h.2 p hp).bs⟩
theorem OwnF.below {B : Nat} {w w' : World} {A : Option Addr} {n c : Nat} {ps : List Po} (h : OwnF B w A n c ps) (hb : Below w.heap.size w w') : OwnF B w' A n c ps := ⟨h.1.below hb, fun p hp => (h.2 p hp).below hb⟩
theorem OwnF.snoc {B : Nat} {w w' : World} {A A' : Option Addr} {n c c' : Nat} {ps : List Po} {q : Po} (h : OwnF B w A n c ps) (h2 : OwnC 74 B w' A' (n + 1) c' (ps ++ [q])) (hq : Own 5 B w q.A q.l.length q.c q.l) (hg : w.grownBy w' (Value.slice A n c).ownBlock) : OwnF B w' A' (n + 1) c' (ps ++ [q]) := by
  refine ⟨h2, fun p hp => ?_⟩
  have hk : ∀ p : Po, Own 5 B w p.A p.l.length p.c p.l → Own 5 B w' p.A p.l.length p.c p.l := fun p ho => World.ownsRow.kept ho hg (rows_apart2 (by decide) ho h.1)
  rcases List.mem_append.1 hp with hp | hp
  · exact hk p (h.2 p hp)
  · simp at hp
    subst hp
    exact hk p hq
def FrR (w : World) (code : Int) (l : List UInt8) (e : Ending) (w' : World) : Prop := ∃ A2 c2, e = .returned (.agg #[.int .i64 code, .slice A2 l.length c2]) ∧ Own 5 w.heap.size w' A2 l.length c2 l ∧ Below w.heap.size w w'
theorem cel_fr {w : World} {g : Nat} {t : TypeId} {cs : Array Value} (h : Cel w g t cs) (i : Nat) : w.frozen? ⟨g, i, none⟩ = false := by
  unfold Cel at h
  simp [World.frozen?, h]
theorem cel_put {w : World} {g : Nat} {t : TypeId} {cs : Array Value} (h : Cel w g t cs) (i : Nat) (v : Value) : Cel (w.setCell ⟨g, i, none⟩ v) g t (cs.setIfInBounds i v) := by
  unfold Cel at *
  rw [setCell_eq_setRow w g i cs t (0, 0) v h]
  exact setRow_heap w g cs _ t _ h
theorem ret_opt {fn : Func} {p : Tmp} (hres : fn.results = #[.cell p 74]) (tmps : Array Value) (w : World) (g : Nat) (cs : Array Value) (hp : tmps.getD p undef = .pointer (some ⟨g, 0, none⟩)) (hc : Cel w g 74 cs) (hs : cs.size = 2) :
    (results fn tmps).run Tryz.prog w = .ok (.agg cs) w := results_cell_row hres tmps w g _ cs (0, 0) _ hp hc Tryz.underlying74 rfl (by rw [hs]; kernel_rfl)
theorem own_keep {e B n c : Nat} {w : World} {A : Option Addr} {l : List UInt8} (h : Own e B w A n c l) {g : Nat} (hg : g < B) (j : Nat) (v : Value) : Own e B (w.setCell ⟨g, j, none⟩ v) A n c l := by
  refine World.ownsRow.kept h (grown_set w g j v) ?_
  by_cases k : (Value.slice A n c).ownBlock = none
  · exact .inl k
  · refine .inr fun k2 => ?_
    have := (own_blk h g k2).1
    omega
set_option maxHeartbeats 1000000 in
theorem fresh_any (code : Int) (A' : Option Addr) (c' : Nat) (l : List UInt8) (w : World) (h : Bs w A' l.length c' l) (hn : l.length ≤ 1000) :
    Calls Tryz.prog 107 #[.agg #[.int .i64 code, .slice A' l.length c']] w (FrR w code l) := by
  obtain ⟨w1, hw1⟩ : ∃ w1, w1 = (w.alloc (.cells #[.int .i64 code, .slice A' l.length c'] 74)).alloc (.cells #[.int .i64 0, .slice none 0 0] 74) := ⟨_, rfl⟩
  have hb1 : Below w.heap.size w w1 := by rw [hw1]; exact ((Below.refl _ _).alloc (Nat.le_refl _) _).alloc (by simp) _
  have hc1 : Cel w1 w.heap.size 74 #[.int .i64 code, .slice A' l.length c'] := by rw [hw1]; exact (Cel.born w _ _).below ((Below.refl _ _).alloc (Nat.le_refl _) _) (by simp)
  have hc2 : Cel w1 (w.heap.size + 1) 74 #[.int .i64 0, .slice none 0 0] := by
    rw [hw1]
    have := Cel.born (w.alloc (.cells #[.int .i64 code, .slice A' l.length c'] 74)) 74 #[.int .i64 0, .slice none 0 0]
    simpa using this
  have HCL := Lib.hid (Tw.clone_any A' l.length c' l w1.drew (h.below hb1).drew (by omega))
  have hs1 : w1.heap.size = w.heap.size + 2 := by rw [hw1]; simp
  go_enter Tryz.func107, Tryz.ntmps107
  go_wp2_with fail
  rw [← hw1]
  clear hw1
  have r0 : w1.cell? ⟨w.heap.size, 0, none⟩ = some (.int .i64 code) := by rw [hc1.cell]; rfl
  have r1 : w1.cell? ⟨w.heap.size, 1, none⟩ = some (.slice A' l.length c') := by rw [hc1.cell]; rfl
  go_region_with ((go_at_call 162; refine HCL.out.mono ?_; rintro e w2 ⟨A2, c2, rfl, hown, hb2⟩; have hb12 : Below w1.heap.size w1 w2 := below_undrew hb2; have k1 := hc1.below hb12 hc1.lt; have k2 := hc2.below hb12 hc2.lt; have s0 : w2.cell? ⟨w.heap.size, 0, none⟩ = some (.int .i64 code) := (by rw [k1.cell]; rfl); have s1 : w2.cell? ⟨w.heap.size + 1, 0, none⟩ = some (.int .i64 0) := (by rw [k2.cell]; rfl); have s2 : w2.cell? ⟨w.heap.size + 1, 1, none⟩ = some (.slice none 0 0) := (by rw [k2.cell]; rfl); have f1 := cel_fr k2 0; have f2 := cel_fr k2 1; have HO := Lib.hid hown; clear hown hb2))
  all_goals (
    go_wp2
    (try simp only [Exit.inBlock, Exit.then])
    refine bodyPost_ret (ret_opt rfl _ _ _ _ rfl (show Cel _ (w.heap.size + 1) 74 #[.int .i64 code, .slice A2 l.length c2] from cel_put (cel_put k2 0 _) 1 _) rfl) rfl ?_
    have hle : w.heap.size + 1 < w1.drew.heap.size := by show w.heap.size + 1 < w1.heap.size; omega
    have hb02 := hb1.trans (hb12.mono hb1.size)
    exact ⟨A2, c2, rfl, (own_keep (own_keep HO.out hle 0 _) hle 1 _).mono (by have := hb1.size; exact this), (hb02.setCell (by show w.heap.size ≤ w.heap.size + 1; omega) _).setCell (by show w.heap.size ≤ w.heap.size + 1; omega) _⟩)

def StF (l : List O) (n : Nat) (w : World) (v i : Value) (wr : World) : Prop :=
  ∃ (k : Nat) (A1 : Option Addr) (c1 : Nat) (qs : List Po), k ≤ n ∧ i = .int .i64 k ∧ v = .slice A1 k c1 ∧ OwnF w.heap.size wr A1 k c1 qs ∧ osP qs = l.take k ∧ Below w.heap.size w wr
/-- Options of the call's own. -/
def KpR (w : World) (l : List O) (f : Value → Value) (e : Ending) (w' : World) : Prop := ∃ A' m c' qs, e = .returned (f (.slice A' m c')) ∧ osP qs = l ∧ OwnF w.heap.size w' A' m c' qs ∧ Below w.heap.size w w'
set_option maxHeartbeats 1000000 in
theorem each_opts (A : Option Addr) (n c : Nat) (ps : List Po) (w : World) (h : RdO w A n c ps) (hn : n ≤ 1001) (hsm : ∀ p ∈ ps, p.l.length ≤ 1000) :
    Calls Tryz.prog 106 #[.slice A n c, .func (.func 107) #[] #[]] w (KpR w (osP ps) fun v => v) := by
  have hl := Lib.hid h.len
  have hm := h.max
  have hcap := h.cap
  have HSM := Lib.hid hsm
  clear hsm
  obtain ⟨i0, hi0, hz0, hz1, hz2⟩ := info_parts Tw.opP.hi
  have HI := Lib.hid hi0
  have HZ0 := Lib.hid hz0
  have HZ1 := Lib.hid hz1
  have HZ2 := Lib.hid hz2
  clear hi0 hz0 hz1 hz2
  go_enter Tryz.func106, Tryz.ntmps106
  go_wp2_with (refine wpList_make_own _ rfl _ (.tmp 9) 27 rfl w.heap.size 74 i0 _ 2 Tryz.underlying27 HI.out HZ0.out HZ1.out .i64 .i64 n n rfl rfl rfl (by rw [HZ2.out]; omega) (by unfold maxLen; omega) (Nat.le_refl _) ?_; intro w1 hown hgr)
  have hb1 : Below w.heap.size w w1 := (Below.refl _ _).grown hgr (Nat.le_refl _) (fun _ h => by cases h)
  clear hgr
  go_loopw [5, 13] (fun v i wr => StF (osP ps) n w v i wr) (fun _ i _ => n - (intOf i).toNat)
  case atStart => exact ⟨0, _, n, [], by omega, rfl, rfl, ⟨hown, fun p hp => by cases hp⟩, rfl, hb1⟩
  case round =>
    obtain ⟨k, A1, c1, qs, hk, rfl, rfl, hownr, hqs, hbw⟩ := hrel
    have HQ := Lib.hid hqs
    clear hqs
    by_cases hlt : k < n
    · obtain ⟨b, o, co, A', m, c', l, rfl, hcell, hcell2, hbs, HP, HO, HM, _, _, hblt⟩ := h.atU hbw hlt
      have hml := HM.out
      subst hml
      have hl1 : l.length ≤ 1000 := HSM.out _ (List.mem_of_getElem? HP.out)
      have H : Hid ((osP ps).take (k + 1) = (osP ps).take k ++ [(co, l)]) := by
        obtain ⟨h1, h2⟩ := HO.out
        show (osP ps).take (k + 1) = _
        rw [take_snocO h1, h2]
      have hba : Below wr.heap.size wr (wr.alloc (.cells #[.int .i64 co, .slice A' l.length c'] 74)) := (Below.refl _ _).alloc (Nat.le_refl _) _
      have hbs2 := hbs.bs.below hba
      have hszr := hbw.size
      clear HP HO HM hbs
      go_wp2_with fail
      refine (fresh_any co A' c' l _ hbs2 hl1).mono ?_
      rintro e w2 ⟨A2, c2, rfl, hown2, hb2⟩
      have hb02 := hba.trans (hb2.mono hba.size)
      have hb3 : Below w2.heap.size w2 (w2.alloc (.cells #[.int .i64 co, .slice A2 l.length c2] 74)) := (Below.refl _ _).alloc (Nat.le_refl _) _
      have hlit := (OwnC.lit1 74 w2 ⟨co, A2, c2, l⟩).rdc
      have HF := Lib.hid ((hownr.below hb02).below hb3)
      have HN : Hid (Own 5 w.heap.size (w2.alloc (.cells #[.int .i64 co, .slice A2 l.length c2] 74)) A2 l.length c2 l) := (hown2.mono (by simp; omega)).below hb3
      have hbw3 := (hbw.trans (hb02.mono hbw.size)).trans (hb3.mono (hbw.trans (hb02.mono hbw.size)).size)
      have hsz3 := hbw3.size
      clear hown2 hbs2 hcell hcell2
      go_wp2_with (at_builtin; refine wpList_appO Tw.opP rfl (.tmp 17) (.tmp 21) rfl rfl HF.out.1 rfl hlit (by omega) hsz3 ?_; intro A3 c3 w3 hown3 hb4 hg4)
      go_roundw
      case rel =>
        refine ⟨k + 1, A3, c3, qs ++ [⟨co, A2, c2, l⟩], by omega, by go_num, rfl, HF.out.snoc hown3 HN.out hg4, ?_, hbw3.trans hb4⟩
        rw [os_app, HQ.out, H.out]
        rfl
      case measure => simp [intOf]; omega
    · obtain rfl : k = n := by omega
      have H : Hid ((osP ps).take k = osP ps) := by show (osP ps).take k = osP ps; rw [List.take_of_length_le (by have := hl.out; rw [os_len]; omega)]
      go_wp2
      go_ret
      exact ⟨A1, k, c1, qs, rfl, by rw [HQ.out, H.out], hownr, hbw⟩
end Go.Proofs.YtoldppbakapohaaGreatDoor.Ow
end
/- What opts.Keep and opts.Set come to, and the document's own Keep and Fair. For lists of up to 1000 options with 1000 bytes at most. -/
section
set_option maxRecDepth 8000
namespace Go.Proofs.YtoldppbakapohaaGreatDoor.Ow
open Go.RowKit Tl Ms Co By

theorem OwnF.mono {B B' : Nat} {w : World} {A : Option Addr} {n c : Nat} {ps : List Po} (h : OwnF B w A n c ps) (hB : B' ≤ B) : OwnF B' w A n c ps := ⟨h.1.mono hB, fun p hp => (h.2 p hp).mono hB⟩
theorem fair_iff (c : Int) (b : List UInt8) : fairO c b = true ↔ 1 ≤ c ∧ c ≤ 254 ∧ b.length ≤ 600 := by simp [fairO]

set_option maxHeartbeats 2000000 in
theorem keep_yes (A : Option Addr) (n c : Nat) (ps : List Po) (code : Int) (D : Option Addr) (m dc : Nat) (b : List UInt8) (w : World) (h : RdO w A n c ps) (hn : n ≤ 1000) (hsm : ∀ p ∈ ps, p.l.length ≤ 1000) (hd : Bs w D m dc b) (hf : fairO code b = true) :
    Calls Tryz.prog 61 #[.slice A n c, .int .i64 code, .slice D m dc] w (KpR w (keepL (osP ps) code b) fun v => .tuple #[v, .int .i64 0]) := by
  have hl := Lib.hid h.len
  have HSM := Lib.hid hsm
  obtain ⟨f1, f2, f3⟩ := (fair_iff code b).1 hf
  obtain rfl : m = b.length := hd.len.symm
  have hcap := hd.cap
  have hmax := hd.max
  have hm3 : ((b.length : Nat) : Int) ≤ 600 := by omega
  have hfl : (keepP ps code).length ≤ n := by
    have := List.length_filter_le (fun p : Po => !(p.code == code)) ps
    have e := hl.out
    unfold keepP
    omega
  obtain ⟨w0, hw0⟩ : ∃ w0, w0 = w.alloc (.cells #[.int .i64 code] 3) := ⟨_, rfl⟩
  have hb0 : Below w.heap.size w w0 := by rw [hw0]; exact (Below.refl _ _).alloc (Nat.le_refl _) _
  have hc0 : Cel w0 w.heap.size 3 #[.int .i64 code] := by rw [hw0]; exact Cel.born w _ _
  have hlt0 : w.heap.size < w0.heap.size := hc0.lt
  have HCL := Lib.hid (cloneO_any A n c ps w0 (h.below hb0) hn)
  have H := Lib.hid h
  have HD := Lib.hid hd
  clear h hd hsm hf f3
  go_enter Tryz.func61, Tryz.ntmps61
  go_wp2_with fail
  rw [← hw0]
  clear hw0
  refine HCL.out.mono ?_
  rintro e w1 ⟨A1, k1, c1, rfl, hown1, hb1⟩
  obtain rfl : k1 = n := by rw [← hown1.len]; exact hl.out
  have hb01 := hb0.trans (hb1.mono hb0.size)
  have hrd1 : RdO w1 A1 k1 c1 ps := ⟨hown1.rdc, fun p hp => (H.out.2 p hp).below hb01⟩
  have r1 : w1.cell? ⟨w.heap.size, 0, none⟩ = some (.int .i64 code) := by rw [(hc0.below hb1 hlt0).cell]; rfl
  have HDE := Lib.hid (delete_any w0.heap.size A1 k1 c1 ps code w.heap.size w1 hb1.size hown1 hrd1 hn hlt0 r1)
  clear hown1 hrd1 r1 HCL
  go_wp2_with fail
  refine HDE.out.mono ?_
  rintro e w2 ⟨A2, k2, c2, rfl, hown2, hb2⟩
  have hk2 : k2 ≤ 1000 := by have := hown2.len; omega
  have hb12 := hb1.trans hb2
  have hb02 := hb0.trans (hb12.mono hb0.size)
  have r2 : w2.cell? ⟨w.heap.size, 0, none⟩ = some (.int .i64 code) := by rw [(hc0.below hb12 hlt0).cell]; rfl
  have hba : Below w2.heap.size w2 (w2.alloc (.cells #[.int .i64 code, .slice D b.length dc] 74)) := (Below.refl _ _).alloc (Nat.le_refl _) _
  have hlit := (OwnC.lit1 74 w2 ⟨code, D, dc, b⟩).rdc
  have HO2 := Lib.hid (hown2.below hba)
  have hsz2 : w0.heap.size ≤ (w2.alloc (.cells #[.int .i64 code, .slice D b.length dc] 74)).heap.size := Nat.le_trans hb12.size hba.size
  clear hown2 HDE hb1 hb2
  go_wp2_with (at_builtin; refine wpList_appO Tw.opP rfl (.tmp 24) (.tmp 28) rfl rfl HO2.out rfl hlit (by omega) hsz2 ?_; intro A3 c3 w3 hown3 hb3 _)
  have hb03 := (hb02.trans (hba.mono hb02.size)).trans (hb3.mono hb0.size)
  have hrd3 : RdO w3 A3 (k2 + 1) c3 (keepP ps code ++ [⟨code, D, dc, b⟩]) := ⟨hown3.rdc, fun p hp => by
    rcases List.mem_append.1 hp with hp | hp
    · exact (H.out.2 p (keepP_mem hp)).below hb03
    · simp at hp
      subst hp
      exact HD.out.below hb03⟩
  have HEA := Lib.hid (each_opts A3 (k2 + 1) c3 _ w3 hrd3 (by omega) (fun p hp => by
    rcases List.mem_append.1 hp with hp | hp
    · exact HSM.out p (keepP_mem hp)
    · simp at hp
      subst hp
      show b.length ≤ 1000
      omega))
  have HK : Hid (osP (keepP ps code ++ [⟨code, D, dc, b⟩]) = keepL (osP ps) code b) := by
    show osP (keepP ps code ++ [⟨code, D, dc, b⟩]) = _
    rw [os_app, keepP_os]
    rfl
  clear hown3 hrd3 hlit HO2
  go_wp2_with fail
  refine HEA.out.mono ?_
  rw [HK.out]
  rintro e w4 ⟨A4, m4, c4, qs, rfl, hqs, hown4, hb4⟩
  go_wp2
  go_ret2
  exact ⟨A4, m4, c4, qs, rfl, hqs, hown4.mono hb03.size, hb03.trans (hb4.mono hb03.size)⟩

/-! ### Set -/
def setL (l : List O) (c : Int) (v n : Int) : List O := keepL l c (putL v.toNat n.toNat)
theorem fairB_iff (v n : Int) : Cw.fairB v n = true ↔ 1 ≤ n ∧ n ≤ 7 ∧ 0 ≤ v ∧ v < ((p256 n.toNat : Nat) : Int) := by simp [Cw.fairB]
theorem put_fair (v n : Int) (h : Cw.fairB v n = true) (c : Int) : fairO c (putL v.toNat n.toNat) = fairO c [] := by
  obtain ⟨h1, h2, _⟩ := (fairB_iff v n).1 h
  unfold fairO
  rw [putL_length]
  congr 2
  simp
  omega
theorem set_yes (A : Option Addr) (n c : Nat) (ps : List Po) (code v k : Int) (w : World) (h : RdO w A n c ps) (hn : n ≤ 1000) (hsm : ∀ p ∈ ps, p.l.length ≤ 1000) (hb : Cw.fairB v k = true) (hf : fairO code [] = true) :
    Calls Tryz.prog 28 #[.slice A n c, .int .i64 code, .int .i64 v, .int .i64 k] w (KpR w (setL (osP ps) code v k) fun x => .tuple #[x, .int .i64 0]) := by
  have HN : Hid (fairO code (putL v.toNat k.toNat) = true) := by rw [put_fair v k hb]; exact hf
  have HSM := Lib.hid hsm
  have H := Lib.hid h
  obtain ⟨h1, h2, h3, h4⟩ := (fairB_iff v k).1 hb
  obtain ⟨v', rfl⟩ := Int.eq_ofNat_of_zero_le h3
  obtain ⟨k', rfl⟩ := Int.eq_ofNat_of_zero_le (show 0 ≤ k by omega)
  simp only [Int.toNat_natCast] at HN h4
  have HP := Lib.hid (Cw.put_ok v' k' w (by omega) (by omega) (by omega))
  clear hf hb h4 h3 hsm h
  go_enter Tryz.func28, Tryz.ntmps28
  go_wp2_with fail
  refine HP.out.mono ?_
  rintro e w1 ⟨A1, c1, rfl, hown1, hb1⟩
  have HK := Lib.hid (keep_yes A n c ps code A1 k' c1 _ w1 (H.out.below hb1) hn HSM.out hown1.bs HN.out)
  clear hown1
  go_wp2_with fail
  refine HK.out.mono ?_
  rintro e w2 ⟨A2, m2, c2, qs, rfl, hqs, hown2, hb2⟩
  go_wp2
  go_ret2
  exact ⟨A2, m2, c2, qs, rfl, hqs, hown2.mono hb1.size, hb1.trans (hb2.mono hb1.size)⟩

/-! ### The document's -/
end Go.Proofs.YtoldppbakapohaaGreatDoor.Ow
end
