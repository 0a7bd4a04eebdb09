/- What opts.Listed and opts.Wants come to, the generic function that they go through, and the document's own. For lists whose options have 1000 bytes at most. -/
import Derived.Test.YtibcpdimdjipjaaOwLeaf
import Derived.Test.YtibcpdimdjipjaaElKit
import Derived.OwnWalk
import Derived.Deep.QuietTactic
set_option maxRecDepth 8000
namespace Go.Proofs.Ytibcpdimdjipjaa.Ow
open Go.RowKit Tl Ms Co By

def intsL (l : List UInt8) : List Value := l.map fun b => .int .i64 (b.toNat : Int)
theorem ints_len (l : List UInt8) : (intsL l).length = l.length := by simp [intsL]
theorem ints_get {l : List UInt8} {k : Nat} (h : k < l.length) : (intsL l)[k]'(by rw [ints_len]; exact h) = .int .i64 ((l[k]).toNat : Int) := by simp [intsL]
theorem ints_next {l : List UInt8} {k : Nat} (h : k < l.length) : intsL (l.take (k + 1)) = intsL (l.take k) ++ [.int .i64 ((l[k]).toNat : Int)] := by
  unfold intsL
  rw [List.take_succ_eq_append_getElem h, List.map_append]
  rfl
theorem elI : ElP Try.prog 29 3 (.int .i64 0) 8 := ⟨Try.underlying29, by kernel_rfl, rfl⟩
def listedL (l : List O) : List UInt8 := (findL l 55).getD []
def hasB (l : List UInt8) (c : Int) : Bool := l.any fun x => (x.toNat : Int) == c
def RI (w : World) (l : List UInt8) (e : Ending) (w' : World) : Prop := ∃ A m c, e = .returned (.slice A m c) ∧ Rd w' A m c (intsL l) ∧ Below w.heap.size w w'
theorem find_len {ps : List Po} (h : ∀ p ∈ ps, p.l.length ≤ 1000) (c : Int) : ((findL (osP ps) c).getD []).length ≤ 1000 := by
  unfold findL
  cases hf : (osP ps).find? fun o => o.1 == c with
  | none => simp
  | some o =>
    have hm := List.mem_of_find?_eq_some hf
    obtain ⟨p, hp, rfl⟩ := List.mem_map.1 hm
    exact h p hp
theorem has_hit {l : List UInt8} {k : Nat} {c : Int} (h : k < l.length) (e : ((l[k]).toNat : Int) = c) : hasB l c = true := by
  unfold hasB
  rw [List.any_eq_true]
  exact ⟨l[k], List.getElem_mem h, by simpa using e⟩
def noneTo (l : List UInt8) (c : Int) (k : Nat) : Prop := hasB (l.take k) c = false
theorem none_next {l : List UInt8} {k : Nat} {c : Int} (hs : noneTo l c k) (h : k < l.length) (e : ((l[k]).toNat : Int) ≠ c) : noneTo l c (k + 1) := by
  unfold noneTo hasB at *
  rw [List.take_succ_eq_append_getElem h, List.any_append, hs]
  simpa using e
theorem none_end {l : List UInt8} {k : Nat} {c : Int} (hs : noneTo l c k) (h : l.length ≤ k) : hasB l c = false := by
  unfold noneTo at hs
  rwa [List.take_of_length_le h] at hs

theorem int_of (x : UInt8) (w : World) : Calls Try.prog 33 #[.int .u8 (x.toNat : Int)] w fun e w' => e = .returned (.int .i64 (x.toNat : Int)) ∧ w = w' := by
  have hx := x.toNat_lt
  go_enter Try.func33, Try.ntmps33
  go_wp2
  go_ret
  exact ⟨rfl, rfl⟩

def StI (l : List UInt8) (n : Nat) (w : World) (v i : Value) (wr : World) : Prop :=
  ∃ (k : Nat) (A1 : Option Addr) (c1 : Nat), k ≤ n ∧ i = .int .i64 k ∧ v = .slice A1 k c1 ∧ OwnV 3 w.heap.size wr A1 k c1 (intsL (l.take k)) ∧ Below w.heap.size w wr
set_option maxHeartbeats 400000 in
theorem each_ints (A : Option Addr) (n c : Nat) (l : List UInt8) (w : World) (h : Bs w A n c l) (hn : n ≤ 1000) :
    Calls Try.prog 32 #[.slice A n c, .func (.func 33) #[] #[]] w (RI w l) := by
  have hl := Lib.hid h.len
  have hm := h.max
  have hcap := h.cap
  obtain ⟨i0, hi0, hz0, hz1, hz2⟩ := info_parts elI.hi
  have HI := Lib.hid hi0
  have HZ0 := Lib.hid hz0
  have HZ1 := Lib.hid hz1
  have HZ2 := Lib.hid hz2
  clear hi0 hz0 hz1 hz2
  go_enter Try.func32, Try.ntmps32
  go_wp2_with (refine wpList_make_own _ rfl _ (.tmp 9) 29 rfl w.heap.size 3 i0 _ 1 Try.underlying29 HI.out HZ0.out HZ1.out .i64 .i64 n n rfl rfl rfl (by rw [HZ2.out]; omega) (by unfold maxLen; omega) (Nat.le_refl _) ?_; intro w1 hown hgr)
  have hb1 : Below w.heap.size w w1 := (Below.refl _ _).grown hgr (Nat.le_refl _) (fun _ h => by cases h)
  clear hgr
  go_loopw [5, 13] (fun v i wr => StI l n w v i wr) (fun _ i _ => n - (intOf i).toNat)
  case atStart => exact ⟨0, _, n, by omega, rfl, rfl, hown, hb1⟩
  case round =>
    obtain ⟨k, A1, c1, hk, rfl, rfl, hownr, hbw⟩ := hrel
    by_cases hlt : k < n
    · obtain ⟨b, o, rfl, hc⟩ := h.at_ hlt
      have hkl : k < l.length := by have := hl.out; omega
      have hblt : b < w.heap.size := World.block_lt_of_cell? w _ (hc k hkl)
      have hcell : wr.cell? ⟨b, o + k, none⟩ = some (.int .u8 ((l[k]).toNat : Int)) := (hbw.cell (p := ⟨b, o + k, none⟩) hblt).trans (hc k hkl)
      have H := Lib.hid (ints_next hkl)
      clear hc
      generalize l[k] = y at hcell H
      have hy := y.toNat_lt
      have hba : Below wr.heap.size wr (wr.alloc (.cells #[.int .i64 (y.toNat : Int)] 3)) := (Below.refl _ _).alloc (Nat.le_refl _) _
      clear hkl
      go_wp2_with fail
      refine (int_of y _).mono ?_
      rintro e w2 ⟨rfl, rfl⟩
      go_wp2_with (at_builtin; refine wpList_appV elI rfl (.tmp 17) (.tmp 21) rfl rfl (hownr.below hba) rfl (OwnV.lit1 3 wr _).rd (by intro u hu; simp at hu; subst hu; rfl) (by unfold maxLen; omega) (by omega) (by have := hbw.size; simp; omega) ?_; intro A3 c3 w3 hown3 hb3 _ _)
      go_roundw
      case rel => exact ⟨k + 1, A3, c3, by omega, by go_num, rfl, by rw [H.out]; exact hown3, (hbw.trans (hba.mono hbw.size)).trans hb3⟩
      case measure => simp [intOf]; omega
    · obtain rfl : k = n := by omega
      have H : Hid (intsL (l.take k) = intsL l) := by show intsL (l.take k) = intsL l; rw [List.take_of_length_le (by have := hl.out; omega)]
      go_wp2
      go_ret
      exact ⟨A1, k, c1, rfl, by rw [← H.out]; exact hownr.rd, hbw⟩

theorem listed_any (A : Option Addr) (n c : Nat) (ps : List Po) (w : World) (h : RdO w A n c ps) (hsm : ∀ p ∈ ps, p.l.length ≤ 1000) :
    Calls Try.prog 15 #[.slice A n c] w (RI w (listedL (osP ps))) := by
  have HSM := Lib.hid hsm
  have HLn := Lib.hid (find_len hsm 55)
  clear hsm
  go_enter Try.func15, Try.ntmps15
  go_wp2_with fail
  refine (Tw.find_any A n c ps 55 w h HSM.out).mono ?_
  rintro e w1 ⟨A1, m1, c1, rfl, hbs, hb1⟩
  have hm1 : m1 ≤ 1000 := by have e1 := hbs.len; have e2 := HLn.out; omega
  have hbs' : Bs w1 A1 m1 c1 (listedL (osP ps)) := hbs
  clear hbs
  go_wp2_with fail
  refine (each_ints A1 m1 c1 _ _ hbs' hm1).mono ?_
  rintro e w2 ⟨A2, m2, c2, rfl, hrd, hb2⟩
  go_wp2
  go_ret
  exact ⟨A2, m2, c2, rfl, hrd, hb1.trans (hb2.mono hb1.size)⟩

theorem index_ints (A : Option Addr) (n c : Nat) (l : List UInt8) (code : Int) (w : World) (h : Rd w A n c (intsL l)) :
    Calls Try.prog 45 #[.slice A n c, .int .i64 code] w fun e w' => (∃ i : Int, e = .returned (.int .i64 i) ∧ decide (0 ≤ i) = hasB l code) ∧ w = w' := by
  have hl : Hid (l.length = n) := by have := h.len; rwa [ints_len] at this
  have hm := h.max
  have hcap := h.cap
  go_enter Try.func45, Try.ntmps45
  go_wp2
  go_loop [8] (fun i => ∃ k : Nat, k ≤ n ∧ i = .int .i64 k ∧ noneTo l code k) (fun i => n - (intOf i).toNat)
  case atStart => exact ⟨0, by omega, rfl, rfl⟩
  case round =>
    obtain ⟨k, hk, rfl, hs⟩ := hrel
    have HS := Lib.hid hs
    clear hs
    by_cases hlt : k < n
    · obtain ⟨b, o, rfl, hc⟩ := h.at_ hlt
      have hkl : k < l.length := by have := hl.out; omega
      have hcell := hc k (by rw [ints_len]; exact hkl)
      rw [ints_get hkl] at hcell
      clear hc
      by_cases he : ((l[k]).toNat : Int) = code
      · have H := Lib.hid (has_hit hkl he)
        rw [he] at hcell
        clear he hkl
        go_wp2
        go_ret
        exact ⟨⟨_, rfl, by rw [H.out]; simp⟩, rfl⟩
      · have H := Lib.hid (none_next HS.out hkl he)
        have hb : (code == ((l[k]).toNat : Int)) = false := by simp; exact fun e => he e.symm
        clear he
        generalize ((l[k]).toNat : Int) = y at hcell hb
        clear hkl
        go_wp2
        go_round
        case rel => exact ⟨k + 1, by omega, by go_num, H.out⟩
        case measure => simp [intOf]; omega
    · obtain rfl : k = n := by omega
      have H := Lib.hid (none_end HS.out (by have := hl.out; omega))
      go_wp2
      go_ret
      exact ⟨⟨_, rfl, by rw [H.out]; rfl⟩, rfl⟩

theorem wants_any (A : Option Addr) (n c : Nat) (ps : List Po) (code : Int) (w : World) (h : RdO w A n c ps) (hsm : ∀ p ∈ ps, p.l.length ≤ 1000) :
    Calls Try.prog 17 #[.slice A n c, .int .i64 code] w fun e w' => e = .returned (.bool (hasB (listedL (osP ps)) code)) ∧ Below w.heap.size w w' := by
  have HSM := Lib.hid hsm
  clear hsm
  go_enter Try.func17, Try.ntmps17
  go_wp2_with fail
  refine (listed_any A n c ps w h HSM.out).mono ?_
  rintro e w1 ⟨A1, m1, c1, rfl, hrd, hb1⟩
  have hK : Calls Try.prog 34 #[.slice A1 m1 c1, .int .i64 code] w1 fun e w' => e = .returned (.bool (hasB (listedL (osP ps)) code)) ∧ w1 = w' := by
    go_enter Try.func34, Try.ntmps34
    go_wp2_with fail
    refine (index_ints A1 m1 c1 _ code w1 hrd).mono ?_
    rintro e w2 ⟨⟨i, rfl, hi⟩, rfl⟩
    have HI := Lib.hid hi
    clear hi
    go_wp2
    go_ret
    exact ⟨ret_bool HI.out, rfl⟩
  have HK := Lib.hid hK
  clear hK hrd
  go_wp2_with fail
  refine HK.out.mono ?_
  rintro e w2 ⟨rfl, rfl⟩
  go_wp2
  go_ret
  exact ⟨rfl, hb1⟩

set_option maxHeartbeats 400000 in
theorem refListed_any (A : Option Addr) (n c : Nat) (ps : List Po) (w : World) (h : RdO w A n c ps) (hsm : ∀ p ∈ ps, p.l.length ≤ 1000) :
    Calls Try.prog 16 #[.slice A n c] w (RI w (listedL (osP ps))) := by
  have HLn := Lib.hid (find_len hsm 55)
  clear hsm
  obtain ⟨l, HLL⟩ : ∃ l, Hid (listedL (osP ps) = l) := ⟨_, rfl⟩
  rw [HLL.out]
  go_enter Try.func16, Try.ntmps16
  go_wp2_with fail
  refine (Tw.refFind_any A n c ps 55 w h).mono ?_
  rintro e w1 ⟨A1, m1, c1, rfl, hbs, rfl⟩
  have hm1 : m1 ≤ 1000 := by have e1 := hbs.len; have e2 := HLn.out; omega
  have hbs' : Bs w A1 m1 c1 (listedL (osP ps)) := hbs
  clear hbs HLn
  rw [HLL.out] at hbs'
  have hl := Lib.hid hbs'.len
  have hm := hbs'.max
  have hcap := hbs'.cap
  go_wp2
  go_loopw [5, 6] (fun v i wr => StI l m1 w v i wr) (fun _ i _ => m1 - (intOf i).toNat)
  case atStart => exact ⟨0, none, 0, by omega, rfl, rfl, OwnV.nil _ _ _, Below.refl _ _⟩
  case round =>
    obtain ⟨k, A2, c2, hk, rfl, rfl, hownr, hbw⟩ := hrel
    by_cases hlt : k < m1
    · obtain ⟨b, o, rfl, hc⟩ := hbs'.at_ hlt
      have hkl : k < l.length := by have := hl.out; omega
      have hblt : b < w.heap.size := World.block_lt_of_cell? w _ (hc k hkl)
      have hcell : wr.cell? ⟨b, o + k, none⟩ = some (.int .u8 ((l[k]).toNat : Int)) := (hbw.cell (p := ⟨b, o + k, none⟩) hblt).trans (hc k hkl)
      have H := Lib.hid (ints_next hkl)
      clear hc
      generalize l[k] = y at hcell H
      have hy := y.toNat_lt
      have hba : Below wr.heap.size wr (wr.alloc (.cells #[.int .i64 (y.toNat : Int)] 3)) := (Below.refl _ _).alloc (Nat.le_refl _) _
      clear hkl
      go_wp2_with (at_builtin; refine wpList_appV elI rfl (.tmp 18) (.tmp 24) rfl rfl (hownr.below hba) rfl (OwnV.lit1 3 wr _).rd (by intro u hu; simp at hu; subst hu; rfl) (by unfold maxLen; omega) (by omega) (by have := hbw.size; simp; omega) ?_; intro A3 c3 w3 hown3 hb3 _ _)
      go_roundw
      case rel => exact ⟨k + 1, A3, c3, by omega, by go_num, rfl, by rw [H.out]; exact hown3, (hbw.trans (hba.mono hbw.size)).trans hb3⟩
      case measure => simp [intOf]; omega
    · obtain rfl : k = m1 := by omega
      have H : Hid (intsL (l.take k) = intsL l) := by show intsL (l.take k) = intsL l; rw [List.take_of_length_le (by have := hl.out; omega)]
      go_wp2
      go_ret
      exact ⟨A2, k, c2, rfl, by rw [← H.out]; exact hownr.rd, hbw⟩

theorem refWants_any (A : Option Addr) (n c : Nat) (ps : List Po) (code : Int) (w : World) (h : RdO w A n c ps) :
    Calls Try.prog 18 #[.slice A n c, .int .i64 code] w fun e w' => e = .returned (.bool (hasB (listedL (osP ps)) code)) ∧ w = w' := by
  obtain ⟨l, HLL⟩ : ∃ l, Hid (listedL (osP ps) = l) := ⟨_, rfl⟩
  rw [HLL.out]
  go_enter Try.func18, Try.ntmps18
  go_wp2_with fail
  refine (Tw.refFind_any A n c ps 55 w h).mono ?_
  rintro e w1 ⟨A1, m1, c1, rfl, hbs, rfl⟩
  have hbs' : Bs w A1 m1 c1 (listedL (osP ps)) := hbs
  clear hbs
  rw [HLL.out] at hbs'
  have hl := Lib.hid hbs'.len
  have hm := hbs'.max
  have hcap := hbs'.cap
  go_wp2
  go_loop [7] (fun i => ∃ k : Nat, k ≤ m1 ∧ i = .int .i64 k ∧ noneTo l code k) (fun i => m1 - (intOf i).toNat)
  case atStart => exact ⟨0, by omega, rfl, rfl⟩
  case round =>
    obtain ⟨k, hk, rfl, hs⟩ := hrel
    have HS := Lib.hid hs
    clear hs
    by_cases hlt : k < m1
    · obtain ⟨b, o, rfl, hc⟩ := hbs'.at_ hlt
      have hkl : k < l.length := by have := hl.out; omega
      have hcell := hc k hkl
      clear hc
      have hy := (l[k]).toNat_lt
      by_cases he : ((l[k]).toNat : Int) = code
      · have H := Lib.hid (has_hit hkl he)
        have hb : (((l[k]).toNat : Int) == code) = true := by simpa using he
        clear he
        generalize l[k] = y at hcell hb hy
        clear hkl
        go_wp2
        go_ret
        exact ⟨ret_bool H.out.symm, rfl⟩
      · have H := Lib.hid (none_next HS.out hkl he)
        have hb : (((l[k]).toNat : Int) == code) = false := by simpa using he
        clear he
        generalize l[k] = y at hcell hb hy
        clear hkl
        go_wp2
        go_round
        case rel => exact ⟨k + 1, by omega, by go_num, H.out⟩
        case measure => simp [intOf]; omega
    · obtain rfl : k = m1 := by omega
      have H := Lib.hid (none_end HS.out (by have := hl.out; omega))
      go_wp2
      go_ret
      exact ⟨ret_bool H.out.symm, rfl⟩

set_option maxHeartbeats 400000 in
theorem sameInts_yes (A : Option Addr) (n c : Nat) (B : Option Addr) (m d : Nat) (l : List UInt8) (w : World) (h : Rd w A n c (intsL l)) (g : Rd w B m d (intsL l)) :
    Calls Try.prog 14 #[.slice A n c, .slice B m d] w fun e w' => e = .returned (.bool true) ∧ Below w.heap.size w w' := by
  have hl : Hid (l.length = n) := by have := h.len; rwa [ints_len] at this
  have hm := h.max
  have hcap := h.cap
  have gm := g.max
  have gcap := g.cap
  obtain rfl : n = m := by have e1 := h.len; have e2 := g.len; omega
  go_enter Try.func14, Try.ntmps14
  go_wp2
  go_loopw [5] (fun i wr => ∃ k : Nat, k ≤ n ∧ i = .int .i64 k ∧ Below w.heap.size w wr) (fun i _ => n - (intOf i).toNat)
  case atStart => exact ⟨0, by omega, rfl, Below.refl _ _⟩
  case round =>
    obtain ⟨k, hk, rfl, hbw⟩ := hrel
    by_cases hlt : k < n
    · obtain ⟨b, o, rfl, hc⟩ := (h.below hbw).at_ hlt
      obtain ⟨b2, o2, rfl, gc⟩ := (g.below hbw).at_ hlt
      have hkl : k < l.length := by have := hl.out; omega
      have hcell := hc k (by rw [ints_len]; exact hkl)
      have gcell := gc k (by rw [ints_len]; exact hkl)
      rw [ints_get hkl] at hcell gcell
      have hi1 : (0 : Int) ≤ (k : Int) := by omega
      have hi2 : (k : Int) < (n : Int) := by omega
      clear hc gc
      generalize ((l[k]).toNat : Int) = y at hcell gcell
      clear hkl
      have hb0 : (y != y) = false := by simp
      go_wp2_with fail
      go_quiet (fail)
      go_wp2
      go_roundw
      case rel => exact ⟨k + 1, by omega, by go_num, below_drewN hbw _⟩
      case measure => simp [intOf]; omega
    · obtain rfl : k = n := by omega
      go_wp2
      go_ret
      exact ⟨rfl, hbw⟩
end Go.Proofs.Ytibcpdimdjipjaa.Ow
