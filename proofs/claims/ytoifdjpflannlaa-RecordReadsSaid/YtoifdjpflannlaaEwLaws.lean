/- The walks of RecordRights and RecordReads: each returns true, and what was in memory stays. For all inputs. -/
import Derived.Test.YtoifdjpflannlaaEwKnows
import Derived.Test.YtoifdjpflannlaaEwRef
import Derived.Test.YtoifdjpflannlaaEwRefR
import Derived.Deep.RegionHeld3
set_option maxRecDepth 8000
namespace Go.Proofs.Ytoifdjpflannlaa
open Go.RowKit Co By Ky Rc Ew
open Dw (ba ba_size ba_data ba_list)

set_option maxHeartbeats 2000000 in
theorem recordRights_walk (l : L) (w : World) (hk : Fk l) : Calls Try.prog 4 #[lv l] w (isTrue w) := by
  obtain ⟨w1, hw1⟩ : ∃ w1, w1 = w.alloc (.cells (lcs l) 47) := ⟨_, rfl⟩
  have HC1 := Lib.hid (show Cel w1 w.heap.size 47 (lcs l) by rw [hw1]; exact Cel.born _ _ _)
  have HB1 := Lib.hid (show Below w.heap.size w w1 by rw [hw1]; exact (Below.refl _ _).alloc (Nat.le_refl _) _)
  have hz := Lib.hid (ba_size l.key)
  have HK := Lib.hid hk
  by_cases hs : (1000 : Int) < ((ba l.key).size : Int)
  · go_enter Try.func4, Try.ntmps4
    go_wp2_with fail
    rw [← hw1]
    clear hw1
    refine (knows_yes _).mono ?_
    rintro e w2 ⟨rfl, hb2⟩
    go_wp2
    go_ret
    exact ⟨rfl, HB1.out.trans (hb2.mono HB1.out.size)⟩
  have HR1 := Lib.hid (fun W => right_any l W HK.out)
  have HR2 := Lib.hid (fun W => refRight_any l W HK.out)
  generalize rightR l = b at HR1 HR2
  have hbb : (b == b) = true := by simp
  have K : Hid (∀ W, Below w1.heap.size w1 W → W.cell? ⟨w.heap.size, 0, none⟩ = some (.int .i64 l.addr) ∧ W.cell? ⟨w.heap.size, 1, none⟩ = some (.int .i64 l.state) ∧ W.cell? ⟨w.heap.size, 2, none⟩ = some (.int .i64 l.till) ∧ W.cell? ⟨w.heap.size, 3, none⟩ = some (.string (ba l.key))) := fun W hW => cel4 (HC1.out.below hW HC1.out.lt)
  go_enter Try.func4, Try.ntmps4
  go_wp2_with fail
  rw [← hw1]
  clear hw1
  go_region_held3 (fun W => W.cell? ⟨w.heap.size, 0, none⟩ = some (.int .i64 l.addr) ∧ W.cell? ⟨w.heap.size, 1, none⟩ = some (.int .i64 l.state) ∧ W.cell? ⟨w.heap.size, 2, none⟩ = some (.int .i64 l.till) ∧ W.cell? ⟨w.heap.size, 3, none⟩ = some (.string (ba l.key)))
    (first
      | exact K.out _ (Below.refl _ _)
      | exact K.out _ (Below.refl _ _).drew
      | exact K.out _ hbu9
      | exact K.out _ hbv9
      | exact K.out _ hbx9)
    (first
      | (go_simp; go_at_call 17; (with_reducible refine (HR1.out _).mono ?_); rintro ee wu ⟨rfl, hbu⟩; have hbu9 : Below w1.heap.size w1 wu := below_undrew hbu)
      | (go_simp; go_at_call 18; (with_reducible refine (HR2.out _).mono ?_); rintro ee wv ⟨rfl, hbv⟩; have hbv9 : Below w1.heap.size w1 wv := hbu9.trans (hbv.mono hbu9.size))
      | (go_simp; go_at_call 16; (with_reducible refine (knows_yes _).mono ?_); rintro ee wx ⟨rfl, hbx⟩; have hbx9 : Below w1.heap.size w1 wx := hbv9.trans (hbx.mono hbv9.size)))
  all_goals (
    go_wp2
    go_ret
    exact ⟨rfl, HB1.out.trans (hbx9.mono HB1.out.size)⟩)

set_option maxHeartbeats 4000000 in
theorem recordReads_walk (A : Option Addr) (n c : Nat) (l : List UInt8) (w : World) (h : Bs w A n c l) : Calls Try.prog 6 #[.slice A n c] w (isTrue w) := by
  have hmx := h.max
  have hcp := h.cap
  by_cases hs : 1000 < n
  · go_enter Try.func6, Try.ntmps6
    go_wp2_with fail
    refine (knows_yes _).mono ?_
    rintro e w2 ⟨rfl, hb2⟩
    go_wp2
    go_ret
    exact ⟨rfl, hb2⟩
  have HX := Lib.hid h
  have hl0 := Own.lit0 5 w
  have hal0 : Below w.heap.size w (w.alloc (.cells #[] 5)) := (Below.refl _ _).alloc (Nat.le_refl _) _
  have hx0 := h.below hal0
  have hz0 := hal0.size
  clear h
  go_enter Try.func6, Try.ntmps6
  go_wp2_with (at_builtin; refine wpList_app byP rfl (.tmp 12) (.tmp 13) rfl rfl hl0 rfl hx0 (by omega) hz0 ?_; intro A1 c1 w1 hown1 hb1 _ _)
  simp only [Nat.zero_add, List.nil_append] at hown1
  have HB1 := Lib.hid (hal0.trans hb1)
  have HRD := Lib.hid (read_any A1 n c1 l w1 hown1.bs)
  generalize hp : readR l = p at HRD
  obtain ⟨m, er⟩ := p
  clear hb1 hown1 hl0 hal0 hx0 hz0
  refine HRD.out.mono ?_
  rintro e w2 ⟨rfl, hb2⟩
  have HB2 := Lib.hid (HB1.out.trans (hb2.mono HB1.out.size))
  obtain ⟨w3, hw3⟩ : ∃ w3, w3 = w2.alloc (.cells (lcs m) 47) := ⟨_, rfl⟩
  have hb3 : Below w2.heap.size w2 w3 := by rw [hw3]; exact (Below.refl _ _).alloc (Nat.le_refl _) _
  have HC3 := Lib.hid (show Cel w3 w2.heap.size 47 (lcs m) by rw [hw3]; exact Cel.born _ _ _)
  have HB3 := Lib.hid (HB2.out.trans (hb3.mono HB2.out.size))
  have hrr := refRead_any A n c l w3 (HX.out.below HB3.out)
  rw [hp] at hrr
  have HRR := Lib.hid hrr
  clear hp hb2 hb3 hrr HRD
  go_wp2_with fail
  rw [← hw3]
  clear hw3
  refine HRR.out.mono ?_
  rintro e w4 ⟨rfl, hb4⟩
  have HB4 := Lib.hid (HB3.out.trans (hb4.mono HB3.out.size))
  have HC4 := Lib.hid (HC3.out.below hb4 HC3.out.lt)
  obtain ⟨w5, hw5⟩ : ∃ w5, w5 = w4.alloc (.cells (lcs m) 47) := ⟨_, rfl⟩
  have hb5 : Below w4.heap.size w4 w5 := by rw [hw5]; exact (Below.refl _ _).alloc (Nat.le_refl _) _
  have hc5 : Cel w5 w4.heap.size 47 (lcs m) := by rw [hw5]; exact Cel.born _ _ _
  have hd5 := HC4.out.below hb5 HC4.out.lt
  have HB5 := Lib.hid (HB4.out.trans (hb5.mono HB4.out.size))
  obtain ⟨p0, p1, p2, p3⟩ := cel4 hc5
  obtain ⟨q0, q1, q2, q3⟩ := cel4 hd5
  rw [hw5] at p0 p1 p2 p3 q0 q1 q2 q3
  have HQ := fun W => leq_self m W
  have hee : (er == er) = true := by simp
  clear hb4 hb5 hc5 hd5 HC3 HC4
  go_wp2_with fail
  rw [← hw5]
  clear hw5 p0 p1 p2 p3 q0 q1 q2 q3
  refine (knows_yes _).mono ?_
  rintro e w6 ⟨rfl, hb6⟩
  go_wp2
  go_ret
  exact ⟨rfl, HB5.out.trans (hb6.mono HB5.out.size)⟩
end Go.Proofs.Ytoifdjpflannlaa
