/- When it is time to make a journal short: what the program's Due comes to, and the document's. For all disks whose names fit. -/
import Derived.Test.YtlefpodonkdbeaaGreatLwLast
import Derived.Test.YtlefpodonkdbeaaGreatLwRl
import Derived.Test.YtlefpodonkdbeaaGreatMathA
import Derived.Test.YtlefpodonkdbeaaGreatJwRead
import Derived.Test.YtlefpodonkdbeaaGreatJwRefRead
set_option maxRecDepth 8000
namespace Go.Proofs.YtlefpodonkdbeaaGreat.Lw
open Go.RowKit Co By Ky Rc Dk Jn Ew Jw La
open Dw (ba ba_size ba_data ba_list Dv RdD Sm alloc_more)

theorem scan_many (b : List UInt8) : (scanJ b).1.length ≤ b.length := by
  by_cases hb : b = []
  · subst hb; rw [scan_nil]; exact Nat.le_refl _
  by_cases h4 : openE b = 4
  · rw [scan_more hb h4]; exact Nat.zero_le _
  by_cases h0 : openE b = 0
  rotate_left
  · rw [scan_bad hb h4 h0]; exact Nat.zero_le _
  by_cases hr : (readR (heldL b)).2 = 0
  rotate_left
  · rw [scan_none hb h0 hr]; exact Nat.zero_le _
  rw [scan_one hb h0 hr]
  unfold putJ
  split
  · exact Nat.zero_le _
  · have h1 := scan_many (b.drop (6 + (heldL b).length))
    rw [List.length_drop] at h1
    have h2 := (open_zero h0).1
    show ([(readR (heldL b)).1] ++ _).length ≤ _
    rw [List.length_append, List.length_singleton]
    omega
termination_by b.length
decreasing_by
  rw [List.length_drop]
  have : 0 < b.length := List.length_pos_iff.2 hb
  omega
theorem read_many (d : D) : (readD d).1.length ≤ 20000 := Nat.le_trans (scan_many _) (get_len d nJ)
def IsB (b : Bool) (w : World) (e : Ending) (w' : World) : Prop := e = .returned (.bool b) ∧ Below w.heap.size w w'
theorem due_err {d : D} {many : Int} (h : (readD d).2.2 ≠ 0) : dueD d many = false := by unfold dueD; rw [decide_eq_false h]; rfl
theorem due_few {d : D} {many : Int} (h : ¬ many < ((readD d).1.length : Int)) : dueD d many = false := by unfold dueD; rw [decide_eq_false h]; simp
theorem due_yes {d : D} {many : Int} (h0 : (readD d).2.2 = 0) (h1 : many < ((readD d).1.length : Int)) (h2 : ¬ (readD d).1.length = (lastL (readD d).1).length) : dueD d many = true := by unfold dueD; rw [decide_eq_true h0, decide_eq_true h1, decide_eq_true h2]; rfl
theorem due_no {d : D} {many : Int} (h2 : (readD d).1.length = (lastL (readD d).1).length) : dueD d many = false := by unfold dueD; simp [h2]
set_option maxHeartbeats 1000000 in
theorem due_any (x : Dv) (many : Int) (w : World) (h : RdD w.heap.size w x) (hsm : Sm x.d) : Calls Tryz.prog 14 #[x.v, .int .i64 many] w (IsB (dueD x.d many) w) := by
  obtain ⟨w1, hw1⟩ : ∃ w1, w1 = w.alloc (.cells x.cs 30) := ⟨_, rfl⟩
  have hb1 : Below w.heap.size w w1 := by rw [hw1]; exact alloc_more _ _
  have HRD := Lib.hid (readJ_any x w1 ((h.below hb1).mono hb1.size) hsm)
  have HB1 := Lib.hid hb1
  have HE := Lib.hid (fun k => due_err (d := x.d) (many := many) k)
  have HF := Lib.hid (fun k => due_few (d := x.d) (many := many) k)
  have HY := Lib.hid (fun k1 k2 k3 => due_yes (d := x.d) (many := many) k1 k2 k3)
  have HN := Lib.hid (fun k => due_no (d := x.d) (many := many) k)
  have HM := Lib.hid (read_many x.d)
  have HLL := Lib.hid (last_len (readD x.d).1)
  generalize dueD x.d many = q at HE HF HY HN ⊢
  generalize readD x.d = p at HRD HE HF HY HN HM HLL
  obtain ⟨ls, at', er⟩ := p
  clear h hb1 hsm
  go_enter Tryz.func14, Tryz.ntmps14
  go_wp2_with fail
  rw [← hw1]
  clear hw1
  refine HRD.out.mono ?_
  rintro e w2 ⟨A, n, c, rfl, hl2, hb2⟩
  have hn : ls.length = n := hl2.len
  have hn2 : n ≤ 20000 := by have := HM.out; rw [← hn]; exact this
  have hmx := hl2.max
  have hcp := hl2.cap
  have HB2 := Lib.hid (HB1.out.trans (hb2.mono HB1.out.size))
  by_cases h0 : er = 0
  rotate_left
  · have b0 : (er == 0) = false := by simpa using h0
    have H : Hid (q = false) := HE.out h0
    clear h0 hl2 hb2 HRD HE HF HY HN hn
    go_wp2
    go_ret
    exact ⟨ret_bool H.out.symm, HB2.out⟩
  by_cases h1 : many < (n : Int)
  rotate_left
  · have h1z : ¬ ((n : Int) > many) := h1
    have H : Hid (q = false) := HF.out (by first | (show (ls.length : Int) ≤ many; omega) | (show ¬ many < (ls.length : Int); omega))
    subst h0
    clear hl2 hb2 HRD HE HF HY HN hn
    go_wp2
    go_ret
    exact ⟨ret_bool H.out.symm, HB2.out⟩
  · have HL := Lib.hid (last_any A n c w2.heap.size ls w2 hl2 (Nat.le_refl _) (by omega))
    have h1z : (n : Int) > many := h1
    have HY2 := Lib.hid (HY.out h0 (by show many < (ls.length : Int); rw [hn]; exact h1))
    have HNN := Lib.hid hn
    subst h0
    clear hl2 hb2 HRD HE HF HY hn
    go_wp2_with fail
    refine HL.out.mono ?_
    rintro e w3 ⟨A5, n5, c5, rfl, ho5, hb5⟩
    have hn5 : (lastL ls).length = n5 := ho5.2
    have hmx5 := ho5.rd.max
    have hcp5 := ho5.rd.cap
    have hle : n5 ≤ n := by have := HLL.out; rw [← hn5, ← HNN.out]; exact this
    have HB5 := Lib.hid (HB2.out.trans (hb5.mono HB2.out.size))
    have HN5 := Lib.hid hn5
    clear ho5 hb5 HL hn5
    by_cases h2 : n5 = n
    · have H : Hid (q = false) := HN.out (by show ls.length = (lastL ls).length; rw [HNN.out, HN5.out, h2])
      subst h2
      have hz : ¬ ((n5 : Int) > (n5 : Int)) := by omega
      go_wp2
      go_ret
      exact ⟨ret_bool H.out.symm, HB5.out⟩
    · have H : Hid (q = true) := HY2.out (by show ¬ ls.length = (lastL ls).length; rw [HNN.out, HN5.out]; exact fun k => h2 k.symm)
      have hz : (n : Int) > (n5 : Int) := by omega
      clear h2
      go_wp2
      go_ret
      exact ⟨ret_bool H.out.symm, HB5.out⟩
set_option maxHeartbeats 1000000 in
theorem refDue_any (x : Dv) (many : Int) (w : World) (h : RdD w.heap.size w x) (hsm : Sm x.d) : Calls Tryz.prog 15 #[x.v, .int .i64 many] w (IsB (dueD x.d many) w) := by
  obtain ⟨w1, hw1⟩ : ∃ w1, w1 = w.alloc (.cells x.cs 37) := ⟨_, rfl⟩
  have hb1 : Below w.heap.size w w1 := by rw [hw1]; exact alloc_more _ _
  have HRD := Lib.hid (refReadJ_any x w1 ((h.below hb1).mono hb1.size) hsm)
  have HB1 := Lib.hid hb1
  have HE := Lib.hid (fun k => due_err (d := x.d) (many := many) k)
  have HF := Lib.hid (fun k => due_few (d := x.d) (many := many) k)
  have HY := Lib.hid (fun k1 k2 k3 => due_yes (d := x.d) (many := many) k1 k2 k3)
  have HN := Lib.hid (fun k => due_no (d := x.d) (many := many) k)
  have HM := Lib.hid (read_many x.d)
  have HLL := Lib.hid (last_len (readD x.d).1)
  generalize dueD x.d many = q at HE HF HY HN ⊢
  generalize readD x.d = p at HRD HE HF HY HN HM HLL
  obtain ⟨ls, at', er⟩ := p
  clear h hb1 hsm
  go_enter Tryz.func15, Tryz.ntmps15
  go_wp2_with fail
  rw [← hw1]
  clear hw1
  refine HRD.out.mono ?_
  rintro e w2 ⟨A, n, c, rfl, hl2, hb2⟩
  have hn : ls.length = n := hl2.len
  have hn2 : n ≤ 20000 := by have := HM.out; rw [← hn]; exact this
  have hmx := hl2.max
  have hcp := hl2.cap
  have HB2 := Lib.hid (HB1.out.trans (hb2.mono HB1.out.size))
  by_cases h0 : er = 0
  rotate_left
  · have b0 : (er == 0) = false := by simpa using h0
    have H : Hid (q = false) := HE.out h0
    clear h0 hl2 hb2 HRD HE HF HY HN hn
    go_wp2
    go_ret
    exact ⟨ret_bool H.out.symm, HB2.out⟩
  by_cases h1 : many < (n : Int)
  rotate_left
  · have h1z : ¬ ((n : Int) > many) := h1
    have H : Hid (q = false) := HF.out (by first | (show (ls.length : Int) ≤ many; omega) | (show ¬ many < (ls.length : Int); omega))
    subst h0
    clear hl2 hb2 HRD HE HF HY HN hn
    go_wp2
    go_ret
    exact ⟨ret_bool H.out.symm, HB2.out⟩
  · have HL := Lib.hid (refLast_any A n c ls w2 hl2 (by omega))
    have h1z : (n : Int) > many := h1
    have HY2 := Lib.hid (HY.out h0 (by show many < (ls.length : Int); rw [hn]; exact h1))
    have HNN := Lib.hid hn
    subst h0
    clear hl2 hb2 HRD HE HF HY hn
    go_wp2_with fail
    refine HL.out.mono ?_
    rintro e w3 ⟨A5, n5, c5, rfl, ho5, hb5⟩
    have hn5 : (lastL ls).length = n5 := ho5.2
    have hmx5 := ho5.rd.max
    have hcp5 := ho5.rd.cap
    have hle : n5 ≤ n := by have := HLL.out; rw [← hn5, ← HNN.out]; exact this
    have HB5 := Lib.hid (HB2.out.trans (hb5.mono HB2.out.size))
    have HN5 := Lib.hid hn5
    clear ho5 hb5 HL hn5
    by_cases h2 : n5 = n
    · have H : Hid (q = false) := HN.out (by show ls.length = (lastL ls).length; rw [HNN.out, HN5.out, h2])
      subst h2
      have hz : ((n5 : Int) != (n5 : Int)) = false := by simp
      have hz2 : (n5 != n5) = false := by simp
      go_wp2
      go_ret
      exact ⟨ret_bool H.out.symm, HB5.out⟩
    · have H : Hid (q = true) := HY2.out (by show ¬ ls.length = (lastL ls).length; rw [HNN.out, HN5.out]; exact fun k => h2 k.symm)
      have hz : ((n : Int) != (n5 : Int)) = true := by simp; omega
      have hz2 : (n != n5) = true := by simp; omega
      clear h2
      go_wp2
      go_ret
      exact ⟨ret_bool H.out.symm, HB5.out⟩
end Go.Proofs.YtlefpodonkdbeaaGreat.Lw
