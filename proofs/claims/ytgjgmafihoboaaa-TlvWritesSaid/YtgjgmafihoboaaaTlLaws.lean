/- The walks of TlvRights, TlvWrites, TlvReads and TlvJoins: each returns true, and what was in memory stays. For all inputs. -/
import Derived.Test.YtgjgmafihoboaaaTlKnows
import Derived.Test.YtgjgmafihoboaaaTlSame
import Derived.Test.YtgjgmafihoboaaaTlRef1
import Derived.Test.YtgjgmafihoboaaaTlRef4
namespace Go.Proofs.Ytgjgmafihoboaaa
open Go.RowKit Tl By

def isTrue (w : World) (e : Ending) (w' : World) : Prop := e = .returned (.bool true) ∧ Below w.heap.size w w'
theorem not_great {ps : List Po} (h : greatL (osP ps) = false) : ps.length ≤ 100 ∧ ∀ p ∈ ps, p.l.length ≤ 1000 := by
  unfold greatL at h
  rw [Bool.or_eq_false_iff, List.any_eq_false] at h
  refine ⟨?_, fun p hp => ?_⟩
  · have := h.2
    rw [decide_eq_false_iff_not, os_len] at this
    omega
  · have := h.1 p.o (os_mem hp)
    simp only [decide_eq_true_eq] at this
    have h2 : p.o.2.length = p.l.length := rfl
    omega
theorem same_self {l m : List O} (h : l = m) : sameL l m = true := decide_eq_true h

set_option maxHeartbeats 1600000 in
theorem tlvRights_walk (A : Option Addr) (n c : Nat) (ps : List Po) (code : Int) (w : World) (h : RdO w A n c ps) (_ : (Lit.int .i64 code).wf = true) :
    Calls Try.prog 3 #[.slice A n c, .int .i64 code] w (isTrue w) := by
  by_cases hg : greatL (osP ps) = true
  · have HG := Lib.hid hg
    clear hg
    go_enter Try.func3, Try.ntmps3
    go_wp2_with fail
    refine (great_any A n c ps _ h).mono ?_
    rw [HG.out]
    rintro e w' ⟨rfl, rfl⟩
    go_wp2_with fail
    refine (knows_yes _).mono ?_
    rintro e w1 ⟨rfl, hb1⟩
    go_wp2
    go_ret
    exact ⟨rfl, hb1⟩
  · have hg' : greatL (osP ps) = false := by simpa using hg
    have HG := Lib.hid hg'
    have HS := Lib.hid (not_great hg').2
    clear hg hg'
    go_enter Try.func3, Try.ntmps3
    go_wp2_with fail
    refine (great_any A n c ps _ h).mono ?_
    rw [HG.out]
    rintro e w' ⟨rfl, rfl⟩
    go_wp2_with fail
    refine (find_any A n c ps code _ h HS.out).mono ?_
    rintro e w1 ⟨A1, m1, c1, rfl, hbs1, hb1⟩
    go_wp2_with fail
    refine (refFind_any A n c ps code _ (h.below hb1)).mono ?_
    rintro e w' ⟨A2, m2, c2, rfl, hbs2, rfl⟩
    go_wp2_with fail
    refine (right_any A n c ps _ (h.below hb1)).mono ?_
    rintro e w2 ⟨rfl, hb2⟩
    have hb02 := hb1.trans (hb2.mono hb1.size)
    go_wp2_with fail
    refine (refRight_any A n c ps _ (h.below hb02)).mono ?_
    rintro e w' ⟨rfl, rfl⟩
    have hcv1 := byP.str (hbs1.below hb2)
    have hcv2 := byP.str (hbs2.below hb2)
    clear hbs1 hbs2
    generalize (findL (osP ps) code).getD [] = x at hcv1 hcv2
    generalize (findL (osP ps) code).isSome = s
    generalize rightL (osP ps) = r
    go_wp2_with fail
    refine (knows_yes _).mono ?_
    rintro e w3 ⟨rfl, hb3⟩
    go_wp2
    go_ret
    exact ⟨rfl, hb02.trans (hb3.mono hb02.size)⟩

set_option maxHeartbeats 4000000 in
theorem tlvWrites_walk (A : Option Addr) (n c : Nat) (ps : List Po) (w : World) (h : RdO w A n c ps) :
    Calls Try.prog 4 #[.slice A n c] w (isTrue w) := by
  by_cases hg : greatL (osP ps) = true
  · have HG := Lib.hid hg
    clear hg
    go_enter Try.func4, Try.ntmps4
    go_wp2_with fail
    refine (great_any A n c ps _ h).mono ?_
    rw [HG.out]
    rintro e w' ⟨rfl, rfl⟩
    go_wp2_with fail
    refine (knows_yes _).mono ?_
    rintro e w1 ⟨rfl, hb1⟩
    go_wp2
    go_ret
    exact ⟨rfl, hb1⟩
  have hg' : greatL (osP ps) = false := by simpa using hg
  have HG := Lib.hid hg'
  clear hg hg'
  by_cases hr : rightL (osP ps) = true
  · have HR := Lib.hid hr
    clear hr
    go_enter Try.func4, Try.ntmps4
    go_wp2_with fail
    refine (great_any A n c ps _ h).mono ?_
    rw [HG.out]
    rintro e w' ⟨rfl, rfl⟩
    go_wp2_with fail
    refine (write_yes A n c ps _ h HR.out).mono ?_
    rintro e w1 ⟨A1, m1, c1, rfl, hown1, hb1⟩
    go_wp2_with fail
    refine (refRight_any A n c ps _ (h.below hb1)).mono ?_
    rw [HR.out]
    rintro e w' ⟨rfl, rfl⟩
    have hs1 := h.below hb1
    have hcv : (convert 25 9 (.slice A1 m1 c1)).run Try.prog w1.drew = .ok (.string ⟨(writeL (osP ps)).toArray⟩) w1.drew := byP.str hown1.bs.drew
    have HCV := Lib.hid (fun W (hW : Below w1.drew.heap.size w1.drew W) => byP.str (hown1.bs.drew.below hW))
    have HCW := Lib.hid (refWrite_any A n c ps w1.drew hs1.drew HR.out)
    clear hown1 hs1
    go_wp2_with fail
    go_region_with (first
      | ((go_at_call 17; refine HCW.out.mono ?_; rintro e w4 ⟨A4, m4, c4, rfl, hown4, hb4⟩; have hcv4 := byP.str hown4.bs; have hcv5 := HCV.out _ hb4))
      | ((go_at_call 11; refine (knows_yes _).mono ?_; rintro e w5 ⟨rfl, hb5⟩)))
    all_goals have hb04 : Below w.heap.size w w4 := hb1.trans ((below_undrew hb4).mono hb1.size)
    all_goals go_wp2
    all_goals go_ret
    all_goals exact ⟨rfl, hb04.trans (hb5.mono hb04.size)⟩
  · have hr' : rightL (osP ps) = false := by simpa using hr
    have HR := Lib.hid hr'
    clear hr hr'
    go_enter Try.func4, Try.ntmps4
    go_wp2_with fail
    refine (great_any A n c ps _ h).mono ?_
    rw [HG.out]
    rintro e w' ⟨rfl, rfl⟩
    go_wp2_with fail
    refine (write_no A n c ps _ h HR.out).mono ?_
    rintro e w1 ⟨rfl, hb1⟩
    go_wp2_with fail
    refine (refRight_any A n c ps _ (h.below hb1)).mono ?_
    rw [HR.out]
    rintro e w' ⟨rfl, rfl⟩
    go_wp2_with fail
    refine (knows_yes _).mono ?_
    rintro e w2 ⟨rfl, hb2⟩
    go_wp2
    go_ret
    exact ⟨rfl, hb1.trans (hb2.mono hb1.size)⟩

set_option maxHeartbeats 1600000 in
theorem tlvReads_walk (A : Option Addr) (n c : Nat) (l : List UInt8) (w : World) (h : Bs w A n c l) :
    Calls Try.prog 5 #[.slice A n c] w (isTrue w) := by
  have hm := h.max
  have hcap := h.cap
  by_cases hg : 5000 < n
  · go_enter Try.func5, Try.ntmps5
    go_wp2_with fail
    refine (knows_yes _).mono ?_
    rintro e w1 ⟨rfl, hb1⟩
    go_wp2
    go_ret
    exact ⟨rfl, hb1⟩
  · go_enter Try.func5, Try.ntmps5
    go_wp2_with (first | fail | (at_builtin; refine wpList_app byP rfl (.tmp 12) (.tmp 13) rfl rfl (Own.lit0 5 w) rfl (h.alloc _) (by omega) (by simp) ?_; intro A' c' w2 hown2 hb2 _ _; simp only [Nat.zero_add, List.nil_append] at hown2))
    have hb02 : Below w.heap.size w w2 := ((Below.refl _ _).alloc (Nat.le_refl _) _).trans hb2
    refine (read_any _ _ _ l _ hown2.bs).mono ?_
    rintro e w3 ⟨A3, n3, c3, ps3, rfl, hps3, hown3, hb3⟩
    have hb03 : Below w.heap.size w w3 := hb02.trans (hb3.mono hb02.size)
    have hrd3 := hown3.rd
    clear hown3 hown2
    go_wp2_with fail
    refine (refRead_any A n c l _ (h.below hb03) (by omega)).mono ?_
    rintro e w4 ⟨A4, n4, c4, ps4, rfl, hps4, hrd4, hb4⟩
    have hb04 : Below w.heap.size w w4 := hb03.trans (hb4.mono hb03.size)
    have HQ := Lib.hid (same_self (hps3.trans hps4.symm))
    clear hps3 hps4
    generalize (readL [] l).2 = x
    go_wp2_with fail
    refine (same_any _ _ _ _ _ _ _ _ _ (hrd3.below hb4) hrd4).mono ?_
    rw [HQ.out]
    rintro e w5 ⟨rfl, hb5⟩
    have hb05 : Below w.heap.size w w5 := hb04.trans (hb5.mono hb04.size)
    go_wp2_with fail
    refine (knows_yes _).mono ?_
    rintro e w6 ⟨rfl, hb6⟩
    go_wp2
    go_ret
    exact ⟨rfl, hb05.trans (hb6.mono hb05.size)⟩

set_option maxHeartbeats 1600000 in
theorem tlvJoins_walk (A : Option Addr) (n c : Nat) (ps : List Po) (B : Option Addr) (m d : Nat) (qs : List Po) (w : World) (h : RdO w A n c ps) (g : RdO w B m d qs) :
    Calls Try.prog 6 #[.slice A n c, .slice B m d] w (isTrue w) := by
  by_cases hg : greatL (osP ps) = true
  · have HG := Lib.hid hg
    clear hg
    go_enter Try.func6, Try.ntmps6
    go_wp2_with fail
    refine (great_any A n c ps _ h).mono ?_
    rw [HG.out]
    rintro e w' ⟨rfl, rfl⟩
    go_wp2_with fail
    refine (knows_yes _).mono ?_
    rintro e w1 ⟨rfl, hb1⟩
    go_wp2
    go_ret
    exact ⟨rfl, hb1⟩
  have hg' : greatL (osP ps) = false := by simpa using hg
  have HG := Lib.hid hg'
  clear hg hg'
  by_cases hg2 : greatL (osP qs) = true
  · have HG2 := Lib.hid hg2
    clear hg2
    go_enter Try.func6, Try.ntmps6
    go_wp2_with fail
    refine (great_any A n c ps _ h).mono ?_
    rw [HG.out]
    rintro e w' ⟨rfl, rfl⟩
    go_wp2_with fail
    refine (great_any B m d qs _ g).mono ?_
    rw [HG2.out]
    rintro e w' ⟨rfl, rfl⟩
    go_wp2_with fail
    refine (knows_yes _).mono ?_
    rintro e w1 ⟨rfl, hb1⟩
    go_wp2
    go_ret
    exact ⟨rfl, hb1⟩
  have hg2' : greatL (osP qs) = false := by simpa using hg2
  have HG2 := Lib.hid hg2'
  clear hg2 hg2'
  go_enter Try.func6, Try.ntmps6
  go_wp2_with fail
  refine (great_any A n c ps _ h).mono ?_
  rw [HG.out]
  rintro e w' ⟨rfl, rfl⟩
  go_wp2_with fail
  refine (great_any B m d qs _ g).mono ?_
  rw [HG2.out]
  rintro e w' ⟨rfl, rfl⟩
  go_wp2_with fail
  refine (join_any A n c ps B m d qs _ h g).mono ?_
  rintro e w3 ⟨A3, n3, c3, ps3, rfl, hps3, hown3, hb3⟩
  have hrd3 := hown3.rd
  clear hown3
  go_wp2_with fail
  refine (refJoin_any A n c ps B m d qs _ (h.below hb3) (g.below hb3)).mono ?_
  rintro e w4 ⟨A4, n4, c4, ps4, rfl, hps4, hrd4, hb4⟩
  have hb04 : Below w.heap.size w w4 := hb3.trans (hb4.mono hb3.size)
  have HQ := Lib.hid (same_self (hps3.trans hps4.symm))
  clear hps3 hps4
  generalize (joinL (osP ps) (osP qs)).2 = x
  go_wp2_with fail
  refine (same_any _ _ _ _ _ _ _ _ _ (hrd3.below hb4) hrd4).mono ?_
  rw [HQ.out]
  rintro e w5 ⟨rfl, hb5⟩
  have hb05 : Below w.heap.size w w5 := hb04.trans (hb5.mono hb04.size)
  go_wp2_with fail
  refine (knows_yes _).mono ?_
  rintro e w6 ⟨rfl, hb6⟩
  go_wp2
  go_ret
  exact ⟨rfl, hb05.trans (hb6.mono hb05.size)⟩
end Go.Proofs.Ytgjgmafihoboaaa
