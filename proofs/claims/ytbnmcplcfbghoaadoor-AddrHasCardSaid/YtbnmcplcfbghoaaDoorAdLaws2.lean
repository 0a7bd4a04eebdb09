/- The other statements on addresses, walked: each answers true, and nothing that was there is changed. -/
import Derived.Test.YtbnmcplcfbghoaaDoorAdKnows
namespace Go.Proofs.YtbnmcplcfbghoaaDoor
open Go.RowKit Ad

theorem has_fair {b k a : Int} (h : fairB b k = true) : hasB b k a = (decide (b ≤ a) && decide (a ≤ b + sz k - 1)) := by
  obtain ⟨_, ⟨b0, _⟩, _⟩ := fairB_iff.1 h
  have := last_le h
  rw [Bool.eq_iff_iff, hasB_iff, Bool.and_eq_true, decide_eq_true_eq, decide_eq_true_eq]
  exact ⟨fun ⟨_, _, h1, h2⟩ => ⟨h1, by omega⟩, fun ⟨h1, h2⟩ => ⟨h, ⟨by omega, by omega⟩, h1, by omega⟩⟩

set_option maxHeartbeats 1000000 in
theorem addrHas_walk (b k a : Int) (w : World) (hw : Env w) :
    Calls Tryd.prog 7 #[.int .i64 b, .int .i64 k, .int .i64 a] w fun e w' => e = .returned (.bool true) ∧ Below w.heap.size w w' := by
  cases hf : fairB b k
  · have hh : hasB b k a = false := by simp [hasB, hf]
    go_enter Tryd.func7, Tryd.ntmps7
    go_wp2_with (first
      | (go_at_call 22; refine (has_any _ _ _ _).mono ?_; rintro e w' ⟨rfl, rfl⟩)
      | (go_at_call 19; refine (last_no _ _ _ hf).mono ?_; rintro e w' ⟨rfl, rfl⟩)
      | (go_at_call 23; refine (refHas_any _ _ _ _).mono ?_; rintro e w' ⟨rfl, rfl⟩)
      | (go_at_call 12; refine (knows_any _ hw).mono ?_; rintro e w1 ⟨rfl, hb1⟩))
    go_ret
    exact ⟨rfl, hb1⟩
  · have hh := has_fair (a := a) hf
    cases t1 : decide (b ≤ a)
    · rw [t1, Bool.false_and] at hh
      go_enter Tryd.func7, Tryd.ntmps7
      go_wp2_with (first
        | (go_at_call 22; refine (has_any _ _ _ _).mono ?_; rintro e w' ⟨rfl, rfl⟩)
        | (go_at_call 19; refine (last_yes _ _ _ hf).mono ?_; rintro e w' ⟨rfl, rfl⟩)
        | (go_at_call 23; refine (refHas_any _ _ _ _).mono ?_; rintro e w' ⟨rfl, rfl⟩)
        | (go_at_call 12; refine (knows_any _ hw).mono ?_; rintro e w1 ⟨rfl, hb1⟩))
      go_ret
      exact ⟨rfl, hb1⟩
    · cases t2 : decide (a ≤ b + sz k - 1)
      all_goals
        rw [t1, t2] at hh
        simp only [Bool.true_and] at hh
        go_enter Tryd.func7, Tryd.ntmps7
        go_wp2_with (first
          | (go_at_call 22; refine (has_any _ _ _ _).mono ?_; rintro e w' ⟨rfl, rfl⟩)
          | (go_at_call 19; refine (last_yes _ _ _ hf).mono ?_; rintro e w' ⟨rfl, rfl⟩)
          | (go_at_call 23; refine (refHas_any _ _ _ _).mono ?_; rintro e w' ⟨rfl, rfl⟩)
          | (go_at_call 12; refine (knows_any _ hw).mono ?_; rintro e w1 ⟨rfl, hb1⟩))
        go_ret
        exact ⟨rfl, hb1⟩

theorem meet_comm (b k c l : Int) : meetB c l b k = meetB b k c l := by
  rw [Bool.eq_iff_iff, meetB_iff, meetB_iff]
  exact ⟨fun ⟨h1, h2, h3, h4⟩ => ⟨h2, h1, h4, h3⟩, fun ⟨h1, h2, h3, h4⟩ => ⟨h2, h1, h4, h3⟩⟩

theorem meet_has {b k c l : Int} (h : meetB b k c l = true) (hkl : k ≤ l) : hasB b k c = true ∧ hasB b k (c + sz l - 1) = true := by
  obtain ⟨hb, hc, h1, h2⟩ := meetB_iff.1 h
  obtain ⟨_, ⟨_, _⟩, _⟩ := fairB_iff.1 hb
  obtain ⟨_, ⟨_, _⟩, _⟩ := fairB_iff.1 hc
  have n := nested hb hc hkl h1 h2
  have p := sz_pos (k := l)
  have q := last_le hc
  exact ⟨hasB_iff.2 ⟨hb, ⟨by omega, by omega⟩, by omega, by omega⟩, hasB_iff.2 ⟨hb, ⟨by omega, by omega⟩, by omega, by omega⟩⟩

set_option maxHeartbeats 1000000 in
theorem addrMeet_walk (b k c l : Int) (w : World) (hw : Env w) :
    Calls Tryd.prog 8 #[.int .i64 b, .int .i64 k, .int .i64 c, .int .i64 l] w fun e w' => e = .returned (.bool true) ∧ Below w.heap.size w w' := by
  have hcm := meet_comm b k c l
  cases hm : meetB b k c l
  · rw [hm] at hcm
    go_enter Tryd.func8, Tryd.ntmps8
    go_wp2_with (first
      | (go_at_call 24; refine (meet_any _ _ _ _ _).mono ?_; rintro e w' ⟨rfl, rfl⟩)
      | (go_at_call 25; refine (refMeet_any _ _ _ _ _).mono ?_; rintro e w' ⟨rfl, rfl⟩)
      | (go_at_call 12; refine (knows_any _ hw).mono ?_; rintro e w1 ⟨rfl, hb1⟩))
    go_ret
    exact ⟨rfl, hb1⟩
  · rw [hm] at hcm
    have hf := (meetB_iff.1 hm).1
    have hg := (meetB_iff.1 hm).2.1
    by_cases hkl : k ≤ l
    · obtain ⟨x1, x2⟩ := meet_has hm hkl
      go_enter Tryd.func8, Tryd.ntmps8
      go_wp2_with (first
        | (go_at_call 24; refine (meet_any _ _ _ _ _).mono ?_; rintro e w' ⟨rfl, rfl⟩)
        | (go_at_call 25; refine (refMeet_any _ _ _ _ _).mono ?_; rintro e w' ⟨rfl, rfl⟩)
        | (go_at_call 19; refine (last_yes _ _ _ (by assumption)).mono ?_; rintro e w' ⟨rfl, rfl⟩)
        | (go_at_call 22; refine (has_any _ _ _ _).mono ?_; rintro e w' ⟨rfl, rfl⟩)
        | (go_at_call 12; refine (knows_any _ hw).mono ?_; rintro e w1 ⟨rfl, hb1⟩))
      go_ret
      exact ⟨rfl, hb1⟩
    · obtain ⟨x1, x2⟩ := meet_has hcm (by omega)
      go_enter Tryd.func8, Tryd.ntmps8
      go_wp2_with (first
        | (go_at_call 24; refine (meet_any _ _ _ _ _).mono ?_; rintro e w' ⟨rfl, rfl⟩)
        | (go_at_call 25; refine (refMeet_any _ _ _ _ _).mono ?_; rintro e w' ⟨rfl, rfl⟩)
        | (go_at_call 19; refine (last_yes _ _ _ (by assumption)).mono ?_; rintro e w' ⟨rfl, rfl⟩)
        | (go_at_call 22; refine (has_any _ _ _ _).mono ?_; rintro e w' ⟨rfl, rfl⟩)
        | (go_at_call 12; refine (knows_any _ hw).mono ?_; rintro e w1 ⟨rfl, hb1⟩))
      go_ret
      exact ⟨rfl, hb1⟩

end Go.Proofs.YtbnmcplcfbghoaaDoor
