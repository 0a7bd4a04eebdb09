/- clean.Last: the latest leases, in rising order of their addresses; for nil too. For rows of less than a million leases. -/
import Derived.Test.YtlefpodonkdbeaaGreatLwCmp
import Derived.Test.YtlefpodonkdbeaaGreatLwStb
import Derived.Test.YtlefpodonkdbeaaGreatLwA
set_option maxRecDepth 8000
namespace Go.Proofs.YtlefpodonkdbeaaGreat.Lw
open Go.RowKit Go.Lib Co By Ky Rc Jn Ew Jw La
open Dw (ba ba_size ba_data ba_list)
open Go.Sort (grow)

/-! ### Nil -/
theorem reverse_nil (w : World) : Calls Tryz.prog 46 #[.slice none 0 0] w fun e w' => e = .returned (.tuple #[]) ∧ w' = w := by
  go_enter Tryz.func46, Tryz.ntmps46
  go_wp2
  go_loopw [2, 3] (fun v2 v3 wr => v2 = .int .i64 0 ∧ v3 = .int .i64 (-1) ∧ wr = w) (fun _ _ _ => 0)
  case atStart => exact ⟨rfl, rfl, rfl⟩
  case round =>
    obtain ⟨rfl, rfl, rfl⟩ := hrel
    go_wp2
    go_end0
    exact ⟨rfl, rfl⟩
theorem insertion_nil (w : World) : Calls Tryz.prog 98 #[.slice none 0 0, .int .i64 0, .int .i64 0, .func (.func 25) #[] #[]] w fun e w' => e = .returned (.tuple #[]) ∧ w' = w := by
  go_enter Tryz.func98, Tryz.ntmps98
  go_wp2
  go_loopw [8] (fun v8 wr => v8 = .int .i64 1 ∧ wr = w) (fun _ _ => 0)
  case atStart => exact ⟨rfl, rfl⟩
  case round =>
    obtain ⟨rfl, rfl⟩ := hrel
    go_wp2
    go_end0
    exact ⟨rfl, rfl⟩
theorem stable_nil (w : World) : Calls Tryz.prog 68 #[.slice none 0 0, .int .i64 0, .func (.func 25) #[] #[]] w fun e w' => e = .returned (.tuple #[]) ∧ w' = w := by
  have HC := Lib.hid (insertion_nil w)
  go_enter Tryz.func68, Tryz.ntmps68
  go_wp2
  go_loopw [7, 8] (fun v7 v8 wr => v7 = .int .i64 0 ∧ v8 = .int .i64 20 ∧ wr = w) (fun _ _ _ => 0)
  case atStart => exact ⟨rfl, rfl, rfl⟩
  case round =>
    obtain ⟨rfl, rfl, rfl⟩ := hrel
    go_wp2_with fail
    refine HC.out.mono ?_
    rintro e w1 ⟨rfl, rfl⟩
    go_wp2
    go_loopw [6] (fun v6 w2 => v6 = .int .i64 20 ∧ w2 = w1) (fun _ _ => 0)
    case atStart => exact ⟨rfl, rfl⟩
    case round =>
      obtain ⟨rfl, rfl⟩ := hrel
      go_wp2
      go_end0
      exact ⟨rfl, rfl⟩
theorem sortStable_nil (w : World) : Calls Tryz.prog 47 #[.slice none 0 0, .func (.func 25) #[] #[]] w fun e w' => e = .returned (.tuple #[]) ∧ w' = w := by
  have HC := Lib.hid (stable_nil w)
  go_enter Tryz.func47, Tryz.ntmps47
  go_wp2_with fail
  refine HC.out.mono ?_
  rintro e w1 ⟨rfl, rfl⟩
  go_wp2
  go_end0
  exact ⟨rfl, rfl⟩
theorem compact_nil (F : Value) (w : World) : Calls Tryz.prog 48 #[.slice none 0 0, F] w fun e w' => e = .returned (.slice none 0 0) ∧ w' = w := by
  go_enter Tryz.func48, Tryz.ntmps48
  go_wp2
  go_ret
  exact ⟨rfl, rfl⟩

/-! ### Last -/
theorem own_cases {B n c : Nat} {w : World} {A : Option Addr} {l : List L} (h : OwnLs B w A n c l) : (A = none ∧ n = 0 ∧ c = 0) ∨ ∃ g, A = some ⟨g, 0, none⟩ ∧ B ≤ g := by
  rcases h.1.2 with ⟨h', _⟩ | ⟨g, cap, cur, h', hB, _⟩
  · simp only [Value.slice.injEq] at h'
    exact .inl h'
  · simp only [Value.slice.injEq, true_and] at h'
    exact .inr ⟨g, h'.1, hB⟩
theorem lastOf_any (A : Option Addr) (n c U : Nat) (l : List L) (w : World) (h : RdLs U w A n c l) (hU : U ≤ w.heap.size) (hn : n < 1000000) :
    Calls Tryz.prog 24 #[.slice A n c, .func (.func 25) #[] #[]] w (OwL w.heap.size w (lastL l)) := by
  obtain ⟨w1, hw1⟩ : ∃ w1, w1 = w.alloc (.cells #[.func (.func 25) #[] #[]] 59) := ⟨_, rfl⟩
  have hb1 : Below w.heap.size w w1 := by rw [hw1]; exact (Below.refl _ _).alloc (Nat.le_refl _) _
  have hc1 : Cel w1 w.heap.size 59 #[.func (.func 25) #[] #[]] := by rw [hw1]; exact Cel.born _ _ _
  have HS1 : Hid (w1.heap.size = w.heap.size + 1) := by show _ = _; rw [hw1]; simp
  have HCL := Lib.hid (cloneL_any A n c U l w1 (h.below (hb1.mono hU)) (by have := HS1.out; omega) hn)
  have HB1 := Lib.hid hb1
  have HC1 := Lib.hid (show w1.cell? ⟨w.heap.size, 0, none⟩ = some (.func (.func 25) #[] #[]) from hc1.cell 0)
  have HL := Lib.hid h.len
  clear h hb1 hc1
  go_enter Tryz.func24, Tryz.ntmps24
  go_wp2_with fail
  rw [← hw1]
  clear hw1
  refine HCL.out.mono ?_
  rintro e w2 ⟨A2, n2, c2, rfl, ho2, hb2⟩
  have HLT : Hid (w.heap.size < w1.heap.size) := by show _ < _; have := HS1.out; omega
  have hf2 := (hb2.cell (p := ⟨w.heap.size, 0, none⟩) HLT.out).trans HC1.out
  have HB2 := Lib.hid hb2
  have hl2 := ho2.2
  have hn2 : n2 = n := by rw [← hl2]; exact HL.out
  subst hn2
  rcases own_cases ho2 with ⟨rfl, rfl, rfl⟩ | ⟨g, rfl, hBg⟩
  · obtain rfl : l = [] := List.length_eq_zero_iff.1 hl2
    clear ho2 hl2 hb2 HCL
    have HR := Lib.hid (reverse_nil w2)
    have HT := Lib.hid (sortStable_nil w2)
    have HM := Lib.hid (fun F => compact_nil F w2)
    go_wp2_with fail
    refine HR.out.mono ?_
    rintro e w3 ⟨rfl, rfl⟩
    go_wp2_with fail
    refine HT.out.mono ?_
    rintro e w4 ⟨rfl, rfl⟩
    go_wp2_with fail
    refine (HM.out _).mono ?_
    rintro e w5 ⟨rfl, rfl⟩
    go_wp2
    go_ret
    exact ⟨none, 0, 0, rfl, OwnG.nil _ _ _, HB1.out.trans (HB2.out.mono HB1.out.size)⟩
  · have R2 := own_row ho2 hn
    have HR := Lib.hid (reverse_any R2 c2 l w2 hl2 (Sw.start (own_holds ho2)))
    have HO2 := Lib.hid ho2
    have HBG : Hid (w1.heap.size ≤ g) := hBg
    have HL2 := Lib.hid hl2
    clear ho2 hl2 hb2 HCL R2 hBg HL
    go_wp2_with fail
    refine HR.out.mono ?_
    rintro e w3 ⟨rfl, hs3⟩
    have hl3 : l.reverse.length = n2 := by rw [List.length_reverse]; exact HL2.out
    obtain ⟨ho3, hg3⟩ := own_of_sw HO2.out hs3 hl3
    have hb3 : Below w1.heap.size w2 w3 := (Below.refl _ _).grown hg3 HB2.out.size (fun k hk => by cases hk; exact HBG.out)
    have hf3 := (hb3.cell (p := ⟨w.heap.size, 0, none⟩) HLT.out).trans hf2
    have R3 := own_row ho3 hn
    have HT := Lib.hid (sortStable_any R3 c2 l.reverse w3 hl3 (Sw.start (own_holds ho3)))
    have HO3 := Lib.hid ho3
    have HB3 := Lib.hid (HB2.out.trans hb3)
    have HF3 := Lib.hid hf3
    have HL3 := Lib.hid hl3
    clear hs3 ho3 hg3 hb3 R3 HR HO2 hf2 hl3
    go_wp2_with fail
    refine HT.out.mono ?_
    rintro e w4 ⟨rfl, hs4⟩
    have hl4 : (srt l.reverse).length = n2 := by rw [Sb.srt_len]; exact HL3.out
    obtain ⟨ho4, hg4⟩ := own_of_sw HO3.out hs4 hl4
    have hb4 : Below w1.heap.size w3 w4 := (Below.refl _ _).grown hg4 HB3.out.size (fun k hk => by cases hk; exact HBG.out)
    have hf4 := (hb4.cell (p := ⟨w.heap.size, 0, none⟩) HLT.out).trans HF3.out
    have HB4 := Lib.hid (HB3.out.trans hb4)
    have HM := Lib.hid (compact_any w1.heap.size g n2 c2 w.heap.size (srt l.reverse) w4 HB4.out.size ho4 hn HLT.out hf4)
    have HW : Hid (uqL (srt l.reverse) = lastL l) := last_way l
    clear hs4 ho4 hg4 hb4 hf4 hf3 HT HO3 hl4
    go_wp2_with fail
    refine HM.out.mono ?_
    rintro e w5 ⟨A5, n5, c5, rfl, ho5, hb5⟩
    rw [HW.out] at ho5
    have HO5 := Lib.hid (ho5.mono (B' := w.heap.size) (Nat.le_of_lt HLT.out))
    have HB5 := Lib.hid (HB1.out.trans ((HB4.out.trans hb5).mono HB1.out.size))
    clear ho5 hb5 HM
    go_wp2
    go_ret
    exact ⟨A5, n5, c5, rfl, HO5.out, HB5.out⟩
theorem last_any (A : Option Addr) (n c U : Nat) (l : List L) (w : World) (h : RdLs U w A n c l) (hU : U ≤ w.heap.size) (hn : n < 1000000) :
    Calls Tryz.prog 11 #[.slice A n c] w (OwL w.heap.size w (lastL l)) := by
  have HC := Lib.hid (lastOf_any A n c U l w h hU hn)
  clear h
  go_enter Tryz.func11, Tryz.ntmps11
  go_wp2_with fail
  refine HC.out.mono ?_
  rintro e w1 ⟨A5, n5, c5, rfl, ho5, hb5⟩
  have HO5 := Lib.hid ho5
  have HB5 := Lib.hid hb5
  clear ho5 hb5 HC
  go_wp2
  go_ret
  exact ⟨A5, n5, c5, rfl, HO5.out, HB5.out⟩
end Go.Proofs.YtlefpodonkdbeaaGreat.Lw
