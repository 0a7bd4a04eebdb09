/- What the calls that only read options come to: Great, Has, the document's Right and Find, Same. For all inputs. -/
import Derived.Test.YtoobijefjljnjaaOpKit
import Derived.Test.YtoobijefjljnjaaBase
import Derived.WalkSpells
import Derived.WalkLawsBesides
import Derived.IntWalk
import Derived.Laws.BitsAllLaws
import Derived.Deep.QuietTactic
import Derived.BigQuiet
namespace Go.Proofs.Ytoobijefjljnjaa.Tw
open Go.RowKit Tl By

theorem opP : OpP Try.prog 23 39 := ⟨Try.underlying23, by kernel_rfl⟩

def greatL (l : List O) : Bool := l.any (fun o => decide (1000 < o.2.length)) || decide (100 < l.length)
def smallTo (l : List O) (k : Nat) : Prop := ∀ o ∈ l.take k, o.2.length ≤ 1000
theorem great_hit {l : List O} {k : Nat} (h : k < l.length) (h2 : 1000 < (l[k]).2.length) : greatL l = true := by
  unfold greatL
  rw [Bool.or_eq_true, List.any_eq_true]
  exact .inl ⟨l[k], List.getElem_mem h, decide_eq_true h2⟩
theorem small_next {l : List O} {k : Nat} (h : k < l.length) (hs : smallTo l k) (h2 : (l[k]).2.length ≤ 1000) : smallTo l (k + 1) := by
  intro o ho
  rw [take_snocO h] at ho
  rcases List.mem_append.1 ho with ho | ho
  · exact hs o ho
  · simp at ho; subst ho; exact h2
theorem great_end {l : List O} {k : Nat} (h : l.length ≤ k) (hs : smallTo l k) : greatL l = decide (100 < l.length) := by
  unfold greatL
  have : l.any (fun o => decide (1000 < o.2.length)) = false := by
    rw [List.any_eq_false]
    intro o ho
    have := hs o (by rw [List.take_of_length_le h]; exact ho)
    simp
    omega
  rw [this, Bool.false_or]

set_option maxHeartbeats 400000 in
theorem great_any (A : Option Addr) (n c : Nat) (ps : List Po) (w : World) (h : RdO w A n c ps) :
    Calls Try.prog 11 #[.slice A n c] w fun e w' => e = .returned (.bool (greatL (osP ps))) ∧ w = w' := by
  have hl := Lib.hid h.len
  have hm := h.max
  have hcap := h.cap
  go_enter Try.func11, Try.ntmps11
  go_wp2
  go_loop [3] (fun i => ∃ k : Nat, k ≤ n ∧ i = .int .i64 k ∧ smallTo (osP ps) k) (fun i => n - (intOf i).toNat)
  case atStart => exact ⟨0, by omega, rfl, fun o ho => by simp at ho⟩
  case round =>
    obtain ⟨k, hk, rfl, hs⟩ := hrel
    have HS := Lib.hid hs
    clear hs
    by_cases hlt : k < n
    · obtain ⟨b, o, rfl, hc⟩ := h.cell hlt
      have hkl : k < ps.length := by have := hl.out; omega
      have hcell := (hc k hkl).2
      unfold Po.dv at hcell
      have hkO : k < (osP ps).length := by rw [os_len]; exact hkl
      have H1 : Hid (∀ m, m = (ps[k]).l.length → 1000 < m → greatL (osP ps) = true) := fun m e hm => great_hit hkO (by rw [os_get hkl]; rw [e] at hm; exact hm)
      have H2 : Hid (∀ m, m = (ps[k]).l.length → m ≤ 1000 → smallTo (osP ps) (k + 1)) := fun m e hm => small_next hkO HS.out (by rw [os_get hkl]; rw [e] at hm; exact hm)
      obtain ⟨m, hm0⟩ : ∃ m, m = (ps[k]).l.length := ⟨_, rfl⟩
      have HM := Lib.hid hm0
      rw [← hm0] at hcell
      clear hc hkO
      generalize (ps[k]).A = A' at hcell
      generalize (ps[k]).c = c' at hcell
      clear hm0
      by_cases hd : 1000 < m
      · go_wp2
        go_ret
        exact ⟨ret_bool (H1.out m HM.out hd).symm, rfl⟩
      · go_wp2
        go_round
        case rel => exact ⟨k + 1, by omega, by go_num, H2.out m HM.out (by omega)⟩
        case measure => simp [intOf]; omega
    · obtain rfl : k = n := by omega
      have H : Hid (greatL (osP ps) = decide (100 < k)) := by
        have := great_end (l := osP ps) (by rw [os_len, hl.out]; exact Nat.le_refl _) HS.out
        rw [os_len, hl.out] at this
        exact this
      go_wp2
      go_ret
      exact ⟨ret_bool (by rw [H.out]; simp; omega), rfl⟩

def rightTo (l : List O) (k : Nat) : Prop := ∀ i (h : i < l.length), i < k → (1 ≤ (l[i]).1 ∧ (l[i]).1 ≤ 254 ∧ (l[i]).2.length ≤ 600) ∧ hasL l (l[i]).1 ≤ 1
/-- What Find answers. -/
def FoundR (w : World) (r : Option (List UInt8)) (e : Ending) (w' : World) : Prop := ∃ A m c, e = .returned (.tuple #[.slice A m c, .bool r.isSome]) ∧ Bs w A m c (r.getD []) ∧ w = w'
end Go.Proofs.Ytoobijefjljnjaa.Tw
