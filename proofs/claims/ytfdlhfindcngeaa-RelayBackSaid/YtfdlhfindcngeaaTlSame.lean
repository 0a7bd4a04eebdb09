/- What the document's Same comes to. For all inputs. -/
import Derived.Test.YtfdlhfindcngeaaTlLeaf
namespace Go.Proofs.Ytfdlhfindcngeaa.Tw
open Go.RowKit Tl By

def sameL (l m : List O) : Bool := decide (l = m)
def sameTo (l m : List O) (k : Nat) : Prop := l.take k = m.take k
theorem same_len {l m : List O} (h : l.length ≠ m.length) : sameL l m = false := decide_eq_false fun e => h (by rw [e])
theorem same_not {l m : List O} {k : Nat} (h1 : k < l.length) (h2 : k < m.length) (h : l[k] ≠ m[k]) : sameL l m = false := decide_eq_false fun e => h (by subst e; rfl)
theorem same_next {l m : List O} {k : Nat} (hs : sameTo l m k) (h1 : k < l.length) (h2 : k < m.length) (h : l[k] = m[k]) : sameTo l m (k + 1) := by
  unfold sameTo
  rw [take_snocO h1, take_snocO h2, hs, h]
theorem same_end {l m : List O} {k : Nat} (hs : sameTo l m k) (h1 : l.length ≤ k) (h2 : m.length ≤ k) : sameL l m = true := by
  unfold sameTo at hs
  rw [List.take_of_length_le h1, List.take_of_length_le h2] at hs
  exact decide_eq_true hs

set_option maxHeartbeats 800000 in
theorem same_any (A : Option Addr) (n c : Nat) (ps : List Po) (B : Option Addr) (m d : Nat) (qs : List Po) (w : World) (h : RdO w A n c ps) (g : RdO w B m d qs) :
    Calls Try.prog 12 #[.slice A n c, .slice B m d] w fun e w' => e = .returned (.bool (sameL (osP ps) (osP qs))) ∧ Below w.heap.size w w' := by
  have hl := Lib.hid h.len
  have hm := h.max
  have hcap := h.cap
  have gl := Lib.hid g.len
  have gm := g.max
  have gcap := g.cap
  by_cases hnm : n = m
  rotate_left
  · have H : Hid (sameL (osP ps) (osP qs) = false) := same_len (by rw [os_len, os_len, hl.out, gl.out]; exact hnm)
    have hb : ((n : Int) != (m : Int)) = true := by simp; omega
    clear hnm
    go_enter Try.func12, Try.ntmps12
    go_wp2
    go_ret
    exact ⟨ret_bool H.out.symm, Below.refl _ _⟩
  subst hnm
  go_enter Try.func12, Try.ntmps12
  go_wp2
  go_loopw [5] (fun i wr => ∃ k : Nat, k ≤ n ∧ i = .int .i64 k ∧ sameTo (osP ps) (osP qs) k ∧ Below w.heap.size w wr) (fun i _ => n - (intOf i).toNat)
  case atStart => exact ⟨0, by omega, rfl, rfl, Below.refl _ _⟩
  case round =>
    obtain ⟨k, hk, rfl, hs, hbw⟩ := hrel
    have HS := Lib.hid hs
    clear hs
    by_cases hlt : k < n
    · obtain ⟨b, o, co, A', u, c', l, rfl, hcell, hcell2, hbs, _, HO, _, _, _⟩ := (h.below hbw).at_ hlt
      obtain ⟨b2, o2, co2, A2, u2, c2, l2, rfl, gcell, gcell2, gbs, _, GO, _, _, _⟩ := (g.below hbw).at_ hlt
      have hi1 : (0 : Int) ≤ (k : Int) := by omega
      have hi2 : (k : Int) < (n : Int) := by omega
      by_cases he : co = co2
      rotate_left
      · have hb : (co != co2) = true := by simpa using he
        have H : Hid (sameL (osP ps) (osP qs) = false) := by
          obtain ⟨h1, h2⟩ := HO.out
          obtain ⟨g1, g2⟩ := GO.out
          exact same_not h1 g1 (by rw [h2, g2]; intro e; injection e with e1 e2; exact he e1)
        clear he
        go_wp2_with fail
        go_quiet (fail)
        go_wp2
        go_ret
        exact ⟨ret_bool H.out.symm, below_drewN hbw _⟩
      subst he
      have hcv1 : ∀ q, (convert 22 9 (.slice A' u c')).run Try.prog (wr.drewN q) = .ok (.string ⟨l.toArray⟩) (wr.drewN q) := fun q => byP.str (w := wr.drewN q) hbs
      have hcv2 : ∀ q, (convert 22 9 (.slice A2 u2 c2)).run Try.prog (wr.drewN q) = .ok (.string ⟨l2.toArray⟩) (wr.drewN q) := fun q => byP.str (w := wr.drewN q) gbs
      have hb0 : (co != co) = false := by simp
      by_cases hd : l = l2
      · have H : Hid (sameTo (osP ps) (osP qs) (k + 1)) := by
          obtain ⟨h1, h2⟩ := HO.out
          obtain ⟨g1, g2⟩ := GO.out
          exact same_next HS.out h1 g1 (by rw [h2, g2, hd])
        subst hd
        go_wp2_with fail
        go_quiet (fail)
        go_wp2
        go_roundw
        case rel => exact ⟨k + 1, by omega, by go_num, H.out, below_drewN hbw _⟩
        case measure => simp [intOf]; omega
      · have H : Hid (sameL (osP ps) (osP qs) = false) := by
          obtain ⟨h1, h2⟩ := HO.out
          obtain ⟨g1, g2⟩ := GO.out
          exact same_not h1 g1 (by rw [h2, g2]; intro e; injection e with e1 e2; exact hd e2)
        have hsn : (l == l2) = false := by simpa using hd
        clear hd
        go_wp2_with fail
        go_quiet (fail)
        go_wp2
        go_ret
        exact ⟨ret_bool H.out.symm, below_drewN hbw _⟩
    · obtain rfl : k = n := by omega
      have H : Hid (sameL (osP ps) (osP qs) = true) := same_end HS.out (by rw [os_len, hl.out]; exact Nat.le_refl _) (by rw [os_len, gl.out]; exact Nat.le_refl _)
      go_wp2
      go_ret
      exact ⟨ret_bool H.out.symm, hbw⟩
end Go.Proofs.Ytfdlhfindcngeaa.Tw
