/- The mathematics of layers 16 and 17 (class, dest): what a REQUEST is about and whom it is for, where a reply goes; and what follows (P16.3, P17.2, P17.3). numE and kindE are numL and kindL of layer 5, by rfl. No program. -/
import Derived.Test.YtoobijefjljnjaaMsMath
namespace Go.Proofs.Ytoobijefjljnjaa.Cl
open Tl Co Ms

def numE (l : List O) (c : Int) (k : Nat) : Option Nat := (findL l c).bind fun d => if d.length = k then some (valL d) else none
def kindE (l : List O) : Int := match numE l 53 1 with
  | none => 0
  | some v => if 1 ≤ v ∧ v ≤ 8 then (v : Int) else 0
theorem num_find {l m : List O} {c : Int} (h : findL l c = findL m c) (k : Nat) : numE l c k = numE m c k := by unfold numE; rw [h]
theorem kind_num {l : List O} {v : Nat} (h : numE l 53 1 = some v) (h1 : 1 ≤ v) (h2 : v ≤ 8) : kindE l = (v : Int) := by unfold kindE; rw [h]; simp [h1, h2]
theorem num_told {l : List O} {c : Int} {k : Nat} {d : List UInt8} (h : findL l c = some d) (hd : d.length = k) : numE l c k = some (valL d) := by unfold numE; rw [h]; simp [hd]
theorem num_lt {l : List O} {c : Int} {k v : Nat} (h : numE l c k = some v) : v < p256 k := by
  unfold numE at h
  cases hf : findL l c with
  | none => rw [hf] at h; cases h
  | some d =>
    rw [hf] at h
    simp only [Option.bind_some] at h
    split at h
    · next hd => cases h; exact hd ▸ valL_lt d
    · cases h
/-- The class: 1 selecting, 2 a reboot, 3 an extension, 0 wrong. -/
def classL (m : M) : Int :=
  if kindE m.os ≠ 3 then 0 else if m.ci = 0 ∧ (numE m.os 50 4).isSome = true then (if (numE m.os 54 4).isSome = true then 1 else 2) else
    if m.ci ≠ 0 ∧ (numE m.os 50 4).isSome = false ∧ (numE m.os 54 4).isSome = false then 3 else 0
def aboutL (m : M) : Int := if classL m = 3 then m.ci else if classL m = 0 then 0 else (((numE m.os 50 4).getD 0 : Nat) : Int)
def foreignL (m : M) (srv : Int) : Bool :=
  match numE m.os 54 4 with
  | none => false
  | some a => decide ((a : Int) ≠ srv)
theorem class_cases (m : M) : classL m = 0 ∨ (classL m = 1 ∧ m.ci = 0 ∧ (∃ a, numE m.os 50 4 = some a ∧ aboutL m = (a : Int)) ∧ ∃ s, numE m.os 54 4 = some s) ∨
    (classL m = 2 ∧ m.ci = 0 ∧ (∃ a, numE m.os 50 4 = some a ∧ aboutL m = (a : Int)) ∧ numE m.os 54 4 = none) ∨ (classL m = 3 ∧ m.ci ≠ 0 ∧ aboutL m = m.ci ∧ numE m.os 50 4 = none ∧ numE m.os 54 4 = none) := by
  unfold aboutL classL
  by_cases h0 : kindE m.os = 3
  · simp only [h0, ne_eq, not_true_eq_false, if_false]
    by_cases h1 : m.ci = 0
    · cases h2 : numE m.os 50 4 with
      | none => simp [h1]
      | some a => cases h3 : numE m.os 54 4 <;> simp [h1]
    · cases h2 : numE m.os 50 4 with
      | none => cases h3 : numE m.os 54 4 <;> simp [h1]
      | some a => simp [h1]
  · simp [h0]
theorem class_kind {m : M} (h : classL m ≠ 0) : kindE m.os = 3 := by
  unfold classL at h
  by_cases h0 : kindE m.os = 3
  · exact h0
  · rw [if_pos h0] at h; exact absurd rfl h
theorem class_one {m : M} (hk : kindE m.os = 3) (hc : m.ci = 0) {a s : Nat} (ha : numE m.os 50 4 = some a) (hs : numE m.os 54 4 = some s) : classL m = 1 ∧ aboutL m = (a : Int) := by
  unfold aboutL classL
  simp [hk, hc, ha, hs]
theorem class_two {m : M} (hk : kindE m.os = 3) (hc : m.ci = 0) {a : Nat} (ha : numE m.os 50 4 = some a) (hs : numE m.os 54 4 = none) : classL m = 2 ∧ aboutL m = (a : Int) := by
  unfold aboutL classL
  simp [hk, hc, ha, hs]
theorem class_wrong {m : M} (h : classL m = 0) : aboutL m = 0 := by unfold aboutL; rw [h]; rfl
/-- P16.3: what is selecting says whom it selects. -/
theorem sel_says {m : M} (h : classL m = 1) : ∃ s a, numE m.os 54 4 = some s ∧ numE m.os 50 4 = some a ∧ aboutL m = (a : Int) ∧ foreignL m s = false := by
  rcases class_cases m with h0 | ⟨_, _, ⟨a, ha, e⟩, ⟨s, hs⟩⟩ | ⟨h0, _⟩ | ⟨h0, _⟩
  · omega
  · exact ⟨s, a, hs, ha, e, by unfold foreignL; rw [hs]; simp⟩
  · omega
  · omega
/-- P16.3: what is foreign is neither a reboot nor an extension. -/
theorem foreign_says {m : M} {srv : Int} (h : foreignL m srv = true) : classL m ≠ 2 ∧ classL m ≠ 3 := by
  unfold foreignL at h
  rcases class_cases m with h0 | ⟨h0, _⟩ | ⟨_, _, _, hs⟩ | ⟨_, _, _, _, hs⟩
  · omega
  · omega
  · rw [hs] at h; cases h
  · rw [hs] at h; cases h
/-- Where a reply goes: the address, the port, to the hardware address. -/
def destL (m : M) (kind yi : Int) : Int × Int × Bool :=
  if m.gi ≠ 0 then (m.gi, 67, false) else if kind = 6 then (4294967295, 68, false) else if m.ci ≠ 0 then (m.ci, 68, false) else
    if 32768 ≤ m.flags ∧ m.flags ≤ 65535 then (4294967295, 68, false) else (yi, 68, true)
theorem dest_relay {m : M} (h : m.gi ≠ 0) (kind yi : Int) : destL m kind yi = (m.gi, 67, false) := if_pos h
theorem dest_raw (m : M) (kind yi : Int) : (destL m kind yi).2.2 = true ↔ m.gi = 0 ∧ kind ≠ 6 ∧ m.ci = 0 ∧ ¬ (32768 ≤ m.flags ∧ m.flags ≤ 65535) := by
  unfold destL
  by_cases h1 : m.gi = 0
  · by_cases h2 : kind = 6
    · simp [h1, h2]
    · by_cases h3 : m.ci = 0
      · by_cases h4 : 32768 ≤ m.flags ∧ m.flags ≤ 65535
        · rw [if_neg (by omega), if_neg h2, if_neg (by omega), if_pos h4]
          exact ⟨fun h => (by cases h), fun h => absurd h4 h.2.2.2⟩
        · rw [if_neg (by omega), if_neg h2, if_neg (by omega), if_neg h4]
          exact ⟨fun _ => ⟨h1, h2, h3, h4⟩, fun _ => rfl⟩
      · simp [h1, h2, h3]
  · simp [h1]
theorem raw_to {m : M} {kind yi : Int} (h : (destL m kind yi).2.2 = true) : destL m kind yi = (yi, 68, true) := by
  obtain ⟨h1, h2, h3, h4⟩ := (dest_raw m kind yi).1 h
  unfold destL
  rw [if_neg (by omega), if_neg h2, if_neg (by omega), if_neg h4]
end Go.Proofs.Ytoobijefjljnjaa.Cl
