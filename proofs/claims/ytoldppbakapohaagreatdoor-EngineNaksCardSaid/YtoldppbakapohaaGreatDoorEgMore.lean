/- More of the mathematics of layer 19: what stands where a message is processed. No program but a subnet's place (subB). -/
import Derived.Test.YtoldppbakapohaaGreatDoorMathA
import Derived.Test.YtoldppbakapohaaGreatDoorRpA
import Derived.Test.YtoldppbakapohaaGreatDoorKitA
namespace Go.Proofs.YtoldppbakapohaaGreatDoor.Eg
open Ad Ky Rc La Tb Cf Ms Tl Co Rp Pk Al Cl
open Dw (ba)

theorem wire_there {c : Cf} {i : Int} (h : (wireC c i).2.2 = true) : ∃ (k j : Nat) (l : List Sn) (x : Sn), (wireC c i).1 = (k : Int) ∧ (wireC c i).2.1 = (j : Int) ∧ c.nets[k]? = some l ∧ l[j]? = some x := by
  unfold wireC at h ⊢
  split
  · next hc =>
    rw [if_pos hc] at h
    cases hf : findN (fun s => decide (s.iface = i)) 0 c.nets with
    | none => rw [hf] at h; cases h
    | some y =>
      obtain ⟨x, _, _, l, h3, h4⟩ := find_some hf
      exact ⟨y.1, y.2, l, x, rfl, rfl, h3, h4⟩
  · next hc => rw [if_neg hc] at h; cases h
theorem rightK_len {k : List UInt8} (h : rightK k = true) : k.length ≤ 256 := by
  cases k with
  | nil => cases h
  | cons x t =>
    simp only [rightK, Bool.or_eq_true, Bool.and_eq_true, decide_eq_true_eq] at h
    rw [List.length_cons]
    omega
theorem subnet_there {c : Cf} {m : M} {iface : Int} (hc : checkC c = 0) (h : (subnetM c m iface).2.2 = true) : Rpw.subB c (subnetM c m iface).1 (subnetM c m iface).2.1 = true := by
  have hex : ∃ (i k : Nat) (l : List Sn) (x : Sn), (subnetM c m iface).1 = (i : Int) ∧ (subnetM c m iface).2.1 = (k : Int) ∧ c.nets[i]? = some l ∧ l[k]? = some x := by
    revert h
    unfold subnetM
    split
    · split
      · intro h
        obtain ⟨i, k, l, x, e1, e2, h1, h2, _⟩ := find_there (c := c) (a := (placeM m).1) (n := (findC c (placeM m).1).1) (s := (findC c (placeM m).1).2.1) (by rw [← h])
        exact ⟨i, k, l, x, e1, e2, h1, h2⟩
      · intro h
        exact wire_there h
    · intro h; cases h
  obtain ⟨i, k, l, x, e1, e2, h1, h2⟩ := hex
  obtain ⟨hi, _⟩ := List.getElem?_eq_some_iff.1 h1
  obtain ⟨hk, _⟩ := List.getElem?_eq_some_iff.1 h2
  refine Rpw.subB_iff.2 ⟨hc, ?_, ?_⟩
  · rw [e1]; omega
  · rw [e1, e2, Int.toNat_natCast, List.getD_eq_getElem?_getD, h1]
    show 0 ≤ (k : Int) ∧ (k : Int) < (l.length : Int)
    omega
theorem kind_range (l : List O) : 0 ≤ kindE l ∧ kindE l ≤ 8 := by
  unfold kindE
  split
  · omega
  · split <;> omega
theorem key_len {k : List UInt8} (h : rightK k = true) : k.length ≤ 9223372036854775807 := by
  have := rightK_len h
  omega
theorem prob_range {c : Cf} (h : checkC c = 0) : 0 ≤ c.prob ∧ c.prob ≤ 4294967295 := by
  have := (check_ok.1 h).1
  simp only [formC, Bool.and_eq_true, decide_eq_true_eq] at this
  omega
theorem key_ba {p : ByteArray} {l : List UInt8} (h : p.data.toList = l) : p = ba l := by
  subst h
  obtain ⟨⟨d⟩⟩ := p
  rfl
end Go.Proofs.YtoldppbakapohaaGreatDoor.Eg
