/- What alloc.try comes to, for whatever function is handed to it that answers for each address. Conditions: each range's numbers are in order and not far apart. -/
import Derived.Test.YtpdjdaoclpeffaaGreatXwKit
import Derived.Test.YtpdjdaoclpeffaaGreatVwC
import Derived.WalkMore
import Derived.Deep.LoopGhost
import Derived.BigQuiet
import Derived.Deep.QuietTactic
set_option maxRecDepth 8000
namespace Go.Proofs.YtpdjdaoclpeffaaGreat.Xw
open Go.RowKit Co By Ky Rc Ew Jw La Tb Lw Cf Al
open Vw (Cx RdPl layP atP AdR)
open Dw (ba ba_size ba_data ba_list alloc_more)

/-- The numbers of a range are in order and not far apart. -/
structure Okr (p : Pl) : Prop where
  lo : -9223372036854775808 ≤ p.first
  ord : p.first ≤ p.last
  hi : p.last ≤ 9223372036854775807
  near : p.last - p.first < 4294967296
section
variable {l : List Pl} {q : Int → Bool} {j k : Nat} {p : Pl}
theorem addrs_at (h : p.first + (k : Int) ≤ p.last) : ∃ r, addrsP p = ((List.range k).map fun n : Nat => p.first + (n : Int)) ++ (p.first + (k : Int)) :: r := by
  unfold addrsP
  obtain ⟨m, hm⟩ : ∃ m, m = (p.last + 1 - p.first).toNat := ⟨_, rfl⟩
  have hk : k < m := by omega
  rw [← hm]
  have e : List.range m = List.range k ++ k :: (List.range m).drop (k + 1) := by
    have e1 : (List.range m).take k = List.range k := by rw [List.take_range, Nat.min_eq_left (by omega)]
    have e2 : (List.range m).drop k = k :: (List.range m).drop (k + 1) := by
      rw [List.drop_eq_getElem_cons (by rw [List.length_range]; exact hk), List.getElem_range]
    rw [← e1, ← e2, List.take_append_drop]
  rw [e, List.map_append, List.map_cons]
  exact ⟨_, rfl⟩
theorem flat_at (hp : l[j]? = some p) : l.flatMap addrsP = (l.take j).flatMap addrsP ++ (addrsP p ++ (l.drop (j + 1)).flatMap addrsP) := by
  obtain ⟨hj, e⟩ := List.getElem?_eq_some_iff.1 hp
  have e2 : l = l.take j ++ p :: l.drop (j + 1) := by rw [← e, ← List.drop_eq_getElem_cons hj, List.take_append_drop]
  have e3 : l.flatMap addrsP = (l.take j ++ p :: l.drop (j + 1)).flatMap addrsP := congrArg (fun x => x.flatMap addrsP) e2
  rw [e3, List.flatMap_append, List.flatMap_cons]
theorem try_hit (hp : l[j]? = some p) (h1 : ∀ a ∈ (l.take j).flatMap addrsP, q a = false) (h2 : ∀ i : Nat, i < k → q (p.first + (i : Int)) = false) (h3 : p.first + (k : Int) ≤ p.last) (h4 : q (p.first + (k : Int)) = true) : (l.flatMap addrsP).find? q = some (p.first + (k : Int)) := by
  obtain ⟨r, hr⟩ := addrs_at h3
  rw [List.find?_eq_some_iff_append]
  refine ⟨h4, (l.take j).flatMap addrsP ++ ((List.range k).map fun n : Nat => p.first + (n : Int)), r ++ (l.drop (j + 1)).flatMap addrsP, ?_, fun a ha => ?_⟩
  · rw [flat_at hp, hr]
    simp
  · rcases List.mem_append.1 ha with ha | ha
    · rw [h1 a ha]; rfl
    · obtain ⟨i, hi, rfl⟩ := List.mem_map.1 ha
      rw [h2 i (List.mem_range.1 hi)]; rfl
theorem try_next (hp : l[j]? = some p) (h1 : ∀ a ∈ (l.take j).flatMap addrsP, q a = false) (h2 : ∀ i : Nat, i < k → q (p.first + (i : Int)) = false) (h3 : p.last < p.first + (k : Int)) : ∀ a ∈ (l.take (j + 1)).flatMap addrsP, q a = false := by
  intro a ha
  rw [take_nextL hp, List.flatMap_append] at ha
  rcases List.mem_append.1 ha with ha | ha
  · exact h1 a ha
  · rw [List.flatMap_cons, List.flatMap_nil, List.append_nil] at ha
    unfold addrsP at ha
    obtain ⟨i, hi, rfl⟩ := List.mem_map.1 ha
    exact h2 i (by have := List.mem_range.1 hi; omega)
theorem try_end (h1 : ∀ a ∈ (l.take l.length).flatMap addrsP, q a = false) : (l.flatMap addrsP).find? q = none := by
  rw [List.take_length] at h1
  exact List.find?_eq_none.2 fun a ha k => by rw [h1 a ha] at k; cases k
end
theorem cel2 {w : World} {g : Nat} {t : TypeId} {a b : Value} (h : Cel w g t #[a, b]) : w.cell? ⟨g, 0, none⟩ = some a ∧ w.cell? ⟨g, 1, none⟩ = some b := ⟨by rw [h.cell]; rfl, by rw [h.cell]; rfl⟩
set_option maxHeartbeats 4000000 in
theorem try_any (K : Nat) (hE : ∀ args W, (callFunc K args).run Tryz.prog W = .ok (.enter K args) W) (bs : Array Value) (q : Int → Bool) (A : Option Addr) (n c U : Nat) (l : List Pl) (w : World) (h : RdPl U w A n c l) (hU : U ≤ w.heap.size) (hl : ∀ p ∈ l, Okr p)
    (HK : ∀ a W, Below w.heap.size w W → Calls Tryz.prog K (#[.int .i64 a] ++ bs) W (isB (q a) W)) :
    Calls Tryz.prog 29 #[.slice A n c, .func (.func K) #[] bs] w (AdR (ansI ((l.flatMap addrsP).find? q)) w) := by
  have HX := Lib.hid h
  have HL := Lib.hid h.len
  have HKK := Lib.hid HK
  have HEN := Lib.hid hE
  have HUU := Lib.hid hU
  have HOK := Lib.hid hl
  have hcp := h.cap
  have hmx := h.max
  obtain ⟨r, hr⟩ : ∃ r, r = (l.flatMap addrsP).find? q := ⟨_, rfl⟩
  have HRR := Lib.hid hr
  rw [← hr]
  clear h HK hE hU hl hr
  go_enter Tryz.func29, Tryz.ntmps29
  go_wp2
  go_step3
  go_wp2
  go_step3
  go_wp2
  go_loopg [6, 7, 14] n (fun g v6 v7 i wr => ∃ j : Nat, j + g = n ∧ v6 = .int .i64 0 ∧ v7 = .bool false ∧ i = .int .i64 j ∧ Hid (∀ a ∈ (l.take j).flatMap addrsP, q a = false) ∧ Hid (Below w.heap.size w wr))
  case atStart => exact ⟨0, by omega, rfl, rfl, rfl, fun a ha => by simp at ha, Below.refl _ _⟩
  case round =>
    obtain ⟨j, hjg, rfl, rfl, rfl, HE, HB⟩ := hrel
    cases gk with
    | succ g =>
      have hlt : j < n := by omega
      obtain ⟨b, o, p, rfl, hbU, HA, d0, d1⟩ := atP (HX.out.below (HB.out.mono HUU.out)) hlt
      have hkz : (j : Int) < (n : Int) := by omega
      obtain ⟨hlo, hord, hhi, hnear⟩ := HOK.out p (List.mem_of_getElem? HA.out)
      obtain ⟨wB, hwB⟩ : ∃ wB, wB = wr.alloc (.cells #[.int .i64 p.first, .int .i64 p.last] 63) := ⟨_, rfl⟩
      have HC := Lib.hid (show Cel wB wr.heap.size 63 #[.int .i64 p.first, .int .i64 p.last] by rw [hwB]; exact Cel.born _ _ _)
      have HBB := Lib.hid (show Below w.heap.size w wB by rw [hwB]; exact HB.out.trans ((alloc_more _ _).mono HB.out.size))
      obtain ⟨m, hm⟩ : ∃ m : Nat, (m : Int) = p.last - p.first + 1 := ⟨(p.last - p.first + 1).toNat, by omega⟩
      go_upto_region 5 with fail
      rw [← hwB]
      clear hwB d0 d1
      obtain ⟨y0, y1⟩ := cel2 HC.out
      go_wp2
      go_loopg [6, 7, 24] m (fun g2 v6 v7 i wi => ∃ k : Nat, k + g2 = m ∧ v6 = .int .i64 0 ∧ v7 = .bool false ∧ i = .int .i64 k ∧ Hid (∀ i : Nat, i < k → q (p.first + (i : Int)) = false) ∧ Hid (Below wB.heap.size wB wi))
      case atStart => exact ⟨0, by omega, rfl, rfl, rfl, fun i hi => by omega, Below.refl _ _⟩
      case round =>
        obtain ⟨k, hk, rfl, rfl, rfl, HI, HW⟩ := hrel
        obtain ⟨y0, y1⟩ := cel2 (HC.out.below HW.out HC.out.lt)
        have HB2 := Lib.hid (HBB.out.trans (HW.out.mono HBB.out.size))
        have HCL := Lib.hid (HKK.out (p.first + (k : Int)) wr HB2.out)
        cases gk with
        | succ g2 =>
          have hkm : (k : Int) < p.last - p.first + 1 := by omega
          cases hq : q (p.first + (k : Int)) with
          | true =>
            rw [hq] at HCL
            have HT := Lib.hid (try_hit HA.out HE.out HI.out (by omega) hq)
            clear hq HI HE
            go_wp2_with fail
            rw [HEN.out, Oper.upon_enter]
            refine HCL.out.mono ?_
            rintro e w3 ⟨rfl, hb3⟩
            go_wp2
            go_ret2
            rw [HRR.out, HT.out]
            exact ⟨rfl, HB2.out.trans (hb3.mono HB2.out.size)⟩
          | false =>
            rw [hq] at HCL
            have HT : Hid (∀ i : Nat, i < k + 1 → q (p.first + (i : Int)) = false) := fun i hi => by
              rcases Nat.lt_or_ge i k with h | h
              · exact HI.out i h
              · obtain rfl : i = k := by omega
                exact hq
            clear hq HI
            go_wp2_with fail
            rw [HEN.out, Oper.upon_enter]
            refine HCL.out.mono ?_
            rintro e w3 ⟨rfl, hb3⟩
            go_wp2
            go_roundg g2
            case rel => exact ⟨k + 1, by omega, rfl, rfl, by go_num, HT.out, HW.out.trans (hb3.mono HW.out.size)⟩
            case measure => omega
        | zero =>
          have hkm : ¬ (k : Int) < p.last - p.first + 1 := by omega
          have HT := Lib.hid (try_next HA.out HE.out HI.out (by omega))
          clear HI HE HCL
          go_wp2
          go_roundg g
          case rel => exact ⟨j + 1, by omega, rfl, rfl, by go_num, HT.out, HB2.out⟩
          case measure => omega
    | zero =>
      obtain rfl : j = n := by omega
      have HT := Lib.hid (try_end (l := l) (q := q) (by rw [HL.out]; exact HE.out))
      have hkz : ¬ (j : Int) < (j : Int) := by omega
      clear HE
      go_wp2
      go_ret2
      rw [HRR.out, HT.out]
      exact ⟨rfl, HB.out⟩
end Go.Proofs.YtpdjdaoclpeffaaGreat.Xw
