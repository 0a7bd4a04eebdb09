/- boarderlaw18's great, and what a reply that is made says. Condition: the configuration and the message read. -/
import Derived.Test.YtabjcgchcnnjjaaGreatRpKnows
import Derived.Test.YtabjcgchcnnjjaaGreatVwF
set_option maxRecDepth 8000
namespace Go.Proofs.YtabjcgchcnnjjaaGreat.Rpw
open Go.RowKit Tl Co Ms Cf Ad By Ow Rp
open Pw (alloc_more celM_all boxM small_ms)
open Vw (Cx Sx cel3C atN atS Seven snsOf sns_len sns_get nets_len nets_get)
open Mw (set13 cels13)

theorem boxK2 (w : World) (c : Cx) (x : Mv) : ∃ w0, w0 = (w.alloc (.cells c.cs 24)).alloc (.cells x.cells 28) ∧ Cel w0 w.heap.size 24 c.cs ∧ Cel w0 (w.heap.size + 1) 28 x.cells ∧ Below w.heap.size w w0 ∧ w0.heap.size = w.heap.size + 2 := by
  have ca := Cel.born w 24 c.cs
  have ba := alloc_more w (.cells c.cs 24)
  have sa : (w.alloc (.cells c.cs 24)).heap.size = w.heap.size + 1 := by simp
  refine ⟨_, rfl, ?_⟩
  generalize w.alloc (.cells c.cs 24) = wa at ca ba sa
  have cb := Cel.born wa 28 x.cells
  have bb := alloc_more wa (.cells x.cells 28)
  have sb : (wa.alloc (.cells x.cells 28)).heap.size = w.heap.size + 2 := by simp; omega
  rw [sa] at cb
  exact ⟨ca.below bb ca.lt, cb, ba.trans (bb.mono ba.size), sb⟩
def greatR (c : Cx) (x : Mv) : Bool := Mw.greatM x.mm || greatC c.cf
theorem great_no {c : Cx} {x : Mv} (h : greatR c x = false) : Mw.greatM x.mm = false ∧ greatC c.cf = false := Bool.or_eq_false_iff.1 h
set_option maxHeartbeats 2000000 in
theorem great_any (c : Cx) (x : Mv) (U : Nat) (w : World) (hc : c.ok U w) (hU : U ≤ w.heap.size) (hx : x.ok w) : Calls Tryz.prog 4 #[c.v, x.v] w (BlR (greatR c x) w) := by
  obtain ⟨w0, hw0, hc0, hm0, hb0, hs0⟩ := boxK2 w c x
  have HGM := Lib.hid (Mw.great_msg x w0 (hx.below hb0))
  have HGC := Lib.hid (fun W (hW : Below w.heap.size w W) => Vw.great_any c U W (hc.below (hW.mono hU)) (Nat.le_trans hU hW.size))
  have HG : Hid (greatR c x = (Mw.greatM x.mm || greatC c.cf)) := rfl
  generalize greatR c x = g at HG ⊢
  generalize Mw.greatM x.mm = g1 at HGM HG
  generalize greatC c.cf = g2 at HGC HG
  have HC := Lib.hid hc0
  have HM := Lib.hid hm0
  have HB := Lib.hid hb0
  obtain ⟨⟨m0, m1, m2, m3, m4, m5, m6⟩, m7, m8, m9, m10, m11, m12⟩ := celM_all hm0
  clear hc hU hx hc0 hm0 hb0 hs0
  cases g1 with
  | true =>
    have HT : Hid (g = true) := HG.out
    go_enter Tryz.func4, Tryz.ntmps4
    go_upto_region 1 with fail
    rw [← hw0]
    clear hw0
    go_wp2_with fail
    refine HGM.out.mono ?_
    rintro e w1 ⟨rfl, hb1⟩
    have HB1 := Lib.hid (tr HB.out hb1)
    clear hb1 m0 m1 m2 m3 m4 m5 m6 m7 m8 m9 m10 m11 m12
    go_wp2
    go_ret
    exact ⟨ret_bool HT.out.symm, HB1.out⟩
  | false =>
    have HT : Hid (g = g2) := HG.out
    go_enter Tryz.func4, Tryz.ntmps4
    go_upto_region 1 with fail
    rw [← hw0]
    clear hw0
    go_wp2_with fail
    refine HGM.out.mono ?_
    rintro e w1 ⟨rfl, hb1⟩
    have HB1 := Lib.hid (tr HB.out hb1)
    obtain ⟨c0, c1, c2⟩ := cel3C (HC.out.below hb1 HC.out.lt)
    clear hb1 m0 m1 m2 m3 m4 m5 m6 m7 m8 m9 m10 m11 m12
    go_wp2_with fail
    refine (HGC.out _ HB1.out).mono ?_
    rintro e w2 ⟨rfl, hb2⟩
    have HB2 := Lib.hid (tr HB1.out hb2)
    clear hb2 c0 c1 c2
    go_wp2
    go_ret
    exact ⟨ret_bool HT.out.symm, HB2.out⟩

/-! ### What a reply says -/
theorem made_os {y : Mv} {c : Cx} {x : Mv} {net sub kind yi : Int} (h : y.mm = makeR c.server (subAt c.cf net sub) x.mm kind yi) : osP y.ps = optsR c.server (subAt c.cf net sub) (osP x.ps) kind yi := congrArg M.os h
theorem fair_all {c : Cf} {net sub : Int} {m : M} {kind yi : Int} (h : fairR c net sub m kind yi = true) : subB c net sub = true ∧ rightM m = true ∧ rightB yi = true ∧ (kind = 2 ∨ kind = 5 ∨ kind = 6) := by
  rw [fair_sub] at h
  simp only [Bool.and_eq_true, decide_eq_true_eq] at h
  exact ⟨h.1, h.2.1, h.2.2.1, h.2.2.2⟩
theorem sub_all {c : Cf} {net sub : Int} (h : subB c net sub = true) : rightB c.server = true ∧ rightB (subAt c net sub).time = true := by
  obtain ⟨n, hn, hs⟩ := sub_mem h
  obtain ⟨q1, q2, _⟩ := sub_of (subB_iff.1 h).1 hn hs
  exact ⟨q1, time_of q2⟩
theorem num_54 (srv : Int) (s : Sn) (l : List O) (kind yi : Int) (h : rightB srv = true) : ∃ v : Nat, numL (optsR srv s l kind yi) 54 4 = some v ∧ (v : Int) = srv :=
  ⟨_, num_yes (find_54 srv s l kind yi) (numB_len srv 4), num_told h⟩
theorem num_51 (srv : Int) (s : Sn) (l : List O) (kind yi : Int) (h : rightB s.time = true) (hk : kind ≠ 6 ∧ 0 < yi) : ∃ v : Nat, numL (optsR srv s l kind yi) 51 4 = some v ∧ (v : Int) = s.time :=
  ⟨_, num_yes (by rw [find_51, if_pos hk]) (numB_len s.time 4), num_told h⟩
theorem num_51_no (srv : Int) (s : Sn) (l : List O) (kind yi : Int) (hk : ¬ (kind ≠ 6 ∧ 0 < yi)) : numL (optsR srv s l kind yi) 51 4 = none := num_no 4 (by rw [find_51, if_neg hk])
theorem kind_53 (srv : Int) (s : Sn) (l : List O) {kind : Int} (yi : Int) (h : kind = 2 ∨ kind = 5 ∨ kind = 6) : kindL (optsR srv s l kind yi) = kind := by
  have hn := num_yes (find_53 srv s l kind yi) (show [byteI kind].length = 1 from rfl)
  rw [kind_yes hn (by rcases h with rfl | rfl | rfl <;> decide) (by rcases h with rfl | rfl | rfl <;> decide)]
  exact kind_told h
end Go.Proofs.YtabjcgchcnnjjaaGreat.Rpw
