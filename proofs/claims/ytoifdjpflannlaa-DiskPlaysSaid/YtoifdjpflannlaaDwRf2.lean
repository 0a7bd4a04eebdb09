/- What the document's came, Right and Good come to. For disks of up to 1000 entries whose names fit. -/
import Derived.Test.YtoifdjpflannlaaDwRf1
import Derived.Deep.RegionLaw
import Derived.Deep.CutRange
set_option maxRecDepth 8000
namespace Go.Proofs.Ytoifdjpflannlaa.Dw
open Go.RowKit By Dk

theorem ref_cel3 {w : World} {g : Nat} {t : TypeId} {a b c : Value} (h : Cel w g t #[a, b, c]) : w.cell? ⟨g, 0, none⟩ = some a ∧ w.cell? ⟨g, 1, none⟩ = some b ∧ w.cell? ⟨g, 2, none⟩ = some c := ⟨by rw [h.cell]; rfl, by rw [h.cell]; rfl, by rw [h.cell]; rfl⟩
def CaR (w : World) (l : List Int) (e : Ending) (w' : World) : Prop := ∃ A n c, e = .returned (.slice A n c) ∧ Rd w' A n c (intV l) ∧ Below w.heap.size w w'
def StCa (U : Nat) (w2 : World) (L : List E) (n : Nat) (v i : Value) (wr : World) : Prop :=
  ∃ (k : Nat) (A1 : Option Addr) (n1 c1 : Nat), k ≤ n ∧ i = .int .i64 k ∧ v = .slice A1 n1 c1 ∧ n1 ≤ k ∧ OwnV 3 U wr A1 n1 c1 (intV (accAt [] L k)) ∧ Below U w2 wr
set_option maxHeartbeats 2000000 in
theorem refCame_any (x : Dv) (w : World) (h : RdD w.heap.size w x) (hn : x.now.length + x.kept.length ≤ 1000) :
    Calls Try.prog 92 #[x.v] w (CaR w (cameD x.d)) := by
  obtain ⟨w1, hw1⟩ : ∃ w1, w1 = w.alloc (.cells x.cs 32) := ⟨_, rfl⟩
  have hb1 : Below w.heap.size w w1 := by rw [hw1]; exact alloc_more _ _
  have hc1 : Cel w1 w.heap.size 32 x.cs := by rw [hw1]; exact Cel.born _ _ _
  obtain ⟨q0, q1, q2⟩ := ref_cel3 hc1
  have hnl := h.n.len
  have hkl := h.k.len
  have hN : x.nn + x.kn ≤ 1000 := by omega
  have hl0 := OwnG.lit0 (Y := layE) 69 w1.drew
  have hal0 : Below w1.heap.size w1 (w1.drew.alloc (.cells #[] 69)) := (Below.refl _ _).drew.alloc (Nat.le_refl _) _
  have hlt1 : w.heap.size < w1.heap.size := hc1.lt
  have hx : Below w1.heap.size w1 (w1.alloc (.cells #[] 69)) := alloc_more _ _
  have y1 : (w1.alloc (.cells #[] 69)).cell? ⟨w.heap.size, 1, none⟩ = some (.slice x.nA x.nn x.nc) := (hx.cell (p := ⟨w.heap.size, 1, none⟩) hlt1).trans q1
  have y2 : (w1.alloc (.cells #[] 69)).cell? ⟨w.heap.size, 2, none⟩ = some (.slice x.kA x.kn x.kc) := (hx.cell (p := ⟨w.heap.size, 2, none⟩) hlt1).trans q2
  have HN1 := Lib.hid ((h.n.below hb1).below (hal0.mono hb1.size))
  have HK1 := Lib.hid ((h.k.below hb1).below (hal0.mono hb1.size))
  have HB1 := Lib.hid hb1
  have HLL : Hid ((x.now ++ x.kept).length = x.nn + x.kn) := by show List.length _ = _; rw [List.length_append]; omega
  clear h hb1 hc1 hx hnl hkl
  go_enter Try.func92, Try.ntmps92
  go_wp2_with fail
  rw [← hw1]
  clear hw1
  go_cut [4] from 6 to 12 (fun v wx => ∃ A c, v = .slice A (x.nn + x.kn) c ∧ Hid (RdE wx.heap.size wx A (x.nn + x.kn) c (x.now ++ x.kept)) ∧ Hid (Below w.heap.size w wx))
  case first =>
   go_region_law (first
    | (refine step_appG rentP (by decide) (by decide) (by kernel_rfl) (by rfl) (.tmp 6) (.tmp 8) (by rfl) (by rfl) hl0 (by rfl) HN1.out (by omega) (by exact hal0.size) ?_; intro A2 c2 w2 happ2; have ho2 := happ2.1; simp only [Nat.zero_add, List.nil_append] at ho2; have hb2 : Below w1.heap.size w1 w2 := hal0.trans (happ2.2.1.mono (Nat.le_refl _)); have p1 : w2.cell? ⟨w.heap.size, 1, none⟩ = some (.slice x.nA x.nn x.nc) := (hb2.cell (p := ⟨w.heap.size, 1, none⟩) hlt1).trans q1; have p2 : w2.cell? ⟨w.heap.size, 2, none⟩ = some (.slice x.kA x.kn x.kc) := (hb2.cell (p := ⟨w.heap.size, 2, none⟩) hlt1).trans q2; have hk2 := HK1.out.below (happ2.2.1.mono HB1.out.size))
    | (refine step_appG rentP (by decide) (by decide) (by kernel_rfl) (by rfl) (.tmp 9) (.tmp 11) (by rfl) (by rfl) ho2 (by rfl) hk2 (by omega) (by exact hb2.size) ?_; intro A3 c3 w3 happ3; have hb3 : Below w1.heap.size w1 w3 := hb2.trans (happ3.2.1.mono (Nat.le_refl _))))
   all_goals (
    go_wp2_with fail
    go_meet
    exact ⟨A3, c3, rfl, happ3.1.rd, HB1.out.trans (hb3.mono HB1.out.size)⟩)
  case rest =>
  obtain ⟨A3, c3, rfl, HL, HB3⟩ := hcut
  obtain ⟨w3, hw3⟩ : ∃ q, q = wc := ⟨_, rfl⟩
  subst hw3
  have hLm := HL.out.max
  have hLc := HL.out.cap
  clear hl0 hal0 y1 y2 HN1 HK1 q0 q1 q2 hlt1
  go_wp2
  go_loopw [3, 5] (fun v i wr => StCa w3.heap.size w3 (x.now ++ x.kept) (x.nn + x.kn) v i wr) (fun _ i _ => (x.nn + x.kn) - (intOf i).toNat)
  case atStart => exact ⟨0, none, 0, 0, by omega, rfl, rfl, by omega, OwnV.nil _ _ _, Below.refl _ _⟩
  case round =>
    obtain ⟨k, A1, n1, c1, hk, rfl, rfl, hn1, hown, hbw⟩ := hrel
    have hsw := hbw.size
    by_cases hlt : k < x.nn + x.kn
    · have HHAS := Lib.hid (fun g => refHas_any w3.heap.size A3 (x.nn + x.kn) c3 (x.now ++ x.kept) k g wr (HL.out.below hbw) hk)
      obtain ⟨b, o, s, f, rfl, _, HE, c1', c2'⟩ := atE (HL.out.below hbw) hlt
      have HN := Lib.hid (acc_next (acc := []) HE.out)
      have hkz : (k : Int) < ((x.nn + x.kn : Nat) : Int) := by omega
      by_cases hin : f ∈ filesOf ((x.now ++ x.kept).take k)
      · have HH := HHAS.out f
        rw [decide_eq_true hin] at HH
        have HA : Hid (accAt [] (x.now ++ x.kept) (k + 1) = accAt [] (x.now ++ x.kept) k) := by show _ = _; rw [HN.out, add_in (show f ∈ accAt [] (x.now ++ x.kept) k from mem_firsts.2 hin)]
        have HH := Lib.hid HH
        clear hin HHAS HE HN
        go_wp2_with fail
        refine HH.out.mono ?_
        rintro e w' ⟨rfl, rfl⟩
        go_wp2
        go_roundw
        case rel => exact ⟨k + 1, A1, n1, c1, by omega, by go_num, rfl, by omega, by rw [HA.out]; exact hown, hbw⟩
        case measure => simp [intOf]; omega
      · have HH := HHAS.out f
        rw [decide_eq_false hin] at HH
        have HA : Hid (intV (accAt [] (x.now ++ x.kept) (k + 1)) = intV (accAt [] (x.now ++ x.kept) k) ++ [.int .i64 f]) := by show _ = _; rw [HN.out, add_out (show f ∉ accAt [] (x.now ++ x.kept) k from fun hm => hin (mem_firsts.1 hm))]; simp [intV]
        have HH := Lib.hid HH
        have hlit := (OwnV.lit1 3 wr (.int .i64 f)).rd
        have hba := alloc_more wr (.cells #[.int .i64 f] 3)
        clear hin HHAS HE HN
        go_wp2_with fail
        refine HH.out.mono ?_
        rintro e w' ⟨rfl, rfl⟩
        go_wp2_with (at_builtin; refine wpList_appV elI rfl (.tmp 28) (.tmp 34) rfl rfl (hown.below hba) rfl hlit (by intro u hu; simp at hu; subst hu; rfl) (by unfold maxLen; omega) (by omega) (by simp; omega) ?_; intro A5 c5 w5 hown5 hb5 _ _)
        go_roundw
        case rel => exact ⟨k + 1, A5, n1 + 1, c5, by omega, by go_num, rfl, by omega, by rw [HA.out]; exact hown5, (hbw.trans (hba.mono hsw)).trans hb5⟩
        case measure => simp [intOf]; omega
    · obtain rfl : k = x.nn + x.kn := by omega
      have HA : Hid (accAt [] (x.now ++ x.kept) (x.nn + x.kn) = cameD x.d) := by show _ = _; rw [acc_end (by rw [HLL.out]; exact Nat.le_refl _)]; rfl
      rw [HA.out] at hown
      go_wp2
      go_ret
      exact ⟨A1, n1, c1, rfl, hown.rd, HB3.out.trans (hbw.mono HB3.out.size)⟩
end Go.Proofs.Ytoifdjpflannlaa.Dw
