/- The document's Write of options that fit (up to 100 of them), and its Bytes of a message. Conditions: as each theorem names them. -/
import Derived.Test.YtibcpdimdjipjaaDoorTlRef1
import Derived.Test.YtibcpdimdjipjaaDoorMwKit
import Derived.Test.YtibcpdimdjipjaaDoorCoPut
import Derived.Test.YtibcpdimdjipjaaDoorMsMath
set_option maxRecDepth 8000
namespace Go.Proofs.YtibcpdimdjipjaaDoor.Mw
open Go.RowKit Tl Ms Co By Tw

/-- Options that may be written: up to 100, each of a code and bytes that may be. -/
def FitL (l : List O) : Prop := l.length ≤ 100 ∧ ∀ o ∈ l, 1 ≤ o.1 ∧ o.1 ≤ 254 ∧ o.2.length ≤ 600
theorem fit_right {l : List O} (h : rightL l = true) : FitL l := ⟨by have := right_len h; omega, fun _ ho => right_fit h ho⟩
theorem fit_body {l : List O} (h : FitL l) (k : Nat) : (bodyL (l.take k)).length ≤ 120200 := by
  have h1 := body_len (l := l.take k) fun o ho => (h.2 o (List.mem_of_mem_take ho)).2.2
  have h2 := h.1
  rw [List.length_take] at h1
  omega
set_option maxHeartbeats 1600000 in
theorem refWrite_fit (A : Option Addr) (n c : Nat) (ps : List Po) (w : World) (h : RdO w A n c ps) (hr : FitL (osP ps)) :
    Calls Tryd.prog 18 #[.slice A n c] w (RX 5 w (writeL (osP ps))) := by
  have hl := Lib.hid h.len
  have hm := h.max
  have hcap := h.cap
  have HR := Lib.hid hr
  clear hr
  go_enter Tryd.func18, Tryd.ntmps18
  go_wp2
  go_loopw [3, 4] (fun v i wr => ∃ (k N : Nat) (A2 : Option Addr) (c2 : Nat), k ≤ n ∧ i = .int .i64 k ∧ v = .slice A2 N c2 ∧ N ≤ 120200 ∧ Own 5 w.heap.size wr A2 N c2 (bodyL ((osP ps).take k)) ∧ Below w.heap.size w wr) (fun _ i _ => n - (intOf i).toNat)
  case atStart => exact ⟨0, 0, none, 0, by omega, rfl, rfl, by omega, Own.nil _ _ _, Below.refl _ _⟩
  case round =>
    obtain ⟨k, N, A2, c2, hk, rfl, rfl, hN, hown, hbw⟩ := hrel
    have hsz := hbw.size
    by_cases hlt : k < n
    · obtain ⟨b, o, co, A', m, c', l, rfl, hcell, hcell2, hbs, _, HO, HM, hmc, hc63, hblt⟩ := h.atU hbw hlt
      have hfit : 1 ≤ co ∧ co ≤ 254 ∧ m ≤ 600 := by
        obtain ⟨g1, g2⟩ := HO.out
        have := HR.out.2 _ (List.getElem_mem g1)
        rw [g2] at this
        have e := HM.out
        subst e
        exact this
      obtain ⟨hf1, hf2, hf3⟩ := hfit
      have H : Hid (bodyL ((osP ps).take (k + 1)) = bodyL ((osP ps).take k) ++ oneL co l) := by
        obtain ⟨g1, g2⟩ := HO.out
        have := body_next g1
        rw [g2] at this
        exact this
      have HN : Hid ((bodyL ((osP ps).take (k + 1))).length ≤ 120200) := fit_body HR.out _
      have hi1 : (0 : Int) ≤ (k : Int) := by omega
      have hi2 : (k : Int) < (n : Int) := by omega
      generalize bodyL ((osP ps).take k) = y at H hown
      go_wp2_with fail
      go_region_law (first
        | (go_simp; go_at_call 29; refine (refOne m co A' c' l _ hbs.bs.drew hf1 hf2 (by omega)).mono ?_; rintro e w2 ⟨A3, n3, c3, rfl, hn3, hown3, hb3⟩)
        | (refine step_app byP (by rfl) (.tmp 11) (.tmp 22) (by rfl) (by rfl) (hown.below (below_undrew hb3)) (by rfl) hown3.bs (by omega) (by have h3 := (below_undrew hb3).size; omega) ?_; intro A4 c4 w4 hown4 hb4 _ _))
      all_goals
        have hb5 : Below w.heap.size w w4 := (hbw.trans ((below_undrew hb3).mono hsz)).trans hb4
        have e5 := hown4.bs.len
        have HN4 : Hid (N + n3 ≤ 120200) := by
          have := HN.out
          rw [H.out, e5] at this
          exact this
        clear hb3 hb4 e5
        go_wp2
        go_roundw
        case rel => exact ⟨k + 1, N + n3, A4, c4, by omega, by go_num, rfl, HN4.out, by rw [H.out]; exact hown4, hb5⟩
        case measure => simp [intOf]; omega
    · obtain rfl : k = n := by omega
      have H : Hid ((osP ps).take k = osP ps) := List.take_of_length_le (by rw [os_len, hl.out]; exact Nat.le_refl _)
      rw [H.out] at hown
      have hba2 : Below wr.heap.size wr (wr.alloc (Obj.cells #[Value.int IntKind.u8 255] 5)) := (Below.refl _ _).alloc (Nat.le_refl _) _
      go_wp2_with (at_builtin; refine wpList_app byP rfl (.tmp 24) (.tmp 25) rfl rfl (hown.below hba2) rfl (Own.lit1 5 wr 255).bs (by omega) (by simp; omega) ?_; intro A3 c3 w3 hown3 hb3 _ _)
      go_ret
      exact ⟨A3, N + 1, c3, rfl, hown3, (hbw.trans (hba2.mono hsz)).trans hb3⟩
end Go.Proofs.YtibcpdimdjipjaaDoor.Mw
