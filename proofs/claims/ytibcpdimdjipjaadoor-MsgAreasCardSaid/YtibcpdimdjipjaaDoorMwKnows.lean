/- The document's example of a message is written and read as the document says (boarderlaw04.knows). Condition: what msg's package-level variables hold (En.ok). -/
import Derived.Test.YtibcpdimdjipjaaDoorMwRw
import Derived.Test.YtibcpdimdjipjaaDoorMwRef1
import Derived.Test.YtibcpdimdjipjaaDoorTlKnows
import Derived.Deep.RegionHeld3
set_option maxRecDepth 8000
namespace Go.Proofs.YtibcpdimdjipjaaDoor.Mw
open Go.RowKit Tl Ms Co By

def exM : M := ⟨0, 0, 0, 0, 0, 0, 0, 0, 0, 0, 0, List.replicate 16 0, [(53, [1])]⟩
theorem ex_right : rightM exM = true := by decide +kernel
theorem ex_len : (bytesM exM).length = 300 ∧ ¬ 1500 < (bodyM exM).length := by decide +kernel
theorem ex_text : ((bytesM exM).drop 236).take 8 = [99, 130, 83, 99, 53, 1, 1, 255] := by decide +kernel
theorem ex_back : readM (bytesM exM) = (exM, 0) := read_backM ((rightM_iff _).1 ex_right) (by rw [ex_len.1]; decide)

set_option maxHeartbeats 4000000 in
theorem knows_yes (E : En) (w : World) (hE : E.ok w) : Calls Tryd.prog 7 #[] w fun e w' => e = .returned (.bool true) ∧ Below w.heap.size w w' := by
  have hmade := Own.made 5 w 16 (by omega)
  have hmk : ∀ W, (Instr.makeSlice 22 (.int .i64 16) (.int .i64 16)).run Tryd.prog W = .ok (.slice (some ⟨W.heap.size, 0, none⟩) 16 16) (W.alloc (.cells (madeCells (Value.int .u8 0).cells 16) 5)) := fun W => byP.make (P := Tryd.prog) 16 (by omega) W
  generalize madeCells (Value.int .u8 0).cells 16 = CS at hmk hmade
  have HE := Lib.hid hE
  clear hE
  have hW1 : Below w.heap.size w (w.alloc (.cells CS 5)) := (Below.refl _ _).alloc (Nat.le_refl _) _
  have hl1 := Own.lit1 5 (w.alloc (.cells CS 5)) 1
  have hl2 := OwnC.lit1 45 ((w.alloc (.cells CS 5)).alloc (.cells #[.int .u8 1] 5)) ⟨53, some ⟨w.heap.size + 1, 0, none⟩, 1, [1]⟩
  have hmok : Mv.ok ⟨0, 0, 0, 0, 0, 0, 0, 0, 0, 0, 0, some ⟨w.heap.size, 0, none⟩, 16, 16, List.replicate 16 0, some ⟨w.heap.size + 1 + 1, 0, none⟩, 1, 1, [⟨53, some ⟨w.heap.size + 1, 0, none⟩, 1, [1]⟩]⟩ ((((w.alloc (.cells CS 5)).alloc (.cells #[.int .u8 1] 5)).alloc (.cells #[.int .i64 53, .slice (some ⟨w.heap.size + 1, 0, none⟩) 1 1] 45)).alloc (.cells #[.int .i64 0, .int .i64 0, .int .i64 0, .int .i64 0, .int .i64 0, .int .i64 0, .int .i64 0, .int .i64 0, .int .i64 0, .int .i64 0, .int .i64 0, .slice (some ⟨w.heap.size, 0, none⟩) 16 16, .slice (some ⟨w.heap.size + 1 + 1, 0, none⟩) 1 1] 25)) := by
    refine ⟨((hmade.bs.alloc _).alloc _).alloc _, RdO.alloc ⟨?_, fun p hp => ?_⟩ _⟩
    · have := hl2.rdc
      simpa [Po.dv] using this
    · obtain rfl : p = ⟨53, some ⟨w.heap.size + 1, 0, none⟩, 1, [1]⟩ := by simpa using hp
      have := hl1.bs.alloc (.cells #[.int .i64 53, .slice (some ⟨w.heap.size + 1, 0, none⟩) 1 1] 45)
      simpa [Po.bs] using this
  have hbW4 : Below w.heap.size w ((((w.alloc (.cells CS 5)).alloc (.cells #[.int .u8 1] 5)).alloc (.cells #[.int .i64 53, .slice (some ⟨w.heap.size + 1, 0, none⟩) 1 1] 45)).alloc (.cells #[.int .i64 0, .int .i64 0, .int .i64 0, .int .i64 0, .int .i64 0, .int .i64 0, .int .i64 0, .int .i64 0, .int .i64 0, .int .i64 0, .int .i64 0, .slice (some ⟨w.heap.size, 0, none⟩) 16 16, .slice (some ⟨w.heap.size + 1 + 1, 0, none⟩) 1 1] 25)) := ((((Below.refl _ _).alloc (Nat.le_refl _) _).alloc (by simp) _).alloc (by simp; omega) _).alloc (by simp; omega) _
  have hcM := Cel.born (((w.alloc (.cells CS 5)).alloc (.cells #[.int .u8 1] 5)).alloc (.cells #[.int .i64 53, .slice (some ⟨w.heap.size + 1, 0, none⟩) 1 1] 45)) 25 #[.int .i64 0, .int .i64 0, .int .i64 0, .int .i64 0, .int .i64 0, .int .i64 0, .int .i64 0, .int .i64 0, .int .i64 0, .int .i64 0, .int .i64 0, .slice (some ⟨w.heap.size, 0, none⟩) 16 16, .slice (some ⟨w.heap.size + 1 + 1, 0, none⟩) 1 1]
  rw [show (((w.alloc (.cells CS 5)).alloc (.cells #[.int .u8 1] 5)).alloc (.cells #[.int .i64 53, .slice (some ⟨w.heap.size + 1, 0, none⟩) 1 1] 45)).heap.size = w.heap.size + 1 + 1 + 1 by simp] at hcM
  go_enter Tryd.func7, Tryd.ntmps7
  go_wp2_with fail
  generalize ((((w.alloc (.cells CS 5)).alloc (.cells #[.int .u8 1] 5)).alloc (.cells #[.int .i64 53, .slice (some ⟨w.heap.size + 1, 0, none⟩) 1 1] 45)).alloc (.cells #[.int .i64 0, .int .i64 0, .int .i64 0, .int .i64 0, .int .i64 0, .int .i64 0, .int .i64 0, .int .i64 0, .int .i64 0, .int .i64 0, .int .i64 0, .slice (some ⟨w.heap.size, 0, none⟩) 16 16, .slice (some ⟨w.heap.size + 1 + 1, 0, none⟩) 1 1] 25)) = w4 at *
  generalize w.heap.size + 1 + 1 + 1 = b3 at *
  generalize w.heap.size + 1 + 1 = b2 at *
  generalize w.heap.size + 1 = b1 at *
  obtain ⟨b0, hb0e⟩ : ∃ b, Hid (w.heap.size = b) := ⟨_, rfl⟩
  have hbW4' := Lib.hid hbW4
  clear hbW4 hW1 hl1 hl2 hmade hmk
  rw [hb0e.out] at hcM hmok ⊢
  refine (write_any E ⟨0, 0, 0, 0, 0, 0, 0, 0, 0, 0, 0, some ⟨b0, 0, none⟩, 16, 16, List.replicate 16 0, some ⟨b2, 0, none⟩, 1, 1, [⟨53, some ⟨b1, 0, none⟩, 1, [1]⟩]⟩ _ (HE.out.below hbW4'.out) hmok).mono ?_
  rintro e w5 ⟨hb5, hJ⟩
  rcases hJ with ⟨hr, _⟩ | ⟨_, hl, _⟩ | ⟨_, _, A, n, c, rfl, hown⟩
  · exact absurd (hr.symm.trans ex_right) (by decide)
  · exact absurd hl ex_len.2
  have hown' : Own 5 w4.heap.size w5 A n c (bytesM exM) := hown
  have hn : n = 300 := by rw [← hown'.bs.len]; exact ex_len.1
  subst hn
  have hbs := hown'.bs
  have hbw5 := Lib.hid (hbW4'.out.trans (hb5.mono hbW4'.out.size))
  have hm5 := hmok.below hb5
  have hcM5 := hcM.below hb5 hcM.lt
  clear hown hown'
  go_wp2_with fail
  refine (read_any E A 300 c (bytesM exM) _ (HE.out.below hbw5.out) hbs).mono ?_
  rw [ex_back]
  rintro e w6 ⟨x, rfl, hx, hxm, hb6⟩
  have hbw6 := Lib.hid (hbw5.out.trans (hb6.mono hbw5.out.size))
  have hb67 : Below w6.heap.size w6 (w6.alloc (.cells x.cells 25)) := (Below.refl _ _).alloc (Nat.le_refl _) _
  have hx7 := Lib.hid (hx.below hb67)
  have hm7 := Lib.hid ((hm5.below hb6).below hb67)
  have hcX := Cel.born w6 25 x.cells
  have hcM7 := (hcM5.below hb6 hcM5.lt).below hb67 (by have := hcM5.lt; have := hb6.size; omega)
  have hbs7 := (hbs.below hb6).below hb67
  have hbw7 := Lib.hid (hbw6.out.trans (hb67.mono hbw6.out.size))
  have hcap := hbs.cap
  have hmax := hbs.max
  obtain ⟨A5, hs5, hcut5⟩ := byP.cut_lh hbs7 236 244 236 244 rfl rfl (by omega) (by omega)
  have HXM := Lib.hid hxm
  go_wp2_with fail
  generalize hw7 : w6.alloc (.cells x.cells 25) = w7 at *
  generalize w6.heap.size = b7 at *
  rw [show (List.take (244 - 236) (List.drop 236 (bytesM exM))) = [99, 130, 83, 99, 53, 1, 1, 255] from ex_text] at hs5
  generalize c - 236 = c5 at *
  have K : Hid (∀ W, Below w7.heap.size w7 W → Below w7.heap.size w7 W ∧ W.cell? ⟨b7, 0, none⟩ = some (.int .i64 x.op) ∧ W.cell? ⟨b7, 1, none⟩ = some (.int .i64 x.htype) ∧ W.cell? ⟨b7, 2, none⟩ = some (.int .i64 x.hlen) ∧ W.cell? ⟨b7, 3, none⟩ = some (.int .i64 x.hops) ∧ W.cell? ⟨b7, 4, none⟩ = some (.int .i64 x.xid) ∧ W.cell? ⟨b7, 5, none⟩ = some (.int .i64 x.secs) ∧ W.cell? ⟨b7, 6, none⟩ = some (.int .i64 x.flags) ∧ W.cell? ⟨b7, 7, none⟩ = some (.int .i64 x.ci) ∧ W.cell? ⟨b7, 8, none⟩ = some (.int .i64 x.yi) ∧ W.cell? ⟨b7, 9, none⟩ = some (.int .i64 x.si) ∧ W.cell? ⟨b7, 10, none⟩ = some (.int .i64 x.gi) ∧ W.cell? ⟨b7, 11, none⟩ = some (.slice x.A x.n x.c) ∧ W.cell? ⟨b7, 12, none⟩ = some (.slice x.B x.m x.d) ∧ W.cell? ⟨b3, 0, none⟩ = some (.int .i64 0) ∧ W.cell? ⟨b3, 1, none⟩ = some (.int .i64 0) ∧ W.cell? ⟨b3, 2, none⟩ = some (.int .i64 0) ∧ W.cell? ⟨b3, 3, none⟩ = some (.int .i64 0) ∧ W.cell? ⟨b3, 4, none⟩ = some (.int .i64 0) ∧ W.cell? ⟨b3, 5, none⟩ = some (.int .i64 0) ∧ W.cell? ⟨b3, 6, none⟩ = some (.int .i64 0) ∧ W.cell? ⟨b3, 7, none⟩ = some (.int .i64 0) ∧ W.cell? ⟨b3, 8, none⟩ = some (.int .i64 0) ∧ W.cell? ⟨b3, 9, none⟩ = some (.int .i64 0) ∧ W.cell? ⟨b3, 10, none⟩ = some (.int .i64 0) ∧ W.cell? ⟨b3, 11, none⟩ = some (.slice (some ⟨b0, 0, none⟩) 16 16) ∧ W.cell? ⟨b3, 12, none⟩ = some (.slice (some ⟨b2, 0, none⟩) 1 1) ∧ (convert 22 9 (.slice A5 8 c5)).run Tryd.prog W = .ok (.string ⟨#[99, 130, 83, 99, 53, 1, 1, 255]⟩) W) := fun W hW => by
    have k1 := hcX.below hW hcX.lt
    have k2 := hcM7.below hW hcM7.lt
    have k3 := byP.str (hs5.below hW)
    refine ⟨hW, ?_, ?_, ?_, ?_, ?_, ?_, ?_, ?_, ?_, ?_, ?_, ?_, ?_, ?_, ?_, ?_, ?_, ?_, ?_, ?_, ?_, ?_, ?_, ?_, ?_, ?_, k3⟩
    all_goals first | (rw [k1.cell]; rfl) | (rw [k2.cell]; rfl)
  have HR := Lib.hid (show rightM x.mm = true by rw [HXM.out]; exact ex_right)
  have HXE : Hid (x.mm = Mv.mm ⟨0, 0, 0, 0, 0, 0, 0, 0, 0, 0, 0, some ⟨b0, 0, none⟩, 16, 16, List.replicate 16 0, some ⟨b2, 0, none⟩, 1, 1, [⟨53, some ⟨b1, 0, none⟩, 1, [1]⟩]⟩) := HXM.out
  clear hcX hcM7 hcM5 hcM hs5 hbs7 hbs hx hxm hm5 hmok hb67 hw7 hb6 hb5 hbw6 hbw5
  go_region_held3 (fun W => Below w7.heap.size w7 W ∧ W.cell? ⟨b7, 0, none⟩ = some (.int .i64 x.op) ∧ W.cell? ⟨b7, 1, none⟩ = some (.int .i64 x.htype) ∧ W.cell? ⟨b7, 2, none⟩ = some (.int .i64 x.hlen) ∧ W.cell? ⟨b7, 3, none⟩ = some (.int .i64 x.hops) ∧ W.cell? ⟨b7, 4, none⟩ = some (.int .i64 x.xid) ∧ W.cell? ⟨b7, 5, none⟩ = some (.int .i64 x.secs) ∧ W.cell? ⟨b7, 6, none⟩ = some (.int .i64 x.flags) ∧ W.cell? ⟨b7, 7, none⟩ = some (.int .i64 x.ci) ∧ W.cell? ⟨b7, 8, none⟩ = some (.int .i64 x.yi) ∧ W.cell? ⟨b7, 9, none⟩ = some (.int .i64 x.si) ∧ W.cell? ⟨b7, 10, none⟩ = some (.int .i64 x.gi) ∧ W.cell? ⟨b7, 11, none⟩ = some (.slice x.A x.n x.c) ∧ W.cell? ⟨b7, 12, none⟩ = some (.slice x.B x.m x.d) ∧ W.cell? ⟨b3, 0, none⟩ = some (.int .i64 0) ∧ W.cell? ⟨b3, 1, none⟩ = some (.int .i64 0) ∧ W.cell? ⟨b3, 2, none⟩ = some (.int .i64 0) ∧ W.cell? ⟨b3, 3, none⟩ = some (.int .i64 0) ∧ W.cell? ⟨b3, 4, none⟩ = some (.int .i64 0) ∧ W.cell? ⟨b3, 5, none⟩ = some (.int .i64 0) ∧ W.cell? ⟨b3, 6, none⟩ = some (.int .i64 0) ∧ W.cell? ⟨b3, 7, none⟩ = some (.int .i64 0) ∧ W.cell? ⟨b3, 8, none⟩ = some (.int .i64 0) ∧ W.cell? ⟨b3, 9, none⟩ = some (.int .i64 0) ∧ W.cell? ⟨b3, 10, none⟩ = some (.int .i64 0) ∧ W.cell? ⟨b3, 11, none⟩ = some (.slice (some ⟨b0, 0, none⟩) 16 16) ∧ W.cell? ⟨b3, 12, none⟩ = some (.slice (some ⟨b2, 0, none⟩) 1 1) ∧ (convert 22 9 (.slice A5 8 c5)).run Tryd.prog W = .ok (.string ⟨#[99, 130, 83, 99, 53, 1, 1, 255]⟩) W)
    (first
      | exact K.out _ (Below.refl _ _).drew
      | exact K.out _ hb7A.out
      | exact K.out _ hb7B.out
      | exact K.out _ hb7C.out
      | exact K.out _ hb7D.out)
    (first
      | (go_at_call 10
         with_reducible refine (as_msg x w7.drew).mono ?_
         rintro e wA ⟨rfl, hbA⟩
         have hb7A : Hid (Below w7.heap.size w7 wA) := below_undrew hbA
         clear hbA)
      | (go_at_call 10
         with_reducible refine (as_msg ⟨0, 0, 0, 0, 0, 0, 0, 0, 0, 0, 0, some ⟨b0, 0, none⟩, 16, 16, List.replicate 16 0, some ⟨b2, 0, none⟩, 1, 1, [⟨53, some ⟨b1, 0, none⟩, 1, [1]⟩]⟩ wA).mono ?_
         rintro e wB ⟨rfl, hbB⟩
         have hb7B : Hid (Below w7.heap.size w7 wB) := hb7A.out.trans (hbB.mono hb7A.out.size)
         clear hbB)
      | (go_at_call 14
         with_reducible refine (same_yes x ⟨0, 0, 0, 0, 0, 0, 0, 0, 0, 0, 0, some ⟨b0, 0, none⟩, 16, 16, List.replicate 16 0, some ⟨b2, 0, none⟩, 1, 1, [⟨53, some ⟨b1, 0, none⟩, 1, [1]⟩]⟩ wB (hx7.out.below hb7B.out) (hm7.out.below hb7B.out) HXE.out).mono ?_
         rintro e wC ⟨rfl, hbC⟩
         have hb7C : Hid (Below w7.heap.size w7 wC) := hb7B.out.trans (hbC.mono hb7B.out.size)
         clear hbC)
      | (go_at_call 21
         with_reducible refine (right_any x wC (hx7.out.below hb7C.out)).mono ?_
         rw [HR.out]
         rintro e wD ⟨rfl, hbD⟩
         have hb7D : Hid (Below w7.heap.size w7 wD) := hb7C.out.trans (hbD.mono hb7C.out.size)
         clear hbD))
  all_goals (
    go_wp2
    go_ret
    exact ⟨rfl, hbw7.out.trans (hb7D.out.mono hbw7.out.size)⟩)
end Go.Proofs.YtibcpdimdjipjaaDoor.Mw
