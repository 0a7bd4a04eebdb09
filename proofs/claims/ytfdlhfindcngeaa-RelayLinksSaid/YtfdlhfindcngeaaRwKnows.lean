/- The rows of the document's examples of layer 6 answer yes. -/
import Derived.Test.YtfdlhfindcngeaaRwBytes
import Derived.Test.YtfdlhfindcngeaaRwLink
namespace Go.Proofs.Ytfdlhfindcngeaa.Rw
open Go.RowKit Tl Co By Ry

set_option maxRecDepth 8000 in
set_option maxHeartbeats 1600000 in
theorem knows_yes (w : World) : Calls Try.prog 9 #[] w fun e w' => e = .returned (.bool true) ∧ Below w.heap.size w w' := by
  have H1 := Lib.hid (show partsR [1, 1, 7, 5, 4, 10, 0, 0, 1] = ([(1, [7]), (5, [10, 0, 0, 1])], 0) by decide +kernel)
  have H2 := Lib.hid (show bytesR [(1, [7]), (5, [10, 0, 0, 1])] = ([1, 1, 7, 5, 4, 10, 0, 0, 1], 0) by decide +kernel)
  have H3 := Lib.hid (show linkR [1, 1, 7, 5, 4, 10, 0, 0, 1] = some 167772161 by decide +kernel)
  have hbs : Bs (w.alloc (.cells #[.int .u8 1, .int .u8 1, .int .u8 7, .int .u8 5, .int .u8 4, .int .u8 10, .int .u8 0, .int .u8 0, .int .u8 1] 5)) (some ⟨w.heap.size, 0, none⟩) 9 9 [1, 1, 7, 5, 4, 10, 0, 0, 1] := Bs.const w 5 (0, 0) [1, 1, 7, 5, 4, 10, 0, 0, 1] (by decide)
  have hb0 : Below w.heap.size w (w.alloc (.cells #[.int .u8 1, .int .u8 1, .int .u8 7, .int .u8 5, .int .u8 4, .int .u8 10, .int .u8 0, .int .u8 0, .int .u8 1] 5)) := (Below.refl _ _).alloc (Nat.le_refl _) _
  have HP := Lib.hid (parts_any _ _ _ _ _ hbs)
  rw [H1.out] at HP
  go_enter Try.func9, Try.ntmps9
  go_wp2_with fail
  refine HP.out.mono ?_
  rintro e w1 ⟨A1, n1, c1, ps, rfl, hps, hrd, hb1⟩
  have hps' : osP ps = [(1, [7]), (5, [10, 0, 0, 1])] := hps
  obtain rfl : n1 = 2 := by rw [← hrd.len, ← os_len, hps']; rfl
  have HB := Lib.hid (bytes_any A1 2 c1 ps w1 hrd (by omega))
  rw [hps', H2.out] at HB
  have hbs1 := hbs.below hb1
  have hb01 := hb0.trans (hb1.mono hb0.size)
  have HRD := Lib.hid hrd
  have HPS := Lib.hid hps'
  clear hps hps' hrd hbs hb1 HP
  go_wp2_with fail
  refine HB.out.mono ?_
  rintro e w2 ⟨A2, n2, c2, rfl, hown2, hb2⟩
  have hown2' : Own 5 w1.heap.size w2 A2 n2 c2 [1, 1, 7, 5, 4, 10, 0, 0, 1] := hown2
  have hbs2 := hbs1.below hb2
  have HK := Lib.hid (linkOf_any _ _ _ _ w2 hbs2)
  rw [H3.out] at HK
  clear hbs1 hown2 HB
  go_wp2_with fail
  refine HK.out.mono ?_
  rintro e w3 ⟨rfl, hb3⟩
  have hb13 := hb2.trans (hb3.mono hb2.size)
  obtain ⟨b, o, co, A', m, c', d, rfl, hcell, hcell2, _, _, HO, _, _, _⟩ := (HRD.out.below hb13).at_ (k := 1) (by omega)
  obtain rfl : co = 5 := by
    obtain ⟨g1, g2⟩ := HO.out
    simp only [HPS.out] at g2
    have := congrArg Prod.fst g2
    exact this.symm
  have hcap1 := HRD.out.cap
  have hcv1 := byP.str (hown2'.bs.below hb3)
  have hcv2 := byP.str (hbs2.below hb3)
  clear HK hown2' hbs2
  go_wp2
  go_ret
  exact ⟨rfl, hb01.trans (hb13.mono hb01.size)⟩
end Go.Proofs.Ytfdlhfindcngeaa.Rw
