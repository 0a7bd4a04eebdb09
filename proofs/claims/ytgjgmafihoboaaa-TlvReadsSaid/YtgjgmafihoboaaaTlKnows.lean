/- The rows of the document's examples answer yes. -/
import Derived.Test.YtgjgmafihoboaaaTlJoin
import Derived.Lib.SlBytesConst
namespace Go.Proofs.Ytgjgmafihoboaaa.By
open Go.RowKit Tl
theorem Own.made (e : Nat) (w : World) (n : Nat) (hn : n ≤ 9223372036854775807) : Own e w.heap.size (w.alloc (.cells (madeCells (Value.int .u8 0).cells n) e)) (some ⟨w.heap.size, 0, none⟩) n n (List.replicate n 0) := by
  have h := World.ownsRow_lit (e := e) (size := 1) w (madeCells (Value.int .u8 0).cells n) n (Nat.le_refl _) (by unfold maxLen; omega) (by rw [size_madeCells]; omega)
  have e1 : (madeCells (Value.int .u8 0).cells n).toList = cellsU (List.replicate n 0) := by
    have e2 : (Value.int .u8 0).cells = #[Value.int .u8 0] := rfl
    rw [e2, toList_madeCells_one]
    simp [cellsU]
  rw [e1] at h
  exact h
theorem ByP.make {P : Program} {T e S : TypeId} (hp : ByP P T e S) (n : Nat) (hn : n ≤ 1000000) (W : World) : (Instr.makeSlice T (.int .i64 (n : Int)) (.int .i64 (n : Int))).run P W = .ok (.slice (some ⟨W.heap.size, 0, none⟩) n n) (W.alloc (.cells (madeCells (Value.int .u8 0).cells n) e)) := by
  obtain ⟨i, hi, hz, hs1, hby⟩ := info_parts hp.hi
  have := run_make (P := P) W T e i _ hp.hT hi hz .i64 .i64 (n : Int) (n : Int) (by omega) (by omega) (by rw [hby]; omega) (by omega)
  rw [hs1] at this
  simpa using this
theorem OwnC.lits (e : Nat) (w : World) (ps : List Po) (n : Nat) (cs : Array Value) (hcs : cs.toList = cellsP ps) (hn : ps.length = n) (hm : n ≤ 9223372036854775807) : OwnC e w.heap.size (w.alloc (.cells cs e)) (some ⟨w.heap.size, 0, none⟩) n n ps := by
  have h := World.ownsRow_lit (e := e) (size := 2) w cs n (Nat.le_refl _) (by unfold maxLen; omega) (by rw [← Array.length_toList, hcs, cellsP_len, hn])
  rw [hcs] at h
  exact h
end Go.Proofs.Ytgjgmafihoboaaa.By
namespace Go.Proofs.Ytgjgmafihoboaaa
open Go.RowKit Tl By

set_option maxRecDepth 100000 in
set_option maxHeartbeats 4000000 in
theorem knows_yes (w : World) : Calls Try.prog 11 #[] w fun e w' => e = .returned (.bool true) ∧ Below w.heap.size w w' := by
  have H1 := Lib.hid (show writeL [(53, [1]), (12, [])] = [53, 1, 1, 12, 0, 255] by simp [writeL, bodyL, one_small, codeB])
  have H2 := Lib.hid (show readL [] [0, 53, 1, 1, 12, 0, 255, 7] = ([(53, [1]), (12, [])], 0) by decide +kernel)
  have H3 := Lib.hid (show findL [(53, [1]), (12, [])] 53 = some [1] by decide +kernel)
  have H4 : Hid ((writeL [(9, List.replicate 300 0)]).length = 305) := by
    show (writeL [(9, List.replicate 300 0)]).length = 305
    have e1 : bodyL [(9, List.replicate 300 0)] = oneL 9 (List.replicate 300 0) := by simp [bodyL]
    unfold writeL
    rw [e1, List.length_append, one_big (by rw [List.length_replicate]; omega), one_small (by rw [List.length_drop, List.length_replicate]; omega)]
    simp only [List.length_cons, List.length_append, List.length_take, List.length_drop, List.length_replicate, List.length_nil]
    omega
  have H5 := Lib.hid (show rightL [(53, [1]), (12, [])] = true by decide +kernel)
  have H6 : Hid (rightL [(9, List.replicate 300 0)] = true) := by
    show rightL [(9, List.replicate 300 0)] = true
    rw [right_iff]
    refine ⟨by simp, fun o ho => ?_, by simp [codesL]⟩
    simp only [List.mem_singleton] at ho
    subst ho
    refine ⟨by omega, by omega, ?_⟩
    show (List.replicate 300 (0 : UInt8)).length ≤ 600
    rw [List.length_replicate]
    omega
  have hb0 : Below w.heap.size w (w.alloc (Obj.cells #[Value.int IntKind.u8 1] 5)) := (Below.refl _ _).alloc (Nat.le_refl _) _
  have hrd1 : RdO ((w.alloc (Obj.cells #[Value.int IntKind.u8 1] 5)).alloc (Obj.cells #[Value.int IntKind.i64 53, Value.slice (some ⟨w.heap.size, 0, none⟩) 1 1, Value.int IntKind.i64 12, Value.slice none 0 0] 44)) (some ⟨w.heap.size + 1, 0, none⟩) 2 2 [⟨53, some ⟨w.heap.size, 0, none⟩, 1, [1]⟩, ⟨12, none, 0, []⟩] := by
    have h1 := (OwnC.lits 44 (w.alloc (Obj.cells #[Value.int IntKind.u8 1] 5)) [⟨53, some ⟨w.heap.size, 0, none⟩, 1, [1]⟩, ⟨12, none, 0, []⟩] 2 #[Value.int IntKind.i64 53, Value.slice (some ⟨w.heap.size, 0, none⟩) 1 1, Value.int IntKind.i64 12, Value.slice none 0 0] rfl rfl (by omega)).rdc
    rw [show (w.alloc (Obj.cells #[Value.int IntKind.u8 1] 5)).heap.size = w.heap.size + 1 by simp] at h1
    refine ⟨h1, fun p hp => ?_⟩
    simp only [List.mem_cons, List.not_mem_nil, or_false] at hp
    rcases hp with rfl | rfl
    · exact (Own.lit1 5 w 1).bs.alloc _
    · exact Bs.nil _
  have hb1 : Below w.heap.size w ((w.alloc (Obj.cells #[Value.int IntKind.u8 1] 5)).alloc (Obj.cells #[Value.int IntKind.i64 53, Value.slice (some ⟨w.heap.size, 0, none⟩) 1 1, Value.int IntKind.i64 12, Value.slice none 0 0] 44)) := hb0.alloc (by simp) _
  have HC1 := Lib.hid (write_yes _ 2 2 _ _ hrd1 H5.out)
  clear hrd1 hb0
  go_enter Try.func11, Try.ntmps11
  go_wp2_with fail
  refine HC1.out.mono ?_
  rintro e w1 ⟨A1, n1, c1, rfl, hown1, hbw1⟩
  have hb01 := hb1.trans (hbw1.mono hb1.size)
  have hown1' : Own 5 w.heap.size w1 A1 n1 c1 [53, 1, 1, 12, 0, 255] := by rw [← H1.out]; exact hown1.mono hb1.size
  clear hown1 hbw1 HC1
  have kc := Lib.run_convert_bytes_const (P := Try.prog) w1 25 5 #[.int .u8 0, .int .u8 53, .int .u8 1, .int .u8 1, .int .u8 12, .int .u8 0, .int .u8 255, .int .u8 7] 8 8 byP.hT byP.he
  have hbs2 := Bs.const w1 5 (8, 8 + 1) [0, 53, 1, 1, 12, 0, 255, 7] (by decide)
  have hb2 : Below w1.heap.size w1 (w1.alloc (.cells (cellsU [0, 53, 1, 1, 12, 0, 255, 7]).toArray 5 (8, 8 + 1))) := (Below.refl _ _).alloc (Nat.le_refl _) _
  have HC2 := Lib.hid (read_any _ _ _ _ _ hbs2)
  clear hbs2
  go_wp2_with fail
  refine HC2.out.mono ?_
  rw [H2.out]
  rintro e w2 ⟨A2, n2, c2, ps, rfl, hps, hown2, hbw2⟩
  have hps' : osP ps = [(53, [1]), (12, [])] := hps
  have hb12 : Below w1.heap.size w1 w2 := hb2.trans (hbw2.mono (by simp))
  have hrd2 := hown2.rd
  obtain rfl : n2 = 2 := by rw [← hrd2.len, ← os_len, hps']; rfl
  have HPS := Lib.hid hps'
  clear hps hps' hown2 hbw2 hb2 HC2 kc
  obtain ⟨b, o, co, A', m', c', l', rfl, hcell0, _, _, _, HO, _, _, _⟩ := hrd2.at_ (k := 1) (by omega)
  have hco : co = 12 := by
    obtain ⟨g1, g2⟩ := HO.out
    have e1 : (osP ps)[1]? = some (co, l') := by rw [List.getElem?_eq_getElem g1, g2]
    rw [HPS.out] at e1
    simp at e1
    exact e1.1.symm
  subst hco
  have hblt : b < w2.heap.size := World.block_lt_of_cell? w2 _ hcell0
  have HCE : Hid (∀ W, Below w2.heap.size w2 W → W.cell? ⟨b, o + 2, none⟩ = some (.int .i64 12)) := fun W hW => (hW.cell (p := ⟨b, o + 2, none⟩) hblt).trans hcell0
  have HSM : Hid (∀ p ∈ ps, p.l.length ≤ 1000) := fun p hp => by
    have h1 := os_mem hp
    rw [HPS.out] at h1
    simp only [List.mem_cons, List.not_mem_nil, or_false] at h1
    rcases h1 with h1 | h1
    · have : p.l = [1] := by injection h1
      rw [this]; simp
    · have : p.l = [] := by injection h1
      rw [this]; simp
  have HCF := Lib.hid (find_any _ 2 c2 ps 53 w2 hrd2 HSM.out)
  have hcap2 := hrd2.cap
  clear hcell0 HO
  go_wp2_with fail
  refine HCF.out.mono ?_
  rw [HPS.out, H3.out]
  rintro e w3 ⟨A3, m3, c3, rfl, hbs3, hb3⟩
  have hbs3' : Bs w3 A3 m3 c3 [1] := hbs3
  clear hbs3 HCF
  obtain ⟨z, hz⟩ : ∃ z : List UInt8, z = List.replicate 300 0 := ⟨_, rfl⟩
  obtain ⟨CS, hCS⟩ : ∃ CS, CS = madeCells (Value.int .u8 0).cells 300 := ⟨_, rfl⟩
  have hmk : ∀ W : World, (Instr.makeSlice 25 (.int .i64 300) (.int .i64 300)).run Try.prog W = .ok (.slice (some ⟨W.heap.size, 0, none⟩) 300 300) (W.alloc (.cells CS 5)) := fun W => by rw [hCS]; exact byP.make 300 (by omega) W
  have hzl : z.length = 300 := by rw [hz, List.length_replicate]
  have hmade : Bs (w3.alloc (.cells CS 5)) (some ⟨w3.heap.size, 0, none⟩) 300 300 z := by
    rw [hCS, hz]
    exact (Own.made 5 w3 300 (by omega)).bs
  have hrd4 : RdO ((w3.alloc (.cells CS 5)).alloc (Obj.cells #[Value.int IntKind.i64 9, Value.slice (some ⟨w3.heap.size, 0, none⟩) 300 300] 44)) (some ⟨w3.heap.size + 1, 0, none⟩) 1 1 [⟨9, some ⟨w3.heap.size, 0, none⟩, 300, z⟩] := by
    have h1 := (OwnC.lits 44 (w3.alloc (.cells CS 5)) [⟨9, some ⟨w3.heap.size, 0, none⟩, 300, z⟩] 1 #[Value.int IntKind.i64 9, Value.slice (some ⟨w3.heap.size, 0, none⟩) 300 300] (by simp [cellsP, Po.cells, Po.dv, hzl]) rfl (by omega)).rdc
    rw [show (w3.alloc (.cells CS 5)).heap.size = w3.heap.size + 1 by simp] at h1
    refine ⟨h1, fun p hp => ?_⟩
    simp only [List.mem_singleton] at hp
    subst hp
    show Bs _ (some ⟨w3.heap.size, 0, none⟩) z.length 300 z
    rw [hzl]
    exact hmade.alloc _
  have H7 : Hid (rightL (osP [⟨9, some ⟨w3.heap.size, 0, none⟩, 300, z⟩]) = true) := by
    show rightL [(9, z)] = true
    rw [hz]
    exact H6.out
  have H8 : Hid ((writeL (osP [⟨9, some ⟨w3.heap.size, 0, none⟩, 300, z⟩])).length = 305) := by
    show (writeL [(9, z)]).length = 305
    rw [hz]
    exact H4.out
  have HC4 := Lib.hid (write_yes _ 1 1 _ _ hrd4 H7.out)
  have hb34 : Below w3.heap.size w3 ((w3.alloc (.cells CS 5)).alloc (Obj.cells #[Value.int IntKind.i64 9, Value.slice (some ⟨w3.heap.size, 0, none⟩) 300 300] 44)) := ((Below.refl _ _).alloc (Nat.le_refl _) _).alloc (by simp) _
  clear hCS hz hzl hmade hrd4
  go_wp2_with fail
  refine HC4.out.mono ?_
  rintro e w4 ⟨A4, n4, c4, rfl, hown4, hbw4⟩
  obtain rfl : n4 = 305 := by rw [← hown4.bs.len]; exact H8.out
  have hb4 : Below w3.heap.size w3 w4 := hb34.trans (hbw4.mono hb34.size)
  have hb24 : Below w2.heap.size w2 w4 := hb3.trans (hb4.mono hb3.size)
  have hb14 : Below w1.heap.size w1 w4 := hb12.trans (hb24.mono hb12.size)
  have hb04 : Below w.heap.size w w4 := hb01.trans (hb14.mono hb01.size)
  have hcell := HCE.out w4 hb24
  have hcv1 := byP.str (hown1'.below hb14).bs
  have hcv2 := byP.str (hbs3'.below hb4)
  have hrd5 := hrd2.below hb24
  clear hmk hown4 hbw4 hb34 HC4 hb3 hb4 hb12 hb01 hb1
  go_wp2_with fail
  refine (right_any _ _ _ _ _ hrd5).mono ?_
  rw [HPS.out, H5.out]
  rintro e w5 ⟨rfl, hb5⟩
  go_wp2
  go_ret
  exact ⟨rfl, hb04.trans (hb5.mono hb04.size)⟩
end Go.Proofs.Ytgjgmafihoboaaa
