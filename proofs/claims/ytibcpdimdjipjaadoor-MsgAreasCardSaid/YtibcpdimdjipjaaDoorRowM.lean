/- The frame of msg's rows: what their condition gives to the walks, a world that meets it, and an argument of type msg.Msg. No conditions of its own. -/
import Derived.Test.YtibcpdimdjipjaaDoorMwKnows
import Derived.Test.YtibcpdimdjipjaaDoorRowO
import Derived.LaidLaws
import Derived.LaidHandle
import Derived.LaidMore
import Derived.Stop.LaidErr
import Derived.Lib.LaidTab
import Derived.SevenTiedAt
import Derived.Stop.Joined
set_option maxRecDepth 100000
namespace Go.Proofs.YtibcpdimdjipjaaDoor
open Go.ChangeShapes Go.WideShapes Go.ChangeAt Go.RowKit By Mw

theorem gI : Tryd.prog.globalNamed "boarder/msg.errInvalid" = some 0 := by kernel_rfl
theorem gL : Tryd.prog.globalNamed "boarder/msg.errLong" = some 1 := by kernel_rfl
theorem gS : Tryd.prog.globalNamed "boarder/msg.errShort" = some 2 := by kernel_rfl
theorem gF : Tryd.prog.globalNamed "boarder/msg.errForm" = some 5 := by kernel_rfl
theorem gW : Tryd.prog.globalNamed "boarder/msg.widths" = some 3 := by kernel_rfl
theorem gT : Tryd.prog.globalNamed "errors.errorType" = some 4 := by kernel_rfl
theorem tI : (Tryd.prog.globals[0]?).map (·.type) = some 51 := by kernel_rfl
theorem tL : (Tryd.prog.globals[1]?).map (·.type) = some 51 := by kernel_rfl
theorem tS : (Tryd.prog.globals[2]?).map (·.type) = some 51 := by kernel_rfl
theorem tF : (Tryd.prog.globals[5]?).map (·.type) = some 51 := by kernel_rfl
theorem tW : (Tryd.prog.globals[3]?).map (·.type) = some 86 := by kernel_rfl
theorem starES : "*" ++ "errors.errorString" = "*errors.errorString" := by decide
theorem rowES (u : TypeId) (h : Tryd.prog.typeName? 3 u = some "*errors.errorString") : u = 136 :=
  typeName_ptr_named (nm := "errors.errorString") (by rw [starES]; kernel_rfl) (by kernel_rfl) (by decide) u (by rw [starES]; exact h)
theorem handle_of {W : World} {l : List (String × DataW Unit)} (h : handlesMet Tryd.prog l W) (hm : ("errors.errorType", Rows.laid_errors_errorType) ∈ l) : W.cell? ⟨4, 0, none⟩ = some (.iface 114 (.agg #[.pointer (some ⟨6, 51, none⟩)])) := by
  have rt : (Tryd.prog.cutTypes.find? (·.1 == "internal/reflectlite.rtype")).map (·.2) = some 114 := by kernel_rfl
  have oneRow : ((List.range Tryd.prog.types.size).filter fun t => Tryd.prog.rowNamed t [101, 114, 114, 111, 114]) = [51] := by kernel_rfl
  obtain ⟨name, u, ty, e1, e2, e3, e4, e5⟩ := h _ hm
  have en : name = [101, 114, 114, 111, 114] := (Option.some.inj e1).symm
  subst en
  obtain rfl := Option.some.inj (rt.symm.trans e2)
  have hm : ty ∈ (List.range Tryd.prog.types.size).filter fun t => Tryd.prog.rowNamed t [101, 114, 114, 111, 114] := List.mem_filter.2 ⟨List.mem_range.2 e3, e4⟩
  rw [oneRow] at hm
  obtain rfl := List.mem_singleton.1 hm
  have hh : typeHandle Tryd.prog 51 = .pointer (some ⟨6, 51, none⟩) := by kernel_rfl
  rw [hh] at e5
  simpa using World.var?_cell gT e5 0
/-- A sentinel that is listed first: where its text lies. -/
theorem sent_of {n : String} {text : List UInt8} {r : List (String × DataW Unit)} {W : World} {g : Nat} (h : laidMet Tryd.prog ((n, .iface "*errors.errorString" (.ptr (.agg [.lit (.string text)]))) :: r) W) (hg : Tryd.prog.globalNamed n = some g) (ht : (Tryd.prog.globals[g]?).map (·.type) = some 51) :
    ∃ a s, W.cell? ⟨g, 0, none⟩ = some (.iface 136 (.pointer (some a))) ∧ W.cell? a = some (.string s) ∧ s.data.toList = text ∧ Lies W a := by
  obtain ⟨ps, ⟨g0, t0, cs0, f0, p0, q0, hg0, ht0, hv0, hd0, _, e0⟩, _, hrows⟩ := h
  obtain rfl := Option.some.inj (hg.symm.trans hg0)
  obtain rfl := Option.some.inj (ht.symm.trans ht0)
  subst e0
  obtain ⟨l0⟩ := cs0
  have ok0 : ∀ u v, l0 = [.iface u v] → Value.okWide Tryd.prog W .any 0 u v := fun u v e => by
    subst e
    exact (hrows g 0 (by simp [MemPlace.row])).2 u v (by simpa using World.var?_cell hg0 hv0 0)
  obtain ⟨a0, s0, rfl, hc0, hs0, hz0, hp0⟩ := errorString_of_trod Tryd.underlying51 rowES Tryd.underlying136 Tryd.underlying158 rfl rfl Tryd.underlying9 (by kernel_rfl) (by kernel_rfl) hd0 ok0
  exact ⟨a0, s0, by simpa using World.var?_cell hg0 hv0 0, hc0, hs0, (hrows a0.block a0.off (by rw [hp0]; simp [MemPlace.row])).1⟩
theorem text_ne {W : World} {a b : Addr} {s t : ByteArray} (ha : W.cell? a = some (.string s)) (hb : W.cell? b = some (.string t)) (h : s.data.toList ≠ t.data.toList) : a ≠ b := fun e => by
  rw [e, hb] at ha
  injection ha with ha
  injection ha with ha
  exact h (by rw [ha])
theorem env_of {W : World} (h : laidMetH Tryd.prog Rows.msgReadsRow.laid W) : ∃ E : En, E.ok W := by
  have h' : laidMet Tryd.prog [("boarder/msg.errInvalid", Rows.laid_boarder_msg_errInvalid), ("boarder/msg.errShort", Rows.laid_boarder_msg_errShort), ("boarder/msg.errLong", Rows.laid_boarder_msg_errLong), ("boarder/msg.errForm", Rows.laid_boarder_msg_errForm), ("boarder/msg.widths", Rows.laid_boarder_msg_widths)] W ∧ handlesMet Tryd.prog [("errors.errorType", Rows.laid_errors_errorType)] W := h
  obtain ⟨hL, hH⟩ := h'
  obtain ⟨aI, sI, cI, dI, eI, lI⟩ := sent_of hL gI tI
  obtain ⟨aS, sS, cS, dS, eS, lS⟩ := sent_of hL.tail gS tS
  obtain ⟨aL, sL, cL, dL, eL, lL⟩ := sent_of hL.tail.tail gL tL
  obtain ⟨aF, sF, cF, dF, eF, lF⟩ := sent_of hL.tail.tail.tail gF tF
  have hw := hL.tail.tail.tail.tail
  have hT := handle_of hH (List.mem_singleton.2 rfl)
  have hwid : ∀ i (h : i < widL.length), W.cell? ⟨3, i, none⟩ = some (.int .i64 (widL[i] : Nat)) := by
    obtain ⟨ps, ⟨g0, t0, cs0, f0, p0, q0, hg0, ht0, hv0, hd0, _, _⟩, _, _⟩ := hw
    obtain rfl := Option.some.inj (gW.symm.trans hg0)
    obtain rfl := Option.some.inj (tW.symm.trans ht0)
    obtain ⟨l0⟩ := cs0
    have hcs := Lib.cells_of_tab (k := .i64) (zs := [1, 1, 1, 1, 4, 2, 2, 4, 4, 4, 4]) Tryd.underlying86 Tryd.underlying3 (by kernel_rfl) (by kernel_rfl) hd0
    intro i hi
    have := World.var?_cell hg0 hv0 i
    rw [this]
    have hcs' : l0 = [.int .i64 1, .int .i64 1, .int .i64 1, .int .i64 1, .int .i64 4, .int .i64 2, .int .i64 2, .int .i64 4, .int .i64 4, .int .i64 4, .int .i64 4] := hcs
    rw [hcs']
    have h : i = 0 ∨ i = 1 ∨ i = 2 ∨ i = 3 ∨ i = 4 ∨ i = 5 ∨ i = 6 ∨ i = 7 ∨ i = 8 ∨ i = 9 ∨ i = 10 := by simp [widL] at hi; omega
    rcases h with rfl | rfl | rfl | rfl | rfl | rfl | rfl | rfl | rfl | rfl | rfl <;> rfl
  refine ⟨⟨aI, aL, aS, aF⟩, cI, cL, cS, cF, hT, hwid, lI, lL, lS, lF, ?_, ?_, ?_, ?_, ?_, ?_⟩
  · exact text_ne dS dI (by rw [eS, eI]; decide)
  · exact text_ne dL dI (by rw [eL, eI]; decide)
  · exact text_ne dL dS (by rw [eL, eS]; decide)
  · exact text_ne dF dI (by rw [eF, eI]; decide)
  · exact text_ne dF dS (by rw [eF, eS]; decide)
  · exact text_ne dF dL (by rw [eF, eL]; decide)
section
variable {H : Type} {enc : TypeId × Value → H}
/-- A cell that reads as []api.Opt. -/
theorem os_of_trod {P : Program} {TT E I T e S : TypeId} {f0 f1 : Field} (hp : ByP P T e S) (hc : P.cellsOf e = 1) (hTT : P.underlying TT = some (.slice E)) (hE : P.underlying E = some (.struct #[f0, f1])) (hI : P.underlying I = some (.int .i64))
    (t0 : f0.type = I) (t1 : f1.type = T) (ce : P.cellsOf E = 2) (o0 : f0.offset = 0) (o1 : f1.offset = 1) (c0 : P.cellsOf f0.type = 1) (c1 : P.cellsOf f1.type = 1)
    {base : Nat} {held : Bool} {W : World} {v : Value} {fuel : Nat} {x : DataW H × List MemPlace}
    (hf : DataW.trod enc P W base (fun _ => true) held fuel TT [v] = some x) : ∃ A n c qs, v = .slice A n c ∧ RdO W A n c qs := by
  rcases Go.Deep.open_slice_pairs hTT hE ce o0 o1 c0 c1 hf with ⟨h1, _⟩ | ⟨a, len, cap, m, k, V0, V1, D0, D1, P0, P1, h1, _, hlc, hmax, hm, _, hrow⟩
  · simp at h1
    subst h1
    exact ⟨none, 0, 0, [], rfl, RdO.nil W⟩
  · simp at h1
    subst h1
    simp only [if_true] at hm
    have each : ∀ i, i < len → ∃ p : Po, W.cell? (a.add (i * 2)) = some (.int .i64 p.code) ∧ W.cell? (a.add (i * 2 + 1)) = some p.dv ∧ p.bs W := fun i hi => by
      obtain ⟨g1, g2, g3, g4⟩ := hrow i (by omega)
      rw [t0] at g3
      rw [t1] at g4
      obtain ⟨z, hz, _, _⟩ := DataW.trod_int hI g3
      obtain ⟨A', m', c', l', hv, hbs⟩ := bs_of_trod hp hc g4
      simp at hz
      rw [hz] at g1
      rw [hv] at g2
      have hl := hbs.len
      subst hl
      exact ⟨⟨z, A', c', l'⟩, g1, g2, hbs⟩
    obtain ⟨qs, hlen, hqs⟩ := list_of_all len each
    refine ⟨some a, len, cap, qs, rfl, ⟨by rw [cellsP_len, hlen], hlc, hmax, fun hn => ?_⟩, fun p hp => ?_⟩
    · obtain ⟨b, o, rfl⟩ := plain_addr (by have := (hqs 0 (by omega)).1; simpa using this)
      refine ⟨b, o, rfl, fun i hi => ?_⟩
      rw [cellsP_len, hlen] at hi
      obtain ⟨j, hj⟩ : ∃ j, i = j * 2 ∨ i = j * 2 + 1 := ⟨i / 2, by omega⟩
      rcases hj with rfl | rfl
      · have hjl : j < qs.length := by omega
        have g := (hqs j hjl).1
        have gc := (cellsP_get hjl).1
        rw [add_none] at g
        rw [g, ← gc, List.getElem?_eq_getElem]
      · have hjl : j < qs.length := by omega
        have g := (hqs j hjl).2.1
        have gc := (cellsP_get hjl).2
        rw [add_none] at g
        rw [g, ← gc, List.getElem?_eq_getElem]
    · obtain ⟨i, hi, rfl⟩ := List.mem_iff_getElem.1 hp
      exact (hqs i hi).2.2
/-- An argument of type msg.Msg. -/
theorem open_msg {base b0 : Nat} {held : Bool} {r : Reach} {W : World} {v : Value} {d : DataW H} {ps : List MemPlace}
    (hval : Value.okWide Tryd.prog W r b0 25 v) (h : DataW.Trod enc Tryd.prog W base (fun _ => true) held 25 v d ps) : ∃ x : Mv, v = x.v ∧ x.ok W := by
  obtain ⟨cs, rfl, hsz⟩ := okWide_struct Tryd.underlying25 hval
  obtain ⟨fuel, hf⟩ := h
  have hsz13 : cs.size = 13 := hsz.trans (by kernel_rfl)
  have k3 : Tryd.prog.cellsOf 3 = 1 := by kernel_rfl
  have kb : Tryd.prog.cellsOf 22 = 1 := by kernel_rfl
  have ko : Tryd.prog.cellsOf 23 = 1 := by kernel_rfl
  obtain ⟨l⟩ := cs
  match l, hsz13 with
  | [c0, c1, c2, c3, c4, c5, c6, c7, c8, c9, c10, c11, c12], _ =>
    obtain ⟨xs, n, _, _, _, hlen, hfs⟩ := DataW.trod_struct Tryd.underlying25 hf
    match xs, hlen with
    | [y0, y1, y2, y3, y4, y5, y6, y7, y8, y9, y10, y11, y12], _ =>
      have g0 : DataW.trod enc Tryd.prog W base (fun _ => true) held n 3 [c0] = some y0 := by have := hfs 0 _ rfl; simpa [k3, Value.cells] using this
      obtain ⟨z0, e0, _, _⟩ := DataW.trod_int Tryd.underlying3 g0
      have g1 : DataW.trod enc Tryd.prog W base (fun _ => true) held n 3 [c1] = some y1 := by have := hfs 1 _ rfl; simpa [k3, Value.cells] using this
      obtain ⟨z1, e1, _, _⟩ := DataW.trod_int Tryd.underlying3 g1
      have g2 : DataW.trod enc Tryd.prog W base (fun _ => true) held n 3 [c2] = some y2 := by have := hfs 2 _ rfl; simpa [k3, Value.cells] using this
      obtain ⟨z2, e2, _, _⟩ := DataW.trod_int Tryd.underlying3 g2
      have g3 : DataW.trod enc Tryd.prog W base (fun _ => true) held n 3 [c3] = some y3 := by have := hfs 3 _ rfl; simpa [k3, Value.cells] using this
      obtain ⟨z3, e3, _, _⟩ := DataW.trod_int Tryd.underlying3 g3
      have g4 : DataW.trod enc Tryd.prog W base (fun _ => true) held n 3 [c4] = some y4 := by have := hfs 4 _ rfl; simpa [k3, Value.cells] using this
      obtain ⟨z4, e4, _, _⟩ := DataW.trod_int Tryd.underlying3 g4
      have g5 : DataW.trod enc Tryd.prog W base (fun _ => true) held n 3 [c5] = some y5 := by have := hfs 5 _ rfl; simpa [k3, Value.cells] using this
      obtain ⟨z5, e5, _, _⟩ := DataW.trod_int Tryd.underlying3 g5
      have g6 : DataW.trod enc Tryd.prog W base (fun _ => true) held n 3 [c6] = some y6 := by have := hfs 6 _ rfl; simpa [k3, Value.cells] using this
      obtain ⟨z6, e6, _, _⟩ := DataW.trod_int Tryd.underlying3 g6
      have g7 : DataW.trod enc Tryd.prog W base (fun _ => true) held n 3 [c7] = some y7 := by have := hfs 7 _ rfl; simpa [k3, Value.cells] using this
      obtain ⟨z7, e7, _, _⟩ := DataW.trod_int Tryd.underlying3 g7
      have g8 : DataW.trod enc Tryd.prog W base (fun _ => true) held n 3 [c8] = some y8 := by have := hfs 8 _ rfl; simpa [k3, Value.cells] using this
      obtain ⟨z8, e8, _, _⟩ := DataW.trod_int Tryd.underlying3 g8
      have g9 : DataW.trod enc Tryd.prog W base (fun _ => true) held n 3 [c9] = some y9 := by have := hfs 9 _ rfl; simpa [k3, Value.cells] using this
      obtain ⟨z9, e9, _, _⟩ := DataW.trod_int Tryd.underlying3 g9
      have g10 : DataW.trod enc Tryd.prog W base (fun _ => true) held n 3 [c10] = some y10 := by have := hfs 10 _ rfl; simpa [k3, Value.cells] using this
      obtain ⟨z10, e10, _, _⟩ := DataW.trod_int Tryd.underlying3 g10
      have g11 : DataW.trod enc Tryd.prog W base (fun _ => true) held n 22 [c11] = some y11 := by have := hfs 11 _ rfl; simpa [kb, Value.cells] using this
      have g12 : DataW.trod enc Tryd.prog W base (fun _ => true) held n 23 [c12] = some y12 := by have := hfs 12 _ rfl; simpa [ko, Value.cells] using this
      obtain ⟨A, m, c, l, e11, hb⟩ := bs_of_trod byP (by kernel_rfl) g11
      obtain ⟨A', m', c', qs, e12, hq⟩ := os_of_trod byP (by kernel_rfl) Tryd.underlying23 Tryd.underlying45 Tryd.underlying3 rfl rfl (by kernel_rfl) rfl rfl (by kernel_rfl) (by kernel_rfl) g12
      simp only [List.cons.injEq, and_true] at e0 e1 e2 e3 e4 e5 e6 e7 e8 e9 e10
      subst e0 e1 e2 e3 e4 e5 e6 e7 e8 e9 e10 e11 e12
      exact ⟨⟨z0, z1, z2, z3, z4, z5, z6, z7, z8, z9, z10, A, m, c, l, A', m', c', qs⟩, rfl, hb, hq⟩
end

/-! ### A world that meets the condition -/
noncomputable def low : Nat := (World.holding Tryd.prog default ⟨#[], #[], []⟩).heap.size
def setVar (g : Nat) (cs : Array Value) (h : Array Obj) : Array Obj := h.modify g fun
  | .cells _ t frozen => .cells cs t frozen
  | o => o
noncomputable def laidWorld (os : Os) : World :=
  let w0 := World.holding Tryd.prog os ⟨#[.cells #[.string ⟨#[116, 104, 101, 32, 109, 101, 115, 115, 97, 103, 101, 32, 105, 115, 32, 110, 111, 116, 32, 118, 97, 108, 105, 100]⟩] 158, .cells #[.string ⟨#[116, 111, 111, 32, 102, 101, 119, 32, 98, 121, 116, 101, 115]⟩] 158, .cells #[.string ⟨#[116, 111, 111, 32, 109, 97, 110, 121, 32, 98, 121, 116, 101, 115]⟩] 158, .cells #[.string ⟨#[98, 121, 116, 101, 115, 32, 116, 104, 97, 116, 32, 109, 97, 121, 32, 110, 111, 116, 32, 115, 116, 97, 110, 100, 32, 116, 104, 101, 114, 101]⟩] 158], #[], []⟩
  { w0 with heap := setVar 0 #[.iface 136 (.pointer (some ⟨low, 0, none⟩))] (setVar 2 #[.iface 136 (.pointer (some ⟨low + 1, 0, none⟩))] (setVar 1 #[.iface 136 (.pointer (some ⟨low + 2, 0, none⟩))] (setVar 5 #[.iface 136 (.pointer (some ⟨low + 3, 0, none⟩))]
      (setVar 3 #[.int .i64 1, .int .i64 1, .int .i64 1, .int .i64 1, .int .i64 4, .int .i64 2, .int .i64 2, .int .i64 4, .int .i64 4, .int .i64 4, .int .i64 4] (setVar 4 #[.iface 114 (.agg #[.pointer (some ⟨6, 51, none⟩)])] w0.heap))))) }
theorem laidWorld_met (os : Os) (args : Array Value) : laidMetH Tryd.prog Rows.msgReadsRow.laid ((laidWorld os).forCall (fun _ _ => 0) ⟨#[], args, []⟩).memory :=
  laidMetH_of_parts (laidMet_of_run' 8 (by kernel_rfl) (by kernel_rfl)) (by kernel_rfl)
end Go.Proofs.YtibcpdimdjipjaaDoor
