/- The frame of the engine's rows: what its condition gives to the walk, and a world that meets it. No conditions of its own. (RowM, over these rows.) -/
import Derived.Test.YtoldppbakapohaaGreatDoorMwRw
import Derived.Test.YtoldppbakapohaaGreatDoorRowA
import Derived.Test.YtoldppbakapohaaGreatDoorRowMs
import Derived.LaidLaws
import Derived.LaidHandle
import Derived.LaidMore
import Derived.Stop.LaidErr
import Derived.Lib.LaidTab
import Derived.SevenTiedAt
import Derived.Stop.Joined
set_option maxRecDepth 100000
namespace Go.Proofs.YtoldppbakapohaaGreatDoor
open Go.ChangeShapes Go.WideShapes Go.ChangeAt Go.RowKit By Mw

theorem gI : Tryz.prog.globalNamed "boarder/msg.errInvalid" = some 0 := by kernel_rfl
theorem gL : Tryz.prog.globalNamed "boarder/msg.errLong" = some 1 := by kernel_rfl
theorem gS : Tryz.prog.globalNamed "boarder/msg.errShort" = some 2 := by kernel_rfl
theorem gW : Tryz.prog.globalNamed "boarder/msg.widths" = some 3 := by kernel_rfl
theorem gT : Tryz.prog.globalNamed "errors.errorType" = some 4 := by kernel_rfl
theorem tI : (Tryz.prog.globals[0]?).map (·.type) = some 233 := by kernel_rfl
theorem tL : (Tryz.prog.globals[1]?).map (·.type) = some 233 := by kernel_rfl
theorem tS : (Tryz.prog.globals[2]?).map (·.type) = some 233 := by kernel_rfl
theorem tW : (Tryz.prog.globals[3]?).map (·.type) = some 256 := by kernel_rfl
theorem starES : "*" ++ "errors.errorString" = "*errors.errorString" := by decide
theorem rowES (u : TypeId) (h : Tryz.prog.typeName? 3 u = some "*errors.errorString") : u = 294 :=
  typeName_ptr_named (nm := "errors.errorString") (by rw [starES]; kernel_rfl) (by kernel_rfl) (by decide) u (by rw [starES]; exact h)
theorem handle_of {W : World} {l : List (String × DataW Unit)} (h : handlesMet Tryz.prog l W) (hm : ("errors.errorType", Rows.laid_errors_errorType) ∈ l) : W.cell? ⟨4, 0, none⟩ = some (.iface 276 (.agg #[.pointer (some ⟨5, 233, none⟩)])) := by
  have rt : (Tryz.prog.cutTypes.find? (·.1 == "internal/reflectlite.rtype")).map (·.2) = some 276 := by kernel_rfl
  have oneRow : ((List.range Tryz.prog.types.size).filter fun t => Tryz.prog.rowNamed t [101, 114, 114, 111, 114]) = [233] := by kernel_rfl
  obtain ⟨name, u, ty, e1, e2, e3, e4, e5⟩ := h _ hm
  have en : name = [101, 114, 114, 111, 114] := (Option.some.inj e1).symm
  subst en
  obtain rfl := Option.some.inj (rt.symm.trans e2)
  have hm : ty ∈ (List.range Tryz.prog.types.size).filter fun t => Tryz.prog.rowNamed t [101, 114, 114, 111, 114] := List.mem_filter.2 ⟨List.mem_range.2 e3, e4⟩
  rw [oneRow] at hm
  obtain rfl := List.mem_singleton.1 hm
  have hh : typeHandle Tryz.prog 233 = .pointer (some ⟨5, 233, none⟩) := by kernel_rfl
  rw [hh] at e5
  simpa using World.var?_cell gT e5 0
/-- A sentinel that is listed first: where its text lies. -/
theorem sent_of {n : String} {text : List UInt8} {r : List (String × DataW Unit)} {W : World} {g : Nat} (h : laidMet Tryz.prog ((n, .iface "*errors.errorString" (.ptr (.agg [.lit (.string text)]))) :: r) W) (hg : Tryz.prog.globalNamed n = some g) (ht : (Tryz.prog.globals[g]?).map (·.type) = some 233) :
    ∃ a s, W.cell? ⟨g, 0, none⟩ = some (.iface 294 (.pointer (some a))) ∧ W.cell? a = some (.string s) ∧ s.data.toList = text ∧ Lies W a := by
  obtain ⟨ps, ⟨g0, t0, cs0, f0, p0, q0, hg0, ht0, hv0, hd0, _, e0⟩, _, hrows⟩ := h
  obtain rfl := Option.some.inj (hg.symm.trans hg0)
  obtain rfl := Option.some.inj (ht.symm.trans ht0)
  subst e0
  obtain ⟨l0⟩ := cs0
  have ok0 : ∀ u v, l0 = [.iface u v] → Value.okWide Tryz.prog W .any 0 u v := fun u v e => by
    subst e
    exact (hrows g 0 (by simp [MemPlace.row])).2 u v (by simpa using World.var?_cell hg0 hv0 0)
  obtain ⟨a0, s0, rfl, hc0, hs0, hz0, hp0⟩ := errorString_of_trod Tryz.underlying233 rowES Tryz.underlying294 Tryz.underlying315 rfl rfl Tryz.underlying9 (by kernel_rfl) (by kernel_rfl) hd0 ok0
  exact ⟨a0, s0, by simpa using World.var?_cell hg0 hv0 0, hc0, hs0, (hrows a0.block a0.off (by rw [hp0]; simp [MemPlace.row])).1⟩
theorem text_ne {W : World} {a b : Addr} {s t : ByteArray} (ha : W.cell? a = some (.string s)) (hb : W.cell? b = some (.string t)) (h : s.data.toList ≠ t.data.toList) : a ≠ b := fun e => by
  rw [e, hb] at ha
  injection ha with ha
  injection ha with ha
  exact h (by rw [ha])
theorem env_of {W : World} (h : laidMetH Tryz.prog Rows.engineHandlesRow.laid W) : ∃ E : En, E.ok W := by
  have h' : laidMet Tryz.prog [("boarder/msg.errInvalid", Rows.laid_boarder_msg_errInvalid), ("boarder/msg.errShort", Rows.laid_boarder_msg_errShort), ("boarder/msg.errLong", Rows.laid_boarder_msg_errLong), ("boarder/msg.widths", Rows.laid_boarder_msg_widths)] W ∧ handlesMet Tryz.prog [("errors.errorType", Rows.laid_errors_errorType)] W := h
  obtain ⟨hL, hH⟩ := h'
  obtain ⟨aI, sI, cI, dI, eI, lI⟩ := sent_of hL gI tI
  obtain ⟨aS, sS, cS, dS, eS, lS⟩ := sent_of hL.tail gS tS
  obtain ⟨aL, sL, cL, dL, eL, lL⟩ := sent_of hL.tail.tail gL tL
  have hw := hL.tail.tail.tail
  have hT := handle_of hH (List.mem_singleton.2 rfl)
  have hwid : ∀ i (h : i < widL.length), W.cell? ⟨3, i, none⟩ = some (.int .i64 (widL[i] : Nat)) := by
    obtain ⟨ps, ⟨g0, t0, cs0, f0, p0, q0, hg0, ht0, hv0, hd0, _, _⟩, _, _⟩ := hw
    obtain rfl := Option.some.inj (gW.symm.trans hg0)
    obtain rfl := Option.some.inj (tW.symm.trans ht0)
    obtain ⟨l0⟩ := cs0
    have hcs := Lib.cells_of_tab (k := .i64) (zs := [1, 1, 1, 1, 4, 2, 2, 4, 4, 4, 4]) Tryz.underlying256 Tryz.underlying3 (by kernel_rfl) (by kernel_rfl) hd0
    intro i hi
    have := World.var?_cell hg0 hv0 i
    rw [this]
    have hcs' : l0 = [.int .i64 1, .int .i64 1, .int .i64 1, .int .i64 1, .int .i64 4, .int .i64 2, .int .i64 2, .int .i64 4, .int .i64 4, .int .i64 4, .int .i64 4] := hcs
    rw [hcs']
    have h : i = 0 ∨ i = 1 ∨ i = 2 ∨ i = 3 ∨ i = 4 ∨ i = 5 ∨ i = 6 ∨ i = 7 ∨ i = 8 ∨ i = 9 ∨ i = 10 := by simp [widL] at hi; omega
    rcases h with rfl | rfl | rfl | rfl | rfl | rfl | rfl | rfl | rfl | rfl | rfl <;> rfl
  refine ⟨⟨aI, aL, aS⟩, cI, cL, cS, hT, hwid, lI, lL, lS, ?_, ?_, ?_⟩
  · exact text_ne dS dI (by rw [eS, eI]; decide)
  · exact text_ne dL dI (by rw [eL, eI]; decide)
  · exact text_ne dL dS (by rw [eL, eS]; decide)
/-! ### A world that meets the condition -/
noncomputable def low : Nat := (World.holding Tryz.prog default ⟨#[], #[], []⟩).heap.size
def setVar (g : Nat) (cs : Array Value) (h : Array Obj) : Array Obj := h.modify g fun
  | .cells _ t frozen => .cells cs t frozen
  | o => o
noncomputable def laidWorld (os : Os) : World :=
  let w0 := World.holding Tryz.prog os ⟨#[.cells #[.string ⟨#[116, 104, 101, 32, 109, 101, 115, 115, 97, 103, 101, 32, 105, 115, 32, 110, 111, 116, 32, 118, 97, 108, 105, 100]⟩] 315, .cells #[.string ⟨#[116, 111, 111, 32, 102, 101, 119, 32, 98, 121, 116, 101, 115]⟩] 315, .cells #[.string ⟨#[116, 111, 111, 32, 109, 97, 110, 121, 32, 98, 121, 116, 101, 115]⟩] 315], #[], []⟩
  { w0 with heap := setVar 0 #[.iface 294 (.pointer (some ⟨low, 0, none⟩))] (setVar 2 #[.iface 294 (.pointer (some ⟨low + 1, 0, none⟩))] (setVar 1 #[.iface 294 (.pointer (some ⟨low + 2, 0, none⟩))] (setVar 3 #[.int .i64 1, .int .i64 1, .int .i64 1, .int .i64 1, .int .i64 4, .int .i64 2, .int .i64 2, .int .i64 4, .int .i64 4, .int .i64 4, .int .i64 4] (setVar 4 #[.iface 276 (.agg #[.pointer (some ⟨5, 233, none⟩)])] w0.heap)))) }
theorem laidWorld_met (os : Os) (args : Array Value) : laidMetH Tryz.prog Rows.engineHandlesRow.laid ((laidWorld os).forCall (fun _ _ => 0) ⟨#[], args, []⟩).memory :=
  laidMetH_of_parts (laidMet_of_run' 8 (by kernel_rfl) (by kernel_rfl)) (by kernel_rfl)
end Go.Proofs.YtoldppbakapohaaGreatDoor
