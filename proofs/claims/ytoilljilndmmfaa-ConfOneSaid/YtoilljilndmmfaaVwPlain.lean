/- What boarderlaw13's Plain comes to, and the document's examples. No conditions. -/
import Derived.Test.YtoilljilndmmfaaVwRf7
set_option maxRecDepth 8000
namespace Go.Proofs.Ytoilljilndmmfaa.Vw
open Go.RowKit By Cf Ad Ky
open Dw (ba ba_size ba_data ba_list alloc_more)

/-! ### The document's examples -/
def i01 : List UInt8 := [105, 48, 49]
def exSn (f : Int) : Sn := ⟨167772160, 24, [⟨f, 167772180⟩], [⟨i01, 167772165⟩], 1, 167772161, 600⟩
def exSnQ : Sn := ⟨167772288, 25, [], [], 0, 0, 1⟩
def cfP (f : Int) : Cf := ⟨167772161, 300, [[exSn f]]⟩
def cfE : Cf := ⟨167772161, 300, [[exSn 167772170, exSnQ]]⟩
theorem ex_ok : checkC (cfP 167772170) = 0 := by kernel_rfl
theorem ex_out : checkC (cfP 167772161) = 9 := by kernel_rfl
theorem ex_twice : checkC cfE = 8 := by kernel_rfl
theorem ex_find : findC (cfP 167772170) 167772259 = (0, 0, true) := by kernel_rfl
theorem ex_keeper : keeperC (cfP 167772170) 167772165 = (i01, true) := by kernel_rfl
theorem ex_kept : keptC (cfP 167772170) 0 i01 = (167772165, true) := by kernel_rfl
theorem ex_in : inPoolC (cfP 167772170) 0 167772180 = true := by kernel_rfl
theorem ex_no : inPoolC (cfP 167772170) 0 167772181 = false := by kernel_rfl
theorem ex_small (f : Int) : Small (cfP f) := small_iff.1 (by rfl)
theorem ex_smallE : Small cfE := small_iff.1 (by rfl)

/-! ### Where an example lies -/
def plSx (b : Nat) (f : Int) : Sx := ⟨167772160, 24, some ⟨b + 1, 0, none⟩, 1, [⟨f, 167772180⟩], some ⟨b + 2, 0, none⟩, 1, [⟨i01, 167772165⟩], 1, 167772161, 600⟩
def exSx : Sx := ⟨167772288, 25, none, 0, [], none, 0, [], 0, 0, 1⟩
def plCx (b : Nat) (f : Int) : Cx := ⟨167772161, 300, some ⟨b + 5, 0, none⟩, 1, 1, [⟨some ⟨b + 4, 0, none⟩, 1, [plSx b f]⟩]⟩
@[reducible] def plCs (b : Nat) : Array Value := #[.int .i64 167772161, .int .i64 300, .slice (some ⟨b + 5, 0, none⟩) 1 1]
@[reducible] def plSs (b : Nat) : Array Value := #[.int .i64 167772160, .int .i64 24, .slice (some ⟨b + 1, 0, none⟩) 1 1, .slice (some ⟨b + 2, 0, none⟩) 1 1, .int .i64 1, .int .i64 167772161, .int .i64 600]
structure PlA (W : World) (b : Nat) (f : Int) : Prop where
  p : Cel W (b + 1) 50 #[.int .i64 f, .int .i64 167772180]
  r : Cel W (b + 2) 47 #[.string (ba i01), .int .i64 167772165]
  s : Cel W (b + 4) 45 (plSs b)
  n : Cel W (b + 5) 41 #[.slice (some ⟨b + 4, 0, none⟩) 1 1]
section
variable {W W' : World} {b B U : Nat} {f : Int}
theorem PlA.below (h : PlA W b f) (hb : Below B W W') (hB : b + 5 < B) : PlA W' b f := ⟨h.p.below hb (by omega), h.r.below hb (by omega), h.s.below hb (by omega), h.n.below hb hB⟩
theorem PlA.sx (h : PlA W b f) (hU : b + 5 < U) : (plSx b f).ok U W 1 1 :=
  ⟨cel_row (Y := layP) [⟨f, 167772180⟩] h.p (by omega) (show 1 ≤ 1 from Nat.le_refl _) (show 1 ≤ 1000000 by omega), cel_row (Y := layR) [⟨i01, 167772165⟩] h.r (by omega) (show 1 ≤ 1 from Nat.le_refl _) (show 1 ≤ 1000000 by omega), fun r hr => by
    simp only [plSx, List.mem_cons, List.not_mem_nil, or_false] at hr
    subst hr
    show (3 : Nat) ≤ 9223372036854775807
    omega⟩
theorem PlA.ok (h : PlA W b f) (hU : b + 5 < U) : (plCx b f).ok U W :=
  ⟨cel_row (Y := layN) [⟨some ⟨b + 4, 0, none⟩, 1, [plSx b f]⟩] h.n hU (show 1 ≤ 1 from Nat.le_refl _) (show 1 ≤ 1000000 by omega), fun y hy => by
    simp only [plCx, List.mem_cons, List.not_mem_nil, or_false] at hy
    subst hy
    refine ⟨cel_row (Y := layS) [plSx b f] h.s (by omega) (show 1 ≤ 1 from Nat.le_refl _) (show 1 ≤ 1000000 by omega), fun s hs => ?_⟩
    simp only [List.mem_cons, List.not_mem_nil, or_false] at hs
    subst hs
    exact h.sx hU⟩
theorem celFar1 {w : World} {g g' : Nat} {t : TypeId} {cs : Array Value} (h : Cel w g t cs) (i : Nat) (v : Value) (hne : g ≠ g') : Cel (w.setCell ⟨g', i, none⟩ v) g t cs := by
  unfold Cel at *
  rw [Below.heap_setCell w ⟨g', i, none⟩ v g hne]
  exact h
theorem PlA.put (h : PlA W b f) (f' : Int) : PlA (W.setCell ⟨b + 1, 0, none⟩ (.int .i64 f')) b f' := ⟨celPut1 h.p 0 _, celFar1 h.r 0 _ (by omega), celFar1 h.s 0 _ (by omega), celFar1 h.n 0 _ (by omega)⟩
theorem PlA.far (h : PlA W b f) {g : Nat} (i : Nat) (v : Value) (hg : g ≠ b + 1 ∧ g ≠ b + 2 ∧ g ≠ b + 4 ∧ g ≠ b + 5) : PlA (W.setCell ⟨g, i, none⟩ v) b f := ⟨celFar1 h.p i v (fun e => hg.1 e.symm), celFar1 h.r i v (fun e => hg.2.1 e.symm), celFar1 h.s i v (fun e => hg.2.2.1 e.symm), celFar1 h.n i v (fun e => hg.2.2.2 e.symm)⟩
end
theorem chain6 (w : World) (a b c d e f : Array Value) (ta tb tc td te tf : TypeId) : ∃ w6, w6 = ((((((w.alloc (.cells a ta)).alloc (.cells b tb)).alloc (.cells c tc)).alloc (.cells d td)).alloc (.cells e te)).alloc (.cells f tf)) ∧
    Cel w6 w.heap.size ta a ∧ Cel w6 (w.heap.size + 1) tb b ∧ Cel w6 (w.heap.size + 2) tc c ∧ Cel w6 (w.heap.size + 4) te e ∧ Cel w6 (w.heap.size + 5) tf f ∧ Below w.heap.size w w6 ∧ w6.heap.size = w.heap.size + 6 := by
  have ca := Cel.born w ta a
  have ba := alloc_more w (.cells a ta)
  have sa : (w.alloc (.cells a ta)).heap.size = w.heap.size + 1 := by simp
  refine ⟨_, rfl, ?_⟩
  generalize w.alloc (.cells a ta) = wa at ca ba sa
  have cb := Cel.born wa tb b
  have bb := alloc_more wa (.cells b tb)
  have sb : (wa.alloc (.cells b tb)).heap.size = w.heap.size + 2 := by simp; omega
  generalize wa.alloc (.cells b tb) = wb at cb bb sb
  have cc := Cel.born wb tc c
  have bc := alloc_more wb (.cells c tc)
  have sc : (wb.alloc (.cells c tc)).heap.size = w.heap.size + 3 := by simp; omega
  generalize wb.alloc (.cells c tc) = wc at cc bc sc
  have bd := alloc_more wc (.cells d td)
  have sd : (wc.alloc (.cells d td)).heap.size = w.heap.size + 4 := by simp; omega
  generalize wc.alloc (.cells d td) = wd at bd sd
  have ce := Cel.born wd te e
  have be := alloc_more wd (.cells e te)
  have se : (wd.alloc (.cells e te)).heap.size = w.heap.size + 5 := by simp; omega
  generalize wd.alloc (.cells e te) = we at ce be se
  have cf := Cel.born we tf f
  have bf := alloc_more we (.cells f tf)
  have sf : (we.alloc (.cells f tf)).heap.size = w.heap.size + 6 := by simp; omega
  generalize we.alloc (.cells f tf) = wf at cf bf sf
  rw [sa] at cb bb
  rw [sb] at cc bc
  rw [sc] at bd
  rw [sd] at ce be
  rw [se] at cf bf
  refine ⟨?_, ?_, ?_, ce.below bf (by omega), cf, ?_, sf⟩
  · exact ((((ca.below bb (by omega)).below bc (by omega)).below bd (by omega)).below be (by omega)).below bf (by omega)
  · exact (((cb.below bc (by omega)).below bd (by omega)).below be (by omega)).below bf (by omega)
  · exact ((cc.below bd (by omega)).below be (by omega)).below bf (by omega)
  · exact ((((ba.trans (bb.mono (by omega))).trans (bc.mono (by omega))).trans (bd.mono (by omega))).trans (be.mono (by omega))).trans (bf.mono (by omega))
theorem ret_conf {fn : Func} {p : Tmp} (hres : fn.results = #[.cell p 24]) (tmps : Array Value) (w : World) (g : Nat) (cs : Array Value) (hp : tmps.getD p undef = .pointer (some ⟨g, 0, none⟩)) (hc : Cel w g 24 cs) (hs : cs.size = 3) :
    (results fn tmps).run Try.prog w = .ok (.agg cs) w := results_cell_row hres tmps w g _ cs (0, 0) _ hp hc Try.underlying24 rfl (by rw [hs]; kernel_rfl)
set_option maxHeartbeats 4000000 in
theorem plain_any (w : World) : Calls Try.prog 22 #[] w fun e w' => e = .returned (.agg (plCs w.heap.size)) ∧ PlA w' w.heap.size 167772170 ∧ Below w.heap.size w w' ∧ w'.heap.size = w.heap.size + 6 := by
  obtain ⟨w6, hw6, ca, cb, cc, ce, cf, hb, hs⟩ := chain6 w (plCs w.heap.size) #[.int .i64 167772170, .int .i64 167772180] #[.string (ba i01), .int .i64 167772165] (plSs w.heap.size) (plSs w.heap.size) #[.slice (some ⟨w.heap.size + 4, 0, none⟩) 1 1] 24 50 47 45 45 41
  have HP := Lib.hid (show PlA w6 w.heap.size 167772170 from ⟨cb, cc, ce, cf⟩)
  have HC := Lib.hid ca
  have HB := Lib.hid hb
  have HS := Lib.hid hs
  clear ca cb cc ce cf hb hs
  go_enter Try.func22, Try.ntmps22
  go_wp2
  change bodyPost _ _ _ _ _ (((((((w.alloc (.cells (plCs w.heap.size) 24)).alloc (.cells #[.int .i64 167772170, .int .i64 167772180] 50)).alloc (.cells #[.string (ba i01), .int .i64 167772165] 47)).alloc (.cells (plSs w.heap.size) 45)).alloc (.cells (plSs w.heap.size) 45)).alloc (.cells #[.slice (some ⟨w.heap.size + 4, 0, none⟩) 1 1] 41)))
  rw [← hw6]
  clear hw6
  refine bodyPost_ret (ret_conf rfl _ _ w.heap.size (plCs w.heap.size) rfl HC.out rfl) rfl ?_
  exact ⟨rfl, HP.out, HB.out, HS.out⟩
end Go.Proofs.Ytoilljilndmmfaa.Vw
