/- boarderlaw18's knows: the document's examples come out. No conditions. -/
import Derived.Test.YtabjcgchcnnjjaaGreatRpMake
import Derived.Test.YtabjcgchcnnjjaaGreatByMake
import Derived.Test.YtabjcgchcnnjjaaGreatVwF
import Derived.Test.YtabjcgchcnnjjaaGreatTlA
set_option maxRecDepth 8000
namespace Go.Proofs.YtabjcgchcnnjjaaGreat.Rpw
open Go.RowKit Tl Co Ms Cf Ad By Ow Rp
open Pw (alloc_more celM_all boxM)
open Vw (Cx Sx isI cel3C cel7 PlA plCx plCs plain_any cfP)
open Mw (set13 cels13)

theorem lits (e : Nat) (w : World) (ps : List Po) (n : Nat) (cs : Array Value) (hcs : cs.toList = cellsP ps) (hn : ps.length = n) (hm : n ≤ 9223372036854775807) : OwnC e w.heap.size (w.alloc (.cells cs e)) (some ⟨w.heap.size, 0, none⟩) n n ps := by
  have h := World.ownsRow_lit (e := e) (size := 2) w cs n (Nat.le_refl _) (by unfold maxLen; omega) (by rw [← Array.length_toList, hcs, cellsP_len, hn])
  rw [hcs] at h
  exact h
theorem lit4 (e : Nat) (w : World) (x y z u : UInt8) : Own e w.heap.size (w.alloc (.cells #[.int .u8 (x.toNat : Int), .int .u8 (y.toNat : Int), .int .u8 (z.toNat : Int), .int .u8 (u.toNat : Int)] e)) (some ⟨w.heap.size, 0, none⟩) 4 4 [x, y, z, u] :=
  World.ownsRow_lit w #[.int .u8 (x.toNat : Int), .int .u8 (y.toNat : Int), .int .u8 (z.toNat : Int), .int .u8 (u.toNat : Int)] 4 (Nat.le_refl _) (by unfold maxLen; omega) rfl
theorem tr {a b c : World} (h : Below a.heap.size a b) (h2 : Below b.heap.size b c) : Below a.heap.size a c := h.trans (h2.mono h.size)
/-! ### The example's message and its reply -/
def exM (b : Nat) : Mv := ⟨1, 0, 0, 0, 5, 0, 0, 0, 0, 0, 0, some ⟨b, 0, none⟩, 16, 16, List.replicate 16 0, some ⟨b + 1 + 1, 0, none⟩, 1, 1, [⟨55, some ⟨b + 1, 0, none⟩, 1, [3]⟩]⟩
@[reducible] def exC (b : Nat) : Array Value := #[.int .i64 1, .int .i64 0, .int .i64 0, .int .i64 0, .int .i64 5, .int .i64 0, .int .i64 0, .int .i64 0, .int .i64 0, .int .i64 0, .int .i64 0, .slice (some ⟨b, 0, none⟩) 16 16, .slice (some ⟨b + 1 + 1, 0, none⟩) 1 1]
def exG : M := ⟨1, 0, 0, 0, 5, 0, 0, 0, 0, 0, 0, List.replicate 16 0, [(55, [3])]⟩
def exR : M := ⟨2, 0, 0, 0, 5, 0, 0, 0, 167772170, 0, 0, List.replicate 16 0, [(53, [2]), (54, [10, 0, 0, 1]), (51, [0, 0, 2, 88]), (3, [10, 0, 0, 1])]⟩
theorem ex_g (b : Nat) : (exM b).mm = exG := rfl
theorem ex_fair : fairR (cfP 167772170) 0 0 exG 2 167772170 = true := by kernel_rfl
theorem ex_not : fairR (cfP 167772170) 0 0 exG 3 0 = false := by kernel_rfl
theorem ex_made : makeR 167772161 (subAt (cfP 167772170) 0 0) exG 2 167772170 = exR := by kernel_rfl
theorem ex_asks : asksL [((55 : Int), [(3 : UInt8)])] 3 = true := by decide +kernel
theorem ex_asks1 : asksL [((55 : Int), [(3 : UInt8)])] 1 = false := by decide +kernel
theorem ex_smp (b : Nat) : ∀ p ∈ (exM b).ps, p.l.length ≤ 1000 := fun p hp => by
  have hp' : p = ⟨55, some ⟨b + 1, 0, none⟩, 1, [3]⟩ := by simpa [exM] using hp
  subst hp'
  simp
theorem ex_make {W : World} {a b U : Nat} (h : (plCx a 167772170).ok U W) (hU : U ≤ W.heap.size) (hm : (exM b).ok W) :
    Calls Tryz.prog 7 #[.agg (plCs a), .int .i64 0, .int .i64 0, .agg (exC b), .int .i64 2, .int .i64 167772170] W fun e w' => Below W.heap.size W w' ∧ ∃ y : Mv, e = .returned (.tuple #[y.v, .int .i64 0]) ∧ Mo W.heap.size w' y ∧ y.mm = exR := by
  refine (make_any (plCx a 167772170) 0 0 (exM b) 2 167772170 U W h hU (Vw.ex_small 167772170) hm (ex_smp b)).mono fun e w' hJ => ⟨hJ.1, ?_⟩
  rcases hJ.2 with ⟨_, y, h1, h2, h3⟩ | ⟨hf, _⟩
  · exact ⟨y, h1, h2, h3.trans ex_made⟩
  · exact absurd (ex_fair.symm.trans hf) (by decide)
theorem ex_bad {W : World} {a b U : Nat} (h : (plCx a 167772170).ok U W) (hU : U ≤ W.heap.size) (hm : (exM b).ok W) :
    Calls Tryz.prog 7 #[.agg (plCs a), .int .i64 0, .int .i64 0, .agg (exC b), .int .i64 3, .int .i64 0] W fun e w' => Below W.heap.size W w' ∧ e = .returned (.tuple #[.agg zc13, .int .i64 1]) := by
  refine (make_any (plCx a 167772170) 0 0 (exM b) 3 0 U W h hU (Vw.ex_small 167772170) hm (ex_smp b)).mono fun e w' hJ => ⟨hJ.1, ?_⟩
  rcases hJ.2 with ⟨hf, _⟩ | ⟨_, h1⟩
  · exact absurd (ex_not.symm.trans hf) (by decide)
  · exact h1
def PlE (b : Nat) (w : World) (e : Ending) (w' : World) : Prop := e = .returned (.agg (plCs b)) ∧ (plCx b 167772170).ok w'.heap.size w' ∧ Below w.heap.size w w'
theorem plain_at (w : World) : Calls Tryz.prog 15 #[] w.drew (PlE w.heap.size w) :=
  (plain_any w.drew).mono fun e w' h => ⟨h.1, h.2.1.ok (by rw [h.2.2.2]; show w.heap.size + 5 < w.heap.size + 6; omega), below_undrew h.2.2.1⟩
theorem exM_made (w : World) : ∃ w4, w4 = ((((w.alloc (.cells (madeCells (Value.int .u8 0).cells 16) 5)).alloc (.cells #[.int .u8 3] 5)).alloc (.cells #[.int .i64 55, .slice (some ⟨w.heap.size + 1, 0, none⟩) 1 1] 45)).alloc (.cells (exC w.heap.size) 28)) ∧
    (exM w.heap.size).ok w4 ∧ Cel w4 (w.heap.size + 1 + 1 + 1) 28 (exC w.heap.size) ∧ Below w.heap.size w w4 := by
  have h1 := (Own.made 5 w 16 (by omega)).bs
  obtain ⟨w1, e1⟩ : ∃ w1, w1 = w.alloc (.cells (madeCells (Value.int .u8 0).cells 16) 5) := ⟨_, rfl⟩
  have z1 : w1.heap.size = w.heap.size + 1 := by rw [e1]; simp
  have b1 : Below w.heap.size w w1 := by rw [e1]; exact alloc_more _ _
  have h2 := (Own.lit1 5 w1 3).bs
  obtain ⟨w2, e2⟩ : ∃ w2, w2 = w1.alloc (.cells #[.int .u8 3] 5) := ⟨_, rfl⟩
  have z2 : w2.heap.size = w.heap.size + 1 + 1 := by rw [e2]; simp [z1]
  have b2 : Below w1.heap.size w1 w2 := by rw [e2]; exact alloc_more _ _
  have h3 := (lits 45 w2 (exM w.heap.size).ps 1 #[.int .i64 55, .slice (some ⟨w.heap.size + 1, 0, none⟩) 1 1] rfl rfl (by omega)).rdc
  obtain ⟨w3, e3⟩ : ∃ w3, w3 = w2.alloc (.cells #[.int .i64 55, .slice (some ⟨w.heap.size + 1, 0, none⟩) 1 1] 45) := ⟨_, rfl⟩
  have z3 : w3.heap.size = w.heap.size + 1 + 1 + 1 := by rw [e3]; simp [z2]
  have b3 : Below w2.heap.size w2 w3 := by rw [e3]; exact alloc_more _ _
  obtain ⟨w4, e4⟩ : ∃ w4, w4 = w3.alloc (.cells (exC w.heap.size) 28) := ⟨_, rfl⟩
  have c4 := Cel.born w3 28 (exC w.heap.size)
  have b4 : Below w3.heap.size w3 w4 := by rw [e4]; exact alloc_more _ _
  have k24 := b3.trans (b4.mono b3.size)
  have k14 := b2.trans (k24.mono b2.size)
  have k04 := b1.trans (k14.mono b1.size)
  refine ⟨w4, ?_, ⟨?_, ?_, fun p hp => ?_⟩, ?_, k04⟩
  · rw [e4, e3, e2, e1]
  · exact (e1 ▸ h1).below k14
  · rw [← e3, z2] at h3
    exact RdC.keep h3 fun _ hp => b4.cell hp
  · have hp' : p = ⟨55, some ⟨w.heap.size + 1, 0, none⟩, 1, [3]⟩ := by simpa [exM] using hp
    subst hp'
    have := (e2 ▸ h2).below k24
    rw [z1] at this
    exact this
  · rw [← e4, z3] at c4
    exact c4
/-- The options that are wanted. -/
def exW (b : Nat) : List Po := [⟨53, some ⟨b, 0, none⟩, 1, [2]⟩, ⟨54, some ⟨b + 1, 0, none⟩, 4, [10, 0, 0, 1]⟩, ⟨51, some ⟨b + 1 + 1, 0, none⟩, 4, [0, 0, 2, 88]⟩, ⟨3, some ⟨b + 1 + 1 + 1, 0, none⟩, 4, [10, 0, 0, 1]⟩]
theorem exW_made (w : World) : ∃ w5, w5 = (((((w.alloc (.cells #[.int .u8 2] 5)).alloc (.cells #[.int .u8 10, .int .u8 0, .int .u8 0, .int .u8 1] 5)).alloc (.cells #[.int .u8 0, .int .u8 0, .int .u8 2, .int .u8 88] 5)).alloc (.cells #[.int .u8 10, .int .u8 0, .int .u8 0, .int .u8 1] 5)).alloc
    (.cells #[.int .i64 53, .slice (some ⟨w.heap.size, 0, none⟩) 1 1, .int .i64 54, .slice (some ⟨w.heap.size + 1, 0, none⟩) 4 4, .int .i64 51, .slice (some ⟨w.heap.size + 1 + 1, 0, none⟩) 4 4, .int .i64 3, .slice (some ⟨w.heap.size + 1 + 1 + 1, 0, none⟩) 4 4] 45)) ∧
    RdO w5 (some ⟨w.heap.size + 1 + 1 + 1 + 1, 0, none⟩) 4 4 (exW w.heap.size) ∧ Below w.heap.size w w5 := by
  have h1 := (Own.lit1 5 w 2).bs
  obtain ⟨w1, e1⟩ : ∃ w1, w1 = w.alloc (.cells #[.int .u8 2] 5) := ⟨_, rfl⟩
  have z1 : w1.heap.size = w.heap.size + 1 := by rw [e1]; simp
  have b1 : Below w.heap.size w w1 := by rw [e1]; exact alloc_more _ _
  have h2 := (lit4 5 w1 10 0 0 1).bs
  obtain ⟨w2, e2⟩ : ∃ w2, w2 = w1.alloc (.cells #[.int .u8 10, .int .u8 0, .int .u8 0, .int .u8 1] 5) := ⟨_, rfl⟩
  have z2 : w2.heap.size = w.heap.size + 1 + 1 := by rw [e2]; simp [z1]
  have b2 : Below w1.heap.size w1 w2 := by rw [e2]; exact alloc_more _ _
  have h3 := (lit4 5 w2 0 0 2 88).bs
  obtain ⟨w3, e3⟩ : ∃ w3, w3 = w2.alloc (.cells #[.int .u8 0, .int .u8 0, .int .u8 2, .int .u8 88] 5) := ⟨_, rfl⟩
  have z3 : w3.heap.size = w.heap.size + 1 + 1 + 1 := by rw [e3]; simp [z2]
  have b3 : Below w2.heap.size w2 w3 := by rw [e3]; exact alloc_more _ _
  have h4 := (lit4 5 w3 10 0 0 1).bs
  obtain ⟨w4, e4⟩ : ∃ w4, w4 = w3.alloc (.cells #[.int .u8 10, .int .u8 0, .int .u8 0, .int .u8 1] 5) := ⟨_, rfl⟩
  have z4 : w4.heap.size = w.heap.size + 1 + 1 + 1 + 1 := by rw [e4]; simp [z3]
  have b4 : Below w3.heap.size w3 w4 := by rw [e4]; exact alloc_more _ _
  have h5 := (lits 45 w4 (exW w.heap.size) 4 #[.int .i64 53, .slice (some ⟨w.heap.size, 0, none⟩) 1 1, .int .i64 54, .slice (some ⟨w.heap.size + 1, 0, none⟩) 4 4, .int .i64 51, .slice (some ⟨w.heap.size + 1 + 1, 0, none⟩) 4 4, .int .i64 3, .slice (some ⟨w.heap.size + 1 + 1 + 1, 0, none⟩) 4 4] rfl rfl (by omega)).rdc
  obtain ⟨w5, e5⟩ : ∃ w5, w5 = w4.alloc (.cells #[.int .i64 53, .slice (some ⟨w.heap.size, 0, none⟩) 1 1, .int .i64 54, .slice (some ⟨w.heap.size + 1, 0, none⟩) 4 4, .int .i64 51, .slice (some ⟨w.heap.size + 1 + 1, 0, none⟩) 4 4, .int .i64 3, .slice (some ⟨w.heap.size + 1 + 1 + 1, 0, none⟩) 4 4] 45) := ⟨_, rfl⟩
  have b5 : Below w4.heap.size w4 w5 := by rw [e5]; exact alloc_more _ _
  have k35 := b4.trans (b5.mono b4.size)
  have k25 := b3.trans (k35.mono b3.size)
  have k15 := b2.trans (k25.mono b2.size)
  have k05 := b1.trans (k15.mono b1.size)
  refine ⟨w5, ?_, ⟨?_, fun p hp => ?_⟩, k05⟩
  · rw [e5, e4, e3, e2, e1]
  · rw [← e5, z4] at h5
    exact h5
  · have hp' : p = ⟨53, some ⟨w.heap.size, 0, none⟩, 1, [2]⟩ ∨ p = ⟨54, some ⟨w.heap.size + 1, 0, none⟩, 4, [10, 0, 0, 1]⟩ ∨ p = ⟨51, some ⟨w.heap.size + 1 + 1, 0, none⟩, 4, [0, 0, 2, 88]⟩ ∨ p = ⟨3, some ⟨w.heap.size + 1 + 1 + 1, 0, none⟩, 4, [10, 0, 0, 1]⟩ := by simpa [exW] using hp
    rcases hp' with rfl | rfl | rfl | rfl
    · exact (e1 ▸ h1).below k15
    · have := (e2 ▸ h2).below k25
      rw [z1] at this
      exact this
    · have := (e3 ▸ h3).below k35
      rw [z2] at this
      exact this
    · have := (e4 ▸ h4).below b5
      rw [z3] at this
      exact this
theorem sOf {W : World} {g b : Nat} (h : Cel W g 28 (exC b)) : W.cell? ⟨g, 0, none⟩ = some (.int .i64 1) ∧ W.cell? ⟨g, 1, none⟩ = some (.int .i64 0) ∧ W.cell? ⟨g, 2, none⟩ = some (.int .i64 0) ∧ W.cell? ⟨g, 3, none⟩ = some (.int .i64 0) ∧ W.cell? ⟨g, 4, none⟩ = some (.int .i64 5) ∧ W.cell? ⟨g, 5, none⟩ = some (.int .i64 0) ∧ W.cell? ⟨g, 6, none⟩ = some (.int .i64 0) ∧ W.cell? ⟨g, 7, none⟩ = some (.int .i64 0) ∧ W.cell? ⟨g, 8, none⟩ = some (.int .i64 0) ∧ W.cell? ⟨g, 9, none⟩ = some (.int .i64 0) ∧ W.cell? ⟨g, 10, none⟩ = some (.int .i64 0) ∧ W.cell? ⟨g, 11, none⟩ = some (.slice (some ⟨b, 0, none⟩) 16 16) ∧ W.cell? ⟨g, 12, none⟩ = some (.slice (some ⟨b + 1 + 1, 0, none⟩) 1 1) := by
  obtain ⟨h0, h1, h2, h3, h4, h5, h6, h7, h8, h9, h10, h11, h12, _⟩ := cels13 h
  exact ⟨h0, h1, h2, h3, h4, h5, h6, h7, h8, h9, h10, h11, h12⟩

set_option maxHeartbeats 16000000 in
theorem knows_yes (w : World) : Calls Tryz.prog 5 #[] w (isTrue w) := by
  have hmk : ∀ W, (Instr.makeSlice 25 (.int .i64 16) (.int .i64 16)).run Tryz.prog W = .ok (.slice (some ⟨W.heap.size, 0, none⟩) 16 16) (W.alloc (.cells (madeCells (Value.int .u8 0).cells 16) 5)) := fun W => byP.make (P := Tryz.prog) 16 (by omega) W
  obtain ⟨w4, hw4, hm4, hc4, hb4⟩ := exM_made w
  generalize madeCells (Value.int .u8 0).cells 16 = CS at hmk hw4
  have HM := Lib.hid (fun W (hW : Below w4.heap.size w4 W) => hm4.below hW)
  have HB4 := Lib.hid hb4
  have HC4 := Lib.hid hc4
  have HS4 := Lib.hid (fun W (hW : Below w4.heap.size w4 W) => sOf (hc4.below hW hc4.lt))
  have HPL := Lib.hid (fun W => plain_at W)
  clear hm4 hc4 hb4
  go_enter Tryz.func5, Tryz.ntmps5
  go_upto_region 2 with fail
  rw [← hw4]
  clear hw4 hmk
  go_cut [2, 3] from 12 to 17 (fun v ve wx => ve = .int .i64 0 ∧ ∃ (g : Nat) (y : Mv), v = .pointer (some ⟨g, 0, none⟩) ∧ Hid (Cel wx g 28 y.cells) ∧ Hid (y.mm = exR) ∧ Hid (y.ok wx) ∧ Hid (Below w4.heap.size w4 wx))
  case first =>
    have HZR := Lib.hid (Cel.born w4 28 zc13)
    have HAL := Lib.hid (alloc_more w4 (.cells zc13 28))
    obtain ⟨x0, x1, x2, x3, x4, x5, x6, x7, x8, x9, x10, x11, x12⟩ := HS4.out w4 (Below.refl _ _)
    go_region_held3 (fun W => W.cell? ⟨w.heap.size + 1 + 1 + 1, 0, none⟩ = some (.int .i64 1) ∧ W.cell? ⟨w.heap.size + 1 + 1 + 1, 1, none⟩ = some (.int .i64 0) ∧ W.cell? ⟨w.heap.size + 1 + 1 + 1, 2, none⟩ = some (.int .i64 0) ∧ W.cell? ⟨w.heap.size + 1 + 1 + 1, 3, none⟩ = some (.int .i64 0) ∧ W.cell? ⟨w.heap.size + 1 + 1 + 1, 4, none⟩ = some (.int .i64 5) ∧ W.cell? ⟨w.heap.size + 1 + 1 + 1, 5, none⟩ = some (.int .i64 0) ∧ W.cell? ⟨w.heap.size + 1 + 1 + 1, 6, none⟩ = some (.int .i64 0) ∧ W.cell? ⟨w.heap.size + 1 + 1 + 1, 7, none⟩ = some (.int .i64 0) ∧ W.cell? ⟨w.heap.size + 1 + 1 + 1, 8, none⟩ = some (.int .i64 0) ∧ W.cell? ⟨w.heap.size + 1 + 1 + 1, 9, none⟩ = some (.int .i64 0) ∧ W.cell? ⟨w.heap.size + 1 + 1 + 1, 10, none⟩ = some (.int .i64 0) ∧ W.cell? ⟨w.heap.size + 1 + 1 + 1, 11, none⟩ = some (.slice (some ⟨w.heap.size, 0, none⟩) 16 16) ∧ W.cell? ⟨w.heap.size + 1 + 1 + 1, 12, none⟩ = some (.slice (some ⟨w.heap.size + 1 + 1, 0, none⟩) 1 1))
      (((refine HS4.out _ ?_); first
        | (with_reducible exact (Below.refl _ _))
        | (with_reducible exact (Below.refl _ _).drew)
        | (with_reducible exact hbq2)
        | (with_reducible exact hbq1)
        | (with_reducible exact (hbq2.alloc hbq2.size _))
        | (with_reducible exact (hbq1.alloc hbq1.size _))
        | (with_reducible exact ((Below.refl _ _).alloc (Nat.le_refl _) _))
        | (with_reducible exact ((Below.refl _ _).alloc (Nat.le_refl _) _).drew)
        | (with_reducible exact (below13 hbq2 hle _ _ _ _ _ _ _ _ _ _ _ _ _))))
      (first
        | (go_simp; go_at_call 15; (with_reducible refine (HPL.out w4).mono ?_); rintro ee wq1 ⟨he, hpa, hbq1⟩; generalize w4.heap.size = b at he hpa; subst he; have HPA := Lib.hid hpa; clear hpa)
        | (go_simp; go_at_call 15; (with_reducible refine (HPL.out (w4.alloc (.cells zc13 28))).mono ?_); rintro ee wq1 ⟨he, hpa, hbu⟩; generalize (w4.alloc (.cells zc13 28)).heap.size = b at he hpa; subst he; have HPA := Lib.hid hpa; have hbq1 := HAL.out.trans (hbu.mono HAL.out.size); have hcg1 : Cel wq1 w4.heap.size 28 zc13 := HZR.out.below hbu HZR.out.lt; clear hpa)
        | (go_simp; go_at_call 7; have hq := hcg1; (with_reducible refine (ex_make HPA.out (Nat.le_refl _) (HM.out _ hbq1)).mono ?_); rintro ee wq2 ⟨hbu, y, rfl, hmo, hym⟩; have hbq2 : Below w4.heap.size w4 wq2 := hbq1.trans (hbu.mono hbq1.size); have hcg2 : Cel wq2 w4.heap.size 28 zc13 := hcg1.below hbu hcg1.lt; have hle : w4.heap.size ≤ w4.heap.size := Nat.le_refl _; have HMO := Lib.hid (hmo.mono hbq1.size); have HYM := Lib.hid hym; clear hmo hym; have HCG := Lib.hid hcg2; obtain ⟨j0, j1, j2, j3, j4, j5, j6, j7, j8, j9, j10, j11, j12, jf⟩ := cels13 hcg2; clear hq hcg1 hcg2)
        | (go_simp; go_at_call 7; (with_reducible refine (ex_make HPA.out (Nat.le_refl _) (HM.out _ hbq1)).mono ?_); rintro ee wq2 ⟨hbu, y, rfl, hmo, hym⟩; have hbq2 : Below w4.heap.size w4 wq2 := hbq1.trans (hbu.mono hbq1.size); have HMO := Lib.hid (hmo.mono hbq1.size); have HYM := Lib.hid hym; clear hmo hym)
        | (go_simp; go_at_call 7; (with_reducible refine (ex_make ((HPA.out).below (alloc_more _ _)) (alloc_more _ _).size (HM.out _ (hbq1.alloc hbq1.size _))).mono ?_); rintro ee wq2 ⟨hbu, y, rfl, hmo, hym⟩; have hbqa := hbq1.alloc hbq1.size (.cells zc13 28); have hbq2 : Below w4.heap.size w4 wq2 := hbqa.trans (hbu.mono hbqa.size); have hcg2 : Cel wq2 wq1.heap.size 28 zc13 := (Cel.born wq1 28 zc13).below hbu (Cel.born wq1 28 zc13).lt; have hle : w4.heap.size ≤ wq1.heap.size := hbq1.size; have HMO := Lib.hid (hmo.mono hbqa.size); have HYM := Lib.hid hym; clear hmo hym; have HCG := Lib.hid hcg2; obtain ⟨j0, j1, j2, j3, j4, j5, j6, j7, j8, j9, j10, j11, j12, jf⟩ := cels13 hcg2; clear hcg2))
    all_goals (
      clear x0 x1 x2 x3 x4 x5 x6 x7 x8 x9 x10 x11 x12
      go_wp2_with fail
      go_meet
      first
        | (have hq := HCG.out; exact ⟨rfl, _, y, rfl, Lib.hid (celZ13 HCG.out _ _ _ _ _ _ _ _ _ _ _ _ _), HYM, Lib.hid (Mo.off HMO.out HCG.out (grown13 _ _ _ _ _ _ _ _ _ _ _ _ _ _ _)).ok, Lib.hid (below13 hbq2 hle _ _ _ _ _ _ _ _ _ _ _ _ _)⟩)
        | exact ⟨rfl, wq2.heap.size, y, rfl, Lib.hid (Cel.born _ _ _), HYM, Lib.hid (HMO.out.below (alloc_more _ _)).ok, Lib.hid (hbq2.alloc hbq2.size _)⟩)
  case rest =>
  obtain ⟨rfl, g, y, rfl, HCY, HYM, HYO, HB5⟩ := hcut
  obtain ⟨w5, hw5⟩ : ∃ q, q = wc := ⟨_, rfl⟩
  subst hw5
  obtain ⟨w9, hw9, hr9, hb9⟩ := exW_made w5
  have HR9 := Lib.hid hr9
  have HB9 := Lib.hid hb9
  have HBW : Hid (Below w4.heap.size w4 w9) := HB5.out.trans (hb9.mono HB5.out.size)
  have HCY9 := Lib.hid (HCY.out.below hb9 HCY.out.lt)
  have HYO9 := Lib.hid (HYO.out.below hb9)
  clear hr9 hb9
  go_upto_region 4 with fail
  rw [← hw9]
  clear hw9
  go_cut [5, 6] from 27 to 32 (fun v ve wx => ve = .int .i64 1 ∧ Hid (Below w9.heap.size w9 wx))
  case first =>
    have HZR := Lib.hid (Cel.born w9 28 zc13)
    have HAL := Lib.hid (alloc_more w9 (.cells zc13 28))
    obtain ⟨x0, x1, x2, x3, x4, x5, x6, x7, x8, x9, x10, x11, x12⟩ := HS4.out w9 HBW.out
    go_region_held3 (fun W => W.cell? ⟨w.heap.size + 1 + 1 + 1, 0, none⟩ = some (.int .i64 1) ∧ W.cell? ⟨w.heap.size + 1 + 1 + 1, 1, none⟩ = some (.int .i64 0) ∧ W.cell? ⟨w.heap.size + 1 + 1 + 1, 2, none⟩ = some (.int .i64 0) ∧ W.cell? ⟨w.heap.size + 1 + 1 + 1, 3, none⟩ = some (.int .i64 0) ∧ W.cell? ⟨w.heap.size + 1 + 1 + 1, 4, none⟩ = some (.int .i64 5) ∧ W.cell? ⟨w.heap.size + 1 + 1 + 1, 5, none⟩ = some (.int .i64 0) ∧ W.cell? ⟨w.heap.size + 1 + 1 + 1, 6, none⟩ = some (.int .i64 0) ∧ W.cell? ⟨w.heap.size + 1 + 1 + 1, 7, none⟩ = some (.int .i64 0) ∧ W.cell? ⟨w.heap.size + 1 + 1 + 1, 8, none⟩ = some (.int .i64 0) ∧ W.cell? ⟨w.heap.size + 1 + 1 + 1, 9, none⟩ = some (.int .i64 0) ∧ W.cell? ⟨w.heap.size + 1 + 1 + 1, 10, none⟩ = some (.int .i64 0) ∧ W.cell? ⟨w.heap.size + 1 + 1 + 1, 11, none⟩ = some (.slice (some ⟨w.heap.size, 0, none⟩) 16 16) ∧ W.cell? ⟨w.heap.size + 1 + 1 + 1, 12, none⟩ = some (.slice (some ⟨w.heap.size + 1 + 1, 0, none⟩) 1 1))
      (((refine HS4.out _ (tr HBW.out ?_)); first
        | (with_reducible exact (Below.refl _ _))
        | (with_reducible exact (Below.refl _ _).drew)
        | (with_reducible exact hbq2)
        | (with_reducible exact hbq1)
        | (with_reducible exact (hbq2.alloc hbq2.size _))
        | (with_reducible exact (hbq1.alloc hbq1.size _))
        | (with_reducible exact ((Below.refl _ _).alloc (Nat.le_refl _) _))
        | (with_reducible exact ((Below.refl _ _).alloc (Nat.le_refl _) _).drew)
        | (with_reducible exact (below13 hbq2 hle _ _ _ _ _ _ _ _ _ _ _ _ _))))
      (first
        | (go_simp; go_at_call 15; (with_reducible refine (HPL.out w9).mono ?_); rintro ee wq1 ⟨he, hpa, hbq1⟩; generalize w9.heap.size = b at he hpa; subst he; have HPA := Lib.hid hpa; clear hpa)
        | (go_simp; go_at_call 15; (with_reducible refine (HPL.out (w9.alloc (.cells zc13 28))).mono ?_); rintro ee wq1 ⟨he, hpa, hbu⟩; generalize (w9.alloc (.cells zc13 28)).heap.size = b at he hpa; subst he; have HPA := Lib.hid hpa; have hbq1 := HAL.out.trans (hbu.mono HAL.out.size); have hcg1 : Cel wq1 w9.heap.size 28 zc13 := HZR.out.below hbu HZR.out.lt; clear hpa)
        | (go_simp; go_at_call 7; have hq := hcg1; (with_reducible refine (ex_bad HPA.out (Nat.le_refl _) (HM.out _ (tr HBW.out hbq1))).mono ?_); rintro ee wq2 ⟨hbu, rfl⟩; have hbq2 : Below w9.heap.size w9 wq2 := hbq1.trans (hbu.mono hbq1.size); have hcg2 : Cel wq2 w9.heap.size 28 zc13 := hcg1.below hbu hcg1.lt; have hle : w9.heap.size ≤ w9.heap.size := Nat.le_refl _; have HCG := Lib.hid hcg2; obtain ⟨j0, j1, j2, j3, j4, j5, j6, j7, j8, j9, j10, j11, j12, jf⟩ := cels13 hcg2; clear hq hcg1 hcg2)
        | (go_simp; go_at_call 7; (with_reducible refine (ex_bad HPA.out (Nat.le_refl _) (HM.out _ (tr HBW.out hbq1))).mono ?_); rintro ee wq2 ⟨hbu, rfl⟩; have hbq2 : Below w9.heap.size w9 wq2 := hbq1.trans (hbu.mono hbq1.size))
        | (go_simp; go_at_call 7; (with_reducible refine (ex_bad ((HPA.out).below (alloc_more _ _)) (alloc_more _ _).size (HM.out _ (tr HBW.out (hbq1.alloc hbq1.size _)))).mono ?_); rintro ee wq2 ⟨hbu, rfl⟩; have hbqa := hbq1.alloc hbq1.size (.cells zc13 28); have hbq2 : Below w9.heap.size w9 wq2 := hbqa.trans (hbu.mono hbqa.size); have hcg2 : Cel wq2 wq1.heap.size 28 zc13 := (Cel.born wq1 28 zc13).below hbu (Cel.born wq1 28 zc13).lt; have hle : w9.heap.size ≤ wq1.heap.size := hbq1.size; have HCG := Lib.hid hcg2; obtain ⟨j0, j1, j2, j3, j4, j5, j6, j7, j8, j9, j10, j11, j12, jf⟩ := cels13 hcg2; clear hcg2))
    all_goals (
      clear x0 x1 x2 x3 x4 x5 x6 x7 x8 x9 x10 x11 x12
      go_wp2_with fail
      go_meet
      first
        | (have hq := HCG.out; exact ⟨rfl, Lib.hid (below13 hbq2 hle _ _ _ _ _ _ _ _ _ _ _ _ _)⟩)
        | exact ⟨rfl, Lib.hid (hbq2.alloc hbq2.size _)⟩)
  case rest =>
  obtain ⟨rfl, HB10⟩ := hcut
  obtain ⟨w10, hw10⟩ : ∃ q, q = wc := ⟨_, rfl⟩
  subst hw10
  have HBX := Lib.hid (tr HBW.out HB10.out)
  have HY10 := Lib.hid (HCY9.out.below HB10.out HCY9.out.lt)
  have hym := HYM.out
  have HSA := Lib.hid (Tw.same_any y.B y.m y.d y.ps _ 4 4 (exW w5.heap.size) w10 (HYO9.out.below HB10.out).os (HR9.out.below HB10.out))
  rw [show osP y.ps = exR.os from congrArg M.os hym, show osP (exW w5.heap.size) = exR.os from rfl, show Tw.sameL exR.os exR.os = true from decide_eq_true rfl] at HSA
  have HA3 := Lib.hid (fun W (hW : Below w4.heap.size w4 W) => asked_any (exM w.heap.size) 3 W (HM.out W hW) (ex_smp _))
  have HA1 := Lib.hid (fun W (hW : Below w4.heap.size w4 W) => asked_any (exM w.heap.size) 1 W (HM.out W hW) (ex_smp _))
  rw [show asksL (osP (exM w.heap.size).ps) 3 = true from ex_asks] at HA3
  rw [show asksL (osP (exM w.heap.size).ps) 1 = false from ex_asks1] at HA1
  obtain ⟨g0, g1, g2, g3, g4, g5, g6, g7, g8, g9, g10, g11, g12, gf⟩ := cels13 HY10.out
  rw [show y.op = 2 from congrArg M.op hym] at g0
  rw [show y.xid = 5 from congrArg M.xid hym] at g4
  rw [show y.yi = 167772170 from congrArg M.yi hym] at g8
  clear hym g1 g2 g3 g5 g6 g7 g9 g10 g11 gf
  go_wp2_with fail
  refine HSA.out.mono ?_
  rintro e w11 ⟨rfl, hb⟩
  have HB11 := Lib.hid (tr HBX.out hb)
  clear hb g0 g4 g8 g12
  obtain ⟨x0, x1, x2, x3, x4, x5, x6, x7, x8, x9, x10, x11, x12⟩ := HS4.out w11 HB11.out
  go_wp2_with fail
  refine (HA3.out _ HB11.out).mono ?_
  rintro e w12 ⟨rfl, hb⟩
  have HB12 := Lib.hid (tr HB11.out hb)
  clear hb x0 x1 x2 x3 x4 x5 x6 x7 x8 x9 x10 x11 x12
  obtain ⟨x0, x1, x2, x3, x4, x5, x6, x7, x8, x9, x10, x11, x12⟩ := HS4.out w12 HB12.out
  go_wp2_with fail
  refine (HA1.out _ HB12.out).mono ?_
  rintro e w13 ⟨rfl, hb⟩
  have HB13 := Lib.hid (tr HB12.out hb)
  clear hb x0 x1 x2 x3 x4 x5 x6 x7 x8 x9 x10 x11 x12
  go_wp2
  go_ret
  exact ⟨rfl, tr HB4.out HB13.out⟩
end Go.Proofs.YtabjcgchcnnjjaaGreat.Rpw
