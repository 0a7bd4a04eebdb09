/- Words for slices of leases and of changes, and what journal's first comes to: the lease in the frame at the beginning. For all bytes. -/
import Derived.Test.YtlefpodonkdbeaaGreatMathA
import Derived.Test.YtlefpodonkdbeaaGreatEwA
import Derived.Test.YtlefpodonkdbeaaGreatDwA
import Derived.Test.YtlefpodonkdbeaaGreatCoA
set_option maxRecDepth 8000
namespace Go.Proofs.YtlefpodonkdbeaaGreat.Jw
open Go.RowKit Co By Ky Rc Dk Jn Ew
open Dw (ba ba_size ba_data ba_list Dv RdD Sm GeR)

/-! ### Leases -/
def layL : Lay L := ⟨4, fun l => [.int .i64 l.addr, .int .i64 l.state, .int .i64 l.till, .string (ba l.key)], fun _ => rfl, fun l u hu => by
  simp only [List.mem_cons, List.not_mem_nil, or_false] at hu
  rcases hu with rfl | rfl | rfl | rfl <;> rfl⟩
abbrev RdLs (U : Nat) (w : World) (A : Option Addr) (n c : Nat) (l : List L) : Prop := RdG layL U w A n c l
abbrev OwnLs (B : Nat) (w : World) (A : Option Addr) (n c : Nat) (l : List L) : Prop := OwnG layL 56 B w A n c l
theorem lesP : RgP Tryz.prog 22 56 layL (.agg #[.int .i64 0, .int .i64 0, .int .i64 0, .string ⟨#[]⟩]) 40 := ⟨Tryz.underlying22, by kernel_rfl⟩
/-- One lease of a slice that reads. -/
theorem atL {U : Nat} {w : World} {A : Option Addr} {n c : Nat} {l : List L} (h : RdLs U w A n c l) {k : Nat} (hk : k < n) : ∃ b o a, A = some ⟨b, o, none⟩ ∧ b < U ∧ Hid (l[k]? = some a) ∧
    w.cell? ⟨b, o + k * 4, none⟩ = some (.int .i64 a.addr) ∧ w.cell? ⟨b, o + k * 4 + 1, none⟩ = some (.int .i64 a.state) ∧ w.cell? ⟨b, o + k * 4 + 2, none⟩ = some (.int .i64 a.till) ∧ w.cell? ⟨b, o + k * 4 + 3, none⟩ = some (.string (ba a.key)) := by
  obtain ⟨b, o, e, hU, a, hl, hc⟩ := h.at_ hk
  exact ⟨b, o, a, e, hU, hl, hc 0 _ rfl, hc 1 _ rfl, hc 2 _ rfl, hc 3 _ rfl⟩
/-- A literal of one lease. -/
theorem litL (w : World) (l : L) : RdLs (w.heap.size + 1) (w.alloc (.cells (lcs l) 56)) (some ⟨w.heap.size, 0, none⟩) 1 1 [l] := by
  have := (OwnG.lit (Y := layL) 56 w [l] (by simp)).rd
  have e : (w.alloc (.cells (layL.cells [l]).toArray 56)).heap.size = w.heap.size + 1 := by simp
  rw [e, layL.cells_one] at this
  exact this

/-! ### Changes -/
/-- A change by value, with what its slice holds. -/
structure Cv where
  kind : Int
  name : N
  tn : N
  A : Option Addr
  c : Nat
  b : List UInt8
def Cv.ch (x : Cv) : Ch := ⟨x.kind, x.name, x.tn, x.b⟩
@[reducible] def Cv.v (x : Cv) : Value := .agg #[.int .i64 x.kind, .string (ba x.name), .string (ba x.tn), .slice x.A x.b.length x.c]
@[reducible] def Cv.cs (x : Cv) : Array Value := #[.int .i64 x.kind, .string (ba x.name), .string (ba x.tn), .slice x.A x.b.length x.c]
def layC : Lay Cv := ⟨4, fun x => [.int .i64 x.kind, .string (ba x.name), .string (ba x.tn), .slice x.A x.b.length x.c], fun _ => rfl, fun l u hu => by
  simp only [List.mem_cons, List.not_mem_nil, or_false] at hu
  rcases hu with rfl | rfl | rfl | rfl <;> rfl⟩
/-- The bytes and names of a change fit. -/
structure OkC (U : Nat) (w : World) (x : Cv) : Prop where
  b : BsU U w x.A x.b.length x.c x.b
  s : x.name.length ≤ 9223372036854775807
  t : x.tn.length ≤ 9223372036854775807
  m : x.b.length ≤ 1000000
theorem OkC.below {U : Nat} {w w' : World} {x : Cv} (h : OkC U w x) (hb : Below U w w') : OkC U w' x := ⟨h.b.below hb, h.s, h.t, h.m⟩
theorem OkC.mono {U V : Nat} {w : World} {x : Cv} (h : OkC U w x) (hV : U ≤ V) : OkC V w x := ⟨Dw.bsu_mono h.b hV, h.s, h.t, h.m⟩
def RdC (U : Nat) (w : World) (A : Option Addr) (n c : Nat) (xs : List Cv) : Prop := RdG layC U w A n c xs ∧ ∀ x ∈ xs, OkC U w x
section
variable {U V : Nat} {w w' : World} {A : Option Addr} {n c : Nat} {xs : List Cv}
theorem RdC.below (h : RdC U w A n c xs) (hb : Below U w w') : RdC U w' A n c xs := ⟨h.1.below hb, fun x hx => (h.2 x hx).below hb⟩
theorem RdC.mono (h : RdC U w A n c xs) (hV : U ≤ V) : RdC V w A n c xs := ⟨h.1.mono hV, fun x hx => (h.2 x hx).mono hV⟩
theorem RdC.nil (U : Nat) (w : World) : RdC U w none 0 0 [] := ⟨RdG.nil U w, fun x hx => by cases hx⟩
theorem RdC.len (h : RdC U w A n c xs) : xs.length = n := h.1.len
/-- One change of a slice that reads. -/
theorem atC (h : RdC U w A n c xs) {k : Nat} (hk : k < n) : ∃ b o x, A = some ⟨b, o, none⟩ ∧ b < U ∧ Hid (xs[k]? = some x) ∧ OkC U w x ∧
    w.cell? ⟨b, o + k * 4, none⟩ = some (.int .i64 x.kind) ∧ w.cell? ⟨b, o + k * 4 + 1, none⟩ = some (.string (ba x.name)) ∧ w.cell? ⟨b, o + k * 4 + 2, none⟩ = some (.string (ba x.tn)) ∧ w.cell? ⟨b, o + k * 4 + 3, none⟩ = some (.slice x.A x.b.length x.c) := by
  obtain ⟨b, o, e, hU, x, hl, hc⟩ := h.1.at_ hk
  exact ⟨b, o, x, e, hU, hl, h.2 x (List.mem_of_getElem? hl.out), hc 0 _ rfl, hc 1 _ rfl, hc 2 _ rfl, hc 3 _ rfl⟩
end
theorem chP : RgP Tryz.prog 42 75 layC (.agg #[.int .i64 0, .string ⟨#[]⟩, .string ⟨#[]⟩, .slice none 0 0]) 64 := ⟨Tryz.underlying42, by kernel_rfl⟩

/-! ### first -/
def firstJ (b : List UInt8) : L × Nat × Int :=
  if openE b = 4 then (zeroL, 0, 4) else if openE b ≠ 0 then (zeroL, 0, 2) else if (readR (heldL b)).2 ≠ 0 then (zeroL, 0, 2) else ((readR (heldL b)).1, 6 + (heldL b).length, 0)
theorem first_more {b : List UInt8} (h : openE b = 4) : firstJ b = (zeroL, 0, 4) := if_pos h
theorem first_bad {b : List UInt8} (h4 : ¬ openE b = 4) (h0 : openE b ≠ 0) : firstJ b = (zeroL, 0, 2) := by unfold firstJ; rw [if_neg h4, if_pos h0]
theorem first_none {b : List UInt8} (h0 : openE b = 0) (hr : (readR (heldL b)).2 ≠ 0) : firstJ b = (zeroL, 0, 2) := by
  unfold firstJ
  rw [if_neg (by rw [h0]; decide), if_neg (fun k => k h0), if_pos hr]
theorem first_ok {b : List UInt8} (h0 : openE b = 0) (hr : (readR (heldL b)).2 = 0) : firstJ b = ((readR (heldL b)).1, 6 + (heldL b).length, 0) := by
  unfold firstJ
  rw [if_neg (by rw [h0]; decide), if_neg (fun k => k h0), if_neg (fun k => k hr)]
/-- What is read of bytes, by what first tells of them. -/
theorem scan_first {b : List UInt8} (h : b ≠ []) : ((firstJ b).2.2 = 4 ∧ scanJ b = ([], 0, 4)) ∨ ((firstJ b).2.2 = 2 ∧ scanJ b = badJ) ∨
    ((firstJ b).2.2 = 0 ∧ scanJ b = putJ [(firstJ b).1] (firstJ b).2.1 (scanJ (b.drop (firstJ b).2.1)) ∧ 6 ≤ (firstJ b).2.1 ∧ (firstJ b).2.1 ≤ b.length) := by
  by_cases h4 : openE b = 4
  · exact .inl ⟨by rw [first_more h4], scan_more h h4⟩
  by_cases h0 : openE b = 0
  rotate_left
  · exact .inr (.inl ⟨by rw [first_bad h4 h0], scan_bad h h4 h0⟩)
  by_cases hr : (readR (heldL b)).2 = 0
  rotate_left
  · exact .inr (.inl ⟨by rw [first_none h0 hr], scan_none h h0 hr⟩)
  · refine .inr (.inr ?_)
    rw [first_ok h0 hr]
    exact ⟨rfl, scan_one h h0 hr, (by show 6 ≤ 6 + _; omega), (open_zero h0).1⟩
theorem openE_hold {l : List UInt8} (h : openE l = 0) : (heldL l).length = valL (l.take 2) := by
  obtain ⟨h1, h2, h3, h4⟩ := Cw.openE_zero h
  unfold heldL
  rw [List.length_take, List.length_drop]
  omega
def FsR (w : World) (p : L × Nat × Int) (e : Ending) (w' : World) : Prop := e = .returned (.tuple #[lv p.1, .int .i64 (p.2.1 : Nat), .int .i64 p.2.2]) ∧ Below w.heap.size w w'
theorem results_cell_tmp2 {fn : Func} {p u v : Tmp} {ty : TypeId} (h : fn.results = #[.cell p ty, .tmp u, .tmp v]) (tmps : Array Value) (P : Program) (w : World) :
    (results fn tmps).run P w = ((asAddr (tmps.getD p undef)).run P w).andThen fun a w₁ => ((loadVar ty a).run P w₁).andThen fun x w₂ => .ok (.tuple #[x, tmps.getD u undef, tmps.getD v undef]) w₂ := by
  simp only [results, h]
  simp [Sem.run_bind, Result.andThen]
theorem ret_lease3 {fn : Func} {p u v : Tmp} (hres : fn.results = #[.cell p 56, .tmp u, .tmp v]) (tmps : Array Value) (w : World) (g : Nat) (l : L) (hp : tmps.getD p undef = .pointer (some ⟨g, 0, none⟩)) (hc : Cel w g 56 (lcs l)) :
    (results fn tmps).run Tryz.prog w = .ok (.tuple #[lv l, tmps.getD u undef, tmps.getD v undef]) w := by
  rw [results_cell_tmp2 hres, hp]
  have := run_loadVar_row (P := Tryz.prog) w g 56 56 (lcs l) (0, 0) _ hc Tryz.underlying56 rfl (by kernel_rfl)
  simp [asAddr, this]
set_option maxHeartbeats 2000000 in
theorem first_any (A : Option Addr) (n c : Nat) (l : List UInt8) (w : World) (h : Bs w A n c l) : Calls Tryz.prog 42 #[.slice A n c] w (FsR w (firstJ l)) := by
  obtain ⟨w1, hw1⟩ : ∃ w1, w1 = w.alloc (.cells (lcs zeroL) 56) := ⟨_, rfl⟩
  have hb1 : Below w.heap.size w w1 := by rw [hw1]; exact (Below.refl _ _).alloc (Nat.le_refl _) _
  have hc1 : Cel w1 w.heap.size 56 (lcs zeroL) := by rw [hw1]; exact Cel.born _ _ _
  have h1 := h.below hb1
  have HB1 := Lib.hid hb1
  have HC1 := Lib.hid hc1
  obtain ⟨q0, q1, q2, q3⟩ := cel4 hc1
  obtain ⟨f0, f1, f2, f3⟩ := celFr4 hc1
  have HX := Lib.hid h1
  by_cases h0 : openE l = 0
  rotate_left
  · have HO := Lib.hid (Cw.open_err A n c l w1 h1 h0)
    by_cases h4 : openE l = 4
    · have HF := Lib.hid (first_more h4)
      rw [h4] at HO
      clear h h1 h0 h4 hb1 hc1
      go_enter Tryz.func42, Tryz.ntmps42
      go_wp2_with fail
      rw [← show w1 = w.alloc (.cells #[.int .i64 0, .int .i64 0, .int .i64 0, .string ⟨#[]⟩] 56) from hw1]
      clear hw1
      refine HO.out.mono ?_
      rintro e w2 ⟨rfl, rfl⟩
      go_wp2
      (try simp only [Exit.inBlock, Exit.then])
      refine bodyPost_ret (ret_lease3 rfl _ _ w.heap.size zeroL rfl (celPut4 (l := zeroL) HC1.out)) rfl ?_
      exact ⟨by rw [HF.out]; rfl, belowPut4 HB1.out (Nat.le_refl _) zeroL⟩
    · have HF := Lib.hid (first_bad h4 h0)
      have b4 : (((openE l : Nat) : Int) == 4) = false := by simp; omega
      have b0 : (((openE l : Nat) : Int) != 0) = true := by simp; omega
      generalize openE l = q at HO b4 b0
      clear h h1 h0 h4 hb1 hc1
      go_enter Tryz.func42, Tryz.ntmps42
      go_wp2_with fail
      rw [← show w1 = w.alloc (.cells #[.int .i64 0, .int .i64 0, .int .i64 0, .string ⟨#[]⟩] 56) from hw1]
      clear hw1
      refine HO.out.mono ?_
      rintro e w2 ⟨rfl, rfl⟩
      go_wp2
      (try simp only [Exit.inBlock, Exit.then])
      refine bodyPost_ret (ret_lease3 rfl _ _ w.heap.size zeroL rfl (celPut4 (l := zeroL) HC1.out)) rfl ?_
      exact ⟨by rw [HF.out]; rfl, belowPut4 HB1.out (Nat.le_refl _) zeroL⟩
  · obtain ⟨m, hm⟩ : ∃ m, m = valL (l.take 2) := ⟨_, rfl⟩
    have hz := openE_hold h0
    rw [← hm] at hz
    have HO := Lib.hid (Cw.open_yes A n c m l w1 h1 hm.symm h0)
    have HF1 := Lib.hid (fun k => first_none (b := l) h0 k)
    have HF2 := Lib.hid (fun k => first_ok (b := l) h0 k)
    rw [hz] at HF2
    generalize heldL l = x at HO HF1 HF2
    have HR := Lib.hid (fun A1 n1 c1 W hW => read_any A1 n1 c1 x W hW)
    generalize readR x = p at HR HF1 HF2
    obtain ⟨y, er⟩ := p
    clear h h1 h0 hb1 hc1 hm hz
    go_enter Tryz.func42, Tryz.ntmps42
    go_wp2_with fail
    rw [← show w1 = w.alloc (.cells #[.int .i64 0, .int .i64 0, .int .i64 0, .string ⟨#[]⟩] 56) from hw1]
    clear hw1
    refine HO.out.mono ?_
    rintro e w2 ⟨A1, c1, rfl, hown2, hb2⟩
    have HC2 := Lib.hid (HC1.out.below hb2 HC1.out.lt)
    have HB2 := Lib.hid (HB1.out.trans (hb2.mono HB1.out.size))
    have HR2 := Lib.hid (HR.out A1 m c1 w2 hown2.bs)
    clear hb2 hown2 q0 q1 q2 q3 f0 f1 f2 f3 HO HC1 HB1 HR
    go_wp2_with fail
    refine HR2.out.mono ?_
    rintro e w3 ⟨rfl, hb3⟩
    obtain ⟨w4, hw4⟩ : ∃ w4, w4 = w3.alloc (.cells (lcs y) 56) := ⟨_, rfl⟩
    have hb4 : Below w3.heap.size w3 w4 := by rw [hw4]; exact (Below.refl _ _).alloc (Nat.le_refl _) _
    have hc4 : Cel w4 w3.heap.size 56 (lcs y) := by rw [hw4]; exact Cel.born _ _ _
    have hb24 := hb3.trans (hb4.mono hb3.size)
    have HC4 := HC2.out.below hb24 HC2.out.lt
    have HB4 := Lib.hid (HB2.out.trans (hb24.mono HB2.out.size))
    obtain ⟨q0, q1, q2, q3⟩ := cel4 HC4
    obtain ⟨f0, f1, f2, f3⟩ := celFr4 HC4
    obtain ⟨p0, p1, p2, p3⟩ := cel4 hc4
    have HCC := Lib.hid HC4
    clear hb3 hb4 hb24 HC4 hc4 HR2
    by_cases he : er = 0
    · have HF := Lib.hid (HF2.out he)
      clear HF1 HF2
      subst he
      rw [hw4] at p0 p1 p2 p3 q0 q1 q2 q3 f0 f1 f2 f3
      go_wp2
      (try simp only [Exit.inBlock, Exit.then])
      rw [← hw4]
      refine bodyPost_ret (ret_lease3 rfl _ _ w.heap.size y rfl (celPut4 (l := y) HCC.out)) rfl ?_
      exact ⟨by rw [HF.out]; go_num, belowPut4 HB4.out (Nat.le_refl _) y⟩
    · have HF := Lib.hid (HF1.out he)
      have b0 : (er != 0) = true := by simpa using he
      clear HF1 HF2 he
      rw [hw4] at q0 q1 q2 q3 f0 f1 f2 f3
      go_wp2
      (try simp only [Exit.inBlock, Exit.then])
      rw [← show w4 = w3.alloc (.cells #[.int .i64 y.addr, .int .i64 y.state, .int .i64 y.till, .string (ba y.key)] 56) from hw4]
      refine bodyPost_ret (ret_lease3 rfl _ _ w.heap.size zeroL rfl (celPut4 (l := zeroL) HCC.out)) rfl ?_
      exact ⟨by rw [HF.out]; rfl, belowPut4 HB4.out (Nat.le_refl _) zeroL⟩
end Go.Proofs.YtlefpodonkdbeaaGreat.Jw
