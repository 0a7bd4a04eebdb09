/- A query's processes: the map of method values that they answer, and what is looked up in it. Condition: the query is in memory. -/
import Derived.Test.YtoldppbakapohaaGreatDoorEzLeaf
import Derived.Test.YtoldppbakapohaaGreatDoorVwB
import Derived.Test.YtoldppbakapohaaGreatDoorBwA
import Derived.Test.YtoldppbakapohaaGreatDoorKwA
import Derived.Test.YtoldppbakapohaaGreatDoorPwA
import Derived.Test.YtoldppbakapohaaGreatDoorGwA
import Derived.Test.YtoldppbakapohaaGreatDoorEgMore
import Derived.Test.YtoldppbakapohaaGreatDoorEzD
import Derived.Maps.OwnSet
section
set_option maxRecDepth 8000
namespace Go.Proofs.YtoldppbakapohaaGreatDoor.Ez
open Go.RowKit Tl Co Ms Cf Ad By Rp Ky Rc Ew Jw La Tb Pk Al Cl Eg Ey
open Dw (ba ba_size ba_data ba_list)
open Pw (alloc_more celM_all boxM)
open Vw (Cx cel3C)
open Rpw (Mo)

open Go.Maps (Keyed IsMap isMap_empty has_put_same has_put_other atKey_put_same atKey_put_other int_keyed keyOf_int_mk)
/-- 'm[k] = v' of a literal, at the operation. -/
theorem wpList_insert_own {H : Type} {P : Program} (w : World) {ops : Array Oper} {rest : List Oper} {o : Oper} {a : Act} {Q : Exit → Act → World → Prop}
    (hg : o.guard = none) (m x v : Operand) (t : TypeId) (hop : o.op = Op.insert t m x v)
    (k e : TypeId) (K : Keyed P k) (ht : P.underlying t = some (.map k e)) (R : Value → Option (DataW H × List MemPlace)) (b n : Nat) (D : DataW H)
    (hm : a.eval m = .map (some b)) (hown : w.ownsMap P k R b n D) (hn : n < maxLen) (key val : Value) (kl : Lit) (hx : a.eval x = key) (hv : a.eval v = val) (hkey : keyOf P k key = some kl)
    (d : DataW H) (ps : List MemPlace) (hval : R val = some (d, ps))
    (hK : ∀ w', w'.ownsMap P k R b (n + 1) (D.put kl d) → w.grownBy w' (some b) → wpList P ops Q rest (a.put o.dst undef) w') :
    wpList P ops Q (o :: rest) a w := by
  refine wpList_plain hg fun K' hK' => ?_
  obtain ⟨w', hrun, r1, r2⟩ := hown.update K ht hn hkey hval
  unfold Oper.wp
  simp [execOp, hop, hm, hx, hv, hrun, Result.andThen]
  exact hK' _ _ (hK w' r1 r2)
open Classical in
/-- How a method value of one receiver is read: by its function's number. -/
noncomputable def fnQ (v : Value) : Value → Option (DataW Unit × List MemPlace)
  | .func (.func f) a b => if a = #[v] ∧ b = #[] then some (.lit (.int .i64 f), []) else none
  | .nilFunc => some (.nil, [])
  | _ => none
theorem fnQ_mk (v : Value) (f : Nat) : fnQ v (.func (.func f) #[v] #[]) = some (.lit (.int .i64 f), []) := by
  unfold fnQ
  exact if_pos ⟨rfl, rfl⟩
theorem fnQ_inv {q v : Value} {f : Nat} {ps : List MemPlace} (h : fnQ q v = some (.lit (.int .i64 f), ps)) : v = .func (.func f) #[q] #[] := by
  unfold fnQ at h
  split at h
  · next g a b =>
    split at h
    · next hs =>
      simp only [Option.some.injEq, Prod.mk.injEq, DataW.lit.injEq, Lit.int.injEq, true_and, Int.natCast_inj] at h
      obtain ⟨rfl, _⟩ := h
      obtain ⟨rfl, rfl⟩ := hs
      rfl
    · cases h
  · simp at h
  · cases h
theorem fnQ_nil {q v : Value} {ps : List MemPlace} (h : fnQ q v = some (.nil, ps)) : v = .nilFunc := by
  unfold fnQ at h
  split at h
  · split at h
    · simp at h
    · cases h
  · rfl
  · cases h
def kI (k : Int) : Lit := .int .i64 k
abbrev dF (f : Nat) : DataW Unit := .lit (.int .i64 f)
def mapQ : DataW Unit := (((((DataW.map []).put (kI 1) (dF 81)).put (kI 3) (dF 82)).put (kI 4) (dF 83)).put (kI 7) (dF 84)).put (kI 8) (dF 85)
/-- The map in the block b is the one of the five. -/
def Mq (w : World) (v : Value) (b : Nat) : Prop := w.ownsMap Tryz.prog 3 (fnQ v) b 5 mapQ
theorem mapT : Tryz.prog.underlying 82 = some (.map 3 80) := Tryz.underlying82
theorem lawI : Keyed Tryz.prog 3 := int_keyed Tryz.underlying3
theorem zeroF (w : World) : (zeroValue 80).run Tryz.prog w = .ok .nilFunc w := by kernel_rfl
theorem Mq.below {w w' : World} {v : Value} {b : Nat} (h : Mq w v b) (hb : Below w.heap.size w w') : Mq w' v b := by
  obtain ⟨es, clock, hh, r⟩ := h
  refine ⟨es, clock, ?_, r⟩
  have hlt : b < w.heap.size := by
    rcases Nat.lt_or_ge b w.heap.size with k | k
    · exact k
    · rw [Array.getElem?_eq_none k] at hh; cases hh
  exact (hb.block b hlt).trans hh
/-- What processes an answer of each kind. -/
def procF (k : Int) : Option Nat := if k = 1 then some 81 else if k = 3 then some 82 else if k = 4 then some 83 else if k = 7 then some 84 else if k = 8 then some 85 else none
def procV (v : Value) : Option Nat → Value
  | some f => .func (.func f) #[v] #[]
  | none => .nilFunc
theorem look_yes {w : World} {v : Value} {b : Nat} (h : Mq w v b) {k : Int} {f : Nat} (hw : (kI k).wf = true) (h1 : Maps.has mapQ (kI k) = true) (h2 : mapQ.atKey (kI k) .nil = dF f) :
    (Instr.lookup 82 (.map (some b)) (.int .i64 k) true).run Tryz.prog w = .ok (.tuple #[.func (.func f) #[v] #[], .bool true]) w := by
  obtain ⟨x, ps, hrun, hv⟩ := World.ownsMap.look_ok h lawI mapT (zeroF w) (zd := .nil) (zp := []) rfl (keyOf_int_mk Tryz.underlying3 hw)
  rw [show (Lit.int .i64 k) = kI k from rfl, h1] at hrun
  rw [show (Lit.int .i64 k) = kI k from rfl, h2] at hv
  rw [fnQ_inv hv] at hrun
  exact hrun
theorem look_not {w : World} {v : Value} {b : Nat} (h : Mq w v b) {k : Int} (hw : (kI k).wf = true) (h1 : Maps.has mapQ (kI k) = false) (h2 : mapQ.atKey (kI k) .nil = .nil) :
    (Instr.lookup 82 (.map (some b)) (.int .i64 k) true).run Tryz.prog w = .ok (.tuple #[.nilFunc, .bool false]) w := by
  obtain ⟨x, ps, hrun, hv⟩ := World.ownsMap.look_ok h lawI mapT (zeroF w) (zd := .nil) (zp := []) rfl (keyOf_int_mk Tryz.underlying3 hw)
  rw [show (Lit.int .i64 k) = kI k from rfl, h1] at hrun
  rw [show (Lit.int .i64 k) = kI k from rfl, h2] at hv
  rw [fnQ_nil hv] at hrun
  exact hrun
theorem lookQ {w : World} {v : Value} {b : Nat} (h : Mq w v b) {k : Int} (h0 : 0 ≤ k) (h8 : k ≤ 8) :
    (Instr.lookup 82 (.map (some b)) (.int .i64 k) true).run Tryz.prog w = .ok (.tuple #[procV v (procF k), .bool (procF k).isSome]) w := by
  obtain rfl | rfl | rfl | rfl | rfl | rfl | rfl | rfl | rfl : k = 0 ∨ k = 1 ∨ k = 2 ∨ k = 3 ∨ k = 4 ∨ k = 5 ∨ k = 6 ∨ k = 7 ∨ k = 8 := by omega
  · exact look_not h (by decide) (by rfl) (by rfl)
  · exact look_yes h (by decide) (by rfl) (by rfl)
  · exact look_not h (by decide) (by rfl) (by rfl)
  · exact look_yes h (by decide) (by rfl) (by rfl)
  · exact look_yes h (by decide) (by rfl) (by rfl)
  · exact look_not h (by decide) (by rfl) (by rfl)
  · exact look_not h (by decide) (by rfl) (by rfl)
  · exact look_yes h (by decide) (by rfl) (by rfl)
  · exact look_yes h (by decide) (by rfl) (by rfl)
theorem cel_grown {w w' : World} {g b : Nat} {t : TypeId} {cs : Array Value} (h : Cel w g t cs) (hne : g ≠ b) (hg : w.grownBy w' (some b)) : Cel w' g t cs := by
  have := hg.block g h.lt (fun e => hne (by simpa using e))
  unfold Cel at h ⊢
  rw [this]
  exact h
set_option maxHeartbeats 4000000 in
theorem processes_any (q : Qv) (w : World) : Calls Tryz.prog 39 #[q.v] w fun e w' => ∃ b, e = .returned (.map (some b)) ∧ Mq w' q.v b ∧ Below w.heap.size w w' := by
  obtain ⟨w0, hw0, hq0, hb0, hs0⟩ := boxQ1 w q
  have hmm := @run_makeMap Tryz.prog
  have hmf : ∀ (fn : Fn) (first cap : Array Value) (w : World), (Instr.makeFunc fn first cap).run Tryz.prog w = .ok (.func fn first cap) w := fun _ _ _ _ => rfl
  have h0 : (w0.alloc (.map #[] 0)).ownsMap Tryz.prog 3 (fnQ q.v) w0.heap.size 0 (.map []) := World.ownsMap_made _ _ _ _
  have hb1 := tr hb0 (alloc_more w0 (.map #[] 0))
  have hc0 : Cel (w0.alloc (.map #[] 0)) w.heap.size 77 q.cs := hq0.below (alloc_more w0 (.map #[] 0)) hq0.lt
  obtain ⟨w1, hw1⟩ : ∃ w1, w1 = w0.alloc (.map #[] 0) := ⟨_, rfl⟩
  rw [← hw1] at h0 hb1 hc0
  have HC0 := Lib.hid hc0
  have HH0 := Lib.hid h0
  have HB1 := Lib.hid hb1
  have HS0 := Lib.hid hs0
  have HW1 := Lib.hid hw1
  clear hc0 h0 hb1 hs0 hq0 hb0 hw1
  go_enter Tryz.func39, Tryz.ntmps39
  go_upto_region 1 with fail
  rw [← hw0]
  clear hw0
  go_wp2_with (first
    | (rw [← HW1.out]; refine wpList_load_row rfl 77 (.tmp 1) rfl w.heap.size rfl 77 q.cs (0, 0) _ HC0.out Tryz.underlying77 rfl (by kernel_rfl) ?_)
    | (refine wpList_insert_own _ rfl _ _ _ 82 rfl 3 80 lawI mapT (fnQ q.v) w0.heap.size 0 _ rfl HH0.out (by decide) _ _ (kI 1) rfl rfl rfl (dF 81) [] (fnQ_mk _ _) ?_; intro wa hh1 hg1; have HH1 := Lib.hid hh1; have HG1 := Lib.hid hg1; have HC1 := Lib.hid (cel_grown HC0.out (by have := HS0.out; omega) hg1); clear hh1 hg1)
    | (refine wpList_load_row rfl 77 (.tmp 1) rfl w.heap.size rfl 77 q.cs (0, 0) _ HC1.out Tryz.underlying77 rfl (by kernel_rfl) ?_)
    | (refine wpList_insert_own _ rfl _ _ _ 82 rfl 3 80 lawI mapT (fnQ q.v) w0.heap.size 1 _ rfl HH1.out (by decide) _ _ (kI 3) rfl rfl rfl (dF 82) [] (fnQ_mk _ _) ?_; intro wb hh2 hg2; have HH2 := Lib.hid hh2; have HG2 := Lib.hid hg2; have HC2 := Lib.hid (cel_grown HC1.out (by have := HS0.out; omega) hg2); clear hh2 hg2)
    | (refine wpList_load_row rfl 77 (.tmp 1) rfl w.heap.size rfl 77 q.cs (0, 0) _ HC2.out Tryz.underlying77 rfl (by kernel_rfl) ?_)
    | (refine wpList_insert_own _ rfl _ _ _ 82 rfl 3 80 lawI mapT (fnQ q.v) w0.heap.size 2 _ rfl HH2.out (by decide) _ _ (kI 4) rfl rfl rfl (dF 83) [] (fnQ_mk _ _) ?_; intro wc hh3 hg3; have HH3 := Lib.hid hh3; have HG3 := Lib.hid hg3; have HC3 := Lib.hid (cel_grown HC2.out (by have := HS0.out; omega) hg3); clear hh3 hg3)
    | (refine wpList_load_row rfl 77 (.tmp 1) rfl w.heap.size rfl 77 q.cs (0, 0) _ HC3.out Tryz.underlying77 rfl (by kernel_rfl) ?_)
    | (refine wpList_insert_own _ rfl _ _ _ 82 rfl 3 80 lawI mapT (fnQ q.v) w0.heap.size 3 _ rfl HH3.out (by decide) _ _ (kI 7) rfl rfl rfl (dF 84) [] (fnQ_mk _ _) ?_; intro wd hh4 hg4; have HH4 := Lib.hid hh4; have HG4 := Lib.hid hg4; have HC4 := Lib.hid (cel_grown HC3.out (by have := HS0.out; omega) hg4); clear hh4 hg4)
    | (refine wpList_load_row rfl 77 (.tmp 1) rfl w.heap.size rfl 77 q.cs (0, 0) _ HC4.out Tryz.underlying77 rfl (by kernel_rfl) ?_)
    | (refine wpList_insert_own _ rfl _ _ _ 82 rfl 3 80 lawI mapT (fnQ q.v) w0.heap.size 4 _ rfl HH4.out (by decide) _ _ (kI 8) rfl rfl rfl (dF 85) [] (fnQ_mk _ _) ?_; intro we hh5 hg5; have HH5 := Lib.hid hh5; have HG5 := Lib.hid hg5; have HC5 := Lib.hid (cel_grown HC4.out (by have := HS0.out; omega) hg5); clear hh5 hg5))
  go_ret
  have low : ∀ k, some w0.heap.size = some k → w.heap.size ≤ k := fun k hk => by cases hk; have := HS0.out; omega
  have b1 := HB1.out.grown HG1.out HB1.out.size low
  have b2 := b1.grown HG2.out b1.size low
  have b3 := b2.grown HG3.out b2.size low
  have b4 := b3.grown HG4.out b3.size low
  exact ⟨_, rfl, HH5.out, b4.grown HG5.out b4.size low⟩
end Go.Proofs.YtoldppbakapohaaGreatDoor.Ez
end
/- What engine's accept comes to: the query of a message that is to be processed. Condition: all reads, nothing is great. -/
section
set_option maxRecDepth 8000
namespace Go.Proofs.YtoldppbakapohaaGreatDoor.Ez
open Go.RowKit Tl Co Ms Cf Ad By Rp Ky Rc Ew Jw La Tb Pk Al Cl Eg Ey
open Dw (ba ba_size ba_data ba_list)
open Pw (alloc_more celM_all boxM)
open Vw (Cx cel3C)
open Rpw (Mo)

theorem box3q (w : World) (c : Cx) (x : Mv) : ∃ w3, w3 = ((w.alloc (.cells c.cs 24)).alloc (.cells x.cells 29)).alloc (.cells zq 77) ∧
    Cel w3 w.heap.size 24 c.cs ∧ Cel w3 (w.heap.size + 1) 29 x.cells ∧ Cel w3 (w.heap.size + 2) 77 zq ∧ Below w.heap.size w w3 ∧ w3.heap.size = w.heap.size + 3 := by
  have ca := Cel.born w 24 c.cs
  have ba := alloc_more w (.cells c.cs 24)
  have sa : (w.alloc (.cells c.cs 24)).heap.size = w.heap.size + 1 := by simp
  refine ⟨_, rfl, ?_⟩
  generalize w.alloc (.cells c.cs 24) = wa at ca ba sa
  have cb := Cel.born wa 29 x.cells
  have bb := alloc_more wa (.cells x.cells 29)
  have sb : (wa.alloc (.cells x.cells 29)).heap.size = w.heap.size + 2 := by simp; omega
  generalize wa.alloc (.cells x.cells 29) = wb at cb bb sb
  have cc := Cel.born wb 77 zq
  have bc := alloc_more wb (.cells zq 77)
  have sc : (wb.alloc (.cells zq 77)).heap.size = w.heap.size + 3 := by simp; omega
  rw [sa] at cb
  rw [sb] at cc
  exact ⟨(ca.below bb ca.lt).below bc (by omega), cb.below bc cb.lt, cc, (ba.trans (bb.mono ba.size)).trans (bc.mono (by omega)), sc⟩
theorem box3a (w : World) (c : Cx) (x : Mv) : ∃ w3, w3 = ((w.alloc (.cells c.cs 24)).alloc (.cells x.cells 29)).alloc (.cells zav 37) ∧
    Cel w3 w.heap.size 24 c.cs ∧ Cel w3 (w.heap.size + 1) 29 x.cells ∧ Cel w3 (w.heap.size + 2) 37 zav ∧ Below w.heap.size w w3 ∧ w3.heap.size = w.heap.size + 3 := by
  have ca := Cel.born w 24 c.cs
  have ba := alloc_more w (.cells c.cs 24)
  have sa : (w.alloc (.cells c.cs 24)).heap.size = w.heap.size + 1 := by simp
  refine ⟨_, rfl, ?_⟩
  generalize w.alloc (.cells c.cs 24) = wa at ca ba sa
  have cb := Cel.born wa 29 x.cells
  have bb := alloc_more wa (.cells x.cells 29)
  have sb : (wa.alloc (.cells x.cells 29)).heap.size = w.heap.size + 2 := by simp; omega
  generalize wa.alloc (.cells x.cells 29) = wb at cb bb sb
  have cc := Cel.born wb 37 zav
  have bc := alloc_more wb (.cells zav 37)
  have sc : (wb.alloc (.cells zav 37)).heap.size = w.heap.size + 3 := by simp; omega
  rw [sa] at cb
  rw [sb] at cc
  exact ⟨(ca.below bb ca.lt).below bc (by omega), cb.below bc cb.lt, cc, (ba.trans (bb.mono ba.size)).trans (bc.mono (by omega)), sc⟩
/-- The query of a message that is to be processed. -/
@[reducible] def qOf (c : Cx) (A : Option Addr) (n cc : Nat) (l : List L) (x : Mv) (iface now : Int) : Qv := ⟨c, A, n, cc, l, x, now, (subnetM c.cf x.mm iface).1, (subnetM c.cf x.mm iface).2.1, (ofK x.mm).1⟩
def AcR (c : Cx) (A : Option Addr) (n cc : Nat) (l : List L) (x : Mv) (iface now : Int) (w : World) (e : Ending) (w' : World) : Prop := Below w.heap.size w w' ∧
  ((FairE c.cf l x.mm iface now ∧ e = .returned (.tuple #[(qOf c A n cc l x iface now).v, .bool true])) ∨ (¬ FairE c.cf l x.mm iface now ∧ e = .returned (.tuple #[.agg zq, .bool false])))
set_option maxHeartbeats 16000000 in
theorem accept_any (c : Cx) (A : Option Addr) (n cc U : Nat) (l : List L) (x : Mv) (iface now : Int) (w : World) (h : c.ok U w) (hl : RdLs U w A n cc l) (hU : U ≤ w.heap.size) (hS : Small c.cf) (hx : x.ok w) (hf : ∀ b ∈ l, Fk b) (hsm : ∀ p ∈ x.ps, p.l.length ≤ 1000) :
    Calls Tryz.prog 38 #[c.v, .slice A n cc, x.v, .int .i64 iface, .int .i64 now] w (AcR c A n cc l x iface now w) := by
  obtain ⟨w0, hw0, hc0, hm0, hz0, hb0, hsz⟩ := box3q w c x
  have KC := Lib.hid (fun W (hW : Below w0.heap.size w0 W) => cel3C (hc0.below hW hc0.lt))
  have KM := Lib.hid (fun W (hW : Below w0.heap.size w0 W) => celM_all (hm0.below hW hm0.lt))
  have KZ := Lib.hid (fun W (hW : Below w0.heap.size w0 W) => hz0.below hW hz0.lt)
  have HB0 := Lib.hid hb0
  have HB00 := Lib.hid (Below.refl w0.heap.size w0)
  have C1 := Lib.hid (fun W (hW : Below w0.heap.size w0 W) => Vw.check_any c U W (h.below ((tr hb0 hW).mono hU)) (Nat.le_trans hU (tr hb0 hW).size) hS)
  have C2 := Lib.hid (fun W (hW : Below w0.heap.size w0 W) => Bw.right_any A n cc U l W (hl.below ((tr hb0 hW).mono hU)) (Nat.le_trans hU (tr hb0 hW).size) hf)
  have C3 := Lib.hid (fun W (hW : Below w0.heap.size w0 W) => Mw.right_any x W (hx.below (tr hb0 hW)))
  have C4 := Lib.hid (fun W (hW : Below w0.heap.size w0 W) => Kw.of_any x W (hx.below (tr hb0 hW)))
  have C5 := Lib.hid (fun W (hW : Below w0.heap.size w0 W) => Pw.subnet_any c x iface U W (h.below ((tr hb0 hW).mono hU)) (Nat.le_trans hU (tr hb0 hW).size) hS (hx.below (tr hb0 hW)) hsm)
  have C6 := Lib.hid (fun W (hW : Below w0.heap.size w0 W) => Gw.foreign_any x c.server W (hx.below (tr hb0 hW)) hsm)
  have HF : Hid (FairE c.cf l x.mm iface now ↔ (checkC c.cf = 0 ∧ rightT l = true ∧ (0 ≤ now ∧ now ≤ 1125899906842624) ∧ rightM x.mm = true ∧ x.op = 1 ∧ (ofK x.mm).2 = 0 ∧ (subnetM c.cf x.mm iface).2.2 = true ∧ foreignL x.mm c.server = false)) := by
    show _ ↔ _
    unfold FairE
    rw [rightM_iff, show rightT l = decide (RightT l) from rfl, decide_eq_true_iff]
    exact Iff.rfl
  unfold AcR
  generalize FairE c.cf l x.mm iface now = FE at HF ⊢
  have HQ : Hid (qOf c A n cc l x iface now = ⟨c, A, n, cc, l, x, now, (subnetM c.cf x.mm iface).1, (subnetM c.cf x.mm iface).2.1, (ofK x.mm).1⟩) := rfl
  generalize qOf c A n cc l x iface now = qq at HQ ⊢
  generalize checkC c.cf = ck at C1 HF
  generalize rightT l = rt at C2 HF
  generalize rightM x.mm = rm at C3 HF
  generalize ofK x.mm = ok at C4 HF HQ
  generalize subnetM c.cf x.mm iface = sn at C5 HF HQ
  generalize foreignL x.mm c.server = fo at C6 HF
  obtain ⟨kk, ke⟩ := ok
  obtain ⟨s1, s2, s3⟩ := sn
  clear h hl hU hS hx hf hsm hc0 hm0 hz0 hb0 hsz
  obtain ⟨v0, v1, v2⟩ := KC.out w0 HB00.out
  by_cases hck : ck = 0
  rotate_left
  · have HN : Hid (¬ FE) := fun z => hck (HF.out.1 z).1
    have hcb : (ck != 0) = true := by simpa using hck
    clear hck
    go_enter Tryz.func38, Tryz.ntmps38
    go_upto_region 1 with fail
    rw [← hw0]
    clear hw0
    go_wp2_with fail
    refine (C1.out w0 HB00.out).mono ?_
    rintro e w1 ⟨rfl, hb1⟩
    have HB1 := Lib.hid hb1
    clear hb1 v0 v1 v2
    go_wp2_with (refine wpList_store_row rfl 77 (.tmp 10) (.tmp 43) rfl (w.heap.size + 2) zq rfl rfl 77 zq (KZ.out w1 HB1.out) (by kernel_rfl) rfl (by kernel_rfl) ?_; obtain ⟨w9, hw9⟩ : ∃ w9, w9 = w1.setRow (w.heap.size + 2) zq := ⟨_, rfl⟩; rw [← hw9]; have HW9 := Lib.hid hw9; clear hw9)
    (try simp only [Exit.inBlock, Exit.then])
    refine bodyPost_ret (ret_q2 rfl _ _ (w.heap.size + 2) zq rfl (by rw [HW9.out]; exact rowC (KZ.out w1 HB1.out) _) rfl) rfl ?_
    exact ⟨by rw [HW9.out]; exact rowB (tr HB0.out HB1.out) (Nat.le_add_right _ 2) _, .inr ⟨HN.out, rfl⟩⟩
  have HCK := Lib.hid hck
  have hcb : (ck != 0) = false := by simp [hck]
  clear hck
  go_enter Tryz.func38, Tryz.ntmps38
  go_upto_region 1 with fail
  rw [← hw0]
  clear hw0
  go_wp2_with fail
  refine (C1.out w0 HB00.out).mono ?_
  rintro e w1 ⟨rfl, hb1⟩
  have HB1 := Lib.hid hb1
  clear hb1 v0 v1 v2
  go_wp2_with fail
  refine (C2.out w1 HB1.out).mono ?_
  rintro e w2 ⟨rfl, hb2⟩
  have HB2 := Lib.hid (tr HB1.out hb2)
  clear hb2
  cases rt with
  | false =>
    have HN : Hid (¬ FE) := fun z => absurd (HF.out.1 z).2.1 (by decide)
    go_wp2_with (refine wpList_store_row rfl 77 (.tmp 10) (.tmp 43) rfl (w.heap.size + 2) zq rfl rfl 77 zq (KZ.out w2 HB2.out) (by kernel_rfl) rfl (by kernel_rfl) ?_; obtain ⟨w9, hw9⟩ : ∃ w9, w9 = w2.setRow (w.heap.size + 2) zq := ⟨_, rfl⟩; rw [← hw9]; have HW9 := Lib.hid hw9; clear hw9)
    (try simp only [Exit.inBlock, Exit.then])
    refine bodyPost_ret (ret_q2 rfl _ _ (w.heap.size + 2) zq rfl (by rw [HW9.out]; exact rowC (KZ.out w2 HB2.out) _) rfl) rfl ?_
    exact ⟨by rw [HW9.out]; exact rowB (tr HB0.out HB2.out) (Nat.le_add_right _ 2) _, .inr ⟨HN.out, rfl⟩⟩
  | true =>
  by_cases hn0 : now < 0
  · have HN : Hid (¬ FE) := fun z => absurd (HF.out.1 z).2.2.1.1 (by omega)
    go_wp2_with (refine wpList_store_row rfl 77 (.tmp 10) (.tmp 43) rfl (w.heap.size + 2) zq rfl rfl 77 zq (KZ.out w2 HB2.out) (by kernel_rfl) rfl (by kernel_rfl) ?_; obtain ⟨w9, hw9⟩ : ∃ w9, w9 = w2.setRow (w.heap.size + 2) zq := ⟨_, rfl⟩; rw [← hw9]; have HW9 := Lib.hid hw9; clear hw9)
    (try simp only [Exit.inBlock, Exit.then])
    refine bodyPost_ret (ret_q2 rfl _ _ (w.heap.size + 2) zq rfl (by rw [HW9.out]; exact rowC (KZ.out w2 HB2.out) _) rfl) rfl ?_
    exact ⟨by rw [HW9.out]; exact rowB (tr HB0.out HB2.out) (Nat.le_add_right _ 2) _, .inr ⟨HN.out, rfl⟩⟩
  by_cases hn1 : 1125899906842624 < now
  · have HN : Hid (¬ FE) := fun z => absurd (HF.out.1 z).2.2.1.2 (by omega)
    go_wp2_with (refine wpList_store_row rfl 77 (.tmp 10) (.tmp 43) rfl (w.heap.size + 2) zq rfl rfl 77 zq (KZ.out w2 HB2.out) (by kernel_rfl) rfl (by kernel_rfl) ?_; obtain ⟨w9, hw9⟩ : ∃ w9, w9 = w2.setRow (w.heap.size + 2) zq := ⟨_, rfl⟩; rw [← hw9]; have HW9 := Lib.hid hw9; clear hw9)
    (try simp only [Exit.inBlock, Exit.then])
    refine bodyPost_ret (ret_q2 rfl _ _ (w.heap.size + 2) zq rfl (by rw [HW9.out]; exact rowC (KZ.out w2 HB2.out) _) rfl) rfl ?_
    exact ⟨by rw [HW9.out]; exact rowB (tr HB0.out HB2.out) (Nat.le_add_right _ 2) _, .inr ⟨HN.out, rfl⟩⟩
  have HNW : Hid (0 ≤ now ∧ now ≤ 1125899906842624) := ⟨by omega, by omega⟩
  obtain ⟨⟨m0, m1, m2, m3, m4, m5, m6⟩, m7, m8, m9, m10, m11, m12⟩ := KM.out w2 HB2.out
  go_wp2_with fail
  refine (C3.out w2 HB2.out).mono ?_
  rintro e w3 ⟨rfl, hb3⟩
  have HB3 := Lib.hid (tr HB2.out hb3)
  clear hb3 hn0 hn1 m0 m1 m2 m3 m4 m5 m6 m7 m8 m9 m10 m11 m12
  cases rm with
  | false =>
    have HN : Hid (¬ FE) := fun z => absurd (HF.out.1 z).2.2.2.1 (by decide)
    go_wp2_with (refine wpList_store_row rfl 77 (.tmp 10) (.tmp 43) rfl (w.heap.size + 2) zq rfl rfl 77 zq (KZ.out w3 HB3.out) (by kernel_rfl) rfl (by kernel_rfl) ?_; obtain ⟨w9, hw9⟩ : ∃ w9, w9 = w3.setRow (w.heap.size + 2) zq := ⟨_, rfl⟩; rw [← hw9]; have HW9 := Lib.hid hw9; clear hw9)
    (try simp only [Exit.inBlock, Exit.then])
    refine bodyPost_ret (ret_q2 rfl _ _ (w.heap.size + 2) zq rfl (by rw [HW9.out]; exact rowC (KZ.out w3 HB3.out) _) rfl) rfl ?_
    exact ⟨by rw [HW9.out]; exact rowB (tr HB0.out HB3.out) (Nat.le_add_right _ 2) _, .inr ⟨HN.out, rfl⟩⟩
  | true =>
  obtain ⟨⟨m0, m1, m2, m3, m4, m5, m6⟩, m7, m8, m9, m10, m11, m12⟩ := KM.out w3 HB3.out
  by_cases hop : x.op = 1
  rotate_left
  · have HN : Hid (¬ FE) := fun z => hop (HF.out.1 z).2.2.2.2.1
    have hob : (x.op != 1) = true := by simpa using hop
    clear hop
    go_wp2_with (refine wpList_store_row rfl 77 (.tmp 10) (.tmp 43) rfl (w.heap.size + 2) zq rfl rfl 77 zq (KZ.out w3 HB3.out) (by kernel_rfl) rfl (by kernel_rfl) ?_; obtain ⟨w9, hw9⟩ : ∃ w9, w9 = w3.setRow (w.heap.size + 2) zq := ⟨_, rfl⟩; rw [← hw9]; have HW9 := Lib.hid hw9; clear hw9)
    (try simp only [Exit.inBlock, Exit.then])
    refine bodyPost_ret (ret_q2 rfl _ _ (w.heap.size + 2) zq rfl (by rw [HW9.out]; exact rowC (KZ.out w3 HB3.out) _) rfl) rfl ?_
    exact ⟨by rw [HW9.out]; exact rowB (tr HB0.out HB3.out) (Nat.le_add_right _ 2) _, .inr ⟨HN.out, rfl⟩⟩
  have HOP := Lib.hid hop
  have hob : (x.op != 1) = false := by simp [hop]
  clear hop
  go_wp2_with fail
  refine (C4.out w3 HB3.out).mono ?_
  rintro e w4 ⟨kq, rfl, hkq, hb4⟩
  have HB4 := Lib.hid (tr HB3.out hb4)
  have HKQ := Lib.hid hkq
  clear hb4 hob hkq m0 m1 m2 m3 m4 m5 m6 m7 m8 m9 m10 m11 m12
  obtain ⟨v0, v1, v2⟩ := KC.out w4 HB4.out
  obtain ⟨⟨m0, m1, m2, m3, m4, m5, m6⟩, m7, m8, m9, m10, m11, m12⟩ := KM.out w4 HB4.out
  go_wp2_with fail
  refine (C5.out w4 HB4.out).mono ?_
  rintro e w5 ⟨rfl, hb5⟩
  have HB5 := Lib.hid (tr HB4.out hb5)
  clear hb5 v0 v1 v2 m0 m1 m2 m3 m4 m5 m6 m7 m8 m9 m10 m11 m12
  by_cases hke : ke = 0
  rotate_left
  · have HN : Hid (¬ FE) := fun z => hke (HF.out.1 z).2.2.2.2.2.1
    have hkb : (ke != 0) = true := by simpa using hke
    clear hke
    go_wp2_with (refine wpList_store_row rfl 77 (.tmp 10) (.tmp 69) rfl (w.heap.size + 2) zq rfl rfl 77 zq (KZ.out w5 HB5.out) (by kernel_rfl) rfl (by kernel_rfl) ?_; obtain ⟨w9, hw9⟩ : ∃ w9, w9 = w5.setRow (w.heap.size + 2) zq := ⟨_, rfl⟩; rw [← hw9]; have HW9 := Lib.hid hw9; clear hw9)
    (try simp only [Exit.inBlock, Exit.then])
    refine bodyPost_ret (ret_q2 rfl _ _ (w.heap.size + 2) zq rfl (by rw [HW9.out]; exact rowC (KZ.out w5 HB5.out) _) rfl) rfl ?_
    exact ⟨by rw [HW9.out]; exact rowB (tr HB0.out HB5.out) (Nat.le_add_right _ 2) _, .inr ⟨HN.out, rfl⟩⟩
  have HKE := Lib.hid hke
  have hkb : (ke != 0) = false := by simp [hke]
  clear hke
  cases s3 with
  | false =>
    have HN : Hid (¬ FE) := fun z => absurd (HF.out.1 z).2.2.2.2.2.2.1 (by decide)
    go_wp2_with (refine wpList_store_row rfl 77 (.tmp 10) (.tmp 69) rfl (w.heap.size + 2) zq rfl rfl 77 zq (KZ.out w5 HB5.out) (by kernel_rfl) rfl (by kernel_rfl) ?_; obtain ⟨w9, hw9⟩ : ∃ w9, w9 = w5.setRow (w.heap.size + 2) zq := ⟨_, rfl⟩; rw [← hw9]; have HW9 := Lib.hid hw9; clear hw9)
    (try simp only [Exit.inBlock, Exit.then])
    refine bodyPost_ret (ret_q2 rfl _ _ (w.heap.size + 2) zq rfl (by rw [HW9.out]; exact rowC (KZ.out w5 HB5.out) _) rfl) rfl ?_
    exact ⟨by rw [HW9.out]; exact rowB (tr HB0.out HB5.out) (Nat.le_add_right _ 2) _, .inr ⟨HN.out, rfl⟩⟩
  | true =>
  obtain ⟨v0, v1, v2⟩ := KC.out w5 HB5.out
  obtain ⟨⟨m0, m1, m2, m3, m4, m5, m6⟩, m7, m8, m9, m10, m11, m12⟩ := KM.out w5 HB5.out
  go_wp2_with fail
  refine (C6.out w5 HB5.out).mono ?_
  rintro e w6 ⟨rfl, hb6⟩
  have HB6 := Lib.hid (tr HB5.out hb6)
  clear hb6 hkb v0 v1 v2 m0 m1 m2 m3 m4 m5 m6 m7 m8 m9 m10 m11 m12
  cases fo with
  | true =>
    have HN : Hid (¬ FE) := fun z => absurd (HF.out.1 z).2.2.2.2.2.2.2 (by decide)
    go_wp2_with (refine wpList_store_row rfl 77 (.tmp 10) (.tmp 69) rfl (w.heap.size + 2) zq rfl rfl 77 zq (KZ.out w6 HB6.out) (by kernel_rfl) rfl (by kernel_rfl) ?_; obtain ⟨w9, hw9⟩ : ∃ w9, w9 = w6.setRow (w.heap.size + 2) zq := ⟨_, rfl⟩; rw [← hw9]; have HW9 := Lib.hid hw9; clear hw9)
    (try simp only [Exit.inBlock, Exit.then])
    refine bodyPost_ret (ret_q2 rfl _ _ (w.heap.size + 2) zq rfl (by rw [HW9.out]; exact rowC (KZ.out w6 HB6.out) _) rfl) rfl ?_
    exact ⟨by rw [HW9.out]; exact rowB (tr HB0.out HB6.out) (Nat.le_add_right _ 2) _, .inr ⟨HN.out, rfl⟩⟩
  | false =>
  have HY : Hid FE := HF.out.2 ⟨HCK.out, by trivial, HNW.out, by trivial, HOP.out, HKE.out, by trivial, by trivial⟩
  obtain rfl : kq = ba kk := key_ba HKQ.out
  obtain ⟨v0, v1, v2⟩ := KC.out w6 HB6.out
  obtain ⟨⟨m0, m1, m2, m3, m4, m5, m6⟩, m7, m8, m9, m10, m11, m12⟩ := KM.out w6 HB6.out
  go_wp2_with (refine wpList_store_row rfl 77 (.tmp 10) (.tmp 77) rfl (w.heap.size + 2) (Qv.cs ⟨c, A, n, cc, l, x, now, s1, s2, kk⟩) rfl rfl 77 zq (KZ.out w6 HB6.out) (by kernel_rfl) rfl (by kernel_rfl) ?_; obtain ⟨w9, hw9⟩ : ∃ w9, w9 = w6.setRow (w.heap.size + 2) (Qv.cs ⟨c, A, n, cc, l, x, now, s1, s2, kk⟩) := ⟨_, rfl⟩; rw [← hw9]; have HW9 := Lib.hid hw9; clear hw9)
  (try simp only [Exit.inBlock, Exit.then])
  refine bodyPost_ret (ret_q2 rfl _ _ (w.heap.size + 2) (Qv.cs ⟨c, A, n, cc, l, x, now, s1, s2, kk⟩) rfl (by rw [HW9.out]; exact rowC (KZ.out w6 HB6.out) _) rfl) rfl ?_
  exact ⟨by rw [HW9.out]; exact rowB (tr HB0.out HB6.out) (Nat.le_add_right _ 2) _, .inl ⟨HY.out, by rw [HQ.out]; rfl⟩⟩
end Go.Proofs.YtoldppbakapohaaGreatDoor.Ez
end
/- What engine's Handle comes to. Conditions: all reads, nothing is great; what msg's package-level variables hold (En.ok). -/
section
set_option maxRecDepth 8000
namespace Go.Proofs.YtoldppbakapohaaGreatDoor.Ez
open Go.RowKit Tl Co Ms Cf Ad By Rp Ky Rc Ew Jw La Tb Pk Al Cl Eg Ey
open Dw (ba ba_size ba_data ba_list)
open Pw (alloc_more celM_all boxM)
open Vw (Cx cel3C)
open Rpw (Mo)

/-- A query that is processed reads. -/
theorem q_ok {c : Cx} {A : Option Addr} {n cc U : Nat} {l : List L} {x : Mv} {iface now : Int} {w : World} (hF : FairE c.cf l x.mm iface now) (h : c.ok U w) (hl : RdLs U w A n cc l) (hS : Small c.cf) (hx : x.ok w) (hf : ∀ b ∈ l, Fk b) (hsm : ∀ p ∈ x.ps, p.l.length ≤ 1000) : (qOf c A n cc l x iface now).ok U w :=
  ⟨h, hl, hf, hS, hx, hsm, key_len (of_right hF.2.2.2.2.2.1), (rightM_iff x.mm).2 hF.2.2.2.1, subnet_there hF.1 hF.2.2.2.2.2.2.1, hF.2.2.1⟩
/-- What each kind comes to. -/
theorem proc_any (E : Mw.En) (q : Qv) (k : Int) (f : Nat) (U : Nat) (w : World) (hk : procF k = some f) (hkk : kindE q.x.mm.os = k) (h : q.ok U w) (hU : U ≤ w.heap.size) (hE : E.ok w) : Calls Tryz.prog f #[q.v] w (AnP w (actE q.c.cf q.l q.x.mm q.k q.net q.sub q.now)) := by
  unfold actE
  rw [hkk]
  unfold procF at hk
  by_cases h1 : k = 1
  · rw [if_pos h1] at hk ⊢
    obtain rfl := Option.some.inj hk
    exact discover_any E q U w h hU hE
  rw [if_neg h1] at hk ⊢
  by_cases h3 : k = 3
  · rw [if_pos h3] at hk ⊢
    obtain rfl := Option.some.inj hk
    exact request_any E q U w h hU hE
  rw [if_neg h3] at hk ⊢
  by_cases h4 : k = 4
  · rw [if_pos h4] at hk ⊢
    obtain rfl := Option.some.inj hk
    exact decline_any q U w h hU
  rw [if_neg h4] at hk ⊢
  by_cases h7 : k = 7
  · rw [if_pos h7] at hk ⊢
    obtain rfl := Option.some.inj hk
    exact release_any q U w h hU
  rw [if_neg h7] at hk ⊢
  by_cases h8 : k = 8
  · rw [if_pos h8] at hk
    obtain rfl := Option.some.inj hk
    have e : (if k = 8 ∧ q.x.mm.ci ≠ 0 then sentE q.c.cf q.net q.sub q.x.mm 5 0 else zeroA) = (if q.x.mm.ci ≠ 0 then sentE q.c.cf q.net q.sub q.x.mm 5 0 else zeroA) := by simp only [h8, true_and]
    rw [e]
    exact inform_any E q U w h hU hE
  rw [if_neg h8] at hk
  cases hk
theorem proc_none {k : Int} (hk : procF k = none) (c : Cf) (t : List L) (m : M) (key : List UInt8) (net sub now : Int) (hkk : kindE m.os = k) : actE c t m key net sub now = zeroA := by
  unfold procF at hk
  unfold actE
  rw [hkk]
  by_cases h1 : k = 1
  · rw [if_pos h1] at hk; cases hk
  rw [if_neg h1] at hk ⊢
  by_cases h3 : k = 3
  · rw [if_pos h3] at hk; cases hk
  rw [if_neg h3] at hk ⊢
  by_cases h4 : k = 4
  · rw [if_pos h4] at hk; cases hk
  rw [if_neg h4] at hk ⊢
  by_cases h7 : k = 7
  · rw [if_pos h7] at hk; cases hk
  rw [if_neg h7] at hk ⊢
  by_cases h8 : k = 8
  · rw [if_pos h8] at hk; cases hk
  exact if_neg (fun z => h8 z.1)
theorem proc_call {k : Int} {f : Nat} (hk : procF k = some f) : ∀ args W, (callFunc f args).run Tryz.prog W = .ok (.enter f args) W := by
  unfold procF at hk
  by_cases h1 : k = 1
  · rw [if_pos h1] at hk
    obtain rfl := Option.some.inj hk
    exact Tryz.call81
  rw [if_neg h1] at hk
  by_cases h3 : k = 3
  · rw [if_pos h3] at hk
    obtain rfl := Option.some.inj hk
    exact Tryz.call82
  rw [if_neg h3] at hk
  by_cases h4 : k = 4
  · rw [if_pos h4] at hk
    obtain rfl := Option.some.inj hk
    exact Tryz.call83
  rw [if_neg h4] at hk
  by_cases h7 : k = 7
  · rw [if_pos h7] at hk
    obtain rfl := Option.some.inj hk
    exact Tryz.call84
  rw [if_neg h7] at hk
  by_cases h8 : k = 8
  · rw [if_pos h8] at hk
    obtain rfl := Option.some.inj hk
    exact Tryz.call85
  rw [if_neg h8] at hk
  cases hk
set_option maxHeartbeats 16000000 in
theorem handle_any (E : Mw.En) (c : Cx) (A : Option Addr) (n cc U : Nat) (l : List L) (x : Mv) (iface now : Int) (w : World) (h : c.ok U w) (hl : RdLs U w A n cc l) (hU : U ≤ w.heap.size) (hS : Small c.cf) (hx : x.ok w) (hf : ∀ b ∈ l, Fk b) (hsm : ∀ p ∈ x.ps, p.l.length ≤ 1000) (hE : E.ok w) :
    Calls Tryz.prog 11 #[c.v, .slice A n cc, x.v, .int .i64 iface, .int .i64 now] w (AnP w (handleE c.cf l x.mm iface now)) := by
  obtain ⟨w0, hw0, hc0, hm0, hz0, hb0, hsz⟩ := box3a w c x
  have KC := Lib.hid (fun W (hW : Below w0.heap.size w0 W) => cel3C (hc0.below hW hc0.lt))
  have KM := Lib.hid (fun W (hW : Below w0.heap.size w0 W) => celM_all (hm0.below hW hm0.lt))
  have KZ := Lib.hid (fun W (hW : Below w0.heap.size w0 W) => hz0.below hW hz0.lt)
  have HB0 := Lib.hid hb0
  have HB00 := Lib.hid (Below.refl w0.heap.size w0)
  have C1 := Lib.hid (accept_any c A n cc U l x iface now w0 (h.below (hb0.mono hU)) (hl.below (hb0.mono hU)) (Nat.le_trans hU hb0.size) hS (hx.below hb0) hf hsm)
  have KK := Lib.hid (fun W (hW : Below w0.heap.size w0 W) => Ow.kindOf_any x.B x.m x.d x.ps W (hx.below (tr hb0 hW)).os hsm)
  have KP := Lib.hid (fun (hF : FairE c.cf l x.mm iface now) (k : Int) (f : Nat) (hk : procF k = some f) (hkk : kindE x.mm.os = k) W (hW : Below w0.heap.size w0 W) =>
    proc_any E (qOf c A n cc l x iface now) k f U W hk hkk (q_ok hF (h.below ((tr hb0 hW).mono hU)) (hl.below ((tr hb0 hW).mono hU)) hS (hx.below (tr hb0 hW)) hf hsm) (Nat.le_trans hU (tr hb0 hW).size) (hE.below (tr hb0 hW)))
  clear h hl hU hS hx hf hsm hE hc0 hm0 hz0 hb0 hsz
  obtain ⟨v0, v1, v2⟩ := KC.out w0 HB00.out
  obtain ⟨⟨m0, m1, m2, m3, m4, m5, m6⟩, m7, m8, m9, m10, m11, m12⟩ := KM.out w0 HB00.out
  go_enter Tryz.func11, Tryz.ntmps11
  go_upto_region 1 with fail
  rw [← hw0]
  clear hw0
  go_wp2_with fail
  refine C1.out.mono ?_
  rintro e w1 ⟨hb1, hJ⟩
  rcases hJ with ⟨hF, rfl⟩ | ⟨hF, rfl⟩
  rotate_left
  · have HR : Hid (handleE c.cf l x.mm iface now = zeroA) := handle_not hF
    obtain ⟨w2, hw2⟩ : ∃ w2, w2 = w1.alloc (.cells zq 77) := ⟨_, rfl⟩
    have HB2 := Lib.hid (show Below w0.heap.size w0 w2 by rw [hw2]; exact tr hb1 (alloc_more _ _))
    clear hb1 hF v0 v1 v2 m0 m1 m2 m3 m4 m5 m6 m7 m8 m9 m10 m11 m12
    go_upto_region 2 with (refine wpList_store_row rfl 77 (.tmp 11) (.tmp 22) rfl w1.heap.size zq rfl rfl 77 zq (Cel.born w1 77 zq) (by kernel_rfl) rfl (by kernel_rfl) ?_; rw [World.setRow_alloc_new, ← hw2]; clear hw2)
    go_wp2_with (refine wpList_store_row rfl 37 (.tmp 10) (.tmp 26) rfl (w.heap.size + 2) (zav) rfl rfl 37 zav (KZ.out w2 HB2.out) (by kernel_rfl) rfl (by kernel_rfl) ?_; obtain ⟨w9, hw9⟩ : ∃ w9, w9 = w2.setRow (w.heap.size + 2) (zav) := ⟨_, rfl⟩; rw [← hw9]; have HW9 := Lib.hid hw9; clear hw9)
    (try simp only [Exit.inBlock, Exit.then])
    refine bodyPost_ret (ret_ans rfl _ _ (w.heap.size + 2) (zav) rfl (by rw [HW9.out]; exact rowC (KZ.out w2 HB2.out) _) rfl) rfl ?_
    exact ⟨zA, rfl, .inl rfl, by rw [HR.out]; rfl, by rw [HW9.out]; exact rowB (tr HB0.out HB2.out) (Nat.le_add_right _ 2) _⟩
  have HR : Hid (handleE c.cf l x.mm iface now = actE c.cf l x.mm (ofK x.mm).1 (subnetM c.cf x.mm iface).1 (subnetM c.cf x.mm iface).2.1 now) := handle_fair hF
  have KP2 := Lib.hid (fun k f hk hkk W hW => KP.out hF k f hk hkk W hW)
  have HQE : Hid (∀ k f, procF k = some f → kindE x.mm.os = k → ∀ W, Below w0.heap.size w0 W → Calls Tryz.prog f #[(qOf c A n cc l x iface now).v] W (AnP W (actE c.cf l x.mm (ofK x.mm).1 (subnetM c.cf x.mm iface).1 (subnetM c.cf x.mm iface).2.1 now))) := fun k f hk hkk W hW => KP2.out k f hk hkk W hW
  clear KP KP2 hF
  have HPN := Lib.hid (fun k (hk : procF k = none) (hkk : kindE x.mm.os = k) => proc_none hk c.cf l x.mm (ofK x.mm).1 (subnetM c.cf x.mm iface).1 (subnetM c.cf x.mm iface).2.1 now hkk)
  generalize actE c.cf l x.mm (ofK x.mm).1 (subnetM c.cf x.mm iface).1 (subnetM c.cf x.mm iface).2.1 now = AE at HR HQE HPN
  generalize qOf c A n cc l x iface now = q at HQE ⊢
  obtain ⟨w2, hw2⟩ : ∃ w2, w2 = w1.alloc (.cells q.cs 77) := ⟨_, rfl⟩
  have HQ2 := Lib.hid (show Cel w2 w1.heap.size 77 q.cs by rw [hw2]; exact Cel.born _ _ _)
  have HB2 := Lib.hid (show Below w0.heap.size w0 w2 by rw [hw2]; exact tr hb1 (alloc_more _ _))
  clear hb1 v0 v1 v2 m0 m1 m2 m3 m4 m5 m6 m7 m8 m9 m10 m11 m12
  go_upto_region 2 with (refine wpList_store_row rfl 77 (.tmp 11) (.tmp 22) rfl w1.heap.size q.cs rfl rfl 77 zq (Cel.born w1 77 zq) (by kernel_rfl) rfl (by kernel_rfl) ?_; rw [World.setRow_alloc_new, ← hw2]; clear hw2)
  have SS := Lib.hid (fun W (hW : Below w2.heap.size w2 W) => And.intro (HQ2.out.below hW HQ2.out.lt) (KM.out W (tr HB2.out hW)).2.2.2.2.2.2)
  obtain ⟨kd, hkd⟩ : ∃ kd, kindE x.mm.os = kd := ⟨_, rfl⟩
  have HKR : Hid (0 ≤ kd ∧ kd ≤ 8) := by show _ ∧ _; rw [← hkd]; exact kind_range _
  have KK2 : Hid (∀ W, Below w2.heap.size w2 W → Calls Tryz.prog 40 #[.slice x.B x.m x.d] W fun e w' => e = .returned (.int .i64 kd) ∧ Below W.heap.size W w') := fun W hW => by rw [← hkd]; exact KK.out W (tr HB2.out hW)
  have HKD := Lib.hid hkd
  clear hkd KK
  go_upto_region 4 with fail
  go_cut [13, 14] from 27 to 35 (fun v13 v14 wx => v13 = procV q.v (procF kd) ∧ v14 = .bool (procF kd).isSome ∧ Hid (Below w2.heap.size w2 wx))
  case first =>
    refine wp_region_held_drew (S := fun W => Cel W w1.heap.size 77 q.cs ∧ W.cell? ⟨w.heap.size + 1, 12, none⟩ = some (.slice x.B x.m x.d)) (by kernel_rfl) ?_ (fun hHeld => ?_)
    · exact SS.out _ (Below.refl _ _).drew
    refine wpAnyH_take (i := 0) (v := q.v) rfl (by kernel_rfl) (by kernel_rfl) (by kernel_rfl) (fun _ _ _ h => h) (yields_row 77 (.tmp 11) rfl rfl w1.heap.size rfl 77 q.cs _ (fun _ z => z.1) Tryz.underlying77 rfl (by kernel_rfl)) hHeld ?_
    simp only [Act.put, gTo, gZe, sTo, sZe, sSu]
    refine wpAnyH_take (i := 2) (v := .pointer (some ⟨w.heap.size + 1, 12, none⟩)) rfl (by kernel_rfl) (by kernel_rfl) (by kernel_rfl) (fun _ _ _ h => h) (.inl ⟨by rfl, fun w hSw => by go_simp⟩) hHeld ?_
    simp only [Act.put, gTo, gZe, gSu, sTo, sZe, sSu]
    refine wpAnyH_take (i := 3) (v := .slice x.B x.m x.d) rfl (by kernel_rfl) (by kernel_rfl) (by kernel_rfl) (fun _ _ _ h => h) (.inl ⟨by rfl, fun w hSw => by obtain ⟨_, z⟩ := hSw; go_simp⟩) hHeld ?_
    simp only [Act.put, gTo, gZe, gSu, sTo, sZe, sSu]
    refine wpAnyH_ready (rs := [1]) (by kernel_rfl) (by simp) ?_
    refine AllReadyH.cons rfl (fun K2 hK2 => ?_) AllReadyH.nil
    go_simp
    go_at_call 39
    refine (processes_any q _).mono ?_
    rintro ee w3 ⟨b, rfl, hmq, hbu3⟩
    have hb3 : Below w2.heap.size w2 w3 := below_undrew hbu3
    have HMQ3 := Lib.hid hmq
    clear hmq
    refine hK2.out _ _ (SS.out _ hb3) (fun hHeld => ?_)
    clear hK2 K2
    try simp only [Act.put, gTo, gZe, gSu, sTo, sZe, sSu]
    refine wpAnyH_ready (rs := [4]) (by kernel_rfl) (by simp) ?_
    refine AllReadyH.cons rfl (fun K2 hK2 => ?_) AllReadyH.nil
    go_simp
    go_at_call 40
    refine (KK2.out _ hb3).mono ?_
    rintro ee w4 ⟨rfl, hbu4⟩
    have hb4 : Below w2.heap.size w2 w4 := tr hb3 hbu4
    have HMQ := Lib.hid (HMQ3.out.below hbu4)
    refine hK2.out _ _ (SS.out _ hb4) (fun hHeld => ?_)
    clear hK2 K2
    try simp only [Act.put, gTo, gZe, gSu, sTo, sZe, sSu]
    refine wpAnyH_ready (rs := [5]) (by kernel_rfl) (by simp) ?_
    refine AllReadyH.cons rfl (fun K2 hK2 => ?_) AllReadyH.nil
    have hlk := lookQ HMQ.out HKR.out.1 HKR.out.2
    go_simp
    refine hK2.out _ _ (SS.out _ hb4) (fun hHeld => ?_)
    clear hK2 K2 hlk
    try simp only [Act.put, gTo, gZe, gSu, sTo, sZe, sSu]
    refine wpAnyH_take (i := 6) (v := .tuple #[procV q.v (procF kd), .bool (procF kd).isSome]) rfl (by kernel_rfl) (by kernel_rfl) (by kernel_rfl) (fun _ _ _ h => h) (.inl ⟨by rfl, fun w hSw => by go_simp⟩) hHeld ?_
    simp only [Act.put, gTo, gZe, gSu, sTo, sZe, sSu]
    refine wpAnyH_take (i := 7) (v := procV q.v (procF kd)) rfl (by kernel_rfl) (by kernel_rfl) (by kernel_rfl) (fun _ _ _ h => h) (.inl ⟨by rfl, fun w hSw => by go_simp⟩) hHeld ?_
    simp only [Act.put, gTo, gZe, gSu, sTo, sZe, sSu]
    refine wpAnyH_take (i := 8) (v := .bool (procF kd).isSome) rfl (by kernel_rfl) (by kernel_rfl) (by kernel_rfl) (fun _ _ _ h => h) (.inl ⟨by rfl, fun w hSw => by go_simp⟩) hHeld ?_
    simp only [Act.put, gTo, gZe, gSu, sTo, sZe, sSu]
    refine wpAnyH_take (i := 9) (v := procV q.v (procF kd)) rfl (by kernel_rfl) (by kernel_rfl) (by kernel_rfl) (fun _ _ _ h => h) (.inl ⟨by rfl, fun w hSw => by go_simp⟩) hHeld ?_
    simp only [Act.put, gTo, gZe, gSu, sTo, sZe, sSu]
    refine wpAnyH_take (i := 10) (v := .bool (procF kd).isSome) rfl (by kernel_rfl) (by kernel_rfl) (by kernel_rfl) (fun _ _ _ h => h) (.inl ⟨by rfl, fun w hSw => by go_simp⟩) hHeld ?_
    simp only [Act.put, gTo, gZe, gSu, sTo, sZe, sSu]
    refine wpAnyH_done (by kernel_rfl) ?_ _
    go_wp2_with fail
    go_meet
    exact ⟨rfl, rfl, Lib.hid hb4⟩
  case rest =>
  obtain ⟨rfl, rfl, HB24⟩ := hcut
  obtain ⟨w4, hww⟩ : ∃ z, z = wc := ⟨_, rfl⟩
  subst hww
  have HB4 := Lib.hid (tr HB2.out HB24.out)
  obtain ⟨pf, hpf⟩ : ∃ pf, procF kd = pf := ⟨_, rfl⟩
  rw [hpf]
  have HPF := Lib.hid hpf
  clear hpf SS KK2 HQ2 HB24
  cases pf with
  | none =>
    have HR2 : Hid (handleE c.cf l x.mm iface now = zeroA) := by show _ = _; rw [HR.out, HPN.out kd HPF.out HKD.out]
    go_wp2_with (refine wpList_store_row rfl 37 (.tmp 10) (.tmp 38) rfl (w.heap.size + 2) (zav) rfl rfl 37 zav (KZ.out w4 HB4.out) (by kernel_rfl) rfl (by kernel_rfl) ?_; obtain ⟨w9, hw9⟩ : ∃ w9, w9 = w4.setRow (w.heap.size + 2) (zav) := ⟨_, rfl⟩; rw [← hw9]; have HW9 := Lib.hid hw9; clear hw9)
    (try simp only [Exit.inBlock, Exit.then])
    refine bodyPost_ret (ret_ans rfl _ _ (w.heap.size + 2) (zav) rfl (by rw [HW9.out]; exact rowC (KZ.out w4 HB4.out) _) rfl) rfl ?_
    exact ⟨zA, rfl, .inl rfl, by rw [HR2.out]; rfl, by rw [HW9.out]; exact rowB (tr HB0.out HB4.out) (Nat.le_add_right _ 2) _⟩
  | some f =>
    have HPC := Lib.hid (HQE.out kd f HPF.out HKD.out w4 HB4.out)
    have HEN := Lib.hid (proc_call HPF.out)
    clear HQE HPN
    unfold procV
    go_wp2_with fail
    rw [HEN.out, Oper.upon_enter]
    refine HPC.out.mono ?_
    rintro e w5 ⟨y, rfl, hmp, hya, hb5⟩
    have HB5 := Lib.hid (tr HB4.out hb5)
    have HMP := Lib.hid (hmp.mono (Nat.le_trans HB0.out.size HB4.out.size))
    have HYA := Lib.hid hya
    clear hmp hya hb5
    go_wp2_with (refine wpList_store_row rfl 37 (.tmp 10) (.tmp 40) rfl (w.heap.size + 2) (y.cs) rfl rfl 37 zav (KZ.out w5 HB5.out) (by kernel_rfl) rfl (by kernel_rfl) ?_; obtain ⟨w9, hw9⟩ : ∃ w9, w9 = w5.setRow (w.heap.size + 2) (y.cs) := ⟨_, rfl⟩; rw [← hw9]; have HW9 := Lib.hid hw9; clear hw9)
    (try simp only [Exit.inBlock, Exit.then])
    refine bodyPost_ret (ret_ans rfl _ _ (w.heap.size + 2) (y.cs) rfl (by rw [HW9.out]; exact rowC (KZ.out w5 HB5.out) _) rfl) rfl ?_
    exact ⟨y, rfl, by rw [HW9.out]; exact HMP.out.off (KZ.out w5 HB5.out) (rowG _ _ _), by rw [HR.out]; exact HYA.out, by rw [HW9.out]; exact rowB (tr HB0.out HB5.out) (Nat.le_add_right _ 2) _⟩
end Go.Proofs.YtoldppbakapohaaGreatDoor.Ez
end
