/- The map of method expressions that performers answers: what is looked up in it, for any key. -/
import Derived.Test.YtlefpodonkdbeaaGreatJwKit
import Derived.Maps.OwnSet
set_option maxRecDepth 8000
namespace Go.Proofs.YtlefpodonkdbeaaGreat.Jw
open Go.RowKit By Dk Jn
open Go.Maps (Keyed IsMap isMap_empty has_put_same has_put_other atKey_put_same atKey_put_other int_keyed keyOf_int_mk)

/-- 'm[k] = v' of a literal, at the operation. -/
theorem wpList_insert_own {H : Type} {P : Program} (w : World) {ops : Array Oper} {rest : List Oper} {o : Oper} {a : Act} {Q : Exit → Act → World → Prop}
    (hg : o.guard = none) (m x v : Operand) (t : TypeId) (hop : o.op = Op.insert t m x v)
    (k e : TypeId) (K : Keyed P k) (ht : P.underlying t = some (.map k e)) (R : Value → Option (DataW H × List MemPlace)) (b n : Nat) (D : DataW H)
    (hm : a.eval m = .map (some b)) (hown : w.ownsMap P k R b n D) (hn : n < maxLen) (key val : Value) (kl : Lit) (hx : a.eval x = key) (hv : a.eval v = val) (hkey : keyOf P k key = some kl)
    (d : DataW H) (ps : List MemPlace) (hval : R val = some (d, ps))
    (hK : ∀ w', w'.ownsMap P k R b (n + 1) (D.put kl d) → w.grownBy w' (some b) → wpList P ops Q rest (a.put o.dst undef) w') :
    wpList P ops Q (o :: rest) a w := by
  refine wpList_plain hg fun K' hK' => ?_
  obtain ⟨w', hrun, r1, r2⟩ := hown.update K ht hn hkey hval
  unfold Oper.wp
  simp [execOp, hop, hm, hx, hv, hrun, Result.andThen]
  exact hK' _ _ (hK w' r1 r2)

/-- How a function without captured variables is read: by its number. -/
def fnR : Value → Option (DataW Unit × List MemPlace)
  | .func (.func f) a b => if a.size = 0 ∧ b.size = 0 then some (.lit (.int .i64 f), []) else none
  | .nilFunc => some (.nil, [])
  | _ => none
theorem fnR_mk (f : Nat) : fnR (.func (.func f) #[] #[]) = some (.lit (.int .i64 f), []) := rfl
theorem fnR_inv {v : Value} {f : Nat} {ps : List MemPlace} (h : fnR v = some (.lit (.int .i64 f), ps)) : v = .func (.func f) #[] #[] := by
  unfold fnR at h
  split at h
  · next g a b =>
    split at h
    · next hs =>
      simp only [Option.some.injEq, Prod.mk.injEq, DataW.lit.injEq, Lit.int.injEq, true_and, Int.natCast_inj] at h
      obtain ⟨rfl, _⟩ := h
      obtain ⟨ha, hb⟩ := hs
      rw [Array.size_eq_zero_iff.1 ha, Array.size_eq_zero_iff.1 hb]
    · cases h
  · simp at h
  · cases h
theorem fnR_nil {v : Value} {ps : List MemPlace} (h : fnR v = some (.nil, ps)) : v = .nilFunc := by
  unfold fnR at h
  split at h
  · split at h
    · simp at h
    · cases h
  · rfl
  · cases h
def kI (k : Int) : Lit := .int .i64 k
theorem kI_ne {a b : Int} (h : a ≠ b) : kI a ≠ kI b := fun q => h (by unfold kI at q; injection q)
abbrev dF (f : Nat) : DataW Unit := .lit (.int .i64 f)
def map5 : DataW Unit := (((((DataW.map []).put (kI 1) (dF 86)).put (kI 2) (dF 87)).put (kI 3) (dF 88)).put (kI 4) (dF 89)).put (kI 5) (dF 90)
/-- The map in the block b is the one of the five. -/
def Mp (w : World) (b : Nat) : Prop := w.ownsMap Tryz.prog 3 fnR b 5 map5
theorem mapT : Tryz.prog.underlying 103 = some (.map 3 101) := Tryz.underlying103
theorem lawI : Keyed Tryz.prog 3 := int_keyed Tryz.underlying3
theorem zeroF (w : World) : (zeroValue 101).run Tryz.prog w = .ok .nilFunc w := by kernel_rfl
theorem Mp.below {w w' : World} {b : Nat} (h : Mp w b) (hb : Below w.heap.size w w') : Mp w' b := by
  obtain ⟨es, clock, hh, r⟩ := h
  refine ⟨es, clock, ?_, r⟩
  have hlt : b < w.heap.size := by
    rcases Nat.lt_or_ge b w.heap.size with k | k
    · exact k
    · rw [Array.getElem?_eq_none k] at hh; cases hh
  exact (hb.block b hlt).trans hh
theorem look_of {w : World} {b : Nat} (h : Mp w b) {k : Int} {f : Nat} (hw : (kI k).wf = true) (h1 : Maps.has map5 (kI k) = true) (h2 : map5.atKey (kI k) .nil = dF f) :
    (Instr.lookup 103 (.map (some b)) (.int .i64 k) true).run Tryz.prog w = .ok (.tuple #[.func (.func f) #[] #[], .bool true]) w := by
  obtain ⟨v, ps, hrun, hv⟩ := World.ownsMap.look_ok h lawI mapT (zeroF w) (zd := .nil) (zp := []) rfl (keyOf_int_mk Tryz.underlying3 hw)
  rw [show (Lit.int .i64 k) = kI k from rfl, h1] at hrun
  rw [show (Lit.int .i64 k) = kI k from rfl, h2] at hv
  rw [fnR_inv hv] at hrun
  exact hrun
/-- Which function performs the changes of each kind. -/
def perfF (k : Int) : Nat := if k = 1 then 86 else if k = 2 then 87 else if k = 3 then 88 else if k = 4 then 89 else 90
theorem look5 {w : World} {b : Nat} (h : Mp w b) {k : Int} (h1 : 1 ≤ k) (h5 : k ≤ 5) :
    (Instr.lookup 103 (.map (some b)) (.int .i64 k) true).run Tryz.prog w = .ok (.tuple #[.func (.func (perfF k)) #[] #[], .bool true]) w := by
  obtain rfl | rfl | rfl | rfl | rfl : k = 1 ∨ k = 2 ∨ k = 3 ∨ k = 4 ∨ k = 5 := by omega
  · exact look_of h (by decide) (by rfl) (by rfl)
  · exact look_of h (by decide) (by rfl) (by rfl)
  · exact look_of h (by decide) (by rfl) (by rfl)
  · exact look_of h (by decide) (by rfl) (by rfl)
  · exact look_of h (by decide) (by rfl) (by rfl)
set_option maxHeartbeats 1000000 in
theorem performers_any (w : World) : Calls Tryz.prog 62 #[] w fun e w' => e = .returned (.map (some w.heap.size)) ∧ Mp w' w.heap.size ∧ Below w.heap.size w w' := by
  have hmm := @run_makeMap Tryz.prog
  have h0 : (w.alloc (.map #[] 0)).ownsMap Tryz.prog 3 fnR w.heap.size 0 (.map []) := World.ownsMap_made _ _ _ _
  have hb0 : Below w.heap.size w (w.alloc (.map #[] 0)) := (Below.refl _ _).alloc (Nat.le_refl _) _
  go_enter Tryz.func62, Tryz.ntmps62
  go_wp2_with (first
      | (refine wpList_insert_own _ rfl _ _ _ 103 rfl 3 101 lawI mapT fnR w.heap.size 0 _ rfl h0 (by decide) _ _ (kI 1) rfl rfl rfl (dF 86) [] rfl ?_; intro w1 h1 g1)
      | (refine wpList_insert_own _ rfl _ _ _ 103 rfl 3 101 lawI mapT fnR w.heap.size 1 _ rfl h1 (by decide) _ _ (kI 2) rfl rfl rfl (dF 87) [] rfl ?_; intro w2 h2 g2)
      | (refine wpList_insert_own _ rfl _ _ _ 103 rfl 3 101 lawI mapT fnR w.heap.size 2 _ rfl h2 (by decide) _ _ (kI 3) rfl rfl rfl (dF 88) [] rfl ?_; intro w3 h3 g3)
      | (refine wpList_insert_own _ rfl _ _ _ 103 rfl 3 101 lawI mapT fnR w.heap.size 3 _ rfl h3 (by decide) _ _ (kI 4) rfl rfl rfl (dF 89) [] rfl ?_; intro w4 h4 g4)
      | (refine wpList_insert_own _ rfl _ _ _ 103 rfl 3 101 lawI mapT fnR w.heap.size 4 _ rfl h4 (by decide) _ _ (kI 5) rfl rfl rfl (dF 90) [] rfl ?_; intro w5 h5 g5))
  go_ret
  have hz : (w.alloc (.map #[] 0)).heap.size = w.heap.size + 1 := by simp
  have low : ∀ k, some w.heap.size = some k → w.heap.size ≤ k := fun k hk => by cases hk; exact Nat.le_refl _
  have b1 := hb0.grown g1 hb0.size low
  have b2 := b1.grown g2 b1.size low
  have b3 := b2.grown g3 b2.size low
  have b4 := b3.grown g4 b3.size low
  exact ⟨rfl, h5, b4.grown g5 b4.size low⟩
end Go.Proofs.YtlefpodonkdbeaaGreat.Jw
