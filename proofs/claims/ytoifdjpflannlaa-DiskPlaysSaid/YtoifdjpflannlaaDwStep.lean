/- Words for laws over disks: append as a step of a region that draws, a variable that is set behind a draw. No conditions but those that each theorem names. -/
import Derived.Test.YtoifdjpflannlaaDwKnows
import Derived.Deep.RegionLaw
import Derived.Deep.CutRange
set_option maxRecDepth 8000
namespace Go.Proofs.Ytoifdjpflannlaa.By
open Go.RowKit
section
variable {P : Program} {T e S : TypeId} {w : World} {A : Option Addr} {n c : Nat} {l : List UInt8}
/-- 'append' of bytes as a step of a region that draws its order. -/
theorem step_appE (hp : ByP P T e S) {ops : Array Oper} {o : Oper} {a : Act} {K : Act → World → Prop} {Q : Exit → Act → World → Prop} {E : Prop} (hgd : o.guard = none) (s x : Operand)
    (ho : o.op = .call { callee := .builtin .append, args := #[s, x], argTypes := #[T, T] }) {B : Nat} (hs : a.eval s = .slice A n c) (hown : Own e B w A n c l)
    {A2 : Option Addr} {m c2 : Nat} {l2 : List UInt8} (hx : a.eval x = .slice A2 m c2) (h2 : Bs w A2 m c2 l2) (hb : n + m ≤ 140737488355328) (hB : B ≤ w.heap.size)
    (h : ∀ A' c' w', Own e B w' A' (n + m) c' (l ++ l2) → Below B w w' → w.grownBy w' (Value.slice A n c).ownBlock → K (a.put o.dst (.slice A' (n + m) c')) w') :
    if Region.wanted o (yielded ops a.tmps) = true then Oper.wp P o a w K Q else E := by
  have hw : Region.wanted o (yielded ops a.tmps) = true := by simp [Region.wanted, hgd]
  rw [if_pos hw]
  exact wp_app hp s x ho hs hown hx h2 hb hB fun A' c' w' h1 h2 h3 _ => h A' c' w' h1 h2 h3
end
end Go.Proofs.Ytoifdjpflannlaa.By
namespace Go.Proofs.Ytoifdjpflannlaa.Dw
open Go.RowKit By Dk

theorem Vd.drewN {B : Nat} {w : World} {g : Nat} {z : Dv} (h : Vd B w g z) (q : Nat) : Vd B (w.drewN q) g z := ⟨h.c, ⟨h.r.f, h.r.n, h.r.k⟩, h.l⟩
theorem Vd.put0 {w : World} {g : Nat} {a1 : Option Addr} {n1 c1 : Nat} {a2 : Option Addr} {n2 c2 : Nat} {a3 : Option Addr} {n3 c3 : Nat} {z : Dv} (h : Cel w g 25 #[.slice a1 n1 c1, .slice a2 n2 c2, .slice a3 n3 c3]) (hz : RdD w.heap.size w z) :
    Vd (((w.setCell ⟨g, 0, none⟩ (.slice z.fA z.fn z.fc)).setCell ⟨g, 1, none⟩ (.slice z.nA z.nn z.nc)).setCell ⟨g, 2, none⟩ (.slice z.kA z.kn z.kc)).heap.size
      (((w.setCell ⟨g, 0, none⟩ (.slice z.fA z.fn z.fc)).setCell ⟨g, 1, none⟩ (.slice z.nA z.nn z.nc)).setCell ⟨g, 2, none⟩ (.slice z.kA z.kn z.kc)) g z :=
  ⟨cel_put3 h, (rdd_away hz h sl3 (cell_put3 w g _ _ _)).mono (by simp), by have := h.lt; simpa using this⟩
end Go.Proofs.Ytoifdjpflannlaa.Dw
