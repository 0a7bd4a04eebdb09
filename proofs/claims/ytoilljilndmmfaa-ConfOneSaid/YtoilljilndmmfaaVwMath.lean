/- The mathematics of how conf's Check asks: of all subnets in a row. No program. -/
import Derived.Test.YtoilljilndmmfaaCfMath
namespace Go.Proofs.Ytoilljilndmmfaa.Cf
open Ad Ky

theorem any_or {α : Type} (f g : α → Bool) : ∀ l : List α, (l.any fun a => f a || g a) = (l.any f || l.any g)
  | [] => rfl
  | a :: l => by
    rw [List.any_cons, List.any_cons, List.any_cons, any_or f g l]
    cases f a <;> cases g a <;> cases l.any f <;> rfl
theorem not_all {α : Type} (f : α → Bool) : ∀ l : List α, (!l.all f) = l.any fun a => !f a
  | [] => rfl
  | a :: l => by rw [List.all_cons, List.any_cons, Bool.not_and, not_all f l]
def spanB (t : Int) : Bool := decide (1 ≤ t ∧ t ≤ 2147483648)
def sizeN (n : List Sn) : Bool := decide (1 ≤ n.length ∧ n.length ≤ 4)
def wrongC (c : Cf) : Bool := !rightB c.server || !spanB c.prob || decide (4 < c.nets.length) || c.nets.any fun n => !sizeN n
def strayB (s : Sn) : Bool := (!decide (s.router = 0) && !hasB s.base s.bits s.router) || (s.pools.any fun p => !lendsB s p.first || !lendsB s p.last) || s.res.any fun r => !lendsB s r.addr
def takesB (s : Sn) (a : Int) : Bool := (s.pools.any fun p => inPl p a) || s.res.any fun r => decide (r.addr = a)
theorem flat_any (f : Sn → Bool) : ∀ (l : List (List Sn)) (i : Nat), ((flatN i l).any fun x => f x.2) = l.any fun n => n.any f
  | [], _ => rfl
  | n :: r, i => by rw [flatN, List.any_append, flat_any f r, List.any_map, List.any_cons]; rfl
theorem out_code (s : Sn) (srv : Int) : (strayB s || takesB s srv) = !snO srv s := by
  unfold strayB takesB snO
  rw [Bool.not_and, Bool.not_and, not_all, not_all]
  have h1 : (s.pools.any fun a => !poolO srv s a) = ((s.pools.any fun p => !lendsB s p.first || !lendsB s p.last) || s.pools.any fun p => inPl p srv) := by
    rw [← any_or]
    refine congrArg (s.pools.any ·) (funext fun p => ?_)
    unfold poolO
    rw [Bool.not_and, Bool.not_and, Bool.not_not]
  have h2 : (s.res.any fun a => !resO srv s a) = ((s.res.any fun r => !lendsB s r.addr) || s.res.any fun r => decide (r.addr = srv)) := by
    rw [← any_or]
    refine congrArg (s.res.any ·) (funext fun r => ?_)
    unfold resO
    rw [Bool.not_and, Bool.not_not]
  rw [h1, h2, Bool.not_or]
  ac_rfl
theorem form_code (c : Cf) : (!formC c) = (wrongC c || (flatN 0 c.nets).any fun x => !snF x.2) := by
  rw [flat_any fun s => !snF s]
  unfold formC wrongC
  rw [Bool.not_and, Bool.not_and, Bool.not_and, not_all]
  have h1 : (c.nets.any fun a => !netF a) = ((c.nets.any fun n => !sizeN n) || c.nets.any fun n => n.any fun s => !snF s) := by
    rw [← any_or]
    refine congrArg (c.nets.any ·) (funext fun n => ?_)
    unfold netF sizeN
    rw [Bool.not_and, not_all]
  have h2 : (!decide (c.nets.length ≤ 4)) = decide (4 < c.nets.length) := by
    rw [← decide_not, decide_eq_decide]
    omega
  rw [h1, h2, ← Bool.or_assoc]
  rfl
theorem places_code (c : Cf) : (!placesC c) = (flatN 0 c.nets).any fun x => strayB x.2 || takesB x.2 c.server := by
  rw [flat_any fun s => strayB s || takesB s c.server]
  unfold placesC
  rw [not_all]
  refine congrArg (c.nets.any ·) (funext fun n => ?_)
  rw [not_all]
  exact congrArg (n.any ·) (funext fun s => (out_code s c.server).symm)
theorem twice_code (l : List (Nat × Sn)) : (pairB snClash l || pairB rsClash (resA l) || l.any fun x => pooledB x.2) = twiceL l := by
  unfold twiceL
  ac_rfl
end Go.Proofs.Ytoilljilndmmfaa.Cf
