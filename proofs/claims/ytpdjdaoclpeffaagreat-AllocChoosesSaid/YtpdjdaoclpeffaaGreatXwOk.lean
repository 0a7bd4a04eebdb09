/- The bounds of a number of 64 bits; a need that is looked at. -/
import Derived.Test.YtpdjdaoclpeffaaGreatXwKnows
set_option maxRecDepth 8000
namespace Go.Proofs.YtpdjdaoclpeffaaGreat.Xw
open Go.RowKit Co By Ky Rc Ew Jw La Tb Lw Cf Al Bw
open Dw (ba)

theorem i64_in {x : Int} (h : (Lit.int .i64 x).wf = true) : -9223372036854775808 ≤ x ∧ x ≤ 9223372036854775807 := by
  simp only [Lit.wf, Bool.and_eq_true, decide_eq_true_eq] at h
  have h1 : IntKind.i64.min = -9223372036854775808 := rfl
  have h2 : IntKind.i64.max = 9223372036854775807 := rfl
  rw [h1, h2] at h
  omega
/-- A need that is looked at. -/
theorem nd_ok {d : Nd} {U : Nat} {w : World} (hx : d.x.ok U w) (ht : RdLs U w d.A d.n d.c d.l) (hf : ∀ a ∈ d.l, Fk a) (hk : d.k.length ≤ 9223372036854775807) (hg : greatA d.x.cf d.l d.k = false) : d.ok U w := by
  unfold greatA at hg
  exact ⟨hx, ht, hf, small_iff.1 (Bool.or_eq_false_iff.1 hg).1, hk⟩
end Go.Proofs.YtpdjdaoclpeffaaGreat.Xw
