/- The statement TableRows of boarderlaw12 holds: at every input the call returns true, and each argument reads as it did. No conditions. -/
import Derived.Test.YtniocdbapkkdhaaBwLaws2
import Derived.Test.YtniocdbapkkdhaaRowJ
import Derived.Test.YtniocdbapkkdhaaRowB
namespace Go.Proofs.Ytniocdbapkkdhaa.tableRows
open Go.ChangeShapes Go.WideShapes Go.ChangeAt Go.RowKit Go.ChangeMaps By Dw

set_option maxRecDepth 100000 in
theorem lifted (os : Os) (started : os.Started) (H : Type) (enc : TypeId × Value → H) :
    ReturnsInHanded {} Try.checked os 7 .any (Rows.tableRowsSpec.pre6 enc Try.prog Try.f7 Rows.tableRowsRow.domain false) (Rows.tableRowsSpec.post enc Try.prog Try.f7 false true false false) := by
  refine returnsInHanded_of_change (C := Try.checked) own started (by kernel_rfl) Try.func7
    (ChangeSpec.witness6 (enc := enc) (C := Try.checked) false ⟨#[], #[.slice none 0 0], []⟩ 8 (by kernel_rfl) (by kernel_rfl) (by kernel_rfl) (by kernel_rfl)) ?_
  intro W base args ds gs before hval0 hW _ _
  have hval : ∀ (j : Nat) t v, Try.f7.params[j]? = some t → args[j]? = some v → Value.okWide Try.prog W .any base t v := hval0
  have hW' := hW
  obtain ⟨p, q, hA0, hV, rfl, _, _⟩ := hW
  obtain ⟨rfl, rfl⟩ := trodVars_none hV
  have hA : DataW.TrodAll enc Try.prog W 0 (fun _ => true) true Try.f7.params.toList args.toList ds p := hA0
  rw [Try.params7] at hA hval
  obtain ⟨v0, vs0, d0, ds0, p0, q0, hargs, hd0, _, h0, r0⟩ := trodAll_cons hA
  obtain ⟨rfl, rfl, _⟩ := trodAll_nil r0
  obtain rfl : args = #[v0] := by cases args; simp_all
  obtain ⟨A0, n0, c0, l0, rfl, w0, m0⟩ := open_leases (hval 0 22 v0 rfl rfl) h0
  subst hd0
  refine (tableRows_walk A0 n0 c0 l0 W w0 m0).mono fun e W' ⟨he, hb⟩ => ?_
  subst he
  have hall : (Try.f7.params.toList.all fun u => Try.prog.readableRec u && decide (u < Try.prog.types.size)) = true := by kernel_rfl
  exact ⟨_, rfl, post_law laidOut rfl hW' (fun t ht => ⟨(Bool.and_eq_true_iff.1 (List.all_eq_true.1 hall t ht)).1, of_decide_eq_true (Bool.and_eq_true_iff.1 (List.all_eq_true.1 hall t ht)).2⟩) Try.underlying4 (by kernel_rfl) rfl rfl rfl hb⟩

theorem proved : Rows.TableRowsSaid :=
  OpenClaim.holds_of_wide 7 Try.f7 rfl rfl rfl rfl rfl rfl rfl ⟨rfl, rfl, rfl, rfl, rfl⟩ rfl rfl rfl rfl rfl (by kernel_rfl) Try.func7 (by kernel_rfl)
    (of_decide_eq_true (by kernel_rfl)) (by unfold Func.isWrapper; first | (rw [if_pos (by decide +kernel)]; kernel_rfl) | (rw [if_neg (by decide +kernel)]; exact ⟨rfl, rfl⟩))
    (fun os started H enc _ => lifted os started H enc)
end Go.Proofs.Ytniocdbapkkdhaa.tableRows
