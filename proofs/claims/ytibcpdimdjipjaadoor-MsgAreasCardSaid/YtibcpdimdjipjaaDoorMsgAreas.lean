/- The statement MsgAreas of boarderlaw04 holds: at every input the call returns true, and each argument reads as it did. Conditions: those that its card prints (the listed variables hold what the program's text lays). -/
import Derived.Test.YtibcpdimdjipjaaDoorMwLaws6
import Derived.Test.YtibcpdimdjipjaaDoorRowM
import Derived.Test.YtibcpdimdjipjaaDoorCards
import Derived.Test.YtibcpdimdjipjaaDoorTie
import Derived.JoinedOf
import Derived.ChangeVars
namespace Go.Proofs.YtibcpdimdjipjaaDoor.msgAreas
open Go.ChangeShapes Go.WideShapes Go.ChangeAt Go.RowKit By Mw

set_option maxRecDepth 100000 in
theorem lifted (os : Os) (started : os.Started) (H : Type) (enc : TypeId × Value → H) :
    ReturnsInHanded {} Tryd.checked os 5 .any (fun w args => (Rows.msgAreasSpec.pre enc Tryd.prog Tryd.f5 [] false w args ∧ laidMetH Tryd.prog Rows.msgAreasRow.laid w) ∧ sizedMet enc Tryd.prog Tryd.f5 (OpenSpec.ofChange Rows.msgAreasSpec) false w args)
      (Rows.msgAreasSpec.post enc Tryd.prog Tryd.f5 false true false false) := by
  refine returnsInHanded_of_change_and (C := Tryd.checked) (X := fun w _ => laidMetH Tryd.prog Rows.msgAreasRow.laid w) (fun _ _ _ hh h => h.of_heap hh) own started (by kernel_rfl) Tryd.func5
    (ChangeSpec.witness_at (enc := enc) (C := Tryd.checked) (os := os) (X := fun w _ => laidMetH Tryd.prog Rows.msgAreasRow.laid w) false (laidWorld os) #[.agg #[.int .i64 0, .int .i64 0, .int .i64 0, .int .i64 0, .int .i64 0, .int .i64 0, .int .i64 0, .int .i64 0, .int .i64 0, .int .i64 0, .int .i64 0, .slice none 0 0, .slice none 0 0], .slice none 0 0, .slice none 0 0] 8 rfl (by kernel_rfl) (by kernel_rfl) (by kernel_rfl) (by kernel_rfl) (by kernel_rfl) (laidWorld_met os _)) ?_
  intro W base args ds gs before hval0 hW _ _ hL _
  have hval : ∀ (j : Nat) t v, Tryd.f5.params[j]? = some t → args[j]? = some v → Value.okWide Tryd.prog W .any base t v := hval0
  have hW' := hW
  obtain ⟨p, q, hA0, hV, rfl, _, _⟩ := hW
  obtain ⟨rfl, rfl⟩ := trodVars_none hV
  have hA : DataW.TrodAll enc Tryd.prog W 0 (fun _ => true) true Tryd.f5.params.toList args.toList ds p := hA0
  rw [Tryd.params5] at hA hval
  obtain ⟨v0, vs0, d0, ds0, p0, q0, hargs, hd0, _, h0, r0⟩ := trodAll_cons hA
  obtain ⟨v1, vs1, d1, ds1, p1, q1, rfl, hd1, _, h1, r1⟩ := trodAll_cons r0
  obtain ⟨v2, vs2, d2, ds2, p2, q2, rfl, hd2, _, h2, r2⟩ := trodAll_cons r1
  obtain ⟨rfl, rfl, _⟩ := trodAll_nil r2
  obtain rfl : args = #[v0, v1, v2] := by cases args; simp_all
  obtain ⟨x0, rfl, w0⟩ := open_msg (hval 0 25 v0 rfl rfl) h0
  obtain ⟨A1, n1, c1, l1, rfl, w1⟩ := open_os byP (by kernel_rfl) Tryd.underlying23 Tryd.underlying45 Tryd.underlying3 rfl rfl (by kernel_rfl) rfl rfl (by kernel_rfl) (by kernel_rfl) (hval 1 23 v1 rfl rfl) h1
  obtain ⟨A2, n2, c2, l2, rfl, w2⟩ := open_os byP (by kernel_rfl) Tryd.underlying23 Tryd.underlying45 Tryd.underlying3 rfl rfl (by kernel_rfl) rfl rfl (by kernel_rfl) (by kernel_rfl) (hval 2 23 v2 rfl rfl) h2
  subst hd2
  subst hd1
  subst hd0
  obtain ⟨E, hE⟩ := env_of hL
  refine (msgAreas_walk E x0 A1 n1 c1 l1 A2 n2 c2 l2 W hE w0 w1 w2).mono fun e W' ⟨he, hb⟩ => ?_
  subst he
  have hall : (Tryd.f5.params.toList.all fun u => Tryd.prog.readableRec u && decide (u < Tryd.prog.types.size)) = true := by kernel_rfl
  exact ⟨_, rfl, post_law laidOut rfl hW' (fun t ht => ⟨(Bool.and_eq_true_iff.1 (List.all_eq_true.1 hall t ht)).1, of_decide_eq_true (Bool.and_eq_true_iff.1 (List.all_eq_true.1 hall t ht)).2⟩) Tryd.underlying4 (by kernel_rfl) rfl rfl rfl hb⟩

theorem over : Rows.MsgAreasSaid :=
  OpenClaim.holds_of_wide 5 Tryd.f5 rfl rfl rfl rfl rfl rfl rfl ⟨rfl, rfl, rfl, rfl, rfl⟩ rfl rfl rfl rfl rfl (by kernel_rfl) Tryd.func5 (by kernel_rfl)
    (of_decide_eq_true (by kernel_rfl)) (by unfold Func.isWrapper; first | (rw [if_pos (by decide +kernel)]; kernel_rfl) | (rw [if_neg (by decide +kernel)]; exact ⟨rfl, rfl⟩))
    (fun os started H enc _ => lifted os started H enc)

theorem proved : Rows.MsgAreasCardSaid :=
  Claim7.holds_tied_plain_at .later [] [.handle, .sentinel, .sentinel, .sentinel, .sentinel, .data] true Rows.msgAreasCard.stood.harness true over (fun _ h => by cases h) (by kernel_rfl) (fun _ h => by cases h) msgAreas_row_tie rfl ⟨rfl, rfl⟩ (by kernel_rfl) rfl
    (fun f fn hf hfn => by
      obtain rfl : f = 5 := Option.some.inj ((show Tryd.prog.funcNamed Rows.msgAreasRow.func = some 5 by kernel_rfl).symm.trans hf) |>.symm
      obtain rfl : fn = Tryd.f5 := (Option.some.inj (Tryd.func5.symm.trans hfn)).symm
      exact ⟨by kernel_rfl, fun j t ht => by
        rw [Tryd.params5] at ht
        have hm : t ∈ [25, 23, 23] := by simpa using Array.mem_of_getElem? ht
        have hall : ([25, 23, 23].all fun u => !Tryd.prog.wantsStandIn u) = true := by kernel_rfl
        exact (show Tryd.prog.wantsStandIn t = false by simpa using List.all_eq_true.1 hall t hm)⟩)
    (by kernel_rfl)
end Go.Proofs.YtibcpdimdjipjaaDoor.msgAreas
