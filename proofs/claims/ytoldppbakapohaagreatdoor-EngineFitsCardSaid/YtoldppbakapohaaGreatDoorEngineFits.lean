/- The statement EngineFits of boarderlaw19 holds: at every input the call returns true, and each argument reads as it did. Conditions: those that its card prints (the listed variables hold what the program's text lays). -/
import Derived.Test.YtoldppbakapohaaGreatDoorEnLawsFits
import Derived.Test.YtoldppbakapohaaGreatDoorRowA
import Derived.Test.YtoldppbakapohaaGreatDoorRowE
import Derived.Test.YtoldppbakapohaaGreatDoorCards
import Derived.Test.YtoldppbakapohaaGreatDoorTie
import Derived.JoinedOf
import Derived.ChangeVars
namespace Go.Proofs.YtoldppbakapohaaGreatDoor.engineFits
open Go.ChangeShapes Go.WideShapes Go.ChangeAt Go.RowKit By Mw

set_option maxRecDepth 100000 in
theorem lifted (os : Os) (started : os.Started) (H : Type) (enc : TypeId × Value → H) :
    ReturnsInHanded {} Tryz.checked os 8 .any (fun w args => (Rows.engineFitsSpec.pre enc Tryz.prog Tryz.f8 [] false w args ∧ laidMetH Tryz.prog Rows.engineFitsRow.laid w) ∧ sizedMet enc Tryz.prog Tryz.f8 (OpenSpec.ofChange Rows.engineFitsSpec) false w args)
      (Rows.engineFitsSpec.post enc Tryz.prog Tryz.f8 false true false false) := by
  refine returnsInHanded_of_change_and (C := Tryz.checked) (X := fun w _ => laidMetH Tryz.prog Rows.engineFitsRow.laid w) (fun _ _ _ hh h => h.of_heap hh) own started (by kernel_rfl) Tryz.func8
    (ChangeSpec.witness_at (enc := enc) (C := Tryz.checked) (os := os) (X := fun w _ => laidMetH Tryz.prog Rows.engineFitsRow.laid w) false (laidWorld os) #[.agg #[.int .i64 0, .int .i64 0, .slice none 0 0], .slice none 0 0, .agg #[.int .i64 0, .int .i64 0, .int .i64 0, .int .i64 0, .int .i64 0, .int .i64 0, .int .i64 0, .int .i64 0, .int .i64 0, .int .i64 0, .int .i64 0, .slice none 0 0, .slice none 0 0], .int .i64 0, .int .i64 0] 8 rfl (by kernel_rfl) (by kernel_rfl) (by kernel_rfl) (by kernel_rfl) (by kernel_rfl) (laidWorld_met os _)) ?_
  intro W base args ds gs before hval0 hW _ _ hL _
  have hval : ∀ (j : Nat) t v, Tryz.f8.params[j]? = some t → args[j]? = some v → Value.okWide Tryz.prog W .any base t v := hval0
  have hW' := hW
  obtain ⟨p, q, hA0, hV, rfl, _, _⟩ := hW
  obtain ⟨rfl, rfl⟩ := trodVars_none hV
  have hA : DataW.TrodAll enc Tryz.prog W 0 (fun _ => true) true Tryz.f8.params.toList args.toList ds p := hA0
  rw [Tryz.params8] at hA hval
  obtain ⟨v0, vs0, d0, ds0, p0, q0, hargs, hd0, _, h0, r0⟩ := trodAll_cons hA
  obtain ⟨v1, vs1, d1, ds1, p1, q1, rfl, hd1, _, h1, r1⟩ := trodAll_cons r0
  obtain ⟨v2, vs2, d2, ds2, p2, q2, rfl, hd2, _, h2, r2⟩ := trodAll_cons r1
  obtain ⟨v3, vs3, d3, ds3, p3, q3, rfl, hd3, _, h3, r3⟩ := trodAll_cons r2
  obtain ⟨v4, vs4, d4, ds4, p4, q4, rfl, hd4, _, h4, r4⟩ := trodAll_cons r3
  obtain ⟨rfl, rfl, _⟩ := trodAll_nil r4
  obtain rfl : args = #[v0, v1, v2, v3, v4] := by cases args; simp_all
  obtain ⟨x0, rfl, w0⟩ := open_config (hval 0 24 v0 rfl rfl) h0
  obtain ⟨A1, n1, c1, l1, rfl, w1, k1⟩ := open_leases (hval 1 25 v1 rfl rfl) h1
  obtain ⟨x2, rfl, w2⟩ := open_msg (hval 2 29 v2 rfl rfl) h2
  obtain ⟨a3, rfl, _, _, _⟩ := open_int Tryz.underlying3 (hval 3 3 v3 rfl rfl) h3
  obtain ⟨a4, rfl, _, _, _⟩ := open_int Tryz.underlying3 (hval 4 3 v4 rfl rfl) h4
  subst hd4
  subst hd3
  subst hd2
  subst hd1
  subst hd0
  obtain ⟨E, hE⟩ := env_of hL
  refine (engineFits_walk E x0 A1 n1 c1 l1 x2 a3 a4 W hE w0 w1 k1 w2).mono fun e W' ⟨he, hb⟩ => ?_
  subst he
  have hall : (Tryz.f8.params.toList.all fun u => Tryz.prog.readableRec u && decide (u < Tryz.prog.types.size)) = true := by kernel_rfl
  exact ⟨_, rfl, post_law laidOut rfl hW' (fun t ht => ⟨(Bool.and_eq_true_iff.1 (List.all_eq_true.1 hall t ht)).1, of_decide_eq_true (Bool.and_eq_true_iff.1 (List.all_eq_true.1 hall t ht)).2⟩) Tryz.underlying4 (by kernel_rfl) rfl rfl rfl hb⟩

theorem f_inPlace : (Rows.engineFitsRow.inPlace == Tryz.prog.inPlace 8) = true := by kernel_rfl
theorem f_unfollowed : (Rows.engineFitsRow.unfollowed == Tryz.prog.unfollowed 8) = true := by kernel_rfl
theorem f_recurses : (Rows.engineFitsRow.recurses == Tryz.prog.recurses 8) = true := by kernel_rfl
theorem f_named : (Rows.engineFitsRow.named == Tryz.prog.varsNamed 8) = true := by kernel_rfl
theorem f_wf : (Rows.engineFitsRow.wf (OpenSpec.ofChange Rows.engineFitsSpec) && laidOutB Tryz.prog && mapsRowed Tryz.prog) = true := by kernel_rfl
theorem f_joined : joinedFacts Tryz.prog 8 Tryz.f8 Rows.engineFitsSpec Rows.engineFitsRow = true := by
  unfold joinedFacts
  rw [f_wf, f_inPlace, f_unfollowed, f_recurses, f_named]
  kernel_rfl
theorem f_func : Tryz.prog.funcNamed Rows.engineFitsRow.func = some 8 := by kernel_rfl
theorem f_inst : Tryz.f8.isInstance Tryz.prog Rows.engineFitsRow.origin Rows.engineFitsRow.targs := of_decide_eq_true (by kernel_rfl)
theorem f_wrap : Tryz.f8.isWrapper Tryz.prog Rows.engineFitsRow.wrapper Rows.engineFitsRow.mainSum := by unfold Func.isWrapper; first | (rw [if_pos (by decide +kernel)]; kernel_rfl) | (rw [if_neg (by decide +kernel)]; exact ⟨rfl, rfl⟩)
theorem over : Rows.EngineFitsSaid :=
  OpenClaim.holds_of_wide 8 Tryz.f8 rfl rfl rfl rfl rfl rfl rfl ⟨rfl, rfl, rfl, rfl, rfl⟩ rfl rfl rfl rfl rfl f_func Tryz.func8 f_joined
    f_inst f_wrap (fun os started H enc _ => lifted os started H enc)

theorem proved : Rows.EngineFitsCardSaid :=
  Claim7.holds_tied_plain_at .later [] [.handle, .sentinel, .sentinel, .sentinel, .data] true Rows.engineFitsCard.stood.harness true over (fun _ h => by cases h) (by kernel_rfl) (fun _ h => by cases h) engineFits_row_tie rfl ⟨rfl, rfl⟩ (by kernel_rfl) rfl
    (fun f fn hf hfn => by
      obtain rfl : f = 8 := Option.some.inj ((show Tryz.prog.funcNamed Rows.engineFitsRow.func = some 8 by kernel_rfl).symm.trans hf) |>.symm
      obtain rfl : fn = Tryz.f8 := (Option.some.inj (Tryz.func8.symm.trans hfn)).symm
      exact ⟨by kernel_rfl, fun j t ht => by
        rw [Tryz.params8] at ht
        have hm : t ∈ [24, 25, 29, 3, 3] := by simpa using Array.mem_of_getElem? ht
        have hall : ([24, 25, 29, 3, 3].all fun u => !Tryz.prog.wantsStandIn u) = true := by kernel_rfl
        exact (show Tryz.prog.wantsStandIn t = false by simpa using List.all_eq_true.1 hall t hm)⟩)
    (by kernel_rfl)
end Go.Proofs.YtoldppbakapohaaGreatDoor.engineFits
