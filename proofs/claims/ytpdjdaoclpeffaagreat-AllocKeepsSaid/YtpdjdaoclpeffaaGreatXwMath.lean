/- What alloc's own words come to in the words of the mathematics: the addresses that are held, the ranges that are tried. No program. -/
import Derived.Test.YtpdjdaoclpeffaaGreatXwHeld
import Derived.Test.YtpdjdaoclpeffaaGreatXwTry
import Derived.Test.YtpdjdaoclpeffaaGreatXwMay
import Derived.Test.YtpdjdaoclpeffaaGreatXwSrc
set_option maxRecDepth 8000
namespace Go.Proofs.YtpdjdaoclpeffaaGreat.Xw
open Go.RowKit Co By Ky Rc Ew Jw La Tb Lw Cf Al Ad

theorem find_right {c : Cf} {a : Int} (h : (findC c a).2.2 = true) : 0 ≤ a ∧ a ≤ 4294967295 := by
  unfold findC at h
  split at h
  · cases hf : findN (fun s => hasB s.base s.bits a) 0 c.nets with
    | none => rw [hf] at h; cases h
    | some y =>
      obtain ⟨s, _, h2, _⟩ := find_some hf
      exact (hasB_iff.1 h2).2.1
  · cases h
theorem kept_right {c : Cf} {net : Int} {k : List UInt8} (h : (keptC c net k).2 = true) : 0 ≤ (keptC c net k).1 ∧ (keptC c net k).1 ≤ 4294967295 := by
  obtain ⟨⟨j, e⟩, _⟩ := kept_one h
  exact find_right (by rw [e])
theorem okr_sgl {a : Int} (h1 : -9223372036854775808 ≤ a) (h2 : a ≤ 9223372036854775807) : Okr (sgl a) := ⟨h1, Int.le_refl _, h2, by show a - a < 4294967296; omega⟩
theorem okr_pool {c : Cf} {net : Int} {s : Sn} {p : Pl} (hs : s ∈ netC c net) (hp : p ∈ s.pools) : Okr p := by
  obtain ⟨h0, i, rfl, hi, hm⟩ := Cf.net_at hs
  have hx : (i, s) ∈ flatN 0 c.nets := mem_flat.2 ⟨hi, hm⟩
  have hle : p.first ≤ p.last := by
    have h1 := (sn_form h0 hx).1
    unfold snF at h1
    simp only [Bool.and_eq_true, List.all_eq_true] at h1
    have := h1.1.2 p hp
    unfold poolF at this
    exact of_decide_eq_true this
  have hf := (hasB_iff.1 (pool_has h0 hx hp (a := p.first) (by unfold inPl; exact decide_eq_true ⟨Int.le_refl _, hle⟩)).1).2.1
  have hl := (hasB_iff.1 (pool_has h0 hx hp (a := p.last) (by unfold inPl; exact decide_eq_true ⟨hle, Int.le_refl _⟩)).1).2.1
  exact ⟨by omega, hle, by omega, by omega⟩
theorem okr_src {c : Cf} {net : Int} {k : List UInt8} {ol : List Int} {want : Int} (h1 : -9223372036854775808 ≤ want) (h2 : want ≤ 9223372036854775807) (ho : ∀ a ∈ ol, 0 ≤ a ∧ a ≤ 4294967295) : ∀ p ∈ srcL c net k ol want, Okr p := by
  intro p hp
  unfold srcL at hp
  rcases List.mem_append.1 hp with hp | hp
  · obtain ⟨a, ha, rfl⟩ := List.mem_map.1 hp
    unfold keptL at ha
    split at ha
    · next hk =>
      rw [List.mem_singleton] at ha
      have := kept_right hk
      exact okr_sgl (by omega) (by omega)
    · cases ha
  · rcases List.mem_append.1 hp with hp | hp
    · obtain ⟨a, ha, rfl⟩ := List.mem_map.1 hp
      have := ho a ha
      exact okr_sgl (by omega) (by omega)
    · rcases List.mem_cons.1 hp with rfl | hp
      · exact okr_sgl h1 h2
      · obtain ⟨s, hs, hp⟩ := List.mem_flatMap.1 hp
        exact okr_pool hs hp
theorem sgl_addrs (a : Int) : addrsP (sgl a) = [a] := by
  unfold addrsP sgl
  show (List.range (a + 1 - a).toNat).map _ = _
  rw [show (a + 1 - a).toNat = 1 by omega]
  show [a + 0] = [a]
  rw [Int.add_zero]
theorem sgl_flat : ∀ l : List Int, (l.map sgl).flatMap addrsP = l
  | [] => rfl
  | a :: l => by rw [List.map_cons, List.flatMap_cons, sgl_addrs, sgl_flat l]; rfl
theorem src_flat (c : Cf) (net : Int) (k : List UInt8) (ol : List Int) (want : Int) : (srcL c net k ol want).flatMap addrsP = keptL c net k ++ (ol ++ (want :: addrsN (netC c net))) := by
  unfold srcL addrsN
  rw [List.flatMap_append, List.flatMap_append, List.flatMap_cons, sgl_flat, sgl_flat, sgl_addrs, List.flatMap_assoc]
  rfl
section
variable {d : Nd} (h : FairA d.x.cf d.l d.net d.k)
include h
theorem held_eq : heldL d = (heldA d.x.cf d.l d.net d.k d.now).map fun l => l.addr := by
  unfold heldL heldA ofT
  rw [good_of h.2.1, List.filter_filter]
  congr 1
  refine List.filter_congr fun a _ => ?_
  unfold heldB
  rw [Bool.and_comm (inA _ _ _), Bool.and_comm, Bool.and_assoc]
theorem other_eq (a : Int) : otherA d.x.cf d.l d.net d.k a d.now = (heldL d).any fun x => decide (x ≠ a) := by
  rw [held_eq h, List.any_map]
  unfold otherA heldA
  rw [List.any_filter]
  congr 1
  funext l
  unfold heldB
  show _ = (_ && decide (l.addr ≠ a))
  cases decide (l.key = d.k) <;> cases decide (l.addr ≠ a) <;> cases holdsT l d.now <;> cases inA d.x.cf d.net l.addr <;> rfl
theorem may_eq (a : Int) : mayA d.x.cf d.l d.net d.k a d.now = mayB d (heldL d) (keptC d.x.cf d.net d.k).1 (keptC d.x.cf d.net d.k).2 a := by
  unfold mayA mayB openA poolB
  rw [other_eq h, decide_eq_true h, Bool.true_and, Bool.and_assoc]
theorem choose_held (hne : heldL d ≠ []) (want : Int) : chooseA d.x.cf d.l d.net d.k want d.now = ansI ((((heldL d).map sgl).flatMap addrsP).find? (mayB d (heldL d) (keptC d.x.cf d.net d.k).1 (keptC d.x.cf d.net d.k).2)) := by
  have hn : heldA d.x.cf d.l d.net d.k d.now ≠ [] := fun e => hne (by rw [held_eq h, e]; rfl)
  unfold chooseA
  rw [keeps hn, sgl_flat, ← held_eq h, funext (may_eq h)]
theorem choose_rest (hn : heldL d = []) (want : Int) : chooseA d.x.cf d.l d.net d.k want d.now = ansI (((srcL d.x.cf d.net d.k (restL d) want).flatMap addrsP).find? (mayB d (heldL d) (keptC d.x.cf d.net d.k).1 (keptC d.x.cf d.net d.k).2)) := by
  have h0 : heldA d.x.cf d.l d.net d.k d.now = [] := by
    have := held_eq h
    rw [hn] at this
    exact List.map_eq_nil_iff.1 this.symm
  have hr : restL d = leftA d.x.cf d.l d.net d.k := by
    unfold restL leftA ofT
    rw [good_of h.2.1, List.filter_filter]
    congr 1
    refine List.filter_congr fun a ha => ?_
    unfold heldA at h0
    have := List.filter_eq_nil_iff.1 h0 a ha
    unfold heldB at this
    cases h1 : decide (a.key = d.k) <;> cases h2 : holdsT a d.now <;> cases h3 : inA d.x.cf d.net a.addr <;> simp_all
  unfold chooseA chooseO triedA
  rw [if_pos h0, src_flat, hr, funext (may_eq h)]
theorem rest_right : ∀ a ∈ restL d, 0 ≤ a ∧ a ≤ 4294967295 := by
  intro a ha
  unfold restL ofT at ha
  rw [good_of h.2.1] at ha
  obtain ⟨l, hl, rfl⟩ := List.mem_map.1 ha
  exact (h.2.1.2.1 l ((List.mem_filter.1 (List.mem_filter.1 hl).1).1)).1
theorem held_right : ∀ a ∈ heldL d, 0 ≤ a ∧ a ≤ 4294967295 := by
  intro a ha
  unfold heldL ofT at ha
  rw [good_of h.2.1] at ha
  obtain ⟨l, hl, rfl⟩ := List.mem_map.1 ha
  exact (h.2.1.2.1 l ((List.mem_filter.1 (List.mem_filter.1 hl).1).1)).1
end
theorem held_len (d : Nd) : (heldL d).length ≤ 64 := by
  unfold heldL ofT
  rw [List.length_map]
  exact Nat.le_trans (List.length_filter_le _ _) (Nat.le_trans (List.length_filter_le _ _) (good_len _))
theorem rest_len (d : Nd) : (restL d).length ≤ 64 := by
  unfold restL ofT
  rw [List.length_map]
  exact Nat.le_trans (List.length_filter_le _ _) (Nat.le_trans (List.length_filter_le _ _) (good_len _))
end Go.Proofs.YtpdjdaoclpeffaaGreat.Xw
