/- The mathematics of what is kept of options (layer 5). No program but the words of OwSet. -/
import Derived.Test.YtoldppbakapohaaGreatDoorOwA
import Derived.Test.YtoldppbakapohaaGreatDoorMathA
section
set_option maxRecDepth 8000
namespace Go.Proofs.YtoldppbakapohaaGreatDoor.Ow
open Go.RowKit Tl Ms Co By

/-! ### Mathematics -/
theorem without_not (l : List O) (c : Int) : c ∉ codesL (withoutL l c) := by
  rw [without_codes]
  intro h
  have := (List.mem_filter.1 h).2
  simp at this
theorem find_app {l m : List O} {c : Int} (h : c ∉ codesL l) : findL (l ++ m) c = findL m c := by
  unfold findL
  rw [List.find?_append]
  have : (l.find? fun o => o.1 == c) = none := by
    rw [List.find?_eq_none]
    intro o ho
    simp
    intro e
    exact h (by rw [← e]; exact codes_mem ho)
  rw [this]
  rfl
theorem find_kept (l : List O) (c : Int) (b : List UInt8) : findL (keepL l c b) c = some b := by
  unfold keepL
  rw [find_app (without_not l c)]
  simp [findL]
theorem find_without (l : List O) {c k : Int} (h : c ≠ k) : findL (withoutL l c) k = findL l k := by
  unfold findL withoutL
  congr 1
  induction l with
  | nil => rfl
  | cons o l ih =>
    rw [List.filter_cons]
    by_cases ho : o.1 = c
    · rw [if_neg (by simp [ho]), ih, List.find?_cons_of_neg (by simp; intro e; exact h (ho.symm.trans e))]
    · rw [if_pos (by simp [ho])]
      by_cases hk : o.1 = k
      · rw [List.find?_cons_of_pos (by simp [hk]), List.find?_cons_of_pos (by simp [hk])]
      · rw [List.find?_cons_of_neg (by simp [hk]), List.find?_cons_of_neg (by simp [hk]), ih]
theorem find_other (l : List O) {c k : Int} (b : List UInt8) (h : c ≠ k) : findL (keepL l c b) k = findL l k := by
  rw [← find_without l h]
  unfold keepL findL
  rw [List.find?_append]
  have : ([(c, b)] : List O).find? (fun o => o.1 == k) = none := by
    rw [List.find?_cons_of_neg (by simpa using h)]
    rfl
  rw [this]
  cases (withoutL l c).find? fun o => o.1 == k <;> rfl
theorem keep_small {ps qs : List Po} {c : Int} {b : List UInt8} (h : ∀ p ∈ ps, p.l.length ≤ 1000) (hb : b.length ≤ 1000) (e : osP qs = keepL (osP ps) c b) : ∀ p ∈ qs, p.l.length ≤ 1000 := by
  intro p hp
  have hm := os_mem hp
  rw [e] at hm
  unfold keepL withoutL at hm
  rcases List.mem_append.1 hm with hm | hm
  · obtain ⟨q, hq, e2⟩ := List.mem_map.1 (List.mem_filter.1 hm).1
    have : q.l = p.l := congrArg Prod.snd e2
    rw [← this]
    exact h q hq
  · simp only [List.mem_singleton] at hm
    have : p.l = b := congrArg Prod.snd hm
    rw [this]
    exact hb
theorem set_small {ps qs : List Po} {c v k : Int} (h : ∀ p ∈ ps, p.l.length ≤ 1000) (hf : Cw.fairB v k = true) (e : osP qs = setL (osP ps) c v k) : ∀ p ∈ qs, p.l.length ≤ 1000 := by
  obtain ⟨h1, h2, _⟩ := (fairB_iff v k).1 hf
  exact keep_small h (by rw [putL_length]; omega) e
theorem num_set (l : List O) (c : Int) {v : Int} {k : Nat} (hf : Cw.fairB v (k : Int) = true) : numL (setL l c v k) c k = some v.toNat := by
  obtain ⟨h1, h2, h3, h4⟩ := (fairB_iff v k).1 hf
  have e : findL (setL l c v k) c = some (putL v.toNat (k : Int).toNat) := find_kept _ _ _
  rw [Int.toNat_natCast] at e h4
  rw [num_yes e (putL_length _ _), valL_putL k _ (by omega)]
end Go.Proofs.YtoldppbakapohaaGreatDoor.Ow
end
/- The mathematics of EngineMatches: the options of the REQUEST that matches an Offer. No program but the words of OwSet. -/
section
namespace Go.Proofs.YtoldppbakapohaaGreatDoor.Eg
open Ad Ky Rc La Tb Cf Ms Tl Co Rp Pk Al Cl Ow

theorem keep_right {l : List O} {c : Int} {b : List UInt8} (h : rightL l = true) (hl : l.length ≤ 40) (hf : fitO (c, b) = true) : rightL (keepL l c b) = true := by
  simp only [rightL, Bool.and_eq_true, decide_eq_true_eq, List.all_eq_true] at h ⊢
  obtain ⟨_, h2, h3⟩ := h
  refine ⟨?_, fun o ho => ?_, ?_⟩
  · unfold keepL withoutL
    rw [List.length_append, List.length_singleton]
    have := List.length_filter_le (fun o : O => !(o.1 == c)) l
    omega
  · unfold keepL withoutL at ho
    rcases List.mem_append.1 ho with q | q
    · exact h2 o (List.mem_filter.1 q).1
    · rw [List.mem_singleton.1 q]
      exact hf
  · unfold keepL
    rw [codes_app, List.nodup_append]
    refine ⟨?_, by simp [codesL], fun a ha b' hb' e => ?_⟩
    · rw [without_codes]
      exact h3.filter _
    · have e2 : b' = c := by simpa [codesL] using hb'
      rw [e, e2] at ha
      exact without_not l c ha
theorem keep_len (l : List O) (c : Int) (b : List UInt8) : (keepL l c b).length ≤ l.length + 1 := by
  unfold keepL withoutL
  rw [List.length_append, List.length_singleton]
  have := List.length_filter_le (fun o : O => !(o.1 == c)) l
  omega
theorem keep_has {l : List O} {c k : Int} {b : List UInt8} (h : hasL l k = 0) (hne : c ≠ k) : hasL (keepL l c b) k = 0 := by
  rw [has_zero] at h ⊢
  unfold keepL
  rw [codes_app, without_codes]
  intro q
  rcases List.mem_append.1 q with q | q
  · exact h (List.mem_filter.1 q).1
  · have e : k = c := by simpa [codesL] using q
    exact hne e.symm
theorem put_fit (c v : Int) (n : Nat) (h1 : 1 ≤ c) (h2 : c ≤ 254) (hn : n ≤ 7) : fitO (c, putL v.toNat (n : Int).toNat) = true := by
  simp only [fitO, Bool.and_eq_true, decide_eq_true_eq]
  refine ⟨h1, h2, ?_⟩
  rw [putL_length]
  omega
/-- The options of the matching REQUEST. -/
def matchO (l : List O) (srv yi : Int) : List O := setL (setL (setL l 53 3 1) 54 srv 4) 50 yi 4
theorem fair4 {v : Int} (h : rightB v = true) : Cw.fairB v 4 = true := by
  obtain ⟨h1, h2⟩ := rightB_iff.1 h
  refine (fairB_iff v 4).2 ⟨by omega, by omega, h1, ?_⟩
  have : p256 (4 : Int).toNat = 4294967296 := rfl
  rw [this]
  omega
theorem fair1 : Cw.fairB 3 1 = true := by decide
theorem set_right4 {l : List O} {c v : Int} {n : Nat} (h : rightL l = true) (hl : l.length ≤ 40) (h1 : 1 ≤ c) (h2 : c ≤ 254) (hn : n ≤ 7) : rightL (setL l c v n) = true := keep_right h hl (put_fit c v n h1 h2 hn)
theorem set_len (l : List O) (c v n : Int) : (setL l c v n).length ≤ l.length + 1 := keep_len _ _ _
theorem match_right {l : List O} {srv yi : Int} (h : rightL l = true) (hl : l.length ≤ 20) : rightL (matchO l srv yi) = true := by
  have l1 := set_len l 53 3 1
  have l2 := set_len (setL l 53 3 1) 54 srv 4
  have r1 : rightL (setL l 53 3 1) = true := set_right4 (n := 1) h (by omega) (by omega) (by omega) (by omega)
  have r2 : rightL (setL (setL l 53 3 1) 54 srv 4) = true := set_right4 (n := 4) r1 (by omega) (by omega) (by omega) (by omega)
  exact set_right4 (n := 4) r2 (by omega) (by omega) (by omega) (by omega)
theorem match_52 {l : List O} {srv yi : Int} (h : hasL l 52 = 0) : hasL (matchO l srv yi) 52 = 0 := keep_has (keep_has (keep_has h (by decide)) (by decide)) (by decide)
theorem match_same (l : List O) (srv yi : Int) (q : Int) (h : q = 61 ∨ q = 82 ∨ q = 118) : findL (matchO l srv yi) q = findL l q := by
  have h1 : (50 : Int) ≠ q := by omega
  have h2 : (54 : Int) ≠ q := by omega
  have h3 : (53 : Int) ≠ q := by omega
  exact ((find_other _ _ h1).trans (find_other _ _ h2)).trans (find_other _ _ h3)
theorem match_kind (l : List O) (srv yi : Int) : kindE (matchO l srv yi) = 3 := by
  have e : findL (matchO l srv yi) 53 = findL (setL l 53 3 1) 53 := (find_other _ _ (by decide)).trans (find_other _ _ (by decide))
  have h : numE (matchO l srv yi) 53 1 = some 3 := (num_find e 1).trans (num_set l 53 (v := 3) (k := 1) fair1)
  exact kind_num (v := 3) h (by omega) (by omega)
theorem match_54 {l : List O} {srv yi : Int} (h : rightB srv = true) : numE (matchO l srv yi) 54 4 = some srv.toNat :=
  (num_find (find_other _ _ (by decide)) 4).trans (num_set (setL l 53 3 1) 54 (v := srv) (k := 4) (fair4 h))
theorem match_50 {l : List O} {srv yi : Int} (h : rightB yi = true) : numE (matchO l srv yi) 50 4 = some yi.toNat := num_set (setL (setL l 53 3 1) 54 srv 4) 50 (v := yi) (k := 4) (fair4 h)
/-- An Offer that is sent: the address may be had. -/
theorem offer_is {c : Cf} {t : List L} {m : M} {iface now : Int} (hk : kindE m.os = 1) (hs : (handleE c t m iface now).send = true) :
    FairE c t m iface now ∧ mayA c t (subnetM c m iface).1 (ofK m).1 (handleE c t m iface now).reply.yi now = true ∧ rightB c.server = true ∧ rightB (handleE c t m iface now).reply.yi = true := by
  by_cases hf : FairE c t m iface now
  · refine ⟨hf, ?_⟩
    have ha := handle_act hf
    revert hs
    generalize handleE c t m iface now = A at ha ⊢
    cases ha with
    | nothing => intro hs; cases hs
    | offer a _ ha =>
      intro _
      have hp := may_pos ha
      exact ⟨ha, (find_sn (may_found ha).1).2.2.2, rightB_iff.2 ⟨by show 0 ≤ a; omega, hp.2⟩⟩
    | grant a h _ _ => omega
    | nak h => omega
    | ends a st till => intro hs; cases hs
    | inform h => omega
  · rw [handle_not hf] at hs; cases hs
end Go.Proofs.YtoldppbakapohaaGreatDoor.Eg
end
