/- The rows of the document's examples of layer 5 answer yes; and the mathematics of what is kept. -/
import Derived.Test.YtibcpdimdjipjaaOwSet
import Derived.Test.YtibcpdimdjipjaaTlSame
set_option maxRecDepth 8000
namespace Go.Proofs.Ytibcpdimdjipjaa.Ow
open Go.RowKit Tl Ms Co By

/-! ### Mathematics -/
theorem without_not (l : List O) (c : Int) : c ∉ codesL (withoutL l c) := by
  rw [without_codes]
  intro h
  have := (List.mem_filter.1 h).2
  simp at this
theorem find_app {l m : List O} {c : Int} (h : c ∉ codesL l) : findL (l ++ m) c = findL m c := by
  unfold findL
  rw [List.find?_append]
  have : (l.find? fun o => o.1 == c) = none := by
    rw [List.find?_eq_none]
    intro o ho
    simp
    intro e
    exact h (by rw [← e]; exact codes_mem ho)
  rw [this]
  rfl
theorem find_kept (l : List O) (c : Int) (b : List UInt8) : findL (keepL l c b) c = some b := by
  unfold keepL
  rw [find_app (without_not l c)]
  simp [findL]
theorem find_without (l : List O) {c k : Int} (h : c ≠ k) : findL (withoutL l c) k = findL l k := by
  unfold findL withoutL
  congr 1
  induction l with
  | nil => rfl
  | cons o l ih =>
    rw [List.filter_cons]
    by_cases ho : o.1 = c
    · rw [if_neg (by simp [ho]), ih, List.find?_cons_of_neg (by simp; intro e; exact h (ho.symm.trans e))]
    · rw [if_pos (by simp [ho])]
      by_cases hk : o.1 = k
      · rw [List.find?_cons_of_pos (by simp [hk]), List.find?_cons_of_pos (by simp [hk])]
      · rw [List.find?_cons_of_neg (by simp [hk]), List.find?_cons_of_neg (by simp [hk]), ih]
theorem find_other (l : List O) {c k : Int} (b : List UInt8) (h : c ≠ k) : findL (keepL l c b) k = findL l k := by
  rw [← find_without l h]
  unfold keepL findL
  rw [List.find?_append]
  have : ([(c, b)] : List O).find? (fun o => o.1 == k) = none := by
    rw [List.find?_cons_of_neg (by simpa using h)]
    rfl
  rw [this]
  cases (withoutL l c).find? fun o => o.1 == k <;> rfl
theorem has_kept (l : List O) (c : Int) (b : List UInt8) : hasL (keepL l c b) c = 1 := by
  have h0 : hasL (withoutL l c) c = 0 := has_zero.2 (without_not l c)
  unfold hasL keepL at *
  rw [codes_app, List.count_append, h0]
  simp [codesL]
theorem keep_small {ps qs : List Po} {c : Int} {b : List UInt8} (h : ∀ p ∈ ps, p.l.length ≤ 1000) (hb : b.length ≤ 1000) (e : osP qs = keepL (osP ps) c b) : ∀ p ∈ qs, p.l.length ≤ 1000 := by
  intro p hp
  have hm := os_mem hp
  rw [e] at hm
  unfold keepL withoutL at hm
  rcases List.mem_append.1 hm with hm | hm
  · obtain ⟨q, hq, e2⟩ := List.mem_map.1 (List.mem_filter.1 hm).1
    have : q.l = p.l := congrArg Prod.snd e2
    rw [← this]
    exact h q hq
  · simp only [List.mem_singleton] at hm
    have : p.l = b := congrArg Prod.snd hm
    rw [this]
    exact hb
theorem set_small {ps qs : List Po} {c v k : Int} (h : ∀ p ∈ ps, p.l.length ≤ 1000) (hf : Cw.fairB v k = true) (e : osP qs = setL (osP ps) c v k) : ∀ p ∈ qs, p.l.length ≤ 1000 := by
  obtain ⟨h1, h2, _⟩ := (fairB_iff v k).1 hf
  exact keep_small h (by rw [putL_length]; omega) e
theorem num_set (l : List O) (c : Int) {v : Int} {k : Nat} (hf : Cw.fairB v (k : Int) = true) : numL (setL l c v k) c k = some v.toNat := by
  obtain ⟨h1, h2, h3, h4⟩ := (fairB_iff v k).1 hf
  have e : findL (setL l c v k) c = some (putL v.toNat (k : Int).toNat) := find_kept _ _ _
  rw [Int.toNat_natCast] at e h4
  rw [num_yes e (putL_length _ _), valL_putL k _ (by omega)]

theorem ex1 : setL [] 51 600 4 = [(51, [0, 0, 2, 88])] := by decide +kernel
theorem ex2 : setL [(51, [0, 0, 2, 88])] 53 5 1 = [(51, [0, 0, 2, 88]), (53, [5])] := by decide +kernel
theorem ex3 : numL [(51, [0, 0, 2, 88]), (53, [5])] 51 4 = some 600 := by decide +kernel
theorem ex4 : kindL [(51, [0, 0, 2, 88]), (53, [5])] = 5 := by decide +kernel
theorem ex5 : hasB (listedL [(55, [3])]) 3 = true := by decide +kernel
set_option maxHeartbeats 2000000 in
theorem knows_yes (w : World) : Calls Try.prog 9 #[] w fun e w' => e = .returned (.bool true) ∧ Below w.heap.size w w' := by
  have H1 := Lib.hid (set_yes none 0 0 [] 51 600 4 w (RdO.nil w) (by omega) (fun p hp => by cases hp) (by decide +kernel) (by decide +kernel))
  go_enter Try.func9, Try.ntmps9
  go_wp2_with fail
  refine H1.out.mono ?_
  rintro e w1 ⟨A1, m1, c1, qs1, rfl, hq1, hown1, hb1⟩
  have hq1' : osP qs1 = [(51, [0, 0, 2, 88])] := hq1.trans ex1
  have hm1 : m1 = 1 := by have := hown1.rd.len; rw [← this, ← os_len, hq1']; rfl
  have hs1 : ∀ p ∈ qs1, p.l.length ≤ 1000 := fun p hp => by
    have := os_mem hp
    rw [hq1'] at this
    simp only [List.mem_singleton] at this
    have : p.l = [0, 0, 2, 88] := congrArg Prod.snd this
    rw [this]
    decide
  have H2 := Lib.hid (set_yes A1 m1 c1 qs1 53 5 1 w1 hown1.rd (by omega) hs1 (by decide +kernel) (by decide +kernel))
  rw [hq1', ex2] at H2
  clear hq1 hq1' hown1 hs1 hm1 H1
  go_wp2_with fail
  refine H2.out.mono ?_
  rintro e w2 ⟨A2, m2, c2, qs, rfl, hq2, hown2, hb2⟩
  have hrd2 := hown2.rd
  obtain rfl : m2 = 2 := by rw [← hrd2.len, ← os_len, hq2]; rfl
  have hs2 : ∀ p ∈ qs, p.l.length ≤ 1000 := fun p hp => by
    have := os_mem hp
    rw [hq2] at this
    simp only [List.mem_cons, List.not_mem_nil, or_false] at this
    rcases this with this | this
    · have : p.l = [0, 0, 2, 88] := congrArg Prod.snd this
      rw [this]
      decide
    · have : p.l = [5] := congrArg Prod.snd this
      rw [this]
      decide
  have hb02 := hb1.trans (hb2.mono hb1.size)
  have HS := Lib.hid hs2
  have H3 := Lib.hid (number4_any A2 2 c2 qs 51 w2 hrd2 hs2)
  rw [hq2, ex3] at H3
  have HQ := Lib.hid hq2
  have HRD := Lib.hid hrd2
  have hcap := hrd2.cap
  have hmax := hrd2.max
  clear hown2 hs2 hq2 hrd2 H2
  go_wp2_with fail
  refine H3.out.mono ?_
  rintro e w3 ⟨rfl, hb3⟩
  have hb03 := hb02.trans (hb3.mono hb02.size)
  obtain ⟨b, o, co, A', m', c', l', rfl, _, hcell, hbs, _, HO, HM, hmc, hc63⟩ := (HRD.out.below hb3).at_ (k := 0) (by omega)
  have hl' : l' = [0, 0, 2, 88] := by
    obtain ⟨g1, g2⟩ := HO.out
    have e1 : (osP qs)[0]? = some (co, l') := by rw [List.getElem?_eq_getElem g1, g2]
    rw [HQ.out] at e1
    simp at e1
    exact e1.2.symm
  subst hl'
  have hcv : (convert 32 9 (.slice A' m' c')).run Try.prog w3 = .ok (.string ⟨#[0, 0, 2, 88]⟩) w3 := byP.str hbs
  have hcell' : w3.cell? ⟨b, o + 1, none⟩ = some (.slice A' m' c') := by simpa using hcell
  have H4 := Lib.hid (kindOf_any (some ⟨b, o, none⟩) 2 c2 qs w3 (HRD.out.below hb3) HS.out)
  rw [HQ.out, ex4] at H4
  clear hcell hbs HO HM H3
  go_wp2_with fail
  refine H4.out.mono ?_
  rintro e w4 ⟨rfl, hb4⟩
  have hb04 := hb03.trans (hb4.mono hb03.size)
  have hbx : Below w4.heap.size w4 (w4.alloc (Obj.cells #[Value.int IntKind.u8 3] 5)) := (Below.refl _ _).alloc (Nat.le_refl _) _
  have hby : Below w.heap.size w ((w4.alloc (Obj.cells #[Value.int IntKind.u8 3] 5)).alloc (Obj.cells #[Value.int IntKind.i64 55, Value.slice (some ⟨w4.heap.size, 0, none⟩) 1 1] 50)) := (hb04.trans (hbx.mono hb04.size)).alloc (by have := hb04.size; simp; omega) _
  have hrd5 : RdO ((w4.alloc (Obj.cells #[Value.int IntKind.u8 3] 5)).alloc (Obj.cells #[Value.int IntKind.i64 55, Value.slice (some ⟨w4.heap.size, 0, none⟩) 1 1] 50)) (some ⟨w4.heap.size + 1, 0, none⟩) 1 1 [⟨55, some ⟨w4.heap.size, 0, none⟩, 1, [3]⟩] := by
    have h1 := (OwnC.lit1 50 (w4.alloc (Obj.cells #[Value.int IntKind.u8 3] 5)) ⟨55, some ⟨w4.heap.size, 0, none⟩, 1, [3]⟩).rdc
    rw [show (w4.alloc (Obj.cells #[Value.int IntKind.u8 3] 5)).heap.size = w4.heap.size + 1 by simp] at h1
    refine ⟨h1, fun p hp => ?_⟩
    simp only [List.mem_singleton] at hp
    subst hp
    exact (Own.lit1 5 w4 3).bs.alloc _
  have H5 := Lib.hid (wants_any _ 1 1 _ 3 _ hrd5 (fun p hp => by simp only [List.mem_singleton] at hp; subst hp; show 1 ≤ 1000; omega))
  have e5 : osP [(⟨55, some ⟨w4.heap.size, 0, none⟩, 1, [3]⟩ : Po)] = [(55, [3])] := rfl
  rw [e5, ex5] at H5
  clear hcv hcell' hrd5 H4 e5
  go_wp2_with fail
  refine H5.out.mono ?_
  rintro e w5 ⟨rfl, hb5⟩
  go_wp2
  go_ret
  exact ⟨rfl, hby.trans (hb5.mono hby.size)⟩
end Go.Proofs.Ytibcpdimdjipjaa.Ow
