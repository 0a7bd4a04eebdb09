/- What the program's add comes to. Conditions: the list is right and the call's own, the code from 1 to 254, 1000 bytes at most. -/
import Derived.Test.YtabjcgchcnnjjaaGreatDoorTlA
import Derived.Test.YtabjcgchcnnjjaaGreatDoorKitA
namespace Go.Proofs.YtabjcgchcnnjjaaGreatDoor.Tw
open Go.RowKit Tl By

/-- The list that add answers. -/
def AddOk (e u B : Nat) (w : World) (l : List O) (en : Ending) (w' : World) : Prop := ∃ A n c ps, en = .returned (.tuple #[.slice A n c, .int .i64 0]) ∧ osP ps = l ∧ OwnO e u B w' A n c ps ∧ Below B w w'
/-- It answers that it is full. -/
def AddFull (B : Nat) (w : World) (en : Ending) (w' : World) : Prop := en = .returned (.tuple #[.slice none 0 0, .int .i64 3]) ∧ Below B w w'

section
variable (B : Nat) (A : Option Addr) (n c : Nat) (ps : List Po) (code : Int) (D : Option Addr) (m dc : Nat) (d : List UInt8) (w : World)
set_option maxHeartbeats 800000 in
theorem add_many (hB : B ≤ w.heap.size) (h : OwnO 46 5 B w A n c ps) (hno : code ∉ codesL (osP ps)) (hn : 60 ≤ n) :
    Calls Tryz.prog 120 #[.slice A n c, .int .i64 code, .slice D m dc] w (AddFull B w) := by
  have HP := Lib.hid (place_none hno)
  have hm := h.rd.max
  have hcap := h.rd.cap
  clear hno
  go_enter Tryz.func120, Tryz.ntmps120
  go_wp2_with fail
  refine (place_any A n c ps code _ h.rd).mono ?_
  rw [HP.out]
  rintro e w1 ⟨rfl, hb1⟩
  go_wp2
  go_ret2
  exact ⟨rfl, hb1.mono hB⟩
/-- Behind the first append: the list with the new option, of no bytes yet. -/
theorem add_new1 {wa w2 : World} {A2 : Option Addr} {c2 : Nat} (ha : OwnO 46 5 B wa A n c ps) (HL : Hid (ps.length = n)) (hc2 : OwnC 46 B w2 A2 (n + 1) c2 (ps ++ [⟨code, none, 0, []⟩])) (hg2 : wa.grownBy w2 (Value.slice A n c).ownBlock) :
    ∃ g, A2 = some ⟨g, 0, none⟩ ∧ B ≤ g ∧ w2.cell? ⟨g, n * 2 + 1, none⟩ = some (.slice none 0 0) ∧ OwnO 46 5 B w2 A2 (n + 1) c2 (ps ++ [⟨code, none, 0, []⟩]) := by
  have h2 := ha.snoc_nil (by decide) hc2 hg2
  obtain ⟨g, rfl, hBg, hglt⟩ := hc2.head (by omega)
  have hi2 : n < (ps ++ [(⟨code, none, 0, []⟩ : Po)]).length := by simp [HL.out]
  have hget : (ps ++ [(⟨code, none, 0, []⟩ : Po)])[n] = (⟨code, none, 0, []⟩ : Po) := by simp [← HL.out]
  refine ⟨g, rfl, hBg, ?_, h2⟩
  have := (hc2.at_ hi2).2
  rw [hget] at this
  exact this
/-- Behind the second append: what the store does. -/
theorem add_store {w2 w3 : World} {g i k c2 cd : Nat} {qs : List Po} {N : Nat} {q : Po} (h2 : OwnO 46 5 B w2 (some ⟨g, 0, none⟩) N c2 qs) (hq : qs[i]? = some q) {A3 : Option Addr} {c3 : Nat} {l3 : List UInt8} (hl3 : l3.length = k)
    (hown3 : Own 5 B w3 A3 k c3 l3) (hg3 : w2.grownBy w3 (Value.slice q.A cd q.c).ownBlock) (hat3 : (Value.slice A3 k c3).ownBlock = (Value.slice q.A cd q.c).ownBlock ∨ (Value.slice A3 k c3).ownBlock = some w2.heap.size) :
    w3.cell? ⟨g, i * 2 + 1, none⟩ = some q.dv ∧ w3.frozen? ⟨g, i * 2 + 1, none⟩ = false ∧ OwnO 46 5 B (w3.setCell ⟨g, i * 2 + 1, none⟩ (.slice A3 k c3)) (some ⟨g, 0, none⟩) N c2 (qs.set i ⟨q.code, A3, c3, l3⟩) := by
  obtain ⟨hi, hqe⟩ := List.getElem?_eq_some_iff.1 hq
  have hblk : (qs[i]).blk = (Value.slice q.A cd q.c).ownBlock := by
    rw [hqe]
    unfold Po.blk Po.dv
    cases q.A <;> rfl
  rw [← hblk] at hg3 hat3
  have hc3 : OwnC 46 B w3 (some ⟨g, 0, none⟩) N c2 qs := World.ownsRow.kept h2.1 hg3 (rows_apart2 (by decide) h2.1 (h2.2.1 _ (List.getElem_mem hi)))
  have hfin := h2.grow rfl hi (by decide) hl3 hown3 hg3 hat3
  rw [hqe] at hfin
  have hcell := (hc3.at_ hi).2
  rw [hqe] at hcell
  exact ⟨hcell, hc3.frozen _, hfin⟩
set_option maxHeartbeats 1600000 in
theorem add_new (hB : B ≤ w.heap.size) (h : OwnO 46 5 B w A n c ps) (hno : code ∉ codesL (osP ps)) (hn : n < 60) (hd : BsU B w D m dc d) (hm6 : m ≤ 600) :
    Calls Tryz.prog 120 #[.slice A n c, .int .i64 code, .slice D m dc] w (AddOk 46 5 B w (joinedL (osP ps) code d)) := by
  have HP := Lib.hid (place_none hno)
  have HJ := Lib.hid (joined_new hno d)
  have hm := h.rd.max
  have hcap := h.rd.cap
  have HL := Lib.hid h.1.len
  have HD := Lib.hid hd.len
  have hdm := hd.1.max
  have hdc := hd.1.cap
  clear hno
  go_enter Tryz.func120, Tryz.ntmps120
  go_wp2_with fail
  refine (place_any A n c ps code _ h.rd).mono ?_
  rw [HP.out]
  rintro e w1 ⟨rfl, hb1⟩
  have h1 := h.below hb1
  have hd1 := hd.below (hb1.mono hB)
  have hba : Below w1.heap.size w1 (w1.alloc (Obj.cells #[Value.int IntKind.i64 code, Value.slice none 0 0] 46)) := (Below.refl _ _).alloc (Nat.le_refl _) _
  have ha := h1.below hba
  have hB1 := hb1.size
  have hda := hd1.below (hba.mono (by omega))
  clear h h1 hd hd1
  have hqs : Hid ((ps ++ [(⟨code, none, 0, []⟩ : Po)])[n]? = some ⟨code, none, 0, []⟩) := by rw [← HL.out]; exact List.getElem?_concat_length
  go_wp2_with (first
    | (at_builtin; refine wpList_appO opP rfl (.tmp 25) (.tmp 28) rfl rfl ha.1 rfl (OwnC.lit1 46 w1 ⟨code, none, 0, []⟩).rdc (by omega) (by simp; omega) ?_; intro A2 c2 w2 hc2 hb2 hg2; obtain ⟨g, rfl, hBg, hcell, h2⟩ := add_new1 B A n c ps code ha HL hc2 hg2; have hd2 := hda.below hb2; clear hc2 hg2)
    | (at_builtin; refine wpList_app byP rfl (.tmp 46) (.tmp 47) rfl rfl (Own.nil 5 B w2) rfl hd2.bs (by omega) (by have := hb2.size; simp at this; omega) ?_; intro A3 c3 w3 hown3 hb3 hg3 hat3; obtain ⟨hcell3, hfz3, hfin⟩ := add_store B h2 hqs.out (by simp [HD.out]) hown3 hg3 hat3; clear hg3 hat3 hown3))
  go_ret2
  simp only [Nat.zero_add, List.nil_append] at hfin
  refine ⟨_, _, _, _, rfl, ?_, hfin, ?_⟩
  · have e1 : (ps ++ [(⟨code, none, 0, []⟩ : Po)]).set n ⟨code, A3, c3, d⟩ = ps ++ [⟨code, A3, c3, d⟩] := by rw [← HL.out]; simp
    rw [e1, HJ.out, os_app]
    rfl
  · exact ((((hb1.mono hB).trans (hba.mono (by omega))).trans hb2).trans hb3).setCell hBg _
set_option maxHeartbeats 1600000 in
theorem add_big (hB : B ≤ w.heap.size) (h : OwnO 46 5 B w A n c ps) (hno : code ∉ codesL (osP ps)) (hn : n < 60) (hm6 : 600 < m) (hm1 : m ≤ 9223372036854775807) :
    Calls Tryz.prog 120 #[.slice A n c, .int .i64 code, .slice D m dc] w (AddFull B w) := by
  have HP := Lib.hid (place_none hno)
  have hm := h.rd.max
  have hcap := h.rd.cap
  have HL := Lib.hid h.1.len
  clear hno
  go_enter Tryz.func120, Tryz.ntmps120
  go_wp2_with fail
  refine (place_any A n c ps code _ h.rd).mono ?_
  rw [HP.out]
  rintro e w1 ⟨rfl, hb1⟩
  have h1 := h.below hb1
  have hba : Below w1.heap.size w1 (w1.alloc (Obj.cells #[Value.int IntKind.i64 code, Value.slice none 0 0] 46)) := (Below.refl _ _).alloc (Nat.le_refl _) _
  have ha := h1.below hba
  have hB1 := hb1.size
  clear h h1
  go_wp2_with (at_builtin; refine wpList_appO opP rfl (.tmp 25) (.tmp 28) rfl rfl ha.1 rfl (OwnC.lit1 46 w1 ⟨code, none, 0, []⟩).rdc (by omega) (by simp; omega) ?_; intro A2 c2 w2 hc2 hb2 hg2; obtain ⟨g, rfl, hBg, hcell, h2⟩ := add_new1 B A n c ps code ha HL hc2 hg2; clear hc2 hg2)
  go_ret2
  exact ⟨rfl, ((hb1.mono hB).trans (hba.mono (by omega))).trans hb2⟩
set_option maxHeartbeats 1600000 in
theorem add_over (hB : B ≤ w.heap.size) (h : OwnO 46 5 B w A n c ps) (i k : Nat) (q : Po) (hp : placeL (osP ps) code = (i : Int)) (hq : ps[i]? = some q) (hk : q.l.length = k) (hm6 : 600 < k + m) (hkm : k + m ≤ 9223372036854775807) :
    Calls Tryz.prog 120 #[.slice A n c, .int .i64 code, .slice D m dc] w (AddFull B w) := by
  have HP := Lib.hid hp
  have HQ := Lib.hid hq
  have HK := Lib.hid hk
  have hm := h.rd.max
  have hcap := h.rd.cap
  have hin : i < n := by have := (List.getElem?_eq_some_iff.1 hq).1; have := h.1.len; omega
  obtain ⟨g, rfl, hBg, hglt⟩ := h.1.head (by omega)
  have HC : Hid (∀ W, Below w.heap.size w W → W.cell? ⟨g, i * 2 + 1, none⟩ = some (.slice q.A k q.c)) := fun W hW => by
    obtain ⟨hi, he⟩ := List.getElem?_eq_some_iff.1 HQ.out
    have := ((h.below hW).1.at_ hi).2
    rw [he] at this
    unfold Po.dv at this
    rw [HK.out] at this
    exact this
  clear hp hq hk
  go_enter Tryz.func120, Tryz.ntmps120
  go_wp2_with fail
  refine (place_any _ n c ps code _ h.rd).mono ?_
  rw [HP.out]
  rintro e w1 ⟨rfl, hb1⟩
  have hcell := HC.out w1 hb1
  go_wp2
  go_ret2
  exact ⟨rfl, hb1.mono hB⟩
set_option maxHeartbeats 1600000 in
theorem add_old (hB : B ≤ w.heap.size) (h : OwnO 46 5 B w A n c ps) (hr : rightL (osP ps) = true) (i k : Nat) (q : Po) (hp : placeL (osP ps) code = (i : Int)) (hq : ps[i]? = some q) (hqc : q.code = code) (hk : q.l.length = k) (hd : BsU B w D m dc d) (hm6 : k + m ≤ 600) :
    Calls Tryz.prog 120 #[.slice A n c, .int .i64 code, .slice D m dc] w (AddOk 46 5 B w (joinedL (osP ps) code d)) := by
  have HP := Lib.hid hp
  have HQ := Lib.hid hq
  have HK := Lib.hid hk
  have HR := Lib.hid hr
  have HQC := Lib.hid hqc
  have HD := Lib.hid hd.len
  have hm := h.rd.max
  have hcap := h.rd.cap
  have hin : i < n := by have := (List.getElem?_eq_some_iff.1 hq).1; have := h.1.len; omega
  obtain ⟨g, rfl, hBg, hglt⟩ := h.1.head (by omega)
  have HC : Hid (∀ W, Below w.heap.size w W → W.cell? ⟨g, i * 2 + 1, none⟩ = some (.slice q.A k q.c) ∧ Own 5 B W q.A k q.c q.l) := fun W hW => by
    obtain ⟨hi, he⟩ := List.getElem?_eq_some_iff.1 HQ.out
    have h1 := ((h.below hW).1.at_ hi).2
    have h2 := (h.below hW).2.1 _ (List.getElem_mem hi)
    rw [he] at h1 h2
    unfold Po.dv at h1
    rw [HK.out] at h1 h2
    exact ⟨h1, h2⟩
  have HJ : Hid (joinedL (osP ps) code d = (osP ps).set i (code, q.l ++ d)) := by
    obtain ⟨hi, he⟩ := List.getElem?_eq_some_iff.1 HQ.out
    have hio : i < (osP ps).length := by rw [os_len]; exact hi
    have e1 : (osP ps)[i] = (q.code, q.l) := by rw [os_get hi, he]; rfl
    have := joined_set (c := code) (right_nodup HR.out) hio (by rw [e1]; exact HQC.out) d
    rw [e1] at this
    exact this
  clear hp hq hk hr hqc
  go_enter Tryz.func120, Tryz.ntmps120
  go_wp2_with fail
  refine (place_any _ n c ps code _ h.rd).mono ?_
  rw [HP.out]
  rintro e w1 ⟨rfl, hb1⟩
  obtain ⟨hcell, howq⟩ := HC.out w1 hb1
  have h1 := h.below hb1
  have hd1 := hd.below (hb1.mono hB)
  have hdm := hd1.1.max
  have hdc := hd1.1.cap
  have hB1 := hb1.size
  clear h hd
  go_wp2_with (at_builtin; refine wpList_app byP rfl (.tmp 46) (.tmp 47) rfl rfl howq rfl hd1.bs (by omega) (by omega) ?_; intro A3 c3 w3 hown3 hb3 hg3 hat3; obtain ⟨hcell3, hfz3, hfin⟩ := add_store B h1 HQ.out (by simp [HD.out, HK.out]) hown3 hg3 hat3; clear hg3 hat3 hown3)
  go_ret2
  refine ⟨_, _, _, _, rfl, ?_, hfin, ?_⟩
  · rw [HJ.out]
    simp [osP, List.map_set, Po.o, HQC.out]
  · exact ((hb1.mono hB).trans hb3).setCell hBg _
/-- The two outcomes. -/
theorem add_yes (hB : B ≤ w.heap.size) (h : OwnO 46 5 B w A n c ps) (hr : rightL (osP ps) = true) (hd : BsU B w D m dc d) (hj : rightL (joinedL (osP ps) code d) = true) :
    Calls Tryz.prog 120 #[.slice A n c, .int .i64 code, .slice D m dc] w (AddOk 46 5 B w (joinedL (osP ps) code d)) := by
  have hl := h.1.len
  have hdl := hd.len
  by_cases hno : code ∈ codesL (osP ps)
  · obtain ⟨i, hi, hp, hc, _⟩ := place_mem hno
    have hip : i < ps.length := by rw [os_len] at hi; exact hi
    rw [os_get hip] at hc
    refine add_old B A n c ps code D m dc d w hB h hr i _ ps[i] hp (List.getElem?_eq_getElem hip) hc rfl hd ?_
    by_cases k : (ps[i]).l.length + m ≤ 600
    · exact k
    · have := right_joined_over (c := code) (d := d) hi (by rw [os_get hip]; exact hc) (by rw [os_get hip, hdl]; show 600 < (ps[i]).l.length + m; omega)
      rw [this] at hj
      cases hj
  · have hn : n < 60 := by
      by_cases k : 60 ≤ n
      · rw [right_joined_full hno (by rw [os_len, hl]; exact k)] at hj; cases hj
      · omega
    have hm6 : m ≤ 600 := by
      by_cases k : 600 < m
      · rw [right_joined_big hno (by rw [hdl]; exact k)] at hj; cases hj
      · omega
    exact add_new B A n c ps code D m dc d w hB h hno hn hd hm6
theorem add_no (hB : B ≤ w.heap.size) (h : OwnO 46 5 B w A n c ps) (hr : rightL (osP ps) = true) (hd : BsU B w D m dc d) (h1 : 1 ≤ code) (h2 : code ≤ 254) (hm1 : m ≤ 1000) (hj : rightL (joinedL (osP ps) code d) = false) :
    Calls Tryz.prog 120 #[.slice A n c, .int .i64 code, .slice D m dc] w (AddFull B w) := by
  have hl := h.1.len
  have hdl := hd.len
  by_cases hno : code ∈ codesL (osP ps)
  · obtain ⟨i, hi, hp, hc, _⟩ := place_mem hno
    have hip : i < ps.length := by rw [os_len] at hi; exact hi
    have hc' := hc
    rw [os_get hip] at hc
    have hfit := (right_fit hr (List.getElem_mem hi)).2.2
    rw [os_get hip] at hfit
    have hfit' : (ps[i]).l.length ≤ 600 := hfit
    refine add_over B A n c ps code D m dc w hB h i _ ps[i] hp (List.getElem?_eq_getElem hip) rfl ?_ (by omega)
    by_cases k : (ps[i]).l.length + m ≤ 600
    · have := right_joined_set (d := d) hr hi hc' (by rw [os_get hip, hdl]; exact k)
      rw [this] at hj
      cases hj
    · omega
  · by_cases k : 60 ≤ n
    · exact add_many B A n c ps code D m dc w hB h hno k
    · refine add_big B A n c ps code D m dc w hB h hno (by omega) ?_ (by omega)
      by_cases k2 : 600 < m
      · exact k2
      · rw [right_joined_new hr hno h1 h2 (by rw [os_len, hl]; omega) (by rw [hdl]; omega)] at hj
        cases hj
end
end Go.Proofs.YtabjcgchcnnjjaaGreatDoor.Tw
