/- What the calls that only read options come to: Great, Has, the document's Right and Find, Same. For all inputs. -/
import Derived.Test.YtoldppbakapohaaGreatDoorKitA
import Derived.WalkSpells
import Derived.WalkLawsBesides
import Derived.IntWalk
import Derived.Laws.BitsAllLaws
import Derived.Deep.QuietTactic
import Derived.BigQuiet
import Derived.Lib.AppendZeros
import Derived.Lib.SliceRun
import Derived.Deep.RegionWith
section
namespace Go.Proofs.YtoldppbakapohaaGreatDoor.Tw
open Go.RowKit Tl By

theorem opP : OpP Tryz.prog 27 74 := ⟨Tryz.underlying27, by kernel_rfl⟩

def greatL (l : List O) : Bool := l.any (fun o => decide (1000 < o.2.length)) || decide (100 < l.length)
def smallTo (l : List O) (k : Nat) : Prop := ∀ o ∈ l.take k, o.2.length ≤ 1000
theorem great_hit {l : List O} {k : Nat} (h : k < l.length) (h2 : 1000 < (l[k]).2.length) : greatL l = true := by
  unfold greatL
  rw [Bool.or_eq_true, List.any_eq_true]
  exact .inl ⟨l[k], List.getElem_mem h, decide_eq_true h2⟩
theorem small_next {l : List O} {k : Nat} (h : k < l.length) (hs : smallTo l k) (h2 : (l[k]).2.length ≤ 1000) : smallTo l (k + 1) := by
  intro o ho
  rw [take_snocO h] at ho
  rcases List.mem_append.1 ho with ho | ho
  · exact hs o ho
  · simp at ho; subst ho; exact h2
theorem great_end {l : List O} {k : Nat} (h : l.length ≤ k) (hs : smallTo l k) : greatL l = decide (100 < l.length) := by
  unfold greatL
  have : l.any (fun o => decide (1000 < o.2.length)) = false := by
    rw [List.any_eq_false]
    intro o ho
    have := hs o (by rw [List.take_of_length_le h]; exact ho)
    simp
    omega
  rw [this, Bool.false_or]

set_option maxHeartbeats 400000 in
theorem great_any (A : Option Addr) (n c : Nat) (ps : List Po) (w : World) (h : RdO w A n c ps) :
    Calls Tryz.prog 74 #[.slice A n c] w fun e w' => e = .returned (.bool (greatL (osP ps))) ∧ w = w' := by
  have hl := Lib.hid h.len
  have hm := h.max
  have hcap := h.cap
  go_enter Tryz.func74, Tryz.ntmps74
  go_wp2
  go_loop [3] (fun i => ∃ k : Nat, k ≤ n ∧ i = .int .i64 k ∧ smallTo (osP ps) k) (fun i => n - (intOf i).toNat)
  case atStart => exact ⟨0, by omega, rfl, fun o ho => by simp at ho⟩
  case round =>
    obtain ⟨k, hk, rfl, hs⟩ := hrel
    have HS := Lib.hid hs
    clear hs
    by_cases hlt : k < n
    · obtain ⟨b, o, rfl, hc⟩ := h.cell hlt
      have hkl : k < ps.length := by have := hl.out; omega
      have hcell := (hc k hkl).2
      unfold Po.dv at hcell
      have hkO : k < (osP ps).length := by rw [os_len]; exact hkl
      have H1 : Hid (∀ m, m = (ps[k]).l.length → 1000 < m → greatL (osP ps) = true) := fun m e hm => great_hit hkO (by rw [os_get hkl]; rw [e] at hm; exact hm)
      have H2 : Hid (∀ m, m = (ps[k]).l.length → m ≤ 1000 → smallTo (osP ps) (k + 1)) := fun m e hm => small_next hkO HS.out (by rw [os_get hkl]; rw [e] at hm; exact hm)
      obtain ⟨m, hm0⟩ : ∃ m, m = (ps[k]).l.length := ⟨_, rfl⟩
      have HM := Lib.hid hm0
      rw [← hm0] at hcell
      clear hc hkO
      generalize (ps[k]).A = A' at hcell
      generalize (ps[k]).c = c' at hcell
      clear hm0
      by_cases hd : 1000 < m
      · go_wp2
        go_ret
        exact ⟨ret_bool (H1.out m HM.out hd).symm, rfl⟩
      · go_wp2
        go_round
        case rel => exact ⟨k + 1, by omega, by go_num, H2.out m HM.out (by omega)⟩
        case measure => simp [intOf]; omega
    · obtain rfl : k = n := by omega
      have H : Hid (greatL (osP ps) = decide (100 < k)) := by
        have := great_end (l := osP ps) (by rw [os_len, hl.out]; exact Nat.le_refl _) HS.out
        rw [os_len, hl.out] at this
        exact this
      go_wp2
      go_ret
      exact ⟨ret_bool (by rw [H.out]; simp; omega), rfl⟩

set_option maxHeartbeats 400000 in
theorem has_any (A : Option Addr) (n c : Nat) (ps : List Po) (code : Int) (w : World) (h : RdO w A n c ps) :
    Calls Tryz.prog 95 #[.slice A n c, .int .i64 code] w fun e w' => e = .returned (.int .i64 (hasL (osP ps) code : Nat)) ∧ w = w' := by
  have hl := Lib.hid h.len
  have hm := h.max
  have hcap := h.cap
  go_enter Tryz.func95, Tryz.ntmps95
  go_wp2
  go_loop [5, 6] (fun v i => ∃ k : Nat, k ≤ n ∧ i = .int .i64 k ∧ v = .int .i64 (hasL ((osP ps).take k) code : Nat)) (fun _ i => n - (intOf i).toNat)
  case atStart => exact ⟨0, by omega, rfl, rfl⟩
  case round =>
    obtain ⟨k, hk, rfl, rfl⟩ := hrel
    have hle : hasL ((osP ps).take k) code ≤ k := Nat.le_trans (has_le _ _) (by rw [List.length_take]; omega)
    by_cases hlt : k < n
    · obtain ⟨b, o, co, A', m, c', l, rfl, hcell, _, _, _, HO, _, _, _⟩ := h.at_ hlt
      have H : Hid (hasL ((osP ps).take (k + 1)) code = hasL ((osP ps).take k) code + if co = code then 1 else 0) := by
        obtain ⟨h1, h2⟩ := HO.out
        have := has_next h1 code
        rw [h2] at this
        exact this
      clear HO
      generalize hasL ((osP ps).take k) code = x at hle H
      by_cases he : co = code
      · subst he
        go_wp2
        go_round
        case rel => exact ⟨k + 1, by omega, by go_num, by rw [H.out, if_pos rfl]; go_num⟩
        case measure => simp [intOf]; omega
      · have hb : (co == code) = false := by simpa using he
        have HE := Lib.hid he
        clear he
        go_wp2
        go_round
        case rel => exact ⟨k + 1, by omega, by go_num, by rw [H.out, if_neg HE.out]; go_num⟩
        case measure => simp [intOf]; omega
    · obtain rfl : k = n := by omega
      have H : Hid ((osP ps).take k = osP ps) := List.take_of_length_le (by rw [os_len, hl.out]; exact Nat.le_refl _)
      rw [H.out]
      go_wp2
      go_ret
      exact ⟨rfl, rfl⟩

def rightTo (l : List O) (k : Nat) : Prop := ∀ i (h : i < l.length), i < k → (1 ≤ (l[i]).1 ∧ (l[i]).1 ≤ 254 ∧ (l[i]).2.length ≤ 600) ∧ hasL l (l[i]).1 ≤ 1
set_option maxHeartbeats 800000 in
theorem refRight_any (A : Option Addr) (n c : Nat) (ps : List Po) (w : World) (h : RdO w A n c ps) :
    Calls Tryz.prog 94 #[.slice A n c] w fun e w' => e = .returned (.bool (rightL (osP ps))) ∧ w = w' := by
  have hl := Lib.hid h.len
  have hm := h.max
  have hcap := h.cap
  by_cases h60 : 60 < n
  · have H : Hid (rightL (osP ps) = false) := right_long (by rw [os_len, hl.out]; exact h60)
    go_enter Tryz.func94, Tryz.ntmps94
    go_wp2
    go_ret
    exact ⟨ret_bool H.out.symm, rfl⟩
  go_enter Tryz.func94, Tryz.ntmps94
  go_wp2
  go_loop [3] (fun i => ∃ k : Nat, k ≤ n ∧ i = .int .i64 k ∧ rightTo (osP ps) k) (fun i => n - (intOf i).toNat)
  case atStart => exact ⟨0, by omega, rfl, fun i _ hi => absurd hi (Nat.not_lt_zero i)⟩
  case round =>
    obtain ⟨k, hk, rfl, hs⟩ := hrel
    have HS := Lib.hid hs
    clear hs
    by_cases hlt : k < n
    · obtain ⟨b, o, co, A', m, c', l, rfl, hcell, hcell2, _, _, HO, HM, hmc, hc63⟩ := h.at_ hlt
      have HN : Hid (¬ (1 ≤ co ∧ co ≤ 254 ∧ m ≤ 600) → rightL (osP ps) = false) := fun hf => by
        obtain ⟨h1, h2⟩ := HO.out
        refine right_unfit h1 ?_
        rw [h2]
        have := HM.out
        subst this
        exact hf
      by_cases h1 : co < 1
      · go_wp2
        go_ret
        exact ⟨ret_bool (HN.out (by omega)).symm, rfl⟩
      by_cases h2 : 254 < co
      · go_wp2
        go_ret
        exact ⟨ret_bool (HN.out (by omega)).symm, rfl⟩
      by_cases h3 : 600 < m
      · go_wp2
        go_ret
        exact ⟨ret_bool (HN.out (by omega)).symm, rfl⟩
      have hx := has_le (osP ps) co
      rw [os_len, hl.out] at hx
      have HT : Hid (1 < hasL (osP ps) co → rightL (osP ps) = false) := fun hf => by
        obtain ⟨g1, g2⟩ := HO.out
        refine right_has g1 ?_
        rw [g2]
        exact hf
      have HR : Hid (hasL (osP ps) co ≤ 1 → rightTo (osP ps) (k + 1)) := fun hf i hi hik => by
        by_cases e : i = k
        · subst e
          obtain ⟨g1, g2⟩ := HO.out
          rw [g2]
          have := HM.out
          subst this
          exact ⟨⟨by omega, by omega, by simpa using h3⟩, hf⟩
        · exact HS.out i hi (by omega)
      have hb1 : decide (co < 1) = false := decide_eq_false h1
      have hb2 : decide (254 < co) = false := decide_eq_false h2
      have hb3 : decide (600 < m) = false := decide_eq_false h3
      clear HN
      go_wp2_with fail
      refine (has_any _ _ _ _ _ _ h).mono ?_
      rintro e w' ⟨rfl, rfl⟩
      generalize hasL (osP ps) co = x at hx HT HR
      by_cases h4 : 1 < x
      · go_wp2
        go_ret
        exact ⟨ret_bool (HT.out h4).symm, rfl⟩
      · go_wp2
        go_round
        case rel => exact ⟨k + 1, by omega, by go_num, HR.out (by omega)⟩
        case measure => simp [intOf]; omega
    · obtain rfl : k = n := by omega
      have H : Hid (rightL (osP ps) = true) := right_all (by rw [os_len, hl.out]; omega) fun i hi => HS.out i hi (by rw [os_len, hl.out] at hi; exact hi)
      go_wp2
      go_ret
      exact ⟨ret_bool H.out.symm, rfl⟩

/-- What Find answers. -/
def FoundR (w : World) (r : Option (List UInt8)) (e : Ending) (w' : World) : Prop := ∃ A m c, e = .returned (.tuple #[.slice A m c, .bool r.isSome]) ∧ Bs w A m c (r.getD []) ∧ w = w'
set_option maxHeartbeats 400000 in
theorem refFind_any (A : Option Addr) (n c : Nat) (ps : List Po) (code : Int) (w : World) (h : RdO w A n c ps) :
    Calls Tryz.prog 47 #[.slice A n c, .int .i64 code] w (FoundR w (findL (osP ps) code)) := by
  have hl := Lib.hid h.len
  have hm := h.max
  have hcap := h.cap
  go_enter Tryz.func47, Tryz.ntmps47
  go_wp2
  go_loop [6] (fun i => ∃ k : Nat, k ≤ n ∧ i = .int .i64 k ∧ code ∉ codesL ((osP ps).take k)) (fun i => n - (intOf i).toNat)
  case atStart => exact ⟨0, by omega, rfl, by simp [codesL]⟩
  case round =>
    obtain ⟨k, hk, rfl, hs⟩ := hrel
    have HS := Lib.hid hs
    clear hs
    by_cases hlt : k < n
    · obtain ⟨b, o, co, A', m, c', l, rfl, hcell, hcell2, hbs, _, HO, _, _, _⟩ := h.at_ hlt
      by_cases he : co = code
      · subst he
        have H : Hid (findL (osP ps) co = some l) := by
          obtain ⟨h1, h2⟩ := HO.out
          have := find_hit (c := co) h1 (by rw [h2]) HS.out
          rw [h2] at this
          exact this
        go_wp2
        go_ret2
        exact ⟨A', m, c', by rw [H.out]; rfl, by rw [H.out]; exact hbs, rfl⟩
      · have hb : (co == code) = false := by simpa using he
        have H : Hid (code ∉ codesL ((osP ps).take (k + 1))) := by
          obtain ⟨h1, h2⟩ := HO.out
          exact not_codes_next h1 HS.out (by rw [h2]; exact he)
        clear he
        go_wp2
        go_round
        case rel => exact ⟨k + 1, by omega, by go_num, H.out⟩
        case measure => simp [intOf]; omega
    · obtain rfl : k = n := by omega
      have H : Hid (findL (osP ps) code = none) := find_none (by have := HS.out; rwa [List.take_of_length_le (by rw [os_len, hl.out]; exact Nat.le_refl _)] at this)
      go_wp2
      go_ret2
      exact ⟨none, 0, 0, by rw [H.out]; rfl, by rw [H.out]; exact Bs.nil w, rfl⟩
end Go.Proofs.YtoldppbakapohaaGreatDoor.Tw
end
/- What the program's place comes to, its closure and slices.IndexFunc. For all inputs. -/
section
namespace Go.Proofs.YtoldppbakapohaaGreatDoor.Tw
open Go.RowKit Tl By

theorem code_is (co code : Int) (A' : Option Addr) (m c' b : Nat) (w : World) (hb : b < w.heap.size) (hc : w.cell? ⟨b, 0, none⟩ = some (.int .i64 code)) :
    Calls Tryz.prog 220 #[.agg #[.int .i64 co, .slice A' m c'], .pointer (some ⟨b, 0, none⟩)] w fun e w' => e = .returned (.bool (co == code)) ∧ Below w.heap.size w w' := by
  have hne : b ≠ w.heap.size := by omega
  go_enter Tryz.func220, Tryz.ntmps220
  go_wp2
  go_ret
  exact ⟨by simp, (Below.refl _ _).alloc (Nat.le_refl _) _⟩

set_option maxHeartbeats 400000 in
theorem index_any (A : Option Addr) (n c : Nat) (ps : List Po) (code : Int) (g : Nat) (w : World) (h : RdO w A n c ps) (hg : g < w.heap.size) (hcode : w.cell? ⟨g, 0, none⟩ = some (.int .i64 code)) :
    Calls Tryz.prog 161 #[.slice A n c, .func (.func 220) #[] #[.pointer (some ⟨g, 0, none⟩)]] w fun e w' => e = .returned (.int .i64 (placeL (osP ps) code)) ∧ Below w.heap.size w w' := by
  have hl := Lib.hid h.len
  have hm := h.max
  have hcap := h.cap
  have HC := Lib.hid hcode
  clear hcode
  go_enter Tryz.func161, Tryz.ntmps161
  go_wp2
  go_loopw [8] (fun i wr => ∃ k : Nat, k ≤ n ∧ i = .int .i64 k ∧ code ∉ codesL ((osP ps).take k) ∧ Below w.heap.size w wr) (fun i _ => n - (intOf i).toNat)
  case atStart => exact ⟨0, by omega, rfl, by simp [codesL], Below.refl _ _⟩
  case round =>
    obtain ⟨k, hk, rfl, hs, hbw⟩ := hrel
    have HS := Lib.hid hs
    clear hs
    by_cases hlt : k < n
    · obtain ⟨b, o, co, A', m, c', l, rfl, hcell, hcell2, _, _, HO, _, _, _⟩ := (h.below hbw).at_ hlt
      have hsz := hbw.size
      go_wp2_with fail
      refine (code_is co code A' m c' g _ (by omega) ((hbw.cell (p := ⟨g, 0, none⟩) hg).trans HC.out)).mono ?_
      rintro e w1 ⟨rfl, hb1⟩
      have hb01 := hbw.trans (hb1.mono hsz)
      by_cases he : co = code
      · subst he
        have H : Hid (placeL (osP ps) co = (k : Int)) := by
          obtain ⟨h1, h2⟩ := HO.out
          exact place_hit h1 (by rw [h2]) HS.out
        go_wp2
        go_ret
        exact ⟨ret_int H.out.symm, hb01⟩
      · have hb : (co == code) = false := by simpa using he
        have H : Hid (code ∉ codesL ((osP ps).take (k + 1))) := by
          obtain ⟨h1, h2⟩ := HO.out
          exact not_codes_next h1 HS.out (by rw [h2]; exact he)
        clear he
        go_wp2
        go_roundw
        case rel => exact ⟨k + 1, by omega, by go_num, H.out, hb01⟩
        case measure => simp [intOf]; omega
    · obtain rfl : k = n := by omega
      have H : Hid (placeL (osP ps) code = -1) := place_none (by have := HS.out; rwa [List.take_of_length_le (by rw [os_len, hl.out]; exact Nat.le_refl _)] at this)
      go_wp2
      go_ret
      exact ⟨ret_int H.out.symm, hbw⟩

theorem place_any (A : Option Addr) (n c : Nat) (ps : List Po) (code : Int) (w : World) (h : RdO w A n c ps) :
    Calls Tryz.prog 196 #[.slice A n c, .int .i64 code] w fun e w' => e = .returned (.int .i64 (placeL (osP ps) code)) ∧ Below w.heap.size w w' := by
  go_enter Tryz.func196, Tryz.ntmps196
  go_wp2_with fail
  refine (index_any A n c ps code w.heap.size _ (h.alloc _) (by simp) (by simp)).mono ?_
  rintro e w1 ⟨rfl, hb1⟩
  go_wp2
  go_ret
  exact ⟨rfl, ((Below.refl _ _).alloc (Nat.le_refl _) _).trans (hb1.mono (by simp))⟩
end Go.Proofs.YtoldppbakapohaaGreatDoor.Tw
end
/- What the program's Right and Find come to, and bytes.Clone. For all inputs. -/
section
namespace Go.Proofs.YtoldppbakapohaaGreatDoor.Tw
open Go.RowKit Tl By

set_option maxHeartbeats 400000 in
theorem clone_any (A : Option Addr) (n c : Nat) (l : List UInt8) (w : World) (h : Bs w A n c l) (hn : n ≤ 140737488355328) :
    Calls Tryz.prog 162 #[.slice A n c] w (RB 5 w n l fun x => x) := by
  have q : ∀ (w : World) (a : Option Addr) (n c n' c' : Nat), (binOp .eql 26 (.slice a n c) (.slice none n' c')).run Tryz.prog w = .ok (.bool a.isNone) w := fun w a n c n' c' => Lib.run_eql_slice_nil w _ _ a n c n' c' Tryz.underlying26
  have hl := Lib.hid h.len
  cases A with
  | none =>
    have h0 : n = 0 := by
      rcases Nat.eq_zero_or_pos n with h0 | h0
      · exact h0
      · obtain ⟨b, o, e, _⟩ := h.at_ h0
        cases e
    subst h0
    obtain rfl : l = [] := List.length_eq_zero_iff.1 hl.out
    clear hl
    go_enter Tryz.func162, Tryz.ntmps162
    go_wp2
    go_ret
    exact ⟨none, 0, rfl, Own.nil _ _ _, Below.refl _ _⟩
  | some a =>
    go_enter Tryz.func162, Tryz.ntmps162
    go_wp2_with (at_builtin; refine wpList_app byP rfl (.tmp 5) (.tmp 6) rfl rfl (Own.lit0 5 w) rfl (h.alloc _) (by omega) (by simp) ?_; intro A' c' w2 hown2 hb2 _ _)
    go_ret
    exact ⟨A', c', by simp, by simpa using hown2, ((Below.refl _ _).alloc (Nat.le_refl _) _).trans hb2⟩

set_option maxHeartbeats 800000 in
theorem right_any (A : Option Addr) (n c : Nat) (ps : List Po) (w : World) (h : RdO w A n c ps) :
    Calls Tryz.prog 132 #[.slice A n c] w fun e w' => e = .returned (.bool (rightL (osP ps))) ∧ Below w.heap.size w w' := by
  have hl := Lib.hid h.len
  have hm := h.max
  have hcap := h.cap
  by_cases h60 : 60 < n
  · have H : Hid (rightL (osP ps) = false) := right_long (by rw [os_len, hl.out]; exact h60)
    go_enter Tryz.func132, Tryz.ntmps132
    go_wp2
    go_ret
    exact ⟨ret_bool H.out.symm, Below.refl _ _⟩
  go_enter Tryz.func132, Tryz.ntmps132
  go_wp2
  go_loopw [10] (fun i wr => ∃ k : Nat, k ≤ n ∧ i = .int .i64 k ∧ rightL ((osP ps).take k) = true ∧ Below w.heap.size w wr) (fun i _ => n - (intOf i).toNat)
  case atStart => exact ⟨0, by omega, rfl, rfl, Below.refl _ _⟩
  case round =>
    obtain ⟨k, hk, rfl, hs, hbw⟩ := hrel
    have HS := Lib.hid hs
    clear hs
    have hsz := hbw.size
    by_cases hlt : k < n
    · obtain ⟨b, o, co, A', m, c', l, rfl, hcell, hcell2, _, _, HO, HM, hmc, hc63⟩ := (h.below hbw).at_ hlt
      obtain ⟨A2, hA2, hrun2⟩ := opP.cut_h (h.below hbw) k (k : Int) rfl hk
      have hbA : ∀ x, Below w.heap.size w (wr.alloc x) := fun x => hbw.alloc hsz x
      have HN : Hid (¬ (1 ≤ co ∧ co ≤ 254 ∧ m ≤ 600) → rightL (osP ps) = false) := fun hf => by
        obtain ⟨h1, h2⟩ := HO.out
        refine right_unfit h1 ?_
        rw [h2]
        have := HM.out
        subst this
        exact hf
      by_cases h1 : co < 1
      · go_wp2
        go_ret
        exact ⟨ret_bool (HN.out (by omega)).symm, hbA _⟩
      by_cases h2 : 254 < co
      · go_wp2
        go_ret
        exact ⟨ret_bool (HN.out (by omega)).symm, hbA _⟩
      by_cases h3 : 600 < m
      · go_wp2
        go_ret
        exact ⟨ret_bool (HN.out (by omega)).symm, hbA _⟩
      have hb1 : decide (co < 1) = false := decide_eq_false h1
      have hb2 : decide (254 < co) = false := decide_eq_false h2
      have hb3 : decide (600 < m) = false := decide_eq_false h3
      clear HN
      have h1 : 1 ≤ co := by omega
      have h2 : co ≤ 254 := by omega
      by_cases hd : co ∈ codesL (osP (ps.take k))
      · obtain ⟨i, _, hp, _⟩ := place_mem hd
        have HP := Lib.hid hp
        have H : Hid (rightL (osP ps) = false) := by
          obtain ⟨g1, g2⟩ := HO.out
          refine right_twice g1 ?_
          rw [g2, ← os_take]
          exact hd
        have hge : (0 : Int) ≤ (i : Int) := by omega
        clear hp hd
        go_wp2_with fail
        go_region_with ((go_at_call 196; refine (place_any A2 k c (ps.take k) co _ (hA2.alloc _).drew).mono ?_; rw [HP.out]; rintro e w1 ⟨rfl, hb1⟩))
        all_goals
          go_wp2
          go_ret
          exact ⟨ret_bool H.out.symm, (hbA _).trans ((below_undrew hb1).mono (by simp; omega))⟩
      · have HP := Lib.hid (place_none hd)
        have H : Hid (rightL ((osP ps).take (k + 1)) = true) := by
          obtain ⟨g1, g2⟩ := HO.out
          have := HM.out
          subst this
          refine right_step g1 (by rw [os_len, hl.out]; omega) HS.out (by rw [g2]; exact ⟨h1, h2, by simpa using h3⟩) (by rw [g2, ← os_take]; exact hd)
        clear hd
        go_wp2_with fail
        go_region_with ((go_at_call 196; refine (place_any A2 k c (ps.take k) co _ (hA2.alloc _).drew).mono ?_; rw [HP.out]; rintro e w1 ⟨rfl, hb1⟩))
        all_goals
          go_wp2
          go_roundw
          case rel => exact ⟨k + 1, by omega, by go_num, H.out, (hbA _).trans ((below_undrew hb1).mono (by simp; omega))⟩
          case measure => simp [intOf]; omega
    · obtain rfl : k = n := by omega
      have H : Hid (rightL (osP ps) = true) := by have := HS.out; rwa [List.take_of_length_le (by rw [os_len, hl.out]; exact Nat.le_refl _)] at this
      go_wp2
      go_ret
      exact ⟨ret_bool H.out.symm, hbw⟩

/-- What the program's Find answers. -/
def FoundB (w : World) (r : Option (List UInt8)) (e : Ending) (w' : World) : Prop := ∃ A m c, e = .returned (.tuple #[.slice A m c, .bool r.isSome]) ∧ Bs w' A m c (r.getD []) ∧ Below w.heap.size w w'
set_option maxHeartbeats 400000 in
theorem find_any (A : Option Addr) (n c : Nat) (ps : List Po) (code : Int) (w : World) (h : RdO w A n c ps) (hsm : ∀ p ∈ ps, p.l.length ≤ 1000) :
    Calls Tryz.prog 134 #[.slice A n c, .int .i64 code] w (FoundB w (findL (osP ps) code)) := by
  have hl := Lib.hid h.len
  have hm := h.max
  have hcap := h.cap
  have HSM := Lib.hid hsm
  clear hsm
  by_cases hd : code ∈ codesL (osP ps)
  · obtain ⟨i, hi, hp, hcode, hno⟩ := place_mem hd
    have hin : i < n := by rw [os_len, hl.out] at hi; exact hi
    obtain ⟨b, o, co, A', m, c', l, rfl, _, _, _, HP0, HO, HM, _, _⟩ := h.at_ hin
    have HF : Hid (findL (osP ps) code = some l) := by
      obtain ⟨g1, g2⟩ := HO.out
      have := find_hit (c := code) hi hcode hno
      rw [g2] at this
      exact this
    have HPL := Lib.hid hp
    have hm1 : m ≤ 1000 := by
      have h1 := HSM.out _ (List.mem_of_getElem? HP0.out)
      have h2 := HM.out
      subst h2
      exact h1
    have HB : Hid (∀ W, Below w.heap.size w W → W.cell? ⟨b, o + i * 2 + 1, none⟩ = some (.slice A' m c') ∧ Bs W A' m c' l) := fun W hW => by
      obtain ⟨b2, o2, co2, A2, m2, c2, l2, e, h1, h2, h3, h4, h5, h6, _⟩ := (h.below hW).at_ hin
      cases e
      have h7 := h4.out.symm.trans HP0.out
      injection h7 with h7
      injection h7 with e1 e2 e3 e4
      subst e2; subst e3; subst e4
      have e5 := h6.out
      have e6 := HM.out
      rw [e5] at e6
      subst e6
      exact ⟨h2, h3⟩
    clear hp hcode hno hd hi HO
    go_enter Tryz.func134, Tryz.ntmps134
    go_wp2_with fail
    refine (place_any _ n c ps code _ h).mono ?_
    rw [HPL.out]
    rintro e w1 ⟨rfl, hb1⟩
    obtain ⟨hcell, hbs⟩ := HB.out w1 hb1
    go_wp2_with fail
    refine (clone_any A' m c' l _ hbs (by omega)).mono ?_
    rintro e w2 ⟨A3, c3, rfl, hown3, hb2⟩
    go_wp2
    go_ret2
    exact ⟨A3, m, c3, by rw [HF.out]; rfl, by rw [HF.out]; exact hown3.bs, hb1.trans (hb2.mono hb1.size)⟩
  · have HP := Lib.hid (place_none hd)
    have HF := Lib.hid (find_none hd)
    clear hd
    go_enter Tryz.func134, Tryz.ntmps134
    go_wp2_with fail
    refine (place_any _ n c ps code _ h).mono ?_
    rw [HP.out]
    rintro e w1 ⟨rfl, hb1⟩
    go_wp2
    go_ret2
    exact ⟨none, 0, 0, by rw [HF.out]; rfl, by rw [HF.out]; exact Bs.nil _, hb1⟩
end Go.Proofs.YtoldppbakapohaaGreatDoor.Tw
end
/- What the document's Same comes to. For all inputs. -/
section
namespace Go.Proofs.YtoldppbakapohaaGreatDoor.Tw
open Go.RowKit Tl By

end Go.Proofs.YtoldppbakapohaaGreatDoor.Tw
end
