/- What the document's Without, With and set come to. For lists of up to 1000. -/
import Derived.Test.YtoifdjpflannlaaDwRf4
import Derived.Test.YtoifdjpflannlaaDwAs
set_option maxRecDepth 8000
namespace Go.Proofs.Ytoifdjpflannlaa.Dw
open Go.RowKit By Dk

/-! ### Mathematics -/
theorem without_no {l : List E} {k : Nat} {s t : N} {f : Int} (h : l[k]? = some (s, f)) (hne : ¬ s = t) : withoutE (l.take (k + 1)) t = withoutE (l.take k) t ++ [(s, f)] := by
  rw [take_next h, withoutE, List.filter_append, List.filter_cons_of_pos (by simpa using hne)]
  rfl
theorem without_hit {l : List E} {k : Nat} {s t : N} {f : Int} (h : l[k]? = some (s, f)) (he : s = t) : withoutE (l.take (k + 1)) t = withoutE (l.take k) t := by
  rw [take_next h, withoutE, List.filter_append, List.filter_cons_of_neg (by simpa using he)]
  exact List.append_nil _
theorem with_last : ∀ {l : List E} {t : N} {f : Int}, (∀ e ∈ l, ¬ t < e.1) → withE l t f = l ++ [(t, f)]
  | [], _, _, _ => rfl
  | e :: l, t, f, h => by
    rw [withE, if_neg (h e (.head _)), with_last fun a ha => h a (.tail _ ha)]
    rfl
theorem with_snoc : ∀ {l : List E} {t : N} {f : Int} (x : E), (∃ e ∈ l, t < e.1) → withE (l ++ [x]) t f = withE l t f ++ [x]
  | [], _, _, _, h => by obtain ⟨e, he, _⟩ := h; cases he
  | e :: l, t, f, x, h => by
    show withE (e :: (l ++ [x])) t f = _
    rw [withE, withE]
    by_cases hlt : t < e.1
    · rw [if_pos hlt, if_pos hlt]
      rfl
    · rw [if_neg hlt, if_neg hlt, with_snoc x]
      · rfl
      · obtain ⟨a, ha, hta⟩ := h
        rcases List.mem_cons.1 ha with rfl | ha
        · exact absurd hta hlt
        · exact ⟨a, ha, hta⟩
theorem with_first {l : List E} {t : N} {f : Int} {x : E} (h : ∀ e ∈ l, ¬ t < e.1) (hx : t < x.1) : withE (l ++ [x]) t f = l ++ [(t, f)] ++ [x] := by
  induction l with
  | nil =>
    show withE [x] t f = _
    rw [withE, if_pos hx]
    rfl
  | cons e l ih =>
    show withE (e :: (l ++ [x])) t f = _
    rw [withE, if_neg (h e (.head _)), ih fun a ha => h a (.tail _ ha)]
    rfl
/-- What a call that answers entries of its own leaves. -/
def EnR (w : World) (l : List E) (e : Ending) (w' : World) : Prop := ∃ A n c, e = .returned (.slice A n c) ∧ OwnG layE 69 w.heap.size w' A n c l ∧ Below w.heap.size w w'

/-! ### Without -/
def StWo (w : World) (l : List E) (t : N) (m : Nat) (v i : Value) (wr : World) : Prop :=
  ∃ (k : Nat) (A1 : Option Addr) (n1 c1 : Nat), k ≤ m ∧ i = .int .i64 k ∧ v = .slice A1 n1 c1 ∧ n1 ≤ k ∧ OwnG layE 69 w.heap.size wr A1 n1 c1 (withoutE (l.take k) t) ∧ Below w.heap.size w wr
set_option maxHeartbeats 2000000 in
theorem refWithout_any (A : Option Addr) (n c : Nat) (l : List E) (t : N) (w : World) (h : RdE w.heap.size w A n c l) (hn : n ≤ 1000) :
    Calls Try.prog 72 #[.slice A n c, .string (ba t)] w (EnR w (withoutE l t)) := by
  have hl := Lib.hid h.len
  have hmx := h.max
  have hcap := h.cap
  go_enter Try.func72, Try.ntmps72
  go_wp2
  go_loopw [5, 6] (fun v i wr => StWo w l t n v i wr) (fun _ i _ => n - (intOf i).toNat)
  case atStart => exact ⟨0, none, 0, 0, by omega, rfl, rfl, by omega, OwnG.nil _ _ _, Below.refl _ _⟩
  case round =>
    obtain ⟨k, A1, n1, c1, hk, rfl, rfl, hn1, hown, hbw⟩ := hrel
    have hsw := hbw.size
    by_cases hlt : k < n
    · obtain ⟨b, o, s, g, rfl, _, HE, d1, d2⟩ := atE (h.below hbw) hlt
      by_cases he : s = t
      · have H := Lib.hid (without_hit HE.out he)
        have hb := same_yes he
        clear he HE
        go_wp2
        go_roundw
        case rel => exact ⟨k + 1, A1, n1, c1, by omega, by go_num, rfl, by omega, by rw [H.out]; exact hown, hbw⟩
        case measure => simp [intOf]; omega
      · have H := Lib.hid (without_no HE.out he)
        have hb := same_no he
        have hlit := litRE 69 wr s g
        have hba := alloc_more wr (.cells #[.string (ba s), .int .i64 g] 69)
        clear he HE
        go_wp2_with (at_builtin; refine wpList_appG rentP (by decide) (by decide) (by kernel_rfl) rfl (.tmp 20) (.tmp 25) rfl rfl (hown.below hba) rfl hlit (by omega) (by simp; omega) ?_; intro A5 c5 w5 happ)
        go_roundw
        case rel => exact ⟨k + 1, A5, n1 + 1, c5, by omega, by go_num, rfl, by omega, by rw [H.out]; exact happ.1, (hbw.trans (hba.mono hsw)).trans happ.2.1⟩
        case measure => simp [intOf]; omega
    · obtain rfl : k = n := by omega
      rw [List.take_of_length_le (Nat.le_of_eq hl.out)] at hown
      go_wp2
      go_ret
      exact ⟨A1, n1, c1, rfl, hown, hbw⟩

/-! ### With -/
theorem more_is (s t : N) : (!Op.bytesLess (ba s).toList (ba t).toList && !(ba s).toList == (ba t).toList) = decide (t < s) := by
  by_cases h1 : s < t
  · rw [less_yes h1, decide_eq_false (fun k => lt_irr _ (lt_tr h1 k))]
    rfl
  · rw [less_no h1]
    by_cases h2 : s = t
    · rw [same_yes h2, decide_eq_false (by rw [h2]; exact lt_irr t)]
      rfl
    · rw [same_no h2, decide_eq_true (lt_or h1 h2)]
      rfl
theorem more_yes {s t : N} (h : t < s) : (!Op.bytesLess (ba s).toList (ba t).toList && !(ba s).toList == (ba t).toList) = true := by rw [more_is]; exact decide_eq_true h
theorem more_no {s t : N} (h : ¬ t < s) : (!Op.bytesLess (ba s).toList (ba t).toList && !(ba s).toList == (ba t).toList) = false := by rw [more_is]; exact decide_eq_false h
/-- What is there behind k entries: with the new one in it, or not yet. -/
def withK (l : List E) (t : N) (f : Int) (p : Bool) : List E := if p then withE l t f else l
def passed (l : List E) (t : N) (p : Bool) : Prop := if p then ∃ e ∈ l, t < e.1 else ∀ e ∈ l, ¬ t < e.1
def StWi (w : World) (l : List E) (t : N) (f : Int) (m : Nat) (v p i : Value) (wr : World) : Prop :=
  ∃ (k : Nat) (A1 : Option Addr) (n1 c1 : Nat) (q : Bool), k ≤ m ∧ i = .int .i64 k ∧ v = .slice A1 n1 c1 ∧ p = .bool q ∧ n1 ≤ k + 1 ∧ passed (l.take k) t q ∧ OwnG layE 69 w.heap.size wr A1 n1 c1 (withK (l.take k) t f q) ∧ Below w.heap.size w wr
set_option maxHeartbeats 4000000 in
theorem refWith_any (A : Option Addr) (n c : Nat) (l : List E) (t : N) (f : Int) (w : World) (h : RdE w.heap.size w A n c l) (hn : n ≤ 1000) :
    Calls Try.prog 69 #[.slice A n c, .string (ba t), .int .i64 f] w (EnR w (withE l t f)) := by
  have hl := Lib.hid h.len
  have hmx := h.max
  have hcap := h.cap
  go_enter Try.func69, Try.ntmps69
  go_wp2
  go_loopw [7, 8, 9] (fun v p i wr => StWi w l t f n v p i wr) (fun _ _ i _ => n - (intOf i).toNat)
  case atStart => exact ⟨0, none, 0, 0, false, by omega, rfl, rfl, rfl, by omega, (fun e he => by cases he), OwnG.nil _ _ _, Below.refl _ _⟩
  case round =>
    obtain ⟨k, A1, n1, c1, q, hk, rfl, rfl, rfl, hn1, hps, hown, hbw⟩ := hrel
    have hsw := hbw.size
    have HPS := Lib.hid hps
    clear hps
    by_cases hlt : k < n
    · obtain ⟨b, o, s, g, rfl, hblt, HE, d1, d2⟩ := atE (h.below hbw) hlt
      have HT := Lib.hid (take_next HE.out)
      have hlit := litRE 69 wr s g
      have hba := alloc_more wr (.cells #[.string (ba s), .int .i64 g] 69)
      cases q with
      | true =>
        have HP : Hid (passed (l.take (k + 1)) t true) := by
          show ∃ e ∈ _, _
          obtain ⟨e, he, hlt'⟩ : ∃ e ∈ l.take k, t < e.1 := HPS.out
          exact ⟨e, by rw [HT.out]; exact List.mem_append_left _ he, hlt'⟩
        have HW : Hid (withK (l.take (k + 1)) t f true = withK (l.take k) t f true ++ [(s, g)]) := by
          show withE _ t f = withE _ t f ++ _
          rw [HT.out, with_snoc _ HPS.out]
        clear HE
        go_wp2_with (at_builtin; refine wpList_appG rentP (by decide) (by decide) (by kernel_rfl) rfl (.tmp 33) (.tmp 38) rfl rfl (hown.below hba) rfl hlit (by omega) (by simp; omega) ?_; intro A5 c5 w5 happ)
        go_roundw
        case rel => exact ⟨k + 1, A5, n1 + 1, c5, true, by omega, by go_num, rfl, rfl, by omega, HP.out, by rw [HW.out]; exact happ.1, (hbw.trans (hba.mono hsw)).trans happ.2.1⟩
        case measure => simp [intOf]; omega
      | false =>
        have hn1' : n1 ≤ k := by
          have e : (l.take k).length = n1 := hown.len
          rw [List.length_take] at e
          omega
        by_cases hts : t < s
        · have hb := more_yes hts
          have HP : Hid (passed (l.take (k + 1)) t true) := by
            show ∃ e ∈ _, _
            exact ⟨(s, g), by rw [HT.out]; exact List.mem_append_right _ (.head _), hts⟩
          have HW : Hid (withK (l.take (k + 1)) t f true = withK (l.take k) t f false ++ [(t, f)] ++ [(s, g)]) := by
            show withE _ t f = _
            rw [HT.out, with_first HPS.out hts]
            rfl
          have hlit1 := litRE 69 wr t f
          have hba1 := alloc_more wr (.cells #[.string (ba t), .int .i64 f] 69)
          clear HE hts hlit hba
          go_wp2_with (first
            | (at_builtin; refine wpList_appG rentP (by decide) (by decide) (by kernel_rfl) rfl (.tmp 27) (.tmp 31) rfl rfl (hown.below hba1) rfl hlit1 (by omega) (by simp; omega) ?_; intro A5 c5 w5 happ; have hb5 : Below w.heap.size wr w5 := (hba1.mono hsw).trans happ.2.1; have e1 : w5.cell? ⟨b, o + k * 2, none⟩ = some (.string (ba s)) := (hb5.cell (p := ⟨b, o + k * 2, none⟩) hblt).trans d1; have e2 : w5.cell? ⟨b, o + k * 2 + 1, none⟩ = some (.int .i64 g) := (hb5.cell (p := ⟨b, o + k * 2 + 1, none⟩) hblt).trans d2; have hlit2 := litRE 69 w5 s g; have hba2 := alloc_more w5 (.cells #[.string (ba s), .int .i64 g] 69); have hsw5 := hb5.size)
            | (at_builtin; refine wpList_appG rentP (by decide) (by decide) (by kernel_rfl) rfl (.tmp 33) (.tmp 38) rfl rfl (happ.1.below hba2) rfl hlit2 (by omega) (by simp; omega) ?_; intro A6 c6 w6 happ2))
          go_roundw
          case rel => exact ⟨k + 1, A6, n1 + 1 + 1, c6, true, by omega, by go_num, rfl, rfl, by omega, HP.out, by rw [HW.out]; exact happ2.1, (hbw.trans hb5).trans ((hba2.mono (by omega)).trans happ2.2.1)⟩
          case measure => simp [intOf]; omega
        · have hb := more_no hts
          have HP : Hid (passed (l.take (k + 1)) t false) := by
            show ∀ e ∈ _, _
            intro e he
            rw [HT.out] at he
            rcases List.mem_append.1 he with he | he
            · exact HPS.out e he
            · simp at he; subst he; exact hts
          have HW : Hid (withK (l.take (k + 1)) t f false = withK (l.take k) t f false ++ [(s, g)]) := HT.out
          clear HE hts
          go_wp2_with (at_builtin; refine wpList_appG rentP (by decide) (by decide) (by kernel_rfl) rfl (.tmp 33) (.tmp 38) rfl rfl (hown.below hba) rfl hlit (by omega) (by simp; omega) ?_; intro A5 c5 w5 happ)
          go_roundw
          case rel => exact ⟨k + 1, A5, n1 + 1, c5, false, by omega, by go_num, rfl, rfl, by omega, HP.out, by rw [HW.out]; exact happ.1, (hbw.trans (hba.mono hsw)).trans happ.2.1⟩
          case measure => simp [intOf]; omega
    · obtain rfl : k = n := by omega
      have HL : Hid (l.take k = l) := List.take_of_length_le (Nat.le_of_eq hl.out)
      rw [HL.out] at hown
      cases q with
      | true =>
        go_wp2
        go_ret
        exact ⟨A1, n1, c1, rfl, hown, hbw⟩
      | false =>
        have HE : Hid (withE l t f = withK l t f false ++ [(t, f)]) := with_last (by have : ∀ e ∈ l.take k, ¬ t < e.1 := HPS.out; rwa [HL.out] at this)
        have hlit1 := litRE 69 wr t f
        have hba1 := alloc_more wr (.cells #[.string (ba t), .int .i64 f] 69)
        go_wp2_with (at_builtin; refine wpList_appG rentP (by decide) (by decide) (by kernel_rfl) rfl (.tmp 42) (.tmp 46) rfl rfl (hown.below hba1) rfl hlit1 (by omega) (by simp; omega) ?_; intro A5 c5 w5 happ)
        go_ret
        exact ⟨A5, n1 + 1, c5, rfl, by rw [HE.out]; exact happ.1, (hbw.trans (hba1.mono hsw)).trans happ.2.1⟩
end Go.Proofs.Ytoifdjpflannlaa.Dw
