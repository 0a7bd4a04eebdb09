/- What disk's inserted, withFile and created come to. For disks of up to 1000 entries. -/
import Derived.Test.YtoifdjpflannlaaDwDel
set_option maxRecDepth 8000
namespace Go.Proofs.Ytoifdjpflannlaa.Dw
open Go.RowKit By Dk

/-! ### inserted -/
theorem gtr_is (a b : N) : (!(Op.bytesLess (ba a).toList (ba b).toList || (ba a).toList == (ba b).toList)) = decide (b < a) := by
  rw [bytesLess_eq, ba_list, ba_list]
  by_cases h : a < b
  · have : ¬ b < a := fun k => lt_irr a (lt_tr h k)
    simp [h, this]
  · by_cases h2 : a = b
    · subst h2
      simp [lt_irr]
    · have := lt_or h h2
      simp [h, h2, this]
theorem greater_is (s : N) (f : Int) (t : N) (g : Nat) (w : World) (hg : g < w.heap.size) (hc : w.cell? ⟨g, 0, none⟩ = some (.string (ba t))) :
    Calls Try.prog 85 #[.agg #[.string (ba s), .int .i64 f], .pointer (some ⟨g, 0, none⟩)] w (isB w (decide (t < s))) := by
  have hne : g ≠ w.heap.size := by omega
  have HS := Lib.hid (gtr_is s t)
  go_enter Try.func85, Try.ntmps85
  go_wp2
  go_ret
  exact ⟨ret_bool (by rw [← HS.out]; simp), (Below.refl _ _).alloc (Nat.le_refl _) _⟩
theorem with_at : ∀ {l : List E} {t : N} {f : Int} {j : Nat} {x : E}, l[j]? = some x → t < x.1 → (∀ i, i < j → hitE (fun e => decide (t < e.1)) l i = false) → withE l t f = l.take j ++ [(t, f)] ++ l.drop j
  | [], _, _, _, _, h, _, _ => by simp at h
  | e :: l, t, f, 0, x, h, hx, _ => by
    simp at h
    subst h
    rw [withE, if_pos hx]
    rfl
  | e :: l, t, f, j + 1, x, h, hx, hn => by
    have h0 := hn 0 (by omega)
    rw [hit_at (e := e) rfl] at h0
    simp only [decide_eq_false_iff_not] at h0
    rw [withE, if_neg h0, with_at (j := j) (x := x) (by simpa using h) hx fun i hi => by
      have := hn (i + 1) (by omega)
      unfold hitE at this ⊢
      rwa [List.getElem?_cons_succ] at this]
    rfl
theorem with_end : ∀ {l : List E} {t : N} {f : Int}, (∀ e ∈ l, decide (t < e.1) = false) → withE l t f = l ++ [(t, f)]
  | [], _, _, _ => rfl
  | e :: l, t, f, h => by
    have h0 := h e (.head _)
    simp only [decide_eq_false_iff_not] at h0
    rw [withE, if_neg h0, with_end fun a ha => h a (.tail _ ha)]
    rfl
set_option maxHeartbeats 2000000 in
theorem inserted_any (A : Option Addr) (n c : Nat) (l : List E) (t : N) (f : Int) (w : World) (h : RdE w.heap.size w A n c l) (hn : n ≤ 1000) :
    Calls Try.prog 64 #[.slice A n c, .agg #[.string (ba t), .int .i64 f]] w (RG layE 68 w (n + 1) (withE l t f)) := by
  obtain ⟨w1, hw1⟩ : ∃ w1, w1 = w.alloc (.cells #[.string (ba t), .int .i64 f] 68) := ⟨_, rfl⟩
  have hb1 : Below w.heap.size w w1 := by rw [hw1]; exact (Below.refl _ _).alloc (Nat.le_refl _) _
  have hc1 : Cel w1 w.heap.size 68 #[.string (ba t), .int .i64 f] := by rw [hw1]; exact Cel.born w _ _
  have k2 : w1.cell? ⟨w.heap.size, 0, none⟩ = some (.string (ba t)) := by rw [hc1.cell]; rfl
  have HL := Lib.hid h.len
  have hm := h.max
  have hcap := h.cap
  have HIX := Lib.hid (indexE_gen 85 w.heap.size Try.call85 w.heap.size A n c l (hitE (fun e => decide (t < e.1)) l) (fun _ W => Below w1.heap.size w1 W) w1 (h.below hb1) (fun _ W hW => (h.below hb1).below (hW.mono hb1.size)) (Below.refl _ _) (fun k s f W hk hW => by
    refine (greater_is s f t w.heap.size W (Nat.lt_of_lt_of_le hc1.lt hW.size) ((hW.cell (p := ⟨w.heap.size, 0, none⟩) hc1.lt).trans k2)).mono ?_
    rintro e W' ⟨rfl, hb⟩
    exact ⟨by rw [hit_at hk], hW.trans (hb.mono hW.size)⟩))
  -- the tail, at any place
  have TAIL : Hid (∀ (w2 : World) (j : Nat), Below w1.heap.size w1 w2 → j ≤ n → withE l t f = l.take j ++ [(t, f)] ++ l.drop j →
      ∃ A1 A3, (∀ W, (Instr.slice 23 (.slice A n c) none (some (.int .i64 (j : Int))) none).run Try.prog W = .ok (.slice A1 j c) W) ∧ (∀ W, (Instr.slice 23 (.slice A n c) (some (.int .i64 (j : Int))) none none).run Try.prog W = .ok (.slice A3 (n - j) (c - j)) W) ∧
      Calls Try.prog 86 #[.slice (some ⟨w2.heap.size + 1, 0, none⟩) 3 3] ((w2.drew.alloc (.cells #[.string (ba t), .int .i64 f] 68)).alloc (.cells #[.slice A1 j c, .slice (some ⟨w2.heap.size, 0, none⟩) 1 1, .slice A3 (n - j) (c - j)] 23)) (fun e w' => RG layE 68 w (n + 1) (withE l t f) e w')) := by
    intro w2 j hb2 hj hw
    have hr := (h.below hb1).below (hb2.mono hb1.size)
    obtain ⟨A1, hA1, hrun1⟩ := entP.cut_h hr j (j : Int) rfl hj
    obtain ⟨A3, hA3, hrun3⟩ := entP.cut_l hr j (j : Int) rfl hj
    refine ⟨A1, A3, hrun1, hrun3, ?_⟩
    have hl := h.len
    have e1 : (l.take j).length = j := by rw [List.length_take]; omega
    have e3 : (l.drop j).length = n - j := by rw [List.length_drop]; omega
    have hs12 := hb2.size
    have hs01 := hb1.size
    have hal : Below w2.heap.size w2 (w2.drew.alloc (.cells #[.string (ba t), .int .i64 f] 68)) := (Below.refl _ _).drew.alloc (Nat.le_refl _) _
    have hal2 : Below w2.heap.size w2 ((w2.drew.alloc (.cells #[.string (ba t), .int .i64 f] 68)).alloc (.cells #[.slice A1 j c, .slice (some ⟨w2.heap.size, 0, none⟩) 1 1, .slice A3 (n - j) (c - j)] 23)) := hal.alloc (by simp) _
    have hsz : ((w2.drew.alloc (.cells #[.string (ba t), .int .i64 f] 68)).alloc (.cells #[.slice A1 j c, .slice (some ⟨w2.heap.size, 0, none⟩) 1 1, .slice A3 (n - j) (c - j)] 23)).heap.size = w2.heap.size + 2 := by simp
    have hcp := Cel.born (w2.drew.alloc (.cells #[.string (ba t), .int .i64 f] 68)) 23 #[.slice A1 j c, .slice (some ⟨w2.heap.size, 0, none⟩) 1 1, .slice A3 (n - j) (c - j)]
    rw [show (w2.drew.alloc (.cells #[.string (ba t), .int .i64 f] 68)).heap.size = w2.heap.size + 1 by simp] at hcp
    have hlit : RdE (w2.heap.size + 1) (w2.drew.alloc (.cells #[.string (ba t), .int .i64 f] 68)) (some ⟨w2.heap.size, 0, none⟩) 1 1 [(t, f)] := litE w2.drew t f
    have hparts : PartsG layE (w2.heap.size + 2) ((w2.drew.alloc (.cells #[.string (ba t), .int .i64 f] 68)).alloc (.cells #[.slice A1 j c, .slice (some ⟨w2.heap.size, 0, none⟩) 1 1, .slice A3 (n - j) (c - j)] 23)) (w2.heap.size + 1) 0 [⟨A1, c, l.take j⟩, ⟨some ⟨w2.heap.size, 0, none⟩, 1, [(t, f)]⟩, ⟨A3, c - j, l.drop j⟩] := by
      refine ⟨by omega, fun i hi => ?_⟩
      match i, hi with
      | 0, _ => exact ⟨by rw [hcp.cell]; show _ = some (Value.slice A1 (l.take j).length c); rw [e1]; rfl, by show RdG _ _ _ A1 (l.take j).length c (l.take j); rw [e1]; exact (hA1.below (hal2.mono (by omega))).mono (by omega)⟩
      | 1, _ => exact ⟨by rw [hcp.cell]; rfl, (hlit.below ((Below.refl _ _).alloc (by simp) _)).mono (by omega)⟩
      | 2, _ => exact ⟨by rw [hcp.cell]; show _ = some (Value.slice A3 (l.drop j).length (c - j)); rw [e3]; rfl, by show RdG _ _ _ A3 (l.drop j).length (c - j) (l.drop j); rw [e3]; exact (hA3.below (hal2.mono (by omega))).mono (by omega)⟩
    have htot : totG [(⟨A1, c, l.take j⟩ : PartG E), ⟨some ⟨w2.heap.size, 0, none⟩, 1, [(t, f)]⟩, ⟨A3, c - j, l.drop j⟩] = n + 1 := by
      simp [totG]
      omega
    have hcat : catG [(⟨A1, c, l.take j⟩ : PartG E), ⟨some ⟨w2.heap.size, 0, none⟩, 1, [(t, f)]⟩, ⟨A3, c - j, l.drop j⟩] = withE l t f := by
      rw [hw]
      simp [catG]
    refine (concatE_any (w2.heap.size + 2) (w2.heap.size + 1) 0 3 3 _ _ hparts (by rw [hsz]; exact Nat.le_refl _) rfl (by omega) (by omega) (by rw [htot]; omega)).mono ?_
    rintro e w' ⟨A5, c5, rfl, hown, hb5⟩
    rw [htot, hcat] at hown
    rw [hsz] at hown hb5
    exact ⟨A5, c5, by rw [htot], hown.mono (by omega), ((hb1.trans (hb2.mono hs01)).trans (hal2.mono (by omega))).trans (hb5.mono (by omega))⟩
  have HC1 := Lib.hid hc1
  clear h hb1 hc1 k2
  go_enter Try.func64, Try.ntmps64
  go_wp2_with fail
  rw [← hw1]
  clear hw1
  refine HIX.out.mono ?_
  rintro e w2 (⟨j, hj, rfl, h1, h2, hb2⟩ | ⟨rfl, h2, hb2⟩)
  · obtain ⟨x, hx, hq⟩ := hit_some h1
    obtain ⟨A1, A3, hr1, hr3, hcall⟩ := TAIL.out w2 j hb2 (by omega) (with_at hx (by simpa using hq) h2)
    have hk := HC1.out.below hb2 HC1.out.lt
    have q0 : w2.cell? ⟨w.heap.size, 0, none⟩ = some (.string (ba t)) := by rw [hk.cell]; rfl
    have q1 : w2.cell? ⟨w.heap.size, 1, none⟩ = some (.int .i64 f) := by rw [hk.cell]; rfl
    have HCALL := Lib.hid hcall
    clear h1 h2 hx hq x hk hcall
    go_wp2_with fail
    go_region_with ((go_at_call 86; refine HCALL.out.mono ?_; rintro e w3 ⟨A5, c5, rfl, hown5, hb5⟩))
    all_goals (
      go_wp2
      go_ret
      exact ⟨A5, c5, rfl, hown5, hb5⟩)
  · obtain ⟨A1, A3, hr1, hr3, hcall⟩ := TAIL.out w2 n hb2 (Nat.le_refl _) (by
      rw [with_end (hit_none (q := fun e => decide (t < e.1)) (by rw [HL.out]; exact h2)), List.take_of_length_le (by rw [HL.out]; exact Nat.le_refl _), List.drop_of_length_le (by rw [HL.out]; exact Nat.le_refl _), List.append_nil])
    have hk := HC1.out.below hb2 HC1.out.lt
    have q0 : w2.cell? ⟨w.heap.size, 0, none⟩ = some (.string (ba t)) := by rw [hk.cell]; rfl
    have q1 : w2.cell? ⟨w.heap.size, 1, none⟩ = some (.int .i64 f) := by rw [hk.cell]; rfl
    simp only [Nat.sub_self] at hr3 hcall
    have HCALL := Lib.hid hcall
    clear h2 hk hcall
    go_wp2_with fail
    go_region_with ((go_at_call 86; refine HCALL.out.mono ?_; rintro e w3 ⟨A5, c5, rfl, hown5, hb5⟩))
    all_goals (
      go_wp2
      go_ret
      exact ⟨A5, c5, rfl, hown5, hb5⟩)
end Go.Proofs.Ytoifdjpflannlaa.Dw
