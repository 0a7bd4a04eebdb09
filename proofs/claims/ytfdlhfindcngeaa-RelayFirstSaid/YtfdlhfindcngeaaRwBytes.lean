/- What relay.right and relay.Bytes come to. For lists of up to 100000 options. -/
import Derived.Test.YtfdlhfindcngeaaRwParts
namespace Go.Proofs.Ytfdlhfindcngeaa.Ry
open Tl
def fitB (co : Int) (m : Nat) : Bool := decide (0 ≤ co ∧ co ≤ 255 ∧ m ≤ 255)
theorem fitB_iff (o : O) : fitB o.1 o.2.length = true ↔ FitR o := by unfold fitB FitR; simp
theorem fit_next {l : List O} {k : Nat} (h : k < l.length) (hs : ∀ o ∈ l.take k, FitR o) (hk : FitR l[k]) : ∀ o ∈ l.take (k + 1), FitR o := fun o ho => by
  rw [take_snocO h] at ho
  rcases List.mem_append.1 ho with ho | ho
  · exact hs o ho
  · simp only [List.mem_singleton] at ho
    subst ho
    exact hk
theorem wrap_codeR {code : Int} (h1 : 0 ≤ code) (h2 : code ≤ 255) : IntKind.u8.wrap code = ((codeB code).toNat : Int) := by
  rw [codeB_back h1 h2, IntKind.wrap_u8]
  omega
theorem wrap_lenR {m : Nat} (_ : m ≤ 255) : IntKind.u8.wrap (m : Int) = ((UInt8.ofNat m).toNat : Int) := by
  rw [IntKind.wrap_u8, UInt8.toNat_ofNat']
  omega
end Go.Proofs.Ytfdlhfindcngeaa.Ry
namespace Go.Proofs.Ytfdlhfindcngeaa.Rw
open Go.RowKit Tl By Ry

theorem right_any (co : Int) (A : Option Addr) (m c : Nat) (w : World) (hm : m ≤ 9223372036854775807) :
    Calls Try.prog 20 #[.agg #[.int .i64 co, .slice A m c]] w fun e w' => e = .returned (.bool (fitB co m)) ∧ Below w.heap.size w w' := by
  have H : Hid (fitB co m = decide (0 ≤ co ∧ co ≤ 255 ∧ m ≤ 255)) := rfl
  have hb : ∀ x, Below w.heap.size w (w.alloc x) := fun x => (Below.refl _ _).alloc (Nat.le_refl _) x
  by_cases h1 : 0 ≤ co
  · by_cases h2 : co ≤ 255
    · go_enter Try.func20, Try.ntmps20
      go_wp2
      go_ret
      exact ⟨ret_bool (by rw [H.out]; simp [h1, h2]; omega), hb _⟩
    · go_enter Try.func20, Try.ntmps20
      go_wp2
      go_ret
      exact ⟨ret_bool (by rw [H.out]; simp; omega), hb _⟩
  · go_enter Try.func20, Try.ntmps20
    go_wp2
    go_ret
    exact ⟨ret_bool (by rw [H.out]; simp; omega), hb _⟩

/-- What Bytes answers, the program's and the document's. -/
def ByR (w : World) (R : List UInt8 × Int) (en : Ending) (w' : World) : Prop := ∃ A n c, en = .returned (.tuple #[.slice A n c, .int .i64 R.2]) ∧ Own 5 w.heap.size w' A n c R.1 ∧ Below w.heap.size w w'
theorem ByR.err {w w' : World} {R : List UInt8 × Int} {e : Int} (hR : R = ([], e)) (hb : Below w.heap.size w w') : ByR w R (.returned (.tuple #[.slice none 0 0, .int .i64 e])) w' :=
  ⟨none, 0, 0, by rw [hR], by rw [hR]; exact Own.nil _ _ _, hb⟩
theorem ByR.good {w w' : World} {R : List UInt8 × Int} {A : Option Addr} {n c : Nat} {l : List UInt8} (hR : R = (l, 0)) (ho : Own 5 w.heap.size w' A n c l) (hb : Below w.heap.size w w') : ByR w R (.returned (.tuple #[.slice A n c, .int .i64 0])) w' :=
  ⟨A, n, c, by rw [hR], by rw [hR]; exact ho, hb⟩

set_option maxHeartbeats 1600000 in
theorem bytes_any (A : Option Addr) (n c : Nat) (ps : List Po) (w : World) (h : RdO w A n c ps) (hn : n ≤ 100000) :
    Calls Try.prog 14 #[.slice A n c] w (ByR w (bytesR (osP ps))) := by
  have hl := Lib.hid h.len
  have hm := h.max
  have hcap := h.cap
  obtain ⟨i0, hi0, hz0, hz1, hz2⟩ := info_parts byP.hi
  have HI := Lib.hid hi0
  have HZ0 := Lib.hid hz0
  have HZ1 := Lib.hid hz1
  have HZ2 := Lib.hid hz2
  clear hi0 hz0 hz1 hz2
  go_enter Try.func14, Try.ntmps14
  go_wp2
  go_loopw [4, 12] (fun s i wr => ∃ k N : Nat, k ≤ n ∧ i = .int .i64 k ∧ s = .int .i64 N ∧ N ≤ 257 * k ∧ Hid ((encL ((osP ps).take k)).length = N ∧ ∀ o ∈ (osP ps).take k, FitR o) ∧ Below w.heap.size w wr) (fun _ i _ => n - (intOf i).toNat)
  case atStart => exact ⟨0, 0, by omega, rfl, rfl, by omega, ⟨rfl, fun o ho => by simp at ho⟩, Below.refl _ _⟩
  case round =>
    obtain ⟨k, N, hk, rfl, rfl, hN, HE, hbw⟩ := hrel
    have hsz := hbw.size
    by_cases hlt : k < n
    · obtain ⟨b, o, co, A', m, c', l, rfl, hcell, hcell2, hbs, _, HO, HM, hmc, hc63, hblt⟩ := h.atU hbw hlt
      have hba : Below wr.heap.size wr (wr.alloc (.cells #[.int .i64 co, .slice A' m c'] 42)) := (Below.refl _ _).alloc (Nat.le_refl _) _
      have hcel := Cel.born wr 42 #[.int .i64 co, .slice A' m c']
      have hb1 : Below w.heap.size w (wr.alloc (.cells #[.int .i64 co, .slice A' m c'] 42)) := hbw.trans (hba.mono hsz)
      cases hf : fitB co m with
      | true =>
        have HF := Lib.hid hf
        have hm5 : m ≤ 255 := by unfold fitB at hf; simp at hf; omega
        have HN : Hid ((encL ((osP ps).take (k + 1))).length = N + (2 + m) ∧ ∀ o ∈ (osP ps).take (k + 1), FitR o) := by
          obtain ⟨g1, g2⟩ := HO.out
          obtain ⟨e1, e2⟩ := HE.out
          have e3 := HM.out
          refine ⟨?_, fit_next g1 e2 ?_⟩
          · rw [enc_next g1, List.length_append, e1, g2, encO_len]
            show N + (l.length + 2) = N + (2 + m)
            omega
          · rw [g2]
            refine (fitB_iff (co, l)).1 ?_
            show fitB co l.length = true
            rw [e3]
            exact HF.out
        clear hf
        go_wp2_with fail
        refine (right_any co A' m c' _ (by omega)).mono ?_
        rw [HF.out]
        rintro e w2 ⟨rfl, hb2⟩
        have hcel2 := hcel.below hb2 hcel.lt
        have k2 : w2.cell? ⟨wr.heap.size, 1, none⟩ = some (.slice A' m c') := by rw [hcel2.cell]; rfl
        have hb02 := hb1.trans (hb2.mono hb1.size)
        clear hcel hcel2
        go_wp2
        go_roundw
        case rel => exact ⟨k + 1, N + (2 + m), by omega, by go_num, by go_num, by omega, HN, hb02⟩
        case measure => simp [intOf]; omega
      | false =>
        have HF := Lib.hid hf
        have H : Hid (bytesR (osP ps) = ([], 1)) := by
          obtain ⟨g1, g2⟩ := HO.out
          refine bytesR_arg (List.getElem_mem g1) ?_
          rw [g2, ← fitB_iff]
          show ¬ fitB co l.length = true
          rw [HM.out, HF.out]
          exact Bool.false_ne_true
        clear hf
        go_wp2_with fail
        refine (right_any co A' m c' _ (by omega)).mono ?_
        rw [HF.out]
        rintro e w2 ⟨rfl, hb2⟩
        have hb02 := hb1.trans (hb2.mono hb1.size)
        go_wp2
        go_ret2
        exact ByR.err H.out hb02
    · obtain rfl : k = n := by omega
      have HT : Hid ((osP ps).take k = osP ps) := List.take_of_length_le (by rw [os_len, hl.out]; exact Nat.le_refl _)
      rw [HT.out] at HE
      by_cases h6 : 600 < N
      · have H : Hid (bytesR (osP ps) = ([], 3)) := bytesR_full HE.out.2 (by rw [HE.out.1]; exact h6)
        go_wp2
        go_ret2
        exact ByR.err H.out hbw
      · have H : Hid (bytesR (osP ps) = (encL (osP ps), 0)) := bytesR_ok HE.out.2 (by rw [HE.out.1]; exact h6)
        have h6' : N ≤ 600 := by omega
        clear h6
        go_wp2_with (refine wpList_make_own _ rfl _ (.tmp 28) 22 rfl w.heap.size 5 i0 _ 1 Try.underlying22 HI.out HZ0.out HZ1.out .i64 .i64 N N rfl rfl rfl (by rw [HZ2.out]; omega) (by unfold maxLen; omega) hsz ?_; intro w1 hown hgr)
        have hb1 : Below w.heap.size w w1 := hbw.grown hgr hsz (fun _ h => by cases h)
        clear hgr
        obtain ⟨wo, hwo⟩ : ∃ wo, wo = wr := ⟨_, rfl⟩
        subst hwo
        go_loopw [7, 32] (fun v i wr => ∃ (j M : Nat) (A2 : Option Addr) (c2 : Nat), j ≤ k ∧ i = .int .i64 j ∧ v = .slice A2 M c2 ∧ M ≤ 600 ∧ Own 5 w.heap.size wr A2 M c2 (encL ((osP ps).take j)) ∧ Below w.heap.size w wr) (fun _ i _ => k - (intOf i).toNat)
        case atStart => exact ⟨0, 0, _, N, by omega, rfl, rfl, by omega, hown, hb1⟩
        case round =>
          clear hown hb1 hbw hsz
          obtain ⟨j, M, A2, c2, hj, rfl, rfl, hM, hown, hbw⟩ := hrel
          have hsz := hbw.size
          by_cases hlt : j < k
          · obtain ⟨b, o, co, A', m, c', l, rfl, hcell, hcell2, hbs, _, HO, HM, hmc, hc63, hblt⟩ := h.atU hbw hlt
            have hfit : 0 ≤ co ∧ co ≤ 255 ∧ m ≤ 255 := by
              obtain ⟨g1, g2⟩ := HO.out
              have := HE.out.2 _ (List.getElem_mem g1)
              rw [g2] at this
              have e := HM.out
              subst e
              exact this
            obtain ⟨hf1, hf2, hf3⟩ := hfit
            have HJ : Hid (encL ((osP ps).take (j + 1)) = encL ((osP ps).take j) ++ [codeB co, UInt8.ofNat m] ++ l) := by
              obtain ⟨g1, g2⟩ := HO.out
              have e := HM.out
              show encL ((osP ps).take (j + 1)) = _
              rw [enc_next g1, g2]
              unfold encO
              rw [← e]
              simp
            have HM6 : Hid ((encL ((osP ps).take (j + 1))).length ≤ 600) := by
              have e1 := enc_mono (l := osP ps) (j + 1)
              have e2 := HE.out.1
              show (encL ((osP ps).take (j + 1))).length ≤ 600
              omega
            have hw1 := wrap_codeR hf1 hf2
            have hw2 := wrap_lenR hf3
            generalize codeB co = x at hw1 HJ
            generalize UInt8.ofNat m = y at hw2 HJ
            obtain ⟨wa, hwa⟩ : ∃ wa, wa = wr.alloc (.cells #[.int .i64 co, .slice A' m c'] 42) := ⟨_, rfl⟩
            have hba : Below wr.heap.size wr wa := by rw [hwa]; exact (Below.refl _ _).alloc (Nat.le_refl _) _
            have hcel : Cel wa wr.heap.size 42 #[.int .i64 co, .slice A' m c'] := by rw [hwa]; exact Cel.born wr _ _
            have hbb : Below wa.heap.size wa (wa.alloc (.cells #[.int .u8 (x.toNat : Int), .int .u8 (y.toNat : Int)] 5)) := (Below.refl _ _).alloc (Nat.le_refl _) _
            have hlit := (Own.lit2 5 wa x y).bs
            rw [show wa.heap.size = wr.heap.size + 1 by rw [hwa]; simp] at hlit
            have hownb := (hown.below hba).below hbb
            have hcelb := hcel.below hbb hcel.lt
            have hbsb := (hbs.below (hba.mono hsz)).below (hbb.mono (by have := hba.size; omega))
            have hbBb : Below w.heap.size w (wa.alloc (.cells #[.int .u8 (x.toNat : Int), .int .u8 (y.toNat : Int)] 5)) := (hbw.trans (hba.mono hsz)).trans (hbb.mono (by have := hba.size; omega))
            have hszb := hbBb.size
            clear hba hbb hcel hown hbs
            subst hwa
            go_wp2_with (first
              | (at_builtin; refine wpList_app byP rfl (.tmp 36) (.tmp 44) rfl rfl hownb rfl hlit (by omega) hszb ?_; intro A3 c3 w3 hown3 hb3 hg3 _; clear hw1 hw2; have hcel3 : w3.cell? ⟨wr.heap.size, 1, none⟩ = some (.slice A' m c') := by (rw [(hcelb.grown hg3 (hcelb.not_row hownb (by decide))).cell]; rfl))
              | (at_builtin; refine wpList_app byP rfl (.tmp 46) (.tmp 48) rfl rfl hown3 rfl (hbsb.below hb3).bs (by omega) (by have := hb3.size; omega) ?_; intro A4 c4 w4 hown4 hb4 _ _))
            have hM4 : M + 2 + m ≤ 600 := by
              have e1 := hown4.bs.len
              rw [← HJ.out] at e1
              have e2 := HM6.out
              omega
            go_roundw
            case rel => exact ⟨j + 1, M + 2 + m, A4, c4, by omega, by go_num, rfl, hM4, by rw [HJ.out]; exact hown4, (hbBb.trans hb3).trans hb4⟩
            case measure => simp [intOf]; omega
          · obtain rfl : j = k := by omega
            rw [HT.out] at hown
            go_wp2
            go_ret2
            exact ByR.good H.out hown hbw
end Go.Proofs.Ytfdlhfindcngeaa.Rw
