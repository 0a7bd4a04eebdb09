/- The walk of CodeTurned: it returns true, and what was in memory stays. For all inputs. -/
import Derived.Test.YtikgigijngobeaaCoLaws
import Derived.Test.YtikgigijngobeaaCoTurn
import Derived.BigRegion
import Derived.Deep.DeepCutAuto
namespace Go.Proofs.Ytikgigijngobeaa
open Go.RowKit Co By

theorem u32_in {x : Int} (h : (Lit.int .u32 x).wf = true) : 0 ≤ x ∧ x < 4294967296 := by
  simp only [Lit.wf, Bool.and_eq_true, decide_eq_true_eq] at h
  have h1 : IntKind.u32.min = 0 := rfl
  have h2 : IntKind.u32.max = 4294967295 := rfl
  rw [h1, h2] at h
  omega
theorem test_bit (t k : Nat) : (((t : Int) / 2 ^ k).tmod 2 == 1) = t.testBit k := by
  have e1 : ((t : Int) / 2 ^ k) = ((t / 2 ^ k : Nat) : Int) := by simp
  rw [e1, Nat.testBit_eq_decide_div_mod_eq]
  generalize t / 2 ^ k = y
  rw [Int.tmod_eq_emod_of_nonneg (by omega), Bool.eq_iff_iff]
  simp only [beq_iff_eq, decide_eq_true_eq]
  omega
theorem two_small : ∀ s : Nat, s < 8 → ((2 : Int) ^ s % 256) = ((2 ^ s : Nat) : Int)
  | 0, _ | 1, _ | 2, _ | 3, _ | 4, _ | 5, _ | 6, _ | 7, _ => rfl
  | s + 8, h => absurd h (by omega)
theorem xor_turn (x : UInt8) (s : Nat) (h : s < 8) : bits .xor .u8 (x.toNat : Int) ((2 : Int) ^ s % 256) = ((turnB x s).toNat : Int) := by
  rw [two_small s h, turnB_toNat x s h]
  exact u8_xor_nat _ _ x.toNat_lt (Nat.pow_lt_pow_right (by omega) h)
set_option maxHeartbeats 1000000 in
theorem turned_out (A : Option Addr) (n c : Nat) (at_ t : Int) (w : World) (hn : n = 0 ∨ 2000 < n) (hm : n ≤ 9223372036854775807) :
    Calls Try.prog 9 #[.slice A n c, .int .i64 at_, .int .u32 t] w (isTrue w) := by
  rcases hn with rfl | hn
  · go_enter Try.func9, Try.ntmps9
    go_wp2_with fail
    refine (knows_yes _).mono ?_
    rintro e w1 ⟨rfl, hb1⟩
    go_wp2
    go_ret
    exact ⟨rfl, hb1⟩
  · have h0 : ((n : Int) == 0) = false := by simp; omega
    go_enter Try.func9, Try.ntmps9
    go_wp2_with fail
    refine (knows_yes _).mono ?_
    rintro e w1 ⟨rfl, hb1⟩
    go_wp2
    go_ret
    exact ⟨rfl, hb1⟩

set_option maxRecDepth 100000 in
set_option maxHeartbeats 4000000 in
theorem codeTurned_walk (A : Option Addr) (n c : Nat) (l : List UInt8) (at_ t : Int) (w : World) (h : Bs w A n c l) (_ : (Lit.int .i64 at_).wf = true) (ht : (Lit.int .u32 t).wf = true) :
    Calls Try.prog 9 #[.slice A n c, .int .i64 at_, .int .u32 t] w (isTrue w) := by
  have hm := h.max
  have hcap := h.cap
  by_cases hn : n = 0 ∨ 2000 < n
  · exact turned_out A n c at_ t w hn (by omega)
  have hn0 : 0 < n := by omega
  have hn1 : n ≤ 2000 := by omega
  have HL := Lib.hid h.len
  obtain ⟨ht0, ht1⟩ := u32_in ht
  obtain ⟨t', rfl⟩ := Int.eq_ofNat_of_zero_le ht0
  have ht2 : t' < 4294967296 := by omega
  clear ht hn ht0 ht1
  have h0 : ((n : Int) == 0) = false := by simp; omega
  go_enter Try.func9, Try.ntmps9
  go_wp2_with fail
  refine (frame_ok A n c l _ h hn1).mono ?_
  rintro e w1 ⟨A1, c1, rfl, hown1, hb1⟩
  obtain ⟨g, rfl, hg1, hg2⟩ := hown1.head (by omega)
  obtain ⟨U, hU⟩ : ∃ U : Nat, IntKind.u64.wrap at_ = (U : Int) := Int.eq_ofNat_of_zero_le (by rw [IntKind.wrap_u64]; omega)
  obtain ⟨F, hF, hFlt⟩ : ∃ F : Nat, (U : Int) % (8 * (n : Int)) = (F : Int) ∧ F < 8 * n := by
    refine ⟨U % (8 * n), by simp, Nat.mod_lt _ (by omega)⟩
  go_wp2
  clear hU hF
  have hlen := h.len
  have hF0 : F + 0 ≤ 8 * n := by omega
  go_loopw [10, 11] (fun v i wr => ∃ k : Nat, k ≤ 32 ∧ F + k ≤ 8 * n ∧ i = .int .i64 k ∧ v = .bool (anyB t' k) ∧ Own 5 w.heap.size wr (some ⟨g, 0, none⟩) (n + 6) c1 (putL l.length 2 ++ (putL (sumL l) 4 ++ flipL l F t' k)) ∧ Below w.heap.size w wr) (fun _ i _ => 32 - (intOf i).toNat)
  case atStart => exact ⟨0, by omega, by omega, rfl, rfl, hown1, hb1⟩
  case round =>
    clear hlen hown1 hb1
    obtain ⟨k, hk, hFk, rfl, rfl, hown, hb⟩ := hrel
    by_cases hlt : k < 32 ∧ F + k < 8 * n
    · obtain ⟨hlt, hlt2⟩ := hlt
      have htb := test_bit t' k
      have hjn : (F + k) / 8 < n := by omega
      by_cases hbit : t'.testBit k = true
      · have hbt : (((t' : Int) / 2 ^ k).tmod 2 == 1) = true := by rw [htb]; exact hbit
        have hfr := World.ownsRow.frozenAt hown (6 + (F + k) / 8)
        have hcell : wr.cell? ⟨g, 6 + (F + k) / 8, none⟩ = some (.int .u8 (((flipL l F t' k).getD ((F + k) / 8) 0).toNat : Int)) := by
          have hl := h.len
          have hfl := flipL_length l F t' k
          have hb := hown.bs
          obtain ⟨b, o, e, hc⟩ := hb.at_ (k := 6 + (F + k) / 8) (by omega)
          obtain ⟨rfl, rfl⟩ : b = g ∧ o = 0 := by simpa [eq_comm] using e
          have hlt3 : 6 + (F + k) / 8 < (putL l.length 2 ++ (putL (sumL l) 4 ++ flipL l F t' k)).length := by rw [hb.len]; omega
          have h1 := hc _ hlt3
          rw [Nat.zero_add] at h1
          rw [h1]
          have h2 := frame_get (putL l.length 2) (putL (sumL l) 4) (flipL l F t' k) ((F + k) / 8) (putL_length 2 _) (putL_length 4 _)
          rw [List.getElem?_eq_getElem hlt3] at h2
          rw [List.getD_eq_getElem?_getD, ← h2, Option.getD_some]
        generalize hx : (flipL l F t' k).getD ((F + k) / 8) 0 = x at hcell
        have HX := Lib.hid hx
        have HB := Lib.hid hbit
        clear hx hbit htb
        have hxl := x.toNat_lt
        have hw1 : IntKind.i64.wrap ((F : Int) + (k : Int)) = (F : Int) + (k : Int) := IntWalk.i64_in _ (by omega)
        have hi1 : (0 : Int) ≤ 6 + ((F : Int) + (k : Int)) / 8 := by omega
        have hi2 : 6 + ((F : Int) + (k : Int)) / 8 < (n : Int) + 6 := by omega
        have hi3 : (6 + ((F : Int) + (k : Int)) / 8).toNat = 6 + (F + k) / 8 := by omega
        go_wp2
        go_region
        rw [xor_turn x _ (by omega)]
        have hset := hown.set (6 + (F + k) / 8) (turnB x ((F + k) % 8))
        rw [frame_set _ _ _ _ _ (putL_length 2 _) (putL_length 4 _), ← HX.out, ← flipL_yes HB.out, HX.out] at hset
        have hb' := hb.setCell (p := ⟨g, 6 + (F + k) / 8, none⟩) hg1 (.int .u8 ((turnB x ((F + k) % 8)).toNat : Int))
        generalize wr.setCell ⟨g, 6 + (F + k) / 8, none⟩ (.int .u8 ((turnB x ((F + k) % 8)).toNat : Int)) = w5 at hset hb'
        go_wp2
        go_roundw
        case rel => exact ⟨k + 1, by omega, by omega, by go_num, by rw [anyB_yes HB.out], World.ownsRow.drew hset, hb'.drew⟩
        case measure => simp [intOf]; omega
      · have hbf : t'.testBit k = false := by simpa using hbit
        have hbt : (((t' : Int) / 2 ^ k).tmod 2 == 1) = false := by rw [htb]; exact hbf
        have HB := Lib.hid hbf
        clear hbf hbit htb
        go_wp2
        go_roundw
        case rel => exact ⟨k + 1, by omega, by omega, by go_num, by rw [anyB_no HB.out], by rw [flipL_no HB.out]; exact hown, hb⟩
        case measure => simp [intOf]; omega
    · have hend := open_flip (l := l) (F := F) (t := t') (k := k) (by have := h.len; omega) hk (by have := h.len; omega)
      have hmm : valL ((putL l.length 2 ++ (putL (sumL l) 4 ++ flipL l F t' k)).take 2) = n := by
        have hl := h.len
        rw [List.take_append_of_le_length (by rw [putL_length]; omega), List.take_of_length_le (by rw [putL_length]; omega), valL_putL 2 _ (by show _ < 65536; omega), hl]
      have HM := Lib.hid hmm
      clear hmm
      cases hany : anyB t' k with
      | true =>
        rw [hany, if_pos rfl] at hend
        have HE := Lib.hid hend
        clear hend
        by_cases hlt3 : k < 32
        · have hlt4 : 8 * n ≤ F + k := by omega
          go_wp2_with fail
          refine (open_err _ _ _ _ _ hown.bs (by rw [HE.out]; decide)).mono ?_
          rw [HE.out]
          rintro e w' ⟨rfl, rfl⟩
          go_wp2_with fail
          refine (knows_yes _).mono ?_
          rintro e w6 ⟨rfl, hb6⟩
          go_wp2
          go_ret
          exact ⟨rfl, hb.trans (hb6.mono hb.size)⟩
        · have hlt4 : 32 ≤ k := by omega
          go_wp2_with fail
          refine (open_err _ _ _ _ _ hown.bs (by rw [HE.out]; decide)).mono ?_
          rw [HE.out]
          rintro e w' ⟨rfl, rfl⟩
          go_wp2_with fail
          refine (knows_yes _).mono ?_
          rintro e w6 ⟨rfl, hb6⟩
          go_wp2
          go_ret
          exact ⟨rfl, hb.trans (hb6.mono hb.size)⟩
      | false =>
        rw [hany, if_neg (by decide)] at hend
        have HE := Lib.hid hend
        clear hend
        by_cases hlt3 : k < 32
        · have hlt4 : 8 * n ≤ F + k := by omega
          go_wp2_with fail
          refine (open_yes _ _ _ n _ _ hown.bs HM.out HE.out).mono ?_
          rintro e w5 ⟨A5, c5, rfl, hown5, hb5⟩
          have hb05 : Below w.heap.size w w5 := hb.trans (hb5.mono hb.size)
          go_wp2_with fail
          refine (knows_yes _).mono ?_
          rintro e w6 ⟨rfl, hb6⟩
          go_wp2
          go_ret
          exact ⟨rfl, hb05.trans (hb6.mono hb05.size)⟩
        · have hlt4 : 32 ≤ k := by omega
          go_wp2_with fail
          refine (open_yes _ _ _ n _ _ hown.bs HM.out HE.out).mono ?_
          rintro e w5 ⟨A5, c5, rfl, hown5, hb5⟩
          have hb05 : Below w.heap.size w w5 := hb.trans (hb5.mono hb.size)
          go_wp2_with fail
          refine (knows_yes _).mono ?_
          rintro e w6 ⟨rfl, hb6⟩
          go_wp2
          go_ret
          exact ⟨rfl, hb05.trans (hb6.mono hb05.size)⟩
end Go.Proofs.Ytikgigijngobeaa
