/- slices.SortStableFunc on a row of leases: by blocks of twenty, and merges of two. For all rows. -/
import Derived.Test.YtlefpodonkdbeaaGreatLwMg2
set_option maxRecDepth 8000
namespace Go.Proofs.YtlefpodonkdbeaaGreat.Lw
open Go.RowKit Go.Lib Co By Ky Rc Jn Ew Jw
open Dw (ba ba_size ba_data ba_list)
open Go.Sort (grow)

/-! ### Sorted by blocks -/
def Chk (w : Nat) (l : List L) : Prop := ∀ i, Sb.Ord adr ((l.drop (i * w)).take w)
theorem Chk.drop {w : Nat} {l : List L} (h : Chk w l) (k : Nat) : Chk w (l.drop (k * w)) := fun i => by
  rw [List.drop_drop, ← Nat.add_mul]
  exact h _
theorem Chk.append {w k : Nat} {p r : List L} (hp : Chk w p) (hr : Chk w r) (hk : p.length = k * w) : Chk w (p ++ r) := fun i => by
  rcases Nat.lt_or_ge i k with h | h
  · have h1 : i * w + w ≤ k * w := by have := Nat.mul_le_mul_right w (show i + 1 ≤ k from h); rwa [Nat.add_mul, Nat.one_mul] at this
    rw [List.drop_append_of_le_length (by omega), List.take_append_of_le_length (by rw [List.length_drop]; omega)]
    exact hp i
  · obtain ⟨j, rfl⟩ : ∃ j, i = k + j := ⟨i - k, by omega⟩
    rw [List.drop_append, List.drop_eq_nil_of_le (by rw [hk]; exact Nat.mul_le_mul_right w (by omega)), List.nil_append, hk, Nat.add_mul, Nat.add_sub_cancel_left]
    exact hr j
theorem chk_one {w : Nat} {p : List L} (h : p.length ≤ w) (ho : Sb.Ord adr p) : Chk w p := fun i => by
  match i with
  | 0 => rw [Nat.zero_mul, List.drop_zero, List.take_of_length_le h]; exact ho
  | i + 1 =>
    have h1 : p.length ≤ (i + 1) * w := by rw [Nat.add_mul, Nat.one_mul]; omega
    rw [List.drop_eq_nil_of_le h1, List.take_nil]
    exact List.Pairwise.nil
theorem Chk.head {w : Nat} {l : List L} (h : Chk w l) : Sb.Ord adr (l.take w) := by
  have := h 0
  rwa [Nat.zero_mul, List.drop_zero] at this
theorem Chk.next {w : Nat} {l : List L} (h : Chk w l) : Sb.Ord adr ((l.drop w).take w) := by
  have := h 1
  rwa [Nat.one_mul] at this
theorem Chk.all {w : Nat} {l : List L} (h : Chk w l) (hl : l.length ≤ w) : Sb.Ord adr l := by
  have := h.head
  rwa [List.take_of_length_le hl] at this
theorem chk_nil (w : Nat) : Chk w [] := chk_one (Nat.zero_le _) List.Pairwise.nil
/-- What the loops hold: the row's first a are sorted by blocks of w, the rest by blocks of v. -/
structure Half (w0 : World) (g o w v : Nat) (l : List L) (a : Nat) (W : World) : Prop where
  ex : ∃ (k : Nat) (p r : List L), a = k * w ∧ p.length = a ∧ Chk w p ∧ Chk v r ∧ Sb.Eqv adr (p ++ r) l ∧ p.length + r.length = l.length ∧ Sw w0 g o (p ++ r) W
theorem eqv_cut {p s y l : List L} {s' : List L} (h : Sb.Eqv adr (p ++ (s ++ y)) l) (hs : Sb.Eqv adr s' s) : Sb.Eqv adr ((p ++ s') ++ y) l := by
  rw [List.append_assoc]
  exact ((Sb.Eqv.refl p).append (hs.append (Sb.Eqv.refl y))).trans h
/-- One block of the first loop. -/
theorem blk_open {w0 : World} {g o n a : Nat} {l : List L} {W : World} (h : Half w0 g o 20 1 l a W) (hl : l.length = n) (ha : a + 20 ≤ n) :
    ∃ p s y : List L, p.length = a ∧ s.length = 20 ∧ (p ++ (s ++ y)).length = n ∧ Sw w0 g o (p ++ (s ++ y)) W ∧ ∀ W', Sw w0 g o (p ++ (srt s ++ y)) W' → Half w0 g o 20 1 l (a + 20) W' := by
  obtain ⟨k, p, r, hk, hp, h1, h2, h3, h4, h5⟩ := h.ex
  have e : r = r.take 20 ++ r.drop 20 := (List.take_append_drop 20 r).symm
  refine ⟨p, r.take 20, r.drop 20, hp, by rw [List.length_take]; omega, by rw [← e, List.length_append]; omega, by rw [← e]; exact h5, fun W' hW => ⟨k + 1, p ++ srt (r.take 20), r.drop 20, by omega, ?_, ?_, ?_, ?_, ?_, by rw [List.append_assoc]; exact hW⟩⟩
  · rw [List.length_append, Sb.srt_len, List.length_take]; omega
  · exact h1.append (chk_one (by rw [Sb.srt_len, List.length_take]; omega) (Sb.srt_ord _)) (k := k) (by omega)
  · have := h2.drop 20
    rwa [Nat.mul_one] at this
  · rw [e] at h3
    exact eqv_cut h3 (Sb.srt_eqv _)
  · rw [List.length_append, Sb.srt_len, List.length_take, List.length_drop]; omega
theorem blk_last {w0 : World} {g o n a : Nat} {l : List L} {W : World} (h : Half w0 g o 20 1 l a W) (hl : l.length = n) (ha : n < a + 20) :
    ∃ p s : List L, p.length = a ∧ a + s.length = n ∧ (p ++ (s ++ [])).length = n ∧ Sw w0 g o (p ++ (s ++ [])) W ∧ ∀ W', Sw w0 g o (p ++ (srt s ++ [])) W' → Half w0 g o 40 20 l 0 W' := by
  obtain ⟨k, p, r, hk, hp, h1, h2, h3, h4, h5⟩ := h.ex
  refine ⟨p, r, hp, by omega, by rw [List.append_nil, List.length_append]; omega, by rw [List.append_nil]; exact h5, fun W' hW => ⟨0, [], p ++ srt r, by omega, rfl, chk_nil _, ?_, ?_, ?_, by rw [List.append_nil] at hW; exact hW⟩⟩
  · exact h1.append (chk_one (by rw [Sb.srt_len]; omega) (Sb.srt_ord _)) (k := k) (by omega)
  · exact ((Sb.Eqv.refl p).append (Sb.srt_eqv r)).trans h3
  · simp only [List.length_nil, List.length_append, Sb.srt_len]; omega
/-- One merge of the second loop. -/
theorem mrg_open {w0 : World} {g o n a B : Nat} {l : List L} {W : World} (h : Half w0 g o (2 * B) B l a W) (hl : l.length = n) (ha : a + 2 * B ≤ n) :
    ∃ p s t y : List L, p.length = a ∧ s.length = B ∧ t.length = B ∧ Sb.Ord adr s ∧ Sb.Ord adr t ∧ (p ++ (s ++ (t ++ y))).length = n ∧ Sw w0 g o (p ++ (s ++ (t ++ y))) W ∧ ∀ W', Sw w0 g o (p ++ (srt (s ++ t) ++ y)) W' → Half w0 g o (2 * B) B l (a + 2 * B) W' := by
  obtain ⟨k, p, r, hk, hp, h1, h2, h3, h4, h5⟩ := h.ex
  have e2 : r.drop B = (r.drop B).take B ++ r.drop (2 * B) := by
    have := (List.take_append_drop B (r.drop B)).symm
    rwa [List.drop_drop, ← Nat.two_mul] at this
  have e : r = r.take B ++ ((r.drop B).take B ++ r.drop (2 * B)) := by rw [← e2, List.take_append_drop]
  have l1 : (r.take B).length = B := by rw [List.length_take]; omega
  have l2 : ((r.drop B).take B).length = B := by rw [List.length_take, List.length_drop]; omega
  refine ⟨p, r.take B, (r.drop B).take B, r.drop (2 * B), hp, l1, l2, h2.head, h2.next, by rw [← e, List.length_append]; omega, by rw [← e]; exact h5, fun W' hW => ⟨k + 1, p ++ srt (r.take B ++ (r.drop B).take B), r.drop (2 * B), ?_, ?_, ?_, ?_, ?_, ?_, by rw [List.append_assoc]; exact hW⟩⟩
  · rw [Nat.add_mul, Nat.one_mul]; omega
  · rw [List.length_append, Sb.srt_len, List.length_append, l1, l2]; omega
  · exact h1.append (chk_one (by rw [Sb.srt_len, List.length_append, l1, l2]; omega) (Sb.srt_ord _)) (k := k) (by omega)
  · exact h2.drop 2
  · rw [e, ← List.append_assoc (r.take B)] at h3
    exact eqv_cut h3 (Sb.srt_eqv _)
  · rw [List.length_append, Sb.srt_len, List.length_append, l1, l2, List.length_drop]; omega
theorem half_twice {w0 : World} {g o k B : Nat} {l p r r' : List L} {W : World} (hk : p.length = k * (2 * B)) (h1 : Chk (2 * B) p) (ho : Sb.Ord adr r') (hr : r'.length ≤ 2 * B) (he : Sb.Eqv adr r' r) (h3 : Sb.Eqv adr (p ++ r) l) (h4 : p.length + r'.length = l.length) (h5 : Sw w0 g o (p ++ r') W) : Half w0 g o (2 * (2 * B)) (2 * B) l 0 W :=
  ⟨0, [], p ++ r', by omega, rfl, chk_nil _, h1.append (chk_one hr ho) hk, ((Sb.Eqv.refl p).append he).trans h3, by simp only [List.length_nil, List.length_append]; omega, h5⟩
theorem mrg_last {w0 : World} {g o n a B : Nat} {l : List L} {W : World} (h : Half w0 g o (2 * B) B l a W) (hl : l.length = n) (ha : n < a + 2 * B) (hm : a + B < n) :
    ∃ p s t : List L, p.length = a ∧ s.length = B ∧ a + B + t.length = n ∧ Sb.Ord adr s ∧ Sb.Ord adr t ∧ (p ++ (s ++ (t ++ []))).length = n ∧ Sw w0 g o (p ++ (s ++ (t ++ []))) W ∧ ∀ W', Sw w0 g o (p ++ (srt (s ++ t) ++ [])) W' → Half w0 g o (2 * (2 * B)) (2 * B) l 0 W' := by
  obtain ⟨k, p, r, hk, hp, h1, h2, h3, h4, h5⟩ := h.ex
  have e : r = r.take B ++ r.drop B := (List.take_append_drop B r).symm
  have l1 : (r.take B).length = B := by rw [List.length_take]; omega
  have ho : Sb.Ord adr (r.drop B) := by
    have := h2.next
    rwa [List.take_of_length_le (by rw [List.length_drop]; omega)] at this
  refine ⟨p, r.take B, r.drop B, hp, l1, by rw [List.length_drop]; omega, h2.head, ho, by rw [List.append_nil, ← e, List.length_append]; omega, by rw [List.append_nil, ← e]; exact h5, fun W' hW => ?_⟩
  rw [List.append_nil, ← e] at hW
  exact half_twice (k := k) (by omega) h1 (Sb.srt_ord r) (by rw [Sb.srt_len]; omega) (Sb.srt_eqv r) h3 (by rw [Sb.srt_len]; omega) hW
theorem mrg_none {w0 : World} {g o n a B : Nat} {l : List L} {W : World} (h : Half w0 g o (2 * B) B l a W) (hl : l.length = n) (hm : n ≤ a + B) : Half w0 g o (2 * (2 * B)) (2 * B) l 0 W := by
  obtain ⟨k, p, r, hk, hp, h1, h2, h3, h4, h5⟩ := h.ex
  exact half_twice (k := k) (by omega) h1 (h2.all (by omega)) (by omega) (Sb.Eqv.refl r) h3 (by omega) h5
theorem half_done {w0 : World} {g o n B : Nat} {l : List L} {W : World} (h : Half w0 g o (2 * B) B l 0 W) (hl : l.length = n) (hB : n ≤ B) : Sw w0 g o (srt l) W := by
  obtain ⟨k, p, r, hk, hp, h1, h2, h3, h4, h5⟩ := h.ex
  obtain rfl : p = [] := List.length_eq_zero_iff.1 hp
  rw [List.nil_append] at h3 h5
  have := Sb.srt_is (h2.all (by simp at h4; omega)) h3
  rw [show srt l = Sb.srt adr l from rfl, ← this]
  exact h5
theorem Half.start {w0 : World} {g o : Nat} {l : List L} {W : World} (h : Sw w0 g o l W) : Half w0 g o 20 1 l 0 W :=
  ⟨0, [], l, rfl, rfl, chk_nil _, fun i => by
    match l.drop (i * 1) with
    | [] => exact List.Pairwise.nil
    | a :: _ => exact List.pairwise_singleton _ _, Sb.Eqv.refl _, by simp, h⟩
set_option maxHeartbeats 4000000 in
theorem stable_any {w0 : World} {g o n : Nat} (R : Rw w0 g o n) (c : Nat) (l : List L) (W : World) (hl : l.length = n) (hS : Sw w0 g o l W) :
    Calls Tryz.prog 68 #[.slice (some ⟨g, o, none⟩) n c, .int .i64 n, .func (.func 25) #[] #[]] W fun e w' => e = .returned (.tuple #[]) ∧ Sw w0 g o (srt l) w' := by
  have hn := R.lt
  have HS := Lib.hid hS
  have HR := Lib.hid R
  have HL := Lib.hid hl
  clear hS hl R
  go_enter Tryz.func68, Tryz.ntmps68
  go_wp2
  go_loopw [7, 8] (fun v7 v8 wr => ∃ a : Nat, v7 = .int .i64 (a : Int) ∧ v8 = .int .i64 ((a + 20 : Nat) : Int) ∧ a ≤ n ∧ Hid (Half w0 g o 20 1 l a wr)) (fun v7 _ _ => n - (intOf v7).toNat)
  case atStart => exact ⟨0, rfl, rfl, by omega, Half.start HS.out⟩
  case round =>
    obtain ⟨a, rfl, rfl, han, HH⟩ := hrel
    obtain ⟨b, hb⟩ : ∃ b, b = a + 20 := ⟨_, rfl⟩
    have HB := Lib.hid hb
    have hbb : b ≤ n + 20 := by omega
    rw [← hb]
    by_cases hlt : b ≤ n
    · obtain ⟨p, s, y, hp, hs, hlen, hS, hnext⟩ := blk_open HH.out HL.out (by omega)
      have HC := Lib.hid (insertion_any HR.out c a b p s y wr hlen hp (by omega) hS)
      have HX := Lib.hid hnext
      have hltz : (b : Int) ≤ (n : Int) := by omega
      clear hp hs hlen hS hnext hb
      go_wp2_with fail
      refine HC.out.mono ?_
      rintro e w1 ⟨rfl, hs1⟩
      have HS1 := Lib.hid (HX.out w1 hs1)
      clear hs1 HC HX HH
      go_wp2
      go_roundw
      case rel =>
        have q := HB.out
        refine ⟨b, rfl, ret_i64 (by omega), by omega, ?_⟩
        rw [q]
        exact HS1.out
      case measure =>
        have q := HB.out
        simp only [intOf]
        omega
    · obtain ⟨p, s, hp, hs, hlen, hS, hnext⟩ := blk_last HH.out HL.out (by omega)
      have HC := Lib.hid (insertion_any HR.out c a n p s [] wr hlen hp hs hS)
      have HX := Lib.hid hnext
      have hltz : ¬ (b : Int) ≤ (n : Int) := by omega
      clear hp hs hlen hS hnext hb hlt
      go_wp2_with fail
      refine HC.out.mono ?_
      rintro e w1 ⟨rfl, hs1⟩
      have HS1 := Lib.hid (HX.out w1 hs1)
      clear hs1 HC HX HH hltz HB hbb han
      go_wp2
      go_loopg [6] n (fun gk v6 wr => ∃ B : Nat, v6 = .int .i64 (B : Int) ∧ 20 ≤ B ∧ B ≤ 2 * n + 20 ∧ n ≤ B + gk ∧ Hid (Half w0 g o (2 * B) B l 0 wr))
      case atStart => exact ⟨20, rfl, by omega, by omega, by omega, HS1.out⟩
      case round =>
        obtain ⟨B, rfl, hB1, hB2, hgk, HH⟩ := hrel
        by_cases hBn : B < n
        · have hBnz : (B : Int) < (n : Int) := by omega
          obtain ⟨D, hD⟩ : ∃ D, D = 2 * B := ⟨_, rfl⟩
          have eD : 2 * (B : Int) = (D : Int) := by omega
          have eD2 : (B : Int) * 2 = (D : Int) := by omega
          have HD : Hid (D = 2 * B ∧ 20 ≤ B ∧ B < n ∧ n ≤ B + gk) := ⟨hD, hB1, hBn, hgk⟩
          have hDn : D < 2 * n := by omega
          rw [← hD] at HH
          clear hD hB1 hB2 hgk hBn
          go_wp2
          go_loopg [7, 8] n (fun g2 v7 v8 wr2 => ∃ a : Nat, v7 = .int .i64 (a : Int) ∧ v8 = .int .i64 ((a + D : Nat) : Int) ∧ a ≤ n ∧ n ≤ a + g2 ∧ Hid (Half w0 g o D B l a wr2))
          case atStart => exact ⟨0, rfl, ret_i64 (by omega), by omega, by omega, HH.out⟩
          case round =>
            obtain ⟨a, rfl, rfl, han, hg2, HH2⟩ := hrel
            obtain ⟨b, hb⟩ : ∃ b, b = a + D := ⟨_, rfl⟩
            have HB := Lib.hid hb
            have hbb : b ≤ 3 * n := by omega
            rw [← hb]
            have HDD := HD.out
            have eH : D = 2 * B := HDD.1
            by_cases hlt : b ≤ n
            · obtain ⟨p, s, t, y, hp, hs, ht, ho1, ho2, hlen, hS, hnext⟩ := mrg_open (by rw [← eH]; exact HH2.out) HL.out (by omega)
              have hc := merge_any HR.out c (s.length + t.length) p s t y a (a + B) b wr (Nat.le_refl _) hlen hp (by omega) (by omega) (by omega) (by omega) ho1 ho2 hS
              have HC := Lib.hid hc
              unfold MgR at HC
              have HX := Lib.hid hnext
              have hltz : (b : Int) ≤ (n : Int) := by omega
              obtain ⟨m, hm⟩ : ∃ m, m = a + B := ⟨_, rfl⟩
              have em : (a : Int) + (B : Int) = (m : Int) := by omega
              have hmn : m ≤ n := by omega
              rw [← hm] at HC
              have HQ : Hid (a < b ∧ 20 ≤ D) := ⟨by omega, by omega⟩
              clear hp hs ht ho1 ho2 hlen hS hnext hb hc hm HDD eH hlt
              go_wp2_with fail
              refine HC.out.mono ?_
              rintro e w1 ⟨rfl, hs1⟩
              have HS2 := Lib.hid (HX.out w1 hs1)
              clear hs1 HC HX HH2
              go_wp2
              go_roundg (n - b)
              case measure =>
                have q := HQ.out
                omega
              case rel =>
                have q := HB.out
                have q2 := HD.out
                refine ⟨b, rfl, ret_i64 (by omega), by omega, by omega, ?_⟩
                show Half w0 g o D B l b w1
                have h := HS2.out
                rw [← q2.1, ← q] at h
                exact h
            · have hltz : ¬ (b : Int) ≤ (n : Int) := by omega
              obtain ⟨m, hm⟩ : ∃ m, m = a + B := ⟨_, rfl⟩
              have em : (a : Int) + (B : Int) = (m : Int) := by omega
              have hmb : m ≤ 2 * n := by omega
              by_cases hmn : m < n
              · obtain ⟨p, s, t, hp, hs, ht, ho1, ho2, hlen, hS, hnext⟩ := mrg_last (by rw [← eH]; exact HH2.out) HL.out (by omega) (by omega)
                have hc := merge_any HR.out c (s.length + t.length) p s t [] a m n wr (Nat.le_refl _) hlen hp (by omega) (by omega) (by omega) (by omega) ho1 ho2 hS
                have HC := Lib.hid hc
                unfold MgR at HC
                have HX := Lib.hid hnext
                have hmnz : (m : Int) < (n : Int) := by omega
                clear hp hs ht ho1 ho2 hlen hS hnext hb hc hm HDD eH hlt hmn
                go_wp2_with fail
                refine HC.out.mono ?_
                rintro e w1 ⟨rfl, hs1⟩
                have HS2 := Lib.hid (HX.out w1 hs1)
                clear hs1 HC HX HH2
                go_wp2
                go_roundg (n - D)
                case measure =>
                  have q := HD.out
                  omega
                case rel =>
                  have q := HD.out
                  refine ⟨D, rfl, by omega, by omega, by omega, ?_⟩
                  show Half w0 g o (2 * D) D l 0 w1
                  have h := HS2.out
                  rw [← q.1] at h
                  exact h
              · have hn2 := mrg_none (by rw [← eH]; exact HH2.out) HL.out (B := B) (by omega)
                have HS2 := Lib.hid hn2
                have hmnz : ¬ (m : Int) < (n : Int) := by omega
                clear hb hm HDD eH hlt hmn hn2 HH2
                go_wp2
                go_roundg (n - D)
                case measure =>
                  have q := HD.out
                  omega
                case rel =>
                  have q := HD.out
                  refine ⟨D, rfl, by omega, by omega, by omega, ?_⟩
                  show Half w0 g o (2 * D) D l 0 _
                  have h := HS2.out
                  rw [← q.1] at h
                  exact h
        · have hBnz : ¬ (B : Int) < (n : Int) := by omega
          have HF := Lib.hid (half_done HH.out HL.out (by omega))
          clear hBn
          go_wp2
          go_end0
          exact ⟨rfl, HF.out⟩
theorem sortStable_any {w0 : World} {g o n : Nat} (R : Rw w0 g o n) (c : Nat) (l : List L) (W : World) (hl : l.length = n) (hS : Sw w0 g o l W) :
    Calls Tryz.prog 47 #[.slice (some ⟨g, o, none⟩) n c, .func (.func 25) #[] #[]] W fun e w' => e = .returned (.tuple #[]) ∧ Sw w0 g o (srt l) w' := by
  have HC := Lib.hid (stable_any R c l W hl hS)
  clear hS hl R
  go_enter Tryz.func47, Tryz.ntmps47
  go_wp2_with fail
  refine HC.out.mono ?_
  rintro e w1 ⟨rfl, hs1⟩
  have HS1 := Lib.hid hs1
  clear hs1 HC
  go_wp2
  go_end0
  exact ⟨rfl, HS1.out⟩
end Go.Proofs.YtlefpodonkdbeaaGreat.Lw
