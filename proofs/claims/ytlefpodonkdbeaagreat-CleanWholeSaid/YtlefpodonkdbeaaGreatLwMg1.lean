/- slices.symMergeCmpFunc on a row of leases: two sorted parts side by side become one, equals in their order. For all rows. -/
import Derived.Test.YtlefpodonkdbeaaGreatLwMrg
set_option maxRecDepth 8000
namespace Go.Proofs.YtlefpodonkdbeaaGreat.Lw
open Go.RowKit Go.Lib Co By Ky Rc Jn Ew Jw
open Dw (ba ba_size ba_data ba_list)
open Go.Sort (grow)

/-- What a call of symMerge comes to. -/
def MgR (w0 : World) (g o n c : Nat) (x s t y : List L) (a m b : Nat) (W : World) : Prop :=
  Calls Tryz.prog 99 #[.slice (some ⟨g, o, none⟩) n c, .int .i64 a, .int .i64 m, .int .i64 b, .func (.func 25) #[] #[]] W fun e' w' => e' = .returned (.tuple #[]) ∧ Sw w0 g o (x ++ (srt (s ++ t) ++ y)) w'
/-- What is left to do behind the search: a turn, and two merges. -/
structure Tail (w0 : World) (g o n c a m b S M E i j sl tl : Nat) (r0 r1 r2 r3 : List L) : Prop where
  rot : i < sl → 0 < j → ∀ W, Sw w0 g o r0 W → Calls Tryz.prog 120 #[.slice (some ⟨g, o, none⟩) n c, .int .i64 S, .int .i64 m, .int .i64 E, .func (.func 25) #[] #[]] W fun e' w' => e' = .returned (.tuple #[]) ∧ Sw w0 g o r1 w'
  rot' : ¬ (i < sl ∧ 0 < j) → r0 = r1
  lef : 0 < i → 0 < j → ∀ W, Sw w0 g o r1 W → Calls Tryz.prog 99 #[.slice (some ⟨g, o, none⟩) n c, .int .i64 a, .int .i64 S, .int .i64 M, .func (.func 25) #[] #[]] W fun e' w' => e' = .returned (.tuple #[]) ∧ Sw w0 g o r2 w'
  lef' : ¬ (0 < i ∧ 0 < j) → r1 = r2
  rig : i < sl → j < tl → ∀ W, Sw w0 g o r2 W → Calls Tryz.prog 99 #[.slice (some ⟨g, o, none⟩) n c, .int .i64 M, .int .i64 E, .int .i64 b, .func (.func 25) #[] #[]] W fun e' w' => e' = .returned (.tuple #[]) ∧ Sw w0 g o r3 w'
  rig' : ¬ (i < sl ∧ j < tl) → r2 = r3
theorem srt_left {u v : List L} (hu : Sb.Ord adr u) (h : v = []) : srt (u ++ v) = u ++ v := by
  subst h
  rw [List.append_nil]
  exact Sb.srt_same hu
theorem srt_right {u v : List L} (hv : Sb.Ord adr v) (h : u = []) : srt (u ++ v) = u ++ v := by
  subst h
  exact Sb.srt_same hv
theorem tail_any {w0 : World} {g o n : Nat} (R : Rw w0 g o n) (c a m b S M E i j N : Nat) (x s t y : List L) (hl : (x ++ (s ++ (t ++ y))).length = n) (ha : x.length = a) (hm : a + s.length = m) (hb : m + t.length = b)
    (hs : Sb.Ord adr s) (ht : Sb.Ord adr t) (hS : a + i = S) (hM : S + j = M) (hE : m + j = E) (hi : i ≤ s.length) (hj : j ≤ t.length) (hN : s.length + t.length ≤ N + 1) (hij : 0 < i + j) (hij2 : i + j < s.length + t.length)
    (IH : ∀ (x s t y : List L) (a m b : Nat) (W : World), s.length + t.length ≤ N → (x ++ (s ++ (t ++ y))).length = n → x.length = a → a + s.length = m → m + t.length = b → 0 < s.length → 0 < t.length → Sb.Ord adr s → Sb.Ord adr t → Sw w0 g o (x ++ (s ++ (t ++ y))) W → MgR w0 g o n c x s t y a m b W) :
    Tail w0 g o n c a m b S M E i j s.length t.length (x ++ (s ++ (t ++ y))) (x ++ (s.take i ++ (t.take j ++ (s.drop i ++ (t.drop j ++ y))))) (x ++ (srt (s.take i ++ t.take j) ++ (s.drop i ++ (t.drop j ++ y)))) (x ++ (srt (s.take i ++ t.take j) ++ (srt (s.drop i ++ t.drop j) ++ y))) := by
  have e0 : x ++ (s ++ (t ++ y)) = (x ++ s.take i) ++ (s.drop i ++ (t.take j ++ (t.drop j ++ y))) := by
    rw [← List.append_assoc (t.take j), List.take_append_drop, List.append_assoc, ← List.append_assoc (s.take i), List.take_append_drop]
  have l1 : (s.take i).length = i := by rw [List.length_take]; omega
  have l2 : (s.drop i).length = s.length - i := List.length_drop ..
  have l3 : (t.take j).length = j := by rw [List.length_take]; omega
  have l4 : (t.drop j).length = t.length - j := List.length_drop ..
  have hlen : a + (s.length + (t.length + y.length)) = n := by rw [← hl]; simp [ha]
  have l5 : (srt (s.take i ++ t.take j)).length = i + j := by rw [Sb.srt_len, List.length_append, l1, l3]
  refine ⟨fun h1 h2 W hW => ?_, fun h => ?_, fun h1 h2 W hW => ?_, fun h => ?_, fun h1 h2 W hW => ?_, fun h => ?_⟩
  · have := rotate_any R c S m E (.func (.func 25) #[] #[]) (x ++ s.take i) (s.drop i) (t.take j) (t.drop j ++ y) W (by rw [← e0]; exact hl) (by rw [List.length_append, l1]; omega) (by omega) (by omega) (by omega) (by omega) (by rw [← e0]; exact hW)
    rw [List.append_assoc] at this
    exact this
  · by_cases h1 : i < s.length
    · have h2 : j = 0 := by omega
      subst h2
      rw [List.take_zero, List.nil_append, List.drop_zero, ← List.append_assoc (s.take i), List.take_append_drop]
    · have h2 : s.drop i = [] := List.drop_eq_nil_of_le (by omega)
      rw [h2, List.nil_append, List.take_of_length_le (by omega : s.length ≤ i), ← List.append_assoc (t.take j), List.take_append_drop]
  · exact IH x (s.take i) (t.take j) (s.drop i ++ (t.drop j ++ y)) a S M W (by omega) (by simp only [List.length_append, l1, l2, l3, l4]; omega) ha (by omega) (by omega) (by omega) (by omega) (hs.take i) (ht.take j) hW
  · have e : srt (s.take i ++ t.take j) = s.take i ++ t.take j := by
      by_cases h1 : 0 < i
      · have h2 : j = 0 := by omega
        exact srt_left (hs.take i) (by rw [h2]; rfl)
      · have h2 : i = 0 := by omega
        exact srt_right (ht.take j) (by rw [h2]; rfl)
    rw [e, List.append_assoc]
  · have := IH (x ++ srt (s.take i ++ t.take j)) (s.drop i) (t.drop j) y M E b W (by omega) (by simp only [List.length_append, l2, l4, l5]; omega) (by rw [List.length_append, l5]; omega) (by omega) (by omega) (by omega) (by omega) (hs.drop i) (ht.drop j) (by rw [List.append_assoc]; exact hW)
    unfold MgR at this
    rw [List.append_assoc] at this
    exact this
  · have e : srt (s.drop i ++ t.drop j) = s.drop i ++ t.drop j := by
      by_cases h1 : i < s.length
      · exact srt_left (hs.drop i) (List.drop_eq_nil_of_le (by omega))
      · exact srt_right (ht.drop j) (List.drop_eq_nil_of_le (by omega))
    rw [e, List.append_assoc]
/-- The search's two borders. -/
def D1 (s t : List L) (lo hf i : Nat) : Prop := i = lo ∨ ∀ p q, s[i - 1]? = some p → t[hf - i]? = some q → p.addr ≤ q.addr
def D2 (s t : List L) (hi hf r : Nat) : Prop := r = hi ∨ ∀ p q, s[r]? = some p → t[hf - r - 1]? = some q → q.addr < p.addr
theorem search_done {s t : List L} {lo hi hf i : Nat} (hs : Sb.Ord adr s) (ht : Sb.Ord adr t) (hc : (hf < s.length ∧ lo + t.length = hf ∧ hi = hf) ∨ (s.length ≤ hf ∧ lo = 0 ∧ hi = s.length)) (_ : hf ≤ s.length + t.length) (h2 : hf ≤ lo + t.length) (h3 : lo ≤ i ∧ i ≤ hi) (k1 : D1 s t lo hf i) (k2 : D2 s t hi hf i) :
    srt (s.take i ++ t.take (hf - i)) ++ srt (s.drop i ++ t.drop (hf - i)) = srt (s ++ t) := by
  have hcut := Sb.cut_split hs ht i (hf - i) (by omega) (by omega)
    (fun hi0 hj0 => by
      rcases k1 with k | k
      · omega
      · exact k _ _ (List.getElem?_eq_getElem (by omega)) (List.getElem?_eq_getElem hj0))
    (fun hi1 hj1 => by
      rcases k2 with k | k
      · omega
      · exact k _ _ (List.getElem?_eq_getElem hi1) (List.getElem?_eq_getElem (by omega)))
  have := Sb.merge_halves (f := adr) (u1 := s.take i) (u2 := s.drop i) (v1 := t.take (hf - i)) (v2 := t.drop (hf - i)) (by rw [List.take_append_drop]; exact hs) (by rw [List.take_append_drop]; exact ht) hcut.1 hcut.2
  rw [List.take_append_drop, List.take_append_drop] at this
  exact this
theorem get_two {x s t y : List L} {a h m k : Nat} (ha : x.length = a) (hm : a + s.length = m) (hh : h < s.length) (hk : k < t.length) : ∃ p q, s[h]? = some p ∧ t[k]? = some q ∧ (x ++ (s ++ (t ++ y)))[a + h]? = some p ∧ (x ++ (s ++ (t ++ y)))[m + k]? = some q :=
  ⟨s[h], t[k], List.getElem?_eq_getElem hh, List.getElem?_eq_getElem hk, by
    rw [List.getElem?_append_right (by omega), show a + h - x.length = h by omega, List.getElem?_append_left hh, List.getElem?_eq_getElem hh], by
    rw [List.getElem?_append_right (by omega), List.getElem?_append_right (by omega), show m + k - x.length - s.length = k by omega, List.getElem?_append_left hk, List.getElem?_eq_getElem hk]⟩
def StS (w0 : World) (g o a lo hi hf : Nat) (x s t y : List L) (v20 v21 : Value) (wr : World) : Prop :=
  ∃ i r : Nat, v20 = .int .i64 ((a + i : Nat) : Int) ∧ v21 = .int .i64 ((a + r : Nat) : Int) ∧ lo ≤ i ∧ i ≤ r ∧ r ≤ hi ∧ Hid (D1 s t lo hf i) ∧ Hid (D2 s t hi hf r) ∧ Hid (Sw w0 g o (x ++ (s ++ (t ++ y))) wr)
set_option maxHeartbeats 8000000 in
theorem merge_big1 {w0 : World} {g o n : Nat} (R : Rw w0 g o n) (c a m b N lo hi hf : Nat) (x s t y : List L) (W : World) (hl : (x ++ (s ++ (t ++ y))).length = n) (ha : x.length = a) (hm : a + s.length = m) (hb : m + t.length = b) (h2 : 2 ≤ s.length) (h3 : 2 ≤ t.length)
    (hs : Sb.Ord adr s) (ht : Sb.Ord adr t) (hS : Sw w0 g o (x ++ (s ++ (t ++ y))) W) (hN : s.length + t.length ≤ N + 1) (hhf : hf = (s.length + t.length) / 2) (hc : hf < s.length ∧ lo + t.length = hf ∧ hi = hf)
    (IH : ∀ (x s t y : List L) (a m b : Nat) (W : World), s.length + t.length ≤ N → (x ++ (s ++ (t ++ y))).length = n → x.length = a → a + s.length = m → m + t.length = b → 0 < s.length → 0 < t.length → Sb.Ord adr s → Sb.Ord adr t → Sw w0 g o (x ++ (s ++ (t ++ y))) W → MgR w0 g o n c x s t y a m b W) :
    MgR w0 g o n c x s t y a m b W := by
  unfold MgR
  have hn := R.lt
  have hlen : a + (s.length + (t.length + y.length)) = n := by rw [← hl]; simp [ha]
  obtain ⟨M, hM⟩ : ∃ M, M = a + hf := ⟨_, rfl⟩
  obtain ⟨S0, hS0⟩ : ∃ S0, S0 = a + lo := ⟨_, rfl⟩
  have eM : ((a : Int) + (b : Int)) / 2 = (M : Int) := by omega
  have hbn : b ≤ n := by omega
  have hMn : M < n := by omega
  have hmn : m < n := by omega
  have han : a < n := by omega
  have eS : (M : Int) + (m : Int) - (b : Int) = (S0 : Int) := by omega
  have hcm : (m : Int) > (M : Int) := by omega
  have HC : Hid ((hf < s.length ∧ lo + t.length = hf ∧ hi = hf) ∨ (s.length ≤ hf ∧ lo = 0 ∧ hi = s.length)) := .inl hc
  have HS := Lib.hid hS
  have HR := Lib.hid R
  have HA := Lib.hid ha
  have HN := Lib.hid hl
  have HO1 := Lib.hid hs
  have HO2 := Lib.hid ht
  have HIH := Lib.hid IH
  have HBE : Hid (a + s.length = m ∧ m + t.length = b ∧ 2 ≤ s.length ∧ 2 ≤ t.length ∧ M = a + hf ∧ S0 = a + lo ∧ hf = (s.length + t.length) / 2 ∧ s.length + t.length ≤ N + 1 ∧ hf ≤ lo + t.length ∧ lo ≤ hi ∧ hi ≤ s.length ∧ hi ≤ hf) := ⟨hm, hb, h2, h3, hM, hS0, hhf, hN, by omega, by omega, by omega, by omega⟩
  have hma : ((m : Int) - (a : Int) == 1) = false := by simp; omega
  have hbm : ((b : Int) - (m : Int) == 1) = false := by simp; omega
  clear hS hl R ha hb hlen hs ht hm h2 h3 hN hhf hc IH hM hS0
  go_enter Tryz.func99, Tryz.ntmps99
  go_wp2
  go_loopw [20, 21] (fun v20 v21 wr => StS w0 g o a lo hi hf x s t y v20 v21 wr) (fun v20 v21 _ => (intOf v21).toNat - (intOf v20).toNat)
  case atStart =>
    have q := HBE.out
    have q2 := HC.out
    exact ⟨lo, hi, ret_i64 (by omega), ret_i64 (by omega), by omega, by omega, by omega, .inl rfl, .inl rfl, HS.out⟩
  case round =>
    clear eM hma hbm eS hcm
    obtain ⟨i, r, rfl, rfl, hli, hir, hrh, HD1, HD2, HW⟩ := hrel
    by_cases hlt : i < r
    · obtain ⟨I, hI⟩ : ∃ I, I = a + i := ⟨_, rfl⟩
      obtain ⟨J, hJ⟩ : ∃ J, J = a + r := ⟨_, rfl⟩
      obtain ⟨H, hH⟩ : ∃ H, H = (I + J) / 2 := ⟨_, rfl⟩
      obtain ⟨h, hh⟩ : ∃ h, h = H - a := ⟨_, rfl⟩
      have qB := HBE.out
      have hhj : i ≤ h ∧ h < r := by omega
      have hHm : a + h = H := by omega
      have hht : h < s.length := by omega
      have hkt : hf - h - 1 < t.length := by omega
      obtain ⟨p, q, hp, hq, hgS, hgT⟩ := get_two (y := y) HA.out qB.1 hht hkt
      obtain ⟨Z, hZ⟩ : ∃ Z, Z = m + (hf - h - 1) := ⟨_, rfl⟩
      rw [hHm] at hgS
      rw [← hZ] at hgT
      have two := HW.out.two HR.out HN.out hgT hgS
      have HL : Hid (¬ q.addr < p.addr → D1 s t lo hf (h + 1)) := fun hv => .inr fun p' q' e1 e2 => by
        rw [Nat.add_sub_cancel, hp] at e1
        rw [show hf - (h + 1) = hf - h - 1 by omega, hq] at e2
        have e1 := Option.some.inj e1
        have e2 := Option.some.inj e2
        rw [← e1, ← e2]
        omega
      have HG : Hid (q.addr < p.addr → D2 s t hi hf h) := fun hv => .inr fun p' q' e1 e2 => by
        rw [hp] at e1
        rw [hq] at e2
        have e1 := Option.some.inj e1
        have e2 := Option.some.inj e2
        rw [← e1, ← e2]
        exact hv
      have HI : Hid (I = a + i ∧ J = a + r ∧ H = a + h ∧ i ≤ h ∧ h < r ∧ lo ≤ i ∧ r ≤ hi) := ⟨hI, hJ, by omega, hhj.1, hhj.2, hli, hrh⟩
      have hIJ : (I : Int) < (J : Int) := by omega
      have hJn : J ≤ n := by omega
      have eH : ((I : Int) + (J : Int)) / 2 = (H : Int) := by omega
      have eZ : (M : Int) + (m : Int) - 1 - (H : Int) = (Z : Int) := by omega
      have hwZ : IntKind.i64.wrap (Z : Int) = (Z : Int) := by rw [IntKind.wrap_i64]; omega
      have hHn : (H : Int) < (n : Int) := by omega
      have hZn : (Z : Int) < (n : Int) := by omega
      have mixed : Tryz.prog.follows Departure.mixedOrders = true := by kernel_rfl
      have a0 := fun k os => (two.c k os).1.1
      have a1 := fun k os => (two.c k os).1.2.1
      have a2 := fun k os => (two.c k os).1.2.2.1
      have a3 := fun k os => (two.c k os).1.2.2.2
      have b0 := fun k os => (two.c k os).2.1
      have b1 := fun k os => (two.c k os).2.2.1
      have b2 := fun k os => (two.c k os).2.2.2.1
      have b3 := fun k os => (two.c k os).2.2.2.2
      have hcg := fun k os => less_any q p (grow (wr.drewN k) os)
      rw [← hI, ← hJ]
      clear hI hJ hH hh hhj hHm hht hgS hgT hp hq two hli hir hrh hlt qB hZ hkt
      by_cases hlv : cmpI q.addr p.addr < 0
      · have HLV := Lib.hid (HG.out (cmp_less.1 hlv))
        go_wp2_with fail
        go_quiet_grown (first | (refine Calls.grown_of (hcg _ _)))
        go_wp2
        go_roundw
        case rel =>
          obtain ⟨e1, e2, e3, e4, e5, e6, e7⟩ := HI.out
          exact ⟨i, h, ret_i64 (by omega), ret_i64 (by omega), by omega, by omega, by omega, HD1.out, HLV.out, HW.out.grown nq osq⟩
        case measure =>
          obtain ⟨e1, e2, e3, e4, e5, e6, e7⟩ := HI.out
          simp only [intOf]
          omega
      · have HLV := Lib.hid (HL.out (fun hv => hlv (cmp_less.2 hv)))
        have hlv0 : decide (cmpI q.addr p.addr < 0) = false := decide_eq_false hlv
        clear hlv
        go_wp2_with fail
        go_quiet_grown (first | (refine Calls.grown_of (hcg _ _)))
        go_wp2
        go_roundw
        case rel =>
          obtain ⟨e1, e2, e3, e4, e5, e6, e7⟩ := HI.out
          exact ⟨h + 1, r, ret_i64 (by omega), ret_i64 (by omega), by omega, by omega, by omega, HLV.out, HD2.out, HW.out.grown nq osq⟩
        case measure =>
          obtain ⟨e1, e2, e3, e4, e5, e6, e7⟩ := HI.out
          simp only [intOf]
          omega
    · obtain rfl : i = r := by omega
      obtain ⟨S, hSa⟩ : ∃ S, S = a + i := ⟨_, rfl⟩
      obtain ⟨j, hj⟩ : ∃ j, j = hf - i := ⟨_, rfl⟩
      obtain ⟨E, hE⟩ : ∃ E, E = m + j := ⟨_, rfl⟩
      have qB := HBE.out
      have HT := Lib.hid (tail_any HR.out c a m b S M E i j N x s t y HN.out HA.out qB.1 qB.2.1 HO1.out HO2.out hSa.symm (by omega) hE.symm (by omega) (by omega) qB.2.2.2.2.2.2.2.1 (by omega) (by omega) HIH.out)
      have HF := Lib.hid (search_done HO1.out HO2.out HC.out (by omega) (by omega) ⟨hli, hrh⟩ HD1.out HD2.out)
      rw [← hj] at HF
      have HW2 : Hid (Sw w0 g o (x ++ (s ++ (t ++ y))) wr) := HW.out
      have HFIN : Hid (∀ w', Sw w0 g o (x ++ (srt (s.take i ++ t.take j) ++ (srt (s.drop i ++ t.drop j) ++ y))) w' → Sw w0 g o (x ++ (srt (s ++ t) ++ y)) w') := fun w' h' => by
        rw [← List.append_assoc (srt (s.take i ++ t.take j)), HF.out] at h'
        exact h'
      have hSS : (S : Int) ≤ (S : Int) := by omega
      have eE : (M : Int) + (m : Int) - (S : Int) = (E : Int) := by omega
      have hSn : S < n := by omega
      have hEn : E ≤ n := by omega
      rw [← hSa]
      have HI : Hid (S = a + i ∧ E = m + j ∧ M = S + j ∧ m = a + s.length ∧ b = m + t.length) := ⟨hSa, hE, by omega, by omega, by omega⟩
      generalize x ++ (srt (s.take i ++ t.take j) ++ (srt (s.drop i ++ t.drop j) ++ y)) = r3 at HT HFIN
      generalize x ++ (srt (s.take i ++ t.take j) ++ (s.drop i ++ (t.drop j ++ y))) = r2 at HT
      generalize x ++ (s.take i ++ (t.take j ++ (s.drop i ++ (t.drop j ++ y)))) = r1 at HT
      generalize x ++ (s ++ (t ++ y)) = r0 at HT HW2
      clear hSa hE hj qB hli hir hrh hlt HF HW HIH HD1 HD2
      by_cases cA : i < s.length
      · by_cases cB : 0 < j
        · by_cases cC : 0 < i
          · by_cases cD : j < t.length
            · have q := HI.out
              have f0 : (S : Int) < (m : Int) := by omega
              have f1 : (M : Int) < (E : Int) := by omega
              have f2 : (m : Int) < (E : Int) := by omega
              have f3 : (S : Int) < (M : Int) := by omega
              have f4 : (a : Int) < (S : Int) := by omega
              have f5 : (E : Int) < (b : Int) := by omega
              clear q
              have HC1 := Lib.hid (HT.out.rot cA cB wr HW2.out)
              go_wp2_with fail
              refine HC1.out.mono ?_
              rintro e1 w1 ⟨rfl, hs1⟩
              have HX1 := Lib.hid hs1
              clear hs1 HC1
              have HC2 := Lib.hid (HT.out.lef cC cB w1 HX1.out)
              go_wp2_with fail
              refine HC2.out.mono ?_
              rintro e2 w2 ⟨rfl, hs2⟩
              have HX2 := Lib.hid hs2
              clear hs2 HC2
              have HC3 := Lib.hid (HT.out.rig cA cD w2 HX2.out)
              go_wp2_with fail
              refine HC3.out.mono ?_
              rintro e3 w3 ⟨rfl, hs3⟩
              have HX3 := Lib.hid hs3
              clear hs3 HC3
              clear cA cB cC cD
              go_wp2
              go_end0
              exact ⟨rfl, HFIN.out _ HX3.out⟩
            · have q := HI.out
              have f0 : (S : Int) < (m : Int) := by omega
              have f1 : (M : Int) < (E : Int) := by omega
              have f2 : (m : Int) < (E : Int) := by omega
              have f3 : (S : Int) < (M : Int) := by omega
              have f4 : (a : Int) < (S : Int) := by omega
              have f5 : ¬ (E : Int) < (b : Int) := by omega
              clear q
              have HC1 := Lib.hid (HT.out.rot cA cB wr HW2.out)
              go_wp2_with fail
              refine HC1.out.mono ?_
              rintro e1 w1 ⟨rfl, hs1⟩
              have HX1 := Lib.hid hs1
              clear hs1 HC1
              have HC2 := Lib.hid (HT.out.lef cC cB w1 HX1.out)
              go_wp2_with fail
              refine HC2.out.mono ?_
              rintro e2 w2 ⟨rfl, hs2⟩
              have HX2 := Lib.hid hs2
              clear hs2 HC2
              have HX3 : Hid (Sw w0 g o r3 w2) := by
                have h := HX2.out
                rw [HT.out.rig' (by omega)] at h
                exact h
              clear cA cB cC cD
              go_wp2
              go_end0
              exact ⟨rfl, HFIN.out _ HX3.out⟩
          · by_cases cD : j < t.length
            · have q := HI.out
              have f0 : (S : Int) < (m : Int) := by omega
              have f1 : (M : Int) < (E : Int) := by omega
              have f2 : (m : Int) < (E : Int) := by omega
              have f3 : (S : Int) < (M : Int) := by omega
              have f4 : ¬ (a : Int) < (S : Int) := by omega
              have f5 : (E : Int) < (b : Int) := by omega
              clear q
              have HC1 := Lib.hid (HT.out.rot cA cB wr HW2.out)
              go_wp2_with fail
              refine HC1.out.mono ?_
              rintro e1 w1 ⟨rfl, hs1⟩
              have HX1 := Lib.hid hs1
              clear hs1 HC1
              have HX2 : Hid (Sw w0 g o r2 w1) := by
                have h := HX1.out
                rw [HT.out.lef' (by omega)] at h
                exact h
              have HC3 := Lib.hid (HT.out.rig cA cD w1 HX2.out)
              go_wp2_with fail
              refine HC3.out.mono ?_
              rintro e3 w3 ⟨rfl, hs3⟩
              have HX3 := Lib.hid hs3
              clear hs3 HC3
              clear cA cB cC cD
              go_wp2
              go_end0
              exact ⟨rfl, HFIN.out _ HX3.out⟩
            · have q := HI.out
              have f0 : (S : Int) < (m : Int) := by omega
              have f1 : (M : Int) < (E : Int) := by omega
              have f2 : (m : Int) < (E : Int) := by omega
              have f3 : (S : Int) < (M : Int) := by omega
              have f4 : ¬ (a : Int) < (S : Int) := by omega
              have f5 : ¬ (E : Int) < (b : Int) := by omega
              clear q
              have HC1 := Lib.hid (HT.out.rot cA cB wr HW2.out)
              go_wp2_with fail
              refine HC1.out.mono ?_
              rintro e1 w1 ⟨rfl, hs1⟩
              have HX1 := Lib.hid hs1
              clear hs1 HC1
              have HX2 : Hid (Sw w0 g o r2 w1) := by
                have h := HX1.out
                rw [HT.out.lef' (by omega)] at h
                exact h
              have HX3 : Hid (Sw w0 g o r3 w1) := by
                have h := HX2.out
                rw [HT.out.rig' (by omega)] at h
                exact h
              clear cA cB cC cD
              go_wp2
              go_end0
              exact ⟨rfl, HFIN.out _ HX3.out⟩
        · by_cases cC : 0 < i
          · by_cases cD : j < t.length
            · have q := HI.out
              have f0 : (S : Int) < (m : Int) := by omega
              have f1 : (M : Int) < (E : Int) := by omega
              have f2 : ¬ (m : Int) < (E : Int) := by omega
              have f3 : ¬ (S : Int) < (M : Int) := by omega
              have f4 : (a : Int) < (S : Int) := by omega
              have f5 : (E : Int) < (b : Int) := by omega
              clear q
              have HX1 : Hid (Sw w0 g o r1 wr) := by
                have h := HW2.out
                rw [HT.out.rot' (by omega)] at h
                exact h
              have HX2 : Hid (Sw w0 g o r2 wr) := by
                have h := HX1.out
                rw [HT.out.lef' (by omega)] at h
                exact h
              have HC3 := Lib.hid (HT.out.rig cA cD wr HX2.out)
              go_wp2_with fail
              refine HC3.out.mono ?_
              rintro e3 w3 ⟨rfl, hs3⟩
              have HX3 := Lib.hid hs3
              clear hs3 HC3
              clear cA cB cC cD
              go_wp2
              go_end0
              exact ⟨rfl, HFIN.out _ HX3.out⟩
            · have q := HI.out
              have f0 : (S : Int) < (m : Int) := by omega
              have f1 : (M : Int) < (E : Int) := by omega
              have f2 : ¬ (m : Int) < (E : Int) := by omega
              have f3 : ¬ (S : Int) < (M : Int) := by omega
              have f4 : (a : Int) < (S : Int) := by omega
              have f5 : ¬ (E : Int) < (b : Int) := by omega
              clear q
              have HX1 : Hid (Sw w0 g o r1 wr) := by
                have h := HW2.out
                rw [HT.out.rot' (by omega)] at h
                exact h
              have HX2 : Hid (Sw w0 g o r2 wr) := by
                have h := HX1.out
                rw [HT.out.lef' (by omega)] at h
                exact h
              have HX3 : Hid (Sw w0 g o r3 wr) := by
                have h := HX2.out
                rw [HT.out.rig' (by omega)] at h
                exact h
              clear cA cB cC cD
              go_wp2
              go_end0
              exact ⟨rfl, HFIN.out _ HX3.out⟩
          · by_cases cD : j < t.length
            · have q := HI.out
              have f0 : (S : Int) < (m : Int) := by omega
              have f1 : (M : Int) < (E : Int) := by omega
              have f2 : ¬ (m : Int) < (E : Int) := by omega
              have f3 : ¬ (S : Int) < (M : Int) := by omega
              have f4 : ¬ (a : Int) < (S : Int) := by omega
              have f5 : (E : Int) < (b : Int) := by omega
              clear q
              have HX1 : Hid (Sw w0 g o r1 wr) := by
                have h := HW2.out
                rw [HT.out.rot' (by omega)] at h
                exact h
              have HX2 : Hid (Sw w0 g o r2 wr) := by
                have h := HX1.out
                rw [HT.out.lef' (by omega)] at h
                exact h
              have HC3 := Lib.hid (HT.out.rig cA cD wr HX2.out)
              go_wp2_with fail
              refine HC3.out.mono ?_
              rintro e3 w3 ⟨rfl, hs3⟩
              have HX3 := Lib.hid hs3
              clear hs3 HC3
              clear cA cB cC cD
              go_wp2
              go_end0
              exact ⟨rfl, HFIN.out _ HX3.out⟩
            · have q := HI.out
              have f0 : (S : Int) < (m : Int) := by omega
              have f1 : (M : Int) < (E : Int) := by omega
              have f2 : ¬ (m : Int) < (E : Int) := by omega
              have f3 : ¬ (S : Int) < (M : Int) := by omega
              have f4 : ¬ (a : Int) < (S : Int) := by omega
              have f5 : ¬ (E : Int) < (b : Int) := by omega
              clear q
              have HX1 : Hid (Sw w0 g o r1 wr) := by
                have h := HW2.out
                rw [HT.out.rot' (by omega)] at h
                exact h
              have HX2 : Hid (Sw w0 g o r2 wr) := by
                have h := HX1.out
                rw [HT.out.lef' (by omega)] at h
                exact h
              have HX3 : Hid (Sw w0 g o r3 wr) := by
                have h := HX2.out
                rw [HT.out.rig' (by omega)] at h
                exact h
              clear cA cB cC cD
              go_wp2
              go_end0
              exact ⟨rfl, HFIN.out _ HX3.out⟩
      · by_cases cB : 0 < j
        · by_cases cC : 0 < i
          · by_cases cD : j < t.length
            · have q := HI.out
              have f0 : ¬ (S : Int) < (m : Int) := by omega
              have f1 : ¬ (M : Int) < (E : Int) := by omega
              have f2 : (m : Int) < (E : Int) := by omega
              have f3 : (S : Int) < (M : Int) := by omega
              have f4 : (a : Int) < (S : Int) := by omega
              have f5 : (E : Int) < (b : Int) := by omega
              clear q
              have HX1 : Hid (Sw w0 g o r1 wr) := by
                have h := HW2.out
                rw [HT.out.rot' (by omega)] at h
                exact h
              have HC2 := Lib.hid (HT.out.lef cC cB wr HX1.out)
              go_wp2_with fail
              refine HC2.out.mono ?_
              rintro e2 w2 ⟨rfl, hs2⟩
              have HX2 := Lib.hid hs2
              clear hs2 HC2
              have HX3 : Hid (Sw w0 g o r3 w2) := by
                have h := HX2.out
                rw [HT.out.rig' (by omega)] at h
                exact h
              clear cA cB cC cD
              go_wp2
              go_end0
              exact ⟨rfl, HFIN.out _ HX3.out⟩
            · have q := HI.out
              have f0 : ¬ (S : Int) < (m : Int) := by omega
              have f1 : ¬ (M : Int) < (E : Int) := by omega
              have f2 : (m : Int) < (E : Int) := by omega
              have f3 : (S : Int) < (M : Int) := by omega
              have f4 : (a : Int) < (S : Int) := by omega
              have f5 : ¬ (E : Int) < (b : Int) := by omega
              clear q
              have HX1 : Hid (Sw w0 g o r1 wr) := by
                have h := HW2.out
                rw [HT.out.rot' (by omega)] at h
                exact h
              have HC2 := Lib.hid (HT.out.lef cC cB wr HX1.out)
              go_wp2_with fail
              refine HC2.out.mono ?_
              rintro e2 w2 ⟨rfl, hs2⟩
              have HX2 := Lib.hid hs2
              clear hs2 HC2
              have HX3 : Hid (Sw w0 g o r3 w2) := by
                have h := HX2.out
                rw [HT.out.rig' (by omega)] at h
                exact h
              clear cA cB cC cD
              go_wp2
              go_end0
              exact ⟨rfl, HFIN.out _ HX3.out⟩
          · by_cases cD : j < t.length
            · have q := HI.out
              have f0 : ¬ (S : Int) < (m : Int) := by omega
              have f1 : ¬ (M : Int) < (E : Int) := by omega
              have f2 : (m : Int) < (E : Int) := by omega
              have f3 : (S : Int) < (M : Int) := by omega
              have f4 : ¬ (a : Int) < (S : Int) := by omega
              have f5 : (E : Int) < (b : Int) := by omega
              clear q
              have HX1 : Hid (Sw w0 g o r1 wr) := by
                have h := HW2.out
                rw [HT.out.rot' (by omega)] at h
                exact h
              have HX2 : Hid (Sw w0 g o r2 wr) := by
                have h := HX1.out
                rw [HT.out.lef' (by omega)] at h
                exact h
              have HX3 : Hid (Sw w0 g o r3 wr) := by
                have h := HX2.out
                rw [HT.out.rig' (by omega)] at h
                exact h
              clear cA cB cC cD
              go_wp2
              go_end0
              exact ⟨rfl, HFIN.out _ HX3.out⟩
            · have q := HI.out
              have f0 : ¬ (S : Int) < (m : Int) := by omega
              have f1 : ¬ (M : Int) < (E : Int) := by omega
              have f2 : (m : Int) < (E : Int) := by omega
              have f3 : (S : Int) < (M : Int) := by omega
              have f4 : ¬ (a : Int) < (S : Int) := by omega
              have f5 : ¬ (E : Int) < (b : Int) := by omega
              clear q
              have HX1 : Hid (Sw w0 g o r1 wr) := by
                have h := HW2.out
                rw [HT.out.rot' (by omega)] at h
                exact h
              have HX2 : Hid (Sw w0 g o r2 wr) := by
                have h := HX1.out
                rw [HT.out.lef' (by omega)] at h
                exact h
              have HX3 : Hid (Sw w0 g o r3 wr) := by
                have h := HX2.out
                rw [HT.out.rig' (by omega)] at h
                exact h
              clear cA cB cC cD
              go_wp2
              go_end0
              exact ⟨rfl, HFIN.out _ HX3.out⟩
        · by_cases cC : 0 < i
          · by_cases cD : j < t.length
            · have q := HI.out
              have f0 : ¬ (S : Int) < (m : Int) := by omega
              have f1 : ¬ (M : Int) < (E : Int) := by omega
              have f2 : ¬ (m : Int) < (E : Int) := by omega
              have f3 : ¬ (S : Int) < (M : Int) := by omega
              have f4 : (a : Int) < (S : Int) := by omega
              have f5 : (E : Int) < (b : Int) := by omega
              clear q
              have HX1 : Hid (Sw w0 g o r1 wr) := by
                have h := HW2.out
                rw [HT.out.rot' (by omega)] at h
                exact h
              have HX2 : Hid (Sw w0 g o r2 wr) := by
                have h := HX1.out
                rw [HT.out.lef' (by omega)] at h
                exact h
              have HX3 : Hid (Sw w0 g o r3 wr) := by
                have h := HX2.out
                rw [HT.out.rig' (by omega)] at h
                exact h
              clear cA cB cC cD
              go_wp2
              go_end0
              exact ⟨rfl, HFIN.out _ HX3.out⟩
            · have q := HI.out
              have f0 : ¬ (S : Int) < (m : Int) := by omega
              have f1 : ¬ (M : Int) < (E : Int) := by omega
              have f2 : ¬ (m : Int) < (E : Int) := by omega
              have f3 : ¬ (S : Int) < (M : Int) := by omega
              have f4 : (a : Int) < (S : Int) := by omega
              have f5 : ¬ (E : Int) < (b : Int) := by omega
              clear q
              have HX1 : Hid (Sw w0 g o r1 wr) := by
                have h := HW2.out
                rw [HT.out.rot' (by omega)] at h
                exact h
              have HX2 : Hid (Sw w0 g o r2 wr) := by
                have h := HX1.out
                rw [HT.out.lef' (by omega)] at h
                exact h
              have HX3 : Hid (Sw w0 g o r3 wr) := by
                have h := HX2.out
                rw [HT.out.rig' (by omega)] at h
                exact h
              clear cA cB cC cD
              go_wp2
              go_end0
              exact ⟨rfl, HFIN.out _ HX3.out⟩
          · by_cases cD : j < t.length
            · have q := HI.out
              have f0 : ¬ (S : Int) < (m : Int) := by omega
              have f1 : ¬ (M : Int) < (E : Int) := by omega
              have f2 : ¬ (m : Int) < (E : Int) := by omega
              have f3 : ¬ (S : Int) < (M : Int) := by omega
              have f4 : ¬ (a : Int) < (S : Int) := by omega
              have f5 : (E : Int) < (b : Int) := by omega
              clear q
              have HX1 : Hid (Sw w0 g o r1 wr) := by
                have h := HW2.out
                rw [HT.out.rot' (by omega)] at h
                exact h
              have HX2 : Hid (Sw w0 g o r2 wr) := by
                have h := HX1.out
                rw [HT.out.lef' (by omega)] at h
                exact h
              have HX3 : Hid (Sw w0 g o r3 wr) := by
                have h := HX2.out
                rw [HT.out.rig' (by omega)] at h
                exact h
              clear cA cB cC cD
              go_wp2
              go_end0
              exact ⟨rfl, HFIN.out _ HX3.out⟩
            · have q := HI.out
              have f0 : ¬ (S : Int) < (m : Int) := by omega
              have f1 : ¬ (M : Int) < (E : Int) := by omega
              have f2 : ¬ (m : Int) < (E : Int) := by omega
              have f3 : ¬ (S : Int) < (M : Int) := by omega
              have f4 : ¬ (a : Int) < (S : Int) := by omega
              have f5 : ¬ (E : Int) < (b : Int) := by omega
              clear q
              have HX1 : Hid (Sw w0 g o r1 wr) := by
                have h := HW2.out
                rw [HT.out.rot' (by omega)] at h
                exact h
              have HX2 : Hid (Sw w0 g o r2 wr) := by
                have h := HX1.out
                rw [HT.out.lef' (by omega)] at h
                exact h
              have HX3 : Hid (Sw w0 g o r3 wr) := by
                have h := HX2.out
                rw [HT.out.rig' (by omega)] at h
                exact h
              clear cA cB cC cD
              go_wp2
              go_end0
              exact ⟨rfl, HFIN.out _ HX3.out⟩
end Go.Proofs.YtlefpodonkdbeaaGreat.Lw
