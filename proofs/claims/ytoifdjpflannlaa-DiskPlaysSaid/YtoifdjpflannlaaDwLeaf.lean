/- What disk's small functions come to: rightName, wrongFile; slices.IndexFunc and slices.ContainsFunc over files and entries, for any function handed in. For all inputs. -/
import Derived.Test.YtoifdjpflannlaaDwKit
set_option maxRecDepth 8000
namespace Go.Proofs.Ytoifdjpflannlaa.Dw
open Go.RowKit By Dk

theorem rightName_any (s : List UInt8) (w : World) (hs : s.length ≤ 9223372036854775807) :
    Calls Try.prog 52 #[.string (ba s)] w fun e w' => e = .returned (.bool (decide (FairN s))) ∧ w = w' := by
  have hz := Lib.hid (ba_size s)
  by_cases h1 : (1 : Int) ≤ ((ba s).size : Int)
  · by_cases h2 : ((ba s).size : Int) ≤ 16
    · go_enter Try.func52, Try.ntmps52
      go_wp2
      go_ret
      exact ⟨ret_bool (decide_eq_true (by have := hz.out; unfold FairN; omega)).symm, rfl⟩
    · go_enter Try.func52, Try.ntmps52
      go_wp2
      go_ret
      exact ⟨ret_bool (decide_eq_false (by have := hz.out; unfold FairN; omega)).symm, rfl⟩
  · go_enter Try.func52, Try.ntmps52
    go_wp2
    go_ret
    exact ⟨ret_bool (decide_eq_false (by have := hz.out; unfold FairN; omega)).symm, rfl⟩

theorem wrongFile_any (A : Option Addr) (c : Nat) (l : List UInt8) (s : Int) (w : World) (hs : l.length ≤ 9223372036854775807) :
    Calls Try.prog 61 #[.agg #[.slice A l.length c, .int .i64 s]] w fun e w' => e = .returned (.bool (!decide (FileOk ⟨l, s⟩))) ∧ Below w.heap.size w w' := by
  have hb : ∀ x, Below w.heap.size w (w.alloc x) := fun x => (Below.refl _ _).alloc (Nat.le_refl _) _
  by_cases h1 : (20000 : Int) < (l.length : Int)
  · go_enter Try.func61, Try.ntmps61
    go_wp2
    go_ret
    exact ⟨ret_bool (by rw [show decide (FileOk ⟨l, s⟩) = false from decide_eq_false (by unfold FileOk; simp only; omega)]; rfl), hb _⟩
  by_cases h2 : s < 0
  · go_enter Try.func61, Try.ntmps61
    go_wp2
    go_ret
    exact ⟨ret_bool (by rw [show decide (FileOk ⟨l, s⟩) = false from decide_eq_false (by unfold FileOk; simp only; omega)]; rfl), hb _⟩
  by_cases h3 : (l.length : Int) < s
  · go_enter Try.func61, Try.ntmps61
    go_wp2
    go_ret
    exact ⟨ret_bool (by rw [show decide (FileOk ⟨l, s⟩) = false from decide_eq_false (by unfold FileOk; simp only; omega)]; rfl), hb _⟩
  · go_enter Try.func61, Try.ntmps61
    go_wp2
    go_ret
    exact ⟨ret_bool (by rw [show decide (FileOk ⟨l, s⟩) = true from decide_eq_true (by unfold FileOk; simp only; omega)]; rfl), hb _⟩

/-! ### Index and Contains, for any function -/
/-- What an index tells: the first place where p holds, and how far it went. -/
def IxR (n : Nat) (p : Nat → Bool) (I : Nat → World → Prop) (e : Ending) (w' : World) : Prop :=
  (∃ j : Nat, j < n ∧ e = .returned (.int .i64 (j : Int)) ∧ p j = true ∧ (∀ i, i < j → p i = false) ∧ I (j + 1) w') ∨ (e = .returned (.int .i64 (-1)) ∧ (∀ i, i < n → p i = false) ∧ I n w')
def CtR (n : Nat) (p : Nat → Bool) (I : Nat → World → Prop) (e : Ending) (w' : World) : Prop :=
  (∃ j : Nat, j < n ∧ e = .returned (.bool true) ∧ p j = true ∧ (∀ i, i < j → p i = false) ∧ I (j + 1) w') ∨ (e = .returned (.bool false) ∧ (∀ i, i < n → p i = false) ∧ I n w')
theorem none_step {p : Nat → Bool} {k : Nat} (h : ∀ i, i < k → p i = false) (hk : p k = false) : ∀ i, i < k + 1 → p i = false := fun i hi => by
  rcases Nat.lt_or_ge i k with h' | h'
  · exact h i h'
  · obtain rfl : i = k := by omega
    exact hk

set_option maxHeartbeats 400000 in
theorem indexE_gen (K g : Nat) (hE : ∀ args W, (callFunc K args).run Try.prog W = .ok (.enter K args) W) (U : Nat) (A : Option Addr) (n c : Nat) (l : List E) (p : Nat → Bool) (I : Nat → World → Prop) (w : World) (h0 : RdE U w A n c l)
    (h : ∀ k W, I k W → RdE U W A n c l) (hI : I 0 w)
    (hK : ∀ k s f W, l[k]? = some (s, f) → I k W → Calls Try.prog K #[.agg #[.string (ba s), .int .i64 f], .pointer (some ⟨g, 0, none⟩)] W fun e W' => e = .returned (.bool (p k)) ∧ I (k + 1) W') :
    Calls Try.prog 78 #[.slice A n c, .func (.func K) #[] #[.pointer (some ⟨g, 0, none⟩)]] w (IxR n p I) := by
  have hm := h0.max
  have hcap := h0.cap
  have HK := Lib.hid hK
  have HR := Lib.hid h
  have HEN := Lib.hid hE
  clear hK h h0 hE
  go_enter Try.func78, Try.ntmps78
  go_wp2
  go_loopw [8] (fun i wr => ∃ k : Nat, k ≤ n ∧ i = .int .i64 k ∧ (∀ i, i < k → p i = false) ∧ I k wr) (fun i _ => n - (intOf i).toNat)
  case atStart => exact ⟨0, by omega, rfl, fun i hi => absurd hi (Nat.not_lt_zero _), hI⟩
  case round =>
    obtain ⟨k, hk, rfl, hs, hIk⟩ := hrel
    have HS := Lib.hid hs
    clear hs
    by_cases hlt : k < n
    · obtain ⟨b, o, s, f, rfl, _, HE, c1, c2⟩ := atE (HR.out k wr hIk) hlt
      have HC := Lib.hid (HK.out k s f wr HE.out hIk)
      clear HE
      go_wp2_with fail
      rw [HEN.out, Oper.upon_enter]
      refine HC.out.mono ?_
      rintro e w1 ⟨rfl, hI1⟩
      have HP : Hid (p k = p k) := rfl
      generalize hp : p k = b1 at HP
      cases b1 with
      | true =>
        have HT := Lib.hid hp
        clear hp
        go_wp2
        go_ret
        exact .inl ⟨k, hlt, rfl, HT.out, HS.out, hI1⟩
      | false =>
        have HT := Lib.hid hp
        clear hp
        go_wp2
        go_roundw
        case rel => exact ⟨k + 1, by omega, by go_num, none_step HS.out HT.out, hI1⟩
        case measure => simp [intOf]; omega
    · obtain rfl : k = n := by omega
      go_wp2
      go_ret
      exact .inr ⟨rfl, HS.out, hIk⟩

theorem containsE_gen (K g : Nat) (hE : ∀ args W, (callFunc K args).run Try.prog W = .ok (.enter K args) W) (U : Nat) (A : Option Addr) (n c : Nat) (l : List E) (p : Nat → Bool) (I : Nat → World → Prop) (w : World) (h0 : RdE U w A n c l)
    (h : ∀ k W, I k W → RdE U W A n c l) (hI : I 0 w)
    (hK : ∀ k s f W, l[k]? = some (s, f) → I k W → Calls Try.prog K #[.agg #[.string (ba s), .int .i64 f], .pointer (some ⟨g, 0, none⟩)] W fun e W' => e = .returned (.bool (p k)) ∧ I (k + 1) W') :
    Calls Try.prog 82 #[.slice A n c, .func (.func K) #[] #[.pointer (some ⟨g, 0, none⟩)]] w (CtR n p I) := by
  have HC := Lib.hid (indexE_gen K g hE U A n c l p I w h0 h hI hK)
  clear hK h h0
  go_enter Try.func82, Try.ntmps82
  go_wp2_with fail
  refine HC.out.mono ?_
  rintro e w1 (⟨j, hj, rfl, h1, h2, h3⟩ | ⟨rfl, h2, h3⟩)
  · have H2 := Lib.hid h2
    have H1 := Lib.hid h1
    have hj0 : (0 : Int) ≤ (j : Int) := by omega
    clear h1 h2
    go_wp2
    go_ret
    exact .inl ⟨j, hj, rfl, H1.out, H2.out, h3⟩
  · have H2 := Lib.hid h2
    clear h2
    go_wp2
    go_ret
    exact .inr ⟨rfl, H2.out, h3⟩

/-! ### Files that are wrong -/
def allOk (l : List F) : Prop := ∀ f ∈ l, FileOk f
instance (l : List F) : Decidable (allOk l) := by unfold allOk; infer_instance
set_option maxHeartbeats 400000 in
theorem indexF_any (A : Option Addr) (n c : Nat) (xs : List Fv) (w : World) (h : RdF w.heap.size w A n c xs) :
    Calls Try.prog 81 #[.slice A n c, .func (.func 61) #[] #[]] w fun e w' => (∃ i : Int, e = .returned (.int .i64 i) ∧ decide (0 ≤ i) = !decide (allOk (fsOf xs))) ∧ Below w.heap.size w w' := by
  have hl := Lib.hid h.len
  have hm := h.max
  have hcap := h.cap
  go_enter Try.func81, Try.ntmps81
  go_wp2
  go_loopw [8] (fun i wr => ∃ k : Nat, k ≤ n ∧ i = .int .i64 k ∧ allOk (fsOf (xs.take k)) ∧ Below w.heap.size w wr) (fun i _ => n - (intOf i).toNat)
  case atStart => exact ⟨0, by omega, rfl, (fun f hf => by cases hf), Below.refl _ _⟩
  case round =>
    obtain ⟨k, hk, rfl, hs, hbw⟩ := hrel
    have HS := Lib.hid hs
    clear hs
    by_cases hlt : k < n
    · obtain ⟨b, o, x, rfl, _, HE, hbs, c1, c2⟩ := atF (h.below hbw) hlt
      have HT : Hid (xs.take (k + 1) = xs.take k ++ [x]) := by
        show _ = _
        rw [List.take_add_one, HE.out]
        rfl
      have hmx : x.l.length ≤ 9223372036854775807 := by have h1 := hbs.bs.max; have h2 := hbs.bs.cap; omega
      have HM := Lib.hid (List.mem_of_getElem? HE.out)
      have HC := Lib.hid (wrongFile_any x.A x.c x.l x.s wr hmx)
      have hsz := hbw.size
      clear HE hbs hmx
      go_wp2_with fail
      refine HC.out.mono ?_
      rintro e w1 ⟨rfl, hb1⟩
      have hb01 := hbw.trans (hb1.mono hsz)
      by_cases he : FileOk ⟨x.l, x.s⟩
      · have H : Hid (allOk (fsOf (xs.take (k + 1)))) := by
          show allOk _
          rw [HT.out]
          unfold allOk fsOf
          rw [List.map_append]
          intro f hf
          rcases List.mem_append.1 hf with hf | hf
          · exact HS.out f hf
          · simp at hf
            subst hf
            exact he
        have hd : decide (FileOk ⟨x.l, x.s⟩) = true := decide_eq_true he
        rw [hd]
        clear he hd
        go_wp2
        go_roundw
        case rel => exact ⟨k + 1, by omega, by go_num, H.out, hb01⟩
        case measure => simp [intOf]; omega
      · have H : Hid (decide (allOk (fsOf xs)) = false) := decide_eq_false fun k => he (k _ (List.mem_map.2 ⟨x, HM.out, rfl⟩))
        have hd : decide (FileOk ⟨x.l, x.s⟩) = false := decide_eq_false he
        rw [hd]
        clear he hd
        go_wp2
        go_ret
        exact ⟨⟨_, rfl, by rw [H.out]; simp⟩, hb01⟩
    · obtain rfl : k = n := by omega
      have H : Hid (decide (allOk (fsOf xs)) = true) := decide_eq_true (by have := HS.out; rwa [List.take_of_length_le (by rw [hl.out]; exact Nat.le_refl _)] at this)
      go_wp2
      go_ret
      exact ⟨⟨_, rfl, by rw [H.out]; rfl⟩, hbw⟩
theorem containsF_any (A : Option Addr) (n c : Nat) (xs : List Fv) (w : World) (h : RdF w.heap.size w A n c xs) :
    Calls Try.prog 60 #[.slice A n c, .func (.func 61) #[] #[]] w fun e w' => e = .returned (.bool (!decide (allOk (fsOf xs)))) ∧ Below w.heap.size w w' := by
  have HC := Lib.hid (indexF_any A n c xs w h)
  clear h
  go_enter Try.func60, Try.ntmps60
  go_wp2_with fail
  refine HC.out.mono ?_
  rintro e w1 ⟨⟨i, rfl, hi⟩, hb1⟩
  have HI := Lib.hid hi
  clear hi
  go_wp2
  go_ret
  exact ⟨ret_bool HI.out, hb1⟩
end Go.Proofs.Ytoifdjpflannlaa.Dw
