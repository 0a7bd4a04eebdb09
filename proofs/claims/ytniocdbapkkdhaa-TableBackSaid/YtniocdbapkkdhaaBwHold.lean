/- What Holds, Rests, Free and the document's own come to. For all leases whose keys fit. -/
import Derived.Test.YtniocdbapkkdhaaBwGet
set_option maxRecDepth 8000
namespace Go.Proofs.Ytniocdbapkkdhaa.Bw
open Go.RowKit Co By Ky Rc Ew Jw La Tb Lw
open Dw (ba ba_size ba_data ba_list alloc_more)

theorem holds_any (l : L) (now : Int) (w : World) : Calls Try.prog 20 #[lv l, .int .i64 now] w (isB (holdsT l now) w) := by
  have hb : ∀ x, Below w.heap.size w (w.alloc x) := fun x => (Below.refl _ _).alloc (Nat.le_refl _) _
  by_cases hs : l.state = 1
  · have hsz : (l.state == 1) = true := by simpa using hs
    by_cases ht : now < l.till
    · have H : Hid (holdsT l now = true) := by show _ = _; unfold holdsT; rw [decide_eq_true hs, decide_eq_true ht]; rfl
      have htz : decide (now < l.till) = true := decide_eq_true ht
      clear hs
      go_enter Try.func20, Try.ntmps20
      go_wp2
      go_ret
      exact ⟨ret_bool H.out.symm, hb _⟩
    · have H : Hid (holdsT l now = false) := by show _ = _; unfold holdsT; rw [decide_eq_true hs, decide_eq_false ht]; rfl
      have htz : decide (now < l.till) = false := decide_eq_false ht
      clear hs ht
      go_enter Try.func20, Try.ntmps20
      go_wp2
      go_ret
      exact ⟨ret_bool H.out.symm, hb _⟩
  · have hsz : (l.state == 1) = false := by simpa using hs
    have H : Hid (holdsT l now = false) := by show _ = _; unfold holdsT; rw [decide_eq_false hs]; rfl
    clear hs
    go_enter Try.func20, Try.ntmps20
    go_wp2
    go_ret
    exact ⟨ret_bool H.out.symm, hb _⟩
theorem rests_any (l : L) (now : Int) (w : World) : Calls Try.prog 22 #[lv l, .int .i64 now] w (isB (restsT l now) w) := by
  have hb : ∀ x, Below w.heap.size w (w.alloc x) := fun x => (Below.refl _ _).alloc (Nat.le_refl _) _
  by_cases hs : l.state = 3
  · have hsz : (l.state == 3) = true := by simpa using hs
    by_cases ht : now < l.till
    · have H : Hid (restsT l now = true) := by show _ = _; unfold restsT; rw [decide_eq_true hs, decide_eq_true ht]; rfl
      have htz : decide (now < l.till) = true := decide_eq_true ht
      clear hs
      go_enter Try.func22, Try.ntmps22
      go_wp2
      go_ret
      exact ⟨ret_bool H.out.symm, hb _⟩
    · have H : Hid (restsT l now = false) := by show _ = _; unfold restsT; rw [decide_eq_true hs, decide_eq_false ht]; rfl
      have htz : decide (now < l.till) = false := decide_eq_false ht
      clear hs ht
      go_enter Try.func22, Try.ntmps22
      go_wp2
      go_ret
      exact ⟨ret_bool H.out.symm, hb _⟩
  · have hsz : (l.state == 3) = false := by simpa using hs
    have H : Hid (restsT l now = false) := by show _ = _; unfold restsT; rw [decide_eq_false hs]; rfl
    clear hs
    go_enter Try.func22, Try.ntmps22
    go_wp2
    go_ret
    exact ⟨ret_bool H.out.symm, hb _⟩
theorem refHolds_any (l : L) (now : Int) (w : World) : Calls Try.prog 21 #[lv l, .int .i64 now] w (isB (holdsT l now) w) := by
  have hb : ∀ x, Below w.heap.size w (w.alloc x) := fun x => (Below.refl _ _).alloc (Nat.le_refl _) _
  by_cases hs : l.state = 1
  · have hsz : (l.state == 1) = true := by simpa using hs
    by_cases ht : now < l.till
    · have H : Hid (holdsT l now = true) := by show _ = _; unfold holdsT; rw [decide_eq_true hs, decide_eq_true ht]; rfl
      have htz : decide (now < l.till) = true := decide_eq_true ht
      clear hs
      go_enter Try.func21, Try.ntmps21
      go_wp2
      go_ret
      exact ⟨ret_bool H.out.symm, hb _⟩
    · have H : Hid (holdsT l now = false) := by show _ = _; unfold holdsT; rw [decide_eq_true hs, decide_eq_false ht]; rfl
      have htz : decide (now < l.till) = false := decide_eq_false ht
      clear hs ht
      go_enter Try.func21, Try.ntmps21
      go_wp2
      go_ret
      exact ⟨ret_bool H.out.symm, hb _⟩
  · have hsz : (l.state == 1) = false := by simpa using hs
    have H : Hid (holdsT l now = false) := by show _ = _; unfold holdsT; rw [decide_eq_false hs]; rfl
    clear hs
    go_enter Try.func21, Try.ntmps21
    go_wp2
    go_ret
    exact ⟨ret_bool H.out.symm, hb _⟩
theorem refRests_any (l : L) (now : Int) (w : World) : Calls Try.prog 23 #[lv l, .int .i64 now] w (isB (restsT l now) w) := by
  have hb : ∀ x, Below w.heap.size w (w.alloc x) := fun x => (Below.refl _ _).alloc (Nat.le_refl _) _
  by_cases hs : l.state = 3
  · have hsz : (l.state == 3) = true := by simpa using hs
    by_cases ht : now < l.till
    · have H : Hid (restsT l now = true) := by show _ = _; unfold restsT; rw [decide_eq_true hs, decide_eq_true ht]; rfl
      have htz : decide (now < l.till) = true := decide_eq_true ht
      clear hs
      go_enter Try.func23, Try.ntmps23
      go_wp2
      go_ret
      exact ⟨ret_bool H.out.symm, hb _⟩
    · have H : Hid (restsT l now = false) := by show _ = _; unfold restsT; rw [decide_eq_true hs, decide_eq_false ht]; rfl
      have htz : decide (now < l.till) = false := decide_eq_false ht
      clear hs ht
      go_enter Try.func23, Try.ntmps23
      go_wp2
      go_ret
      exact ⟨ret_bool H.out.symm, hb _⟩
  · have hsz : (l.state == 3) = false := by simpa using hs
    have H : Hid (restsT l now = false) := by show _ = _; unfold restsT; rw [decide_eq_false hs]; rfl
    clear hs
    go_enter Try.func23, Try.ntmps23
    go_wp2
    go_ret
    exact ⟨ret_bool H.out.symm, hb _⟩
theorem free_some {l : List L} {a : Int} {x : L} (h : firstT (goodT l) a = some x) (k : List UInt8) (now : Int) : freeT l a k now = freeO (some x) k now := by unfold freeT; rw [h]
theorem free_none {l : List L} {a : Int} (h : firstT (goodT l) a = none) (k : List UInt8) (now : Int) : freeT l a k now = true := by unfold freeT; rw [h]; rfl
theorem freeO_eq (x : L) (k : List UInt8) (now : Int) : freeO (some x) k now = (!restsT x now && (decide (x.key = k) || !holdsT x now)) := by
  show (!(restsT x now || (holdsT x now && !decide (x.key = k)))) = _
  generalize restsT x now = r
  generalize holdsT x now = q
  generalize decide (x.key = k) = d
  cases r <;> cases q <;> cases d <;> rfl
theorem beq_key {a b : List UInt8} (h : a = b) : ((ba a).toList == (ba b).toList) = true := by rw [h]; exact beq_self_eq_true _
theorem bne_key {a b : List UInt8} (h : a ≠ b) : ((ba a).toList == (ba b).toList) = false := by rw [ba_list, ba_list]; exact beq_eq_false_iff_ne.2 h
set_option maxHeartbeats 2000000 in
theorem free_any (A : Option Addr) (n c U : Nat) (l : List L) (a : Int) (k : List UInt8) (now : Int) (w : World) (h : RdLs U w A n c l) (hU : U ≤ w.heap.size) (hk : ∀ a ∈ l, Fk a) :
    Calls Try.prog 24 #[.slice A n c, .int .i64 a, .string (ba k), .int .i64 now] w (isB (freeT l a k now) w) := by
  have HG := Lib.hid (get_any A n c U l a w h hU hk)
  clear h hU hk
  cases hf : firstT (goodT l) a with
  | none =>
    rw [get_hasn hf] at HG
    have H := Lib.hid (free_none hf k now)
    clear hf
    go_enter Try.func24, Try.ntmps24
    go_wp2_with fail
    refine HG.out.mono ?_
    rintro e w1 ⟨rfl, hb1⟩
    go_wp2
    go_ret
    exact ⟨ret_bool H.out.symm, hb1.trans (alloc_more _ _ |>.mono hb1.size)⟩
  | some x =>
    rw [get_has hf] at HG
    have H := Lib.hid ((free_some hf k now).trans (freeO_eq x k now))
    clear hf
    go_enter Try.func24, Try.ntmps24
    go_wp2_with fail
    refine HG.out.mono ?_
    rintro e w1 ⟨rfl, hb1⟩
    obtain ⟨w2, hw2⟩ : ∃ w2, w2 = w1.alloc (.cells (lcs x) 26) := ⟨_, rfl⟩
    have hc2 : Cel w2 w1.heap.size 26 (lcs x) := by rw [hw2]; exact Cel.born _ _ _
    have HB2 := Lib.hid (show Below w.heap.size w w2 by rw [hw2]; exact hb1.trans (alloc_more _ _ |>.mono hb1.size))
    obtain ⟨z0, z1, z2, z3⟩ := cel4L hc2
    have HC2 := Lib.hid hc2
    have HRS := Lib.hid (rests_any x now w2)
    clear hc2 hb1 HG
    cases hr : restsT x now with
    | true =>
      rw [hr] at HRS H
      have hun : undef = Value.tuple #[] := rfl
      clear hr
      go_wp2_with fail
      rw [← hw2]
      clear hw2
      refine HRS.out.mono ?_
      rintro e w3 ⟨rfl, hb3⟩
      go_wp2
      go_ret
      exact ⟨ret_bool H.out.symm, HB2.out.trans (hb3.mono HB2.out.size)⟩
    | false =>
      rw [hr] at HRS H
      clear hr
      by_cases hkey : x.key = k
      · have hkz := beq_key hkey
        have hd : decide (x.key = k) = true := decide_eq_true hkey
        rw [hd] at H
        have hun : undef = Value.tuple #[] := rfl
        clear hkey hd
        go_wp2_with fail
        rw [← hw2]
        clear hw2
        refine HRS.out.mono ?_
        rintro e w3 ⟨rfl, hb3⟩
        obtain ⟨y0, y1, y2, y3⟩ := cel4L (HC2.out.below hb3 HC2.out.lt)
        go_wp2
        go_ret
        exact ⟨ret_bool H.out.symm, HB2.out.trans (hb3.mono HB2.out.size)⟩
      · have hkz := bne_key hkey
        have hd : decide (x.key = k) = false := decide_eq_false hkey
        rw [hd] at H
        clear hkey hd
        go_wp2_with fail
        rw [← hw2]
        clear hw2
        refine HRS.out.mono ?_
        rintro e w3 ⟨rfl, hb3⟩
        obtain ⟨y0, y1, y2, y3⟩ := cel4L (HC2.out.below hb3 HC2.out.lt)
        have HHO := Lib.hid (holds_any x now w3)
        have HB3 := Lib.hid (HB2.out.trans (hb3.mono HB2.out.size))
        clear hb3
        go_wp2_with fail
        refine HHO.out.mono ?_
        rintro e w4 ⟨rfl, hb4⟩
        go_wp2
        go_ret
        exact ⟨ret_bool (by rw [H.out]; simp), HB3.out.trans (hb4.mono HB3.out.size)⟩
set_option maxHeartbeats 2000000 in
theorem refFree_any (A : Option Addr) (n c U : Nat) (l : List L) (a : Int) (k : List UInt8) (now : Int) (w : World) (h : RdLs U w A n c l) (hU : U ≤ w.heap.size) (hk : ∀ a ∈ l, Fk a) :
    Calls Try.prog 25 #[.slice A n c, .int .i64 a, .string (ba k), .int .i64 now] w (isB (freeT l a k now) w) := by
  have HG := Lib.hid (refGet_any A n c U l a w h hU hk)
  clear h hU hk
  have hun : undef = Value.tuple #[] := rfl
  cases hf : firstT (goodT l) a with
  | none =>
    rw [get_hasn hf] at HG
    have H := Lib.hid (free_none hf k now)
    clear hf
    go_enter Try.func25, Try.ntmps25
    go_wp2_with fail
    refine HG.out.mono ?_
    rintro e w1 ⟨rfl, hb1⟩
    go_wp2
    go_ret
    exact ⟨ret_bool H.out.symm, hb1.trans (alloc_more _ _ |>.mono hb1.size)⟩
  | some x =>
    rw [get_has hf] at HG
    have H := Lib.hid ((free_some hf k now).trans (free_doc ((good_right l).2.1 x (first_some hf).1) k now))
    clear hf
    by_cases h2 : x.state = 2
    · have hz2 : (x.state == 2) = true := by simpa using h2
      have HT : Hid (freeT l a k now = true) := by show _ = _; rw [H.out, if_pos (.inl h2)]
      clear h2 H
      go_enter Try.func25, Try.ntmps25
      go_wp2_with fail
      refine HG.out.mono ?_
      rintro e w1 ⟨rfl, hb1⟩
      go_wp2
      go_ret
      exact ⟨ret_bool HT.out.symm, hb1.trans (alloc_more _ _ |>.mono hb1.size)⟩
    · have hz2 : (x.state == 2) = false := by simpa using h2
      by_cases h3 : x.till ≤ now
      · have HT : Hid (freeT l a k now = true) := by show _ = _; rw [H.out, if_pos (.inr h3)]
        have hz3 : decide (x.till ≤ now) = true := decide_eq_true h3
        clear h2 H
        go_enter Try.func25, Try.ntmps25
        go_wp2_with fail
        refine HG.out.mono ?_
        rintro e w1 ⟨rfl, hb1⟩
        go_wp2
        go_ret
        exact ⟨ret_bool HT.out.symm, hb1.trans (alloc_more _ _ |>.mono hb1.size)⟩
      · have HT : Hid (freeT l a k now = (decide (x.state = 1) && decide (x.key = k))) := by show _ = _; rw [H.out, if_neg (by rintro (q | q); exact h2 q; exact h3 q)]
        have hz3 : decide (x.till ≤ now) = false := decide_eq_false h3
        have hz4 : ¬ x.till ≤ now := h3
        clear h2 H h3
        by_cases h1 : x.state = 1
        · have hz1 : (x.state == 1) = true := by simpa using h1
          have hd1 : decide (x.state = 1) = true := decide_eq_true h1
          rw [hd1] at HT
          clear hz2
          by_cases hkey : x.key = k
          · have hkz := beq_key hkey
            have hd : decide (x.key = k) = true := decide_eq_true hkey
            rw [hd] at HT
            clear hkey hd hd1
            go_enter Try.func25, Try.ntmps25
            go_wp2_with fail
            refine HG.out.mono ?_
            rintro e w1 ⟨rfl, hb1⟩
            go_wp2
            go_ret
            exact ⟨ret_bool HT.out.symm, hb1.trans (alloc_more _ _ |>.mono hb1.size)⟩
          · have hkz := bne_key hkey
            have hd : decide (x.key = k) = false := decide_eq_false hkey
            rw [hd] at HT
            clear hkey hd hd1
            go_enter Try.func25, Try.ntmps25
            go_wp2_with fail
            refine HG.out.mono ?_
            rintro e w1 ⟨rfl, hb1⟩
            go_wp2
            go_ret
            exact ⟨ret_bool HT.out.symm, hb1.trans (alloc_more _ _ |>.mono hb1.size)⟩
        · have hz1 : (x.state == 1) = false := by simpa using h1
          have hd1 : decide (x.state = 1) = false := decide_eq_false h1
          rw [hd1] at HT
          clear h1 hd1
          go_enter Try.func25, Try.ntmps25
          go_wp2_with fail
          refine HG.out.mono ?_
          rintro e w1 ⟨rfl, hb1⟩
          go_wp2
          go_ret
          exact ⟨ret_bool HT.out.symm, hb1.trans (alloc_more _ _ |>.mono hb1.size)⟩
end Go.Proofs.Ytniocdbapkkdhaa.Bw
