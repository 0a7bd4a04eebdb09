/- What the document's Join comes to. For lists of 100 options and 1000 bytes of an option at most. -/
import Derived.Test.YtibcpdimdjipjaaDoorTlRef3
namespace Go.Proofs.YtibcpdimdjipjaaDoor.Tw
open Go.RowKit Tl By

theorem joined_sizes {l : List O} {c : Int} {d : List UInt8} {N M K : Nat} (hl : l.length ≤ N) (hs : ∀ o ∈ l, o.2.length ≤ M) (hd : d.length ≤ K) : (joinedL l c d).length ≤ N + 1 ∧ ∀ o ∈ joinedL l c d, o.2.length ≤ M + K := by
  unfold joinedL
  constructor
  · rw [List.length_append, List.length_map]
    split <;> simp <;> omega
  · intro o ho
    rcases List.mem_append.1 ho with ho | ho
    · obtain ⟨p, hp, rfl⟩ := List.mem_map.1 ho
      have := hs p hp
      unfold joinO
      split
      · rw [List.length_append]; omega
      · omega
    · split at ho
      · cases ho
      · simp at ho; subst ho; show d.length ≤ _; omega
theorem joinAll_sizes0 {l m : List O} {N K : Nat} (hN : l.length ≤ N) (hl : ∀ o ∈ l, o.2.length ≤ K) (hm : ∀ o ∈ m, o.2.length ≤ K) : ∀ k, k ≤ m.length → (joinAll l (m.take k)).length ≤ N + k ∧ ∀ o ∈ joinAll l (m.take k), o.2.length ≤ K + k * K
  | 0, _ => by
    rw [List.take_zero, joinAll_nil, Nat.zero_mul]
    exact ⟨hN, hl⟩
  | k + 1, hk => by
    obtain ⟨h1, h2⟩ := joinAll_sizes0 hN hl hm k (by omega)
    have hlt : k < m.length := by omega
    rw [joinAll_next l m hlt]
    obtain ⟨g1, g2⟩ := joined_sizes (c := (m[k]).1) h1 h2 (hm _ (List.getElem_mem hlt))
    rw [Nat.add_mul, Nat.one_mul, ← Nat.add_assoc, ← Nat.add_assoc]
    exact ⟨g1, g2⟩
theorem joinAll_sizes {l m : List O} (hl : rightL l = true) (hm : rightL m = true) (k : Nat) (hk : k ≤ m.length) : (joinAll l (m.take k)).length ≤ 60 + k ∧ ∀ o ∈ joinAll l (m.take k), o.2.length ≤ 600 + k * 600 :=
  joinAll_sizes0 (right_len hl) (fun _ ho => (right_fit hl ho).2.2) (fun _ ho => (right_fit hm ho).2.2) k hk

/-- What Join's loop holds. -/
def StM (w : World) (l m : List O) (N : Nat) (v i : Value) (wr : World) : Prop :=
  ∃ k A n c rs, k ≤ N ∧ i = .int .i64 (k : Nat) ∧ v = .slice A n c ∧ RdO wr A n c rs ∧ osP rs = joinAll l (m.take k) ∧ Below w.heap.size w wr
set_option maxRecDepth 8000 in
set_option maxHeartbeats 4000000 in
theorem refJoin_any (A : Option Addr) (n c : Nat) (ps : List Po) (B : Option Addr) (m d : Nat) (qs : List Po) (w : World) (h : RdO w A n c ps) (g : RdO w B m d qs) :
    Calls Tryd.prog 19 #[.slice A n c, .slice B m d] w (RefR w (joinL (osP ps) (osP qs))) := by
  by_cases h1 : rightL (osP ps) = true
  rotate_left
  · have h1' : rightL (osP ps) = false := by simpa using h1
    have HJ : Hid (joinL (osP ps) (osP qs) = ([], 1)) := by
      show joinL _ _ = _
      unfold joinL
      rw [if_neg (fun k => h1 k.1)]
    have H1 := Lib.hid h1'
    clear h1 h1'
    go_enter Tryd.func19, Tryd.ntmps19
    go_wp2_with fail
    refine (refRight_any A n c ps _ h).mono ?_
    rw [H1.out]
    rintro e w1 ⟨rfl, rfl⟩
    go_wp2
    go_ret2
    exact RefR.err HJ.out (Below.refl _ _)
  by_cases h2 : rightL (osP qs) = true
  rotate_left
  · have h2' : rightL (osP qs) = false := by simpa using h2
    have HJ : Hid (joinL (osP ps) (osP qs) = ([], 1)) := by
      show joinL _ _ = _
      unfold joinL
      rw [if_neg (fun k => h2 k.2)]
    have H1 := Lib.hid h1
    have H2 := Lib.hid h2'
    clear h1 h2 h2'
    go_enter Tryd.func19, Tryd.ntmps19
    go_wp2_with fail
    refine (refRight_any A n c ps _ h).mono ?_
    rw [H1.out]
    rintro e w1 ⟨rfl, rfl⟩
    go_wp2_with fail
    refine (refRight_any B m d qs _ g).mono ?_
    rw [H2.out]
    rintro e w1 ⟨rfl, rfl⟩
    go_wp2
    go_ret2
    exact RefR.err HJ.out (Below.refl _ _)
  have HJ : Hid (joinL (osP ps) (osP qs) = if rightL (joinAll (osP ps) (osP qs)) = true then (joinAll (osP ps) (osP qs), 0) else ([], 3)) := by
    show joinL _ _ = _
    unfold joinL
    have hc : rightL (osP ps) = true ∧ rightL (osP qs) = true := ⟨h1, h2⟩
    rw [if_pos hc]
  have HZ := Lib.hid (joinAll_sizes h1 h2)
  have H1 := Lib.hid h1
  have H2 := Lib.hid h2
  have GL := Lib.hid g.len
  have hm60 := right_len h2
  rw [os_len, GL.out] at hm60
  have gcap := g.cap
  have gmax := g.max
  clear h1 h2
  go_enter Tryd.func19, Tryd.ntmps19
  go_wp2_with fail
  refine (refRight_any A n c ps _ h).mono ?_
  rw [H1.out]
  rintro e w1 ⟨rfl, rfl⟩
  go_wp2_with fail
  refine (refRight_any B m d qs _ g).mono ?_
  rw [H2.out]
  rintro e w1 ⟨rfl, rfl⟩
  go_wp2
  go_loopw [6, 7] (fun v i wr => StM w (osP ps) (osP qs) m v i wr) (fun _ i _ => m - (intOf i).toNat)
  case atStart => exact ⟨0, A, n, c, ps, by omega, rfl, rfl, h, rfl, Below.refl _ _⟩
  case round =>
    obtain ⟨k, A2, n2, c2, rs, hk, rfl, rfl, hrd, hrs, hb⟩ := hrel
    have HRS := Lib.hid hrs
    clear hrs
    have hsz := hb.size
    by_cases hlt : k < m
    · obtain ⟨b, o, co, A', u, c', l, rfl, hcell, hcell2, hbs, HP0, HO, HM, hmc, hc63, hblt⟩ := g.atU hb hlt
      have HN : Hid (joinAll (osP ps) ((osP qs).take (k + 1)) = joinedL (osP rs) co l) := by
        obtain ⟨g1, g2⟩ := HO.out
        have := joinAll_next (osP ps) (osP qs) g1
        rw [g2, ← HRS.out] at this
        exact this
      have hu : u ≤ 600 := by
        obtain ⟨g1, g2⟩ := HO.out
        have := (right_fit H2.out (List.getElem_mem g1)).2.2
        rw [g2] at this
        have e := HM.out
        subst e
        exact this
      have hz := HZ.out k (by rw [os_len, GL.out]; exact hk)
      rw [← HRS.out, os_len, hrd.len] at hz
      have HCL := Lib.hid (joined_any A2 n2 c2 rs co A' u c' l wr.drew hrd.drew hbs.bs.drew (by omega) (fun p hp => by have := hz.2 _ (os_mem hp); have h5 : p.l.length ≤ 600 + k * 600 := this; omega) (by omega))
      have hi1 : (0 : Int) ≤ (k : Int) := by omega
      have hi2 : (k : Int) < (m : Int) := by omega
      clear hz hrd hbs
      go_wp2_with fail
      go_still_tail 11, (by kernel_rfl)
      change wpList _ _ _ _ _ wr.drew
      go_wp2_with fail
      refine HCL.out.mono ?_
      rintro e w1 ⟨A3, n3, c3, ps3, rfl, hps3, hrd3, hb3⟩
      have hb4 := hb.trans ((below_undrew hb3).mono hsz)
      have HP3 := Lib.hid hps3
      clear hps3 hb3
      go_wp2
      go_roundw
      case rel => exact ⟨k + 1, A3, n3, c3, ps3, by omega, by go_num, rfl, hrd3, by rw [HP3.out, HN.out], hb4⟩
      case measure => simp [intOf]; omega
    · obtain rfl : k = m := by omega
      have e1 : (osP qs).take k = osP qs := List.take_of_length_le (by rw [os_len, GL.out]; exact Nat.le_refl _)
      have HE : Hid (osP rs = joinAll (osP ps) (osP qs)) := by
        have := HRS.out
        rw [e1] at this
        exact this
      clear e1
      by_cases hj : rightL (osP rs) = true
      · have HF : Hid (joinL (osP ps) (osP qs) = (osP rs, 0)) := by
          show joinL _ _ = _
          rw [HJ.out, ← HE.out, if_pos hj]
        have HJ2 := Lib.hid hj
        clear hj
        go_wp2_with fail
        refine (refRight_any _ _ _ _ _ hrd).mono ?_
        rw [HJ2.out]
        rintro e w' ⟨rfl, rfl⟩
        go_wp2
        go_ret2
        exact RefR.good HF.out hrd hb
      · have hj' : rightL (osP rs) = false := by simpa using hj
        have HF : Hid (joinL (osP ps) (osP qs) = ([], 3)) := by
          show joinL _ _ = _
          rw [HJ.out, ← HE.out, if_neg hj]
        have HJ2 := Lib.hid hj'
        clear hj hj'
        go_wp2_with fail
        refine (refRight_any _ _ _ _ _ hrd).mono ?_
        rw [HJ2.out]
        rintro e w' ⟨rfl, rfl⟩
        go_wp2
        go_ret2
        exact RefR.err HF.out hb
end Go.Proofs.YtibcpdimdjipjaaDoor.Tw
