/- What the program's readPart and Read come to. For all inputs. -/
import Derived.Test.YtabjcgchcnnjjaaGreatDoorTlAdd
import Derived.Test.YtabjcgchcnnjjaaGreatDoorTlWrite
namespace Go.Proofs.YtabjcgchcnnjjaaGreatDoor.Tw
open Go.RowKit Tl By

theorem readPart_few (A : Option Addr) (n c : Nat) (w : World) (hn : n < 2) :
    Calls Tryz.prog 119 #[.slice A n c] w fun e w' => e = .returned (.tuple #[.slice none 0 0, .int .i64 2]) ∧ w = w' := by
  go_enter Tryz.func119, Tryz.ntmps119
  go_wp2
  go_ret2
  exact ⟨rfl, rfl⟩
theorem readPart_short (U : Nat) (A : Option Addr) (n c : Nat) (x y : UInt8) (r : List UInt8) (w : World) (h : BsU U w A n c (x :: y :: r)) (hs : r.length < y.toNat) :
    Calls Tryz.prog 119 #[.slice A n c] w fun e w' => e = .returned (.tuple #[.slice none 0 0, .int .i64 2]) ∧ w = w' := by
  have hl := h.len
  have hcap := h.1.cap
  have hmax := h.1.max
  simp only [List.length_cons] at hl
  obtain ⟨D, hD, hrun⟩ := byP.cutU_l h 2 2 rfl (by omega)
  obtain ⟨b, o, rfl, hc⟩ := h.1.at_ (k := 0) (by omega)
  have hcell : w.cell? ⟨b, o + 1, none⟩ = some (.int .u8 (y.toNat : Int)) := hc 1 (by simp)
  have hy := y.toNat_lt
  have hlt : n - 2 < y.toNat := by omega
  have hn2 : 2 ≤ n := by omega
  generalize y.toNat = k at hcell hy hlt
  clear hl hs hc
  go_enter Tryz.func119, Tryz.ntmps119
  go_wp2
  go_ret2
  exact ⟨rfl, rfl⟩
/-- The bytes of the part at the beginning. -/
def PartOk (U : Nat) (w : World) (m : Nat) (d : List UInt8) (en : Ending) (w' : World) : Prop := ∃ A c, en = .returned (.tuple #[.slice A m c, .int .i64 0]) ∧ BsU U w A m c d ∧ w = w'
theorem readPart_ok (U : Nat) (A : Option Addr) (n c : Nat) (x y : UInt8) (r : List UInt8) (w : World) (h : BsU U w A n c (x :: y :: r)) (hs : y.toNat ≤ r.length) :
    Calls Tryz.prog 119 #[.slice A n c] w (PartOk U w y.toNat (r.take y.toNat)) := by
  have hl := h.len
  have hcap := h.1.cap
  have hmax := h.1.max
  simp only [List.length_cons] at hl
  obtain ⟨D, hD, hrun⟩ := byP.cutU_l h 2 2 rfl (by omega)
  obtain ⟨b, o, rfl, hc⟩ := h.1.at_ (k := 0) (by omega)
  have hcell : w.cell? ⟨b, o + 1, none⟩ = some (.int .u8 (y.toNat : Int)) := hc 1 (by simp)
  have hy := y.toNat_lt
  have hlt : y.toNat ≤ n - 2 := by omega
  have hn2 : 2 ≤ n := by omega
  have hD' : BsU U w D (n - 2) (c - 2) r := hD
  generalize y.toNat = k at hcell hy hlt
  obtain ⟨D2, hD2, hrun2⟩ := byP.cutU_h hD' k (k : Int) rfl hlt
  clear hl hs hc hD hD' h
  go_enter Tryz.func119, Tryz.ntmps119
  go_wp2
  go_ret2
  exact ⟨D2, c - 2, rfl, hD2, rfl⟩

/-- What Read answers. -/
def ReadR (w : World) (R : List O × Int) (en : Ending) (w' : World) : Prop :=
  ∃ A n c ps, en = .returned (.tuple #[.slice A n c, .int .i64 R.2]) ∧ osP ps = R.1 ∧ OwnO 46 5 w.heap.size w' A n c ps ∧ Below w.heap.size w w'
theorem ReadR.err {w w' : World} {R : List O × Int} {e : Int} (hR : R = ([], e)) (hb : Below w.heap.size w w') : ReadR w R (.returned (.tuple #[.slice none 0 0, .int .i64 e])) w' :=
  ⟨none, 0, 0, [], by rw [hR], by rw [hR]; rfl, OwnO.nil _ _ _ _, hb⟩
theorem ReadR.good {w w' : World} {R : List O × Int} {A : Option Addr} {n c : Nat} {ps : List Po} (hR : R = (osP ps, 0)) (ho : OwnO 46 5 w.heap.size w' A n c ps) (hb : Below w.heap.size w w') : ReadR w R (.returned (.tuple #[.slice A n c, .int .i64 0])) w' :=
  ⟨A, n, c, ps, by rw [hR], by rw [hR], ho, hb⟩
/-- What Read's loop holds. -/
def StR (w : World) (R : List O × Int) (v0 v4 : Value) (wr : World) : Prop :=
  ∃ A1 n1 c1 x A2 n2 c2 ps, v0 = .slice A1 n1 c1 ∧ v4 = .slice A2 n2 c2 ∧ BsU w.heap.size wr A1 n1 c1 x ∧ OwnO 46 5 w.heap.size wr A2 n2 c2 ps ∧ rightL (osP ps) = true ∧ readL (osP ps) x = R ∧ Below w.heap.size w wr

theorem ne_of_nat {y : UInt8} {k : UInt8} (h : y ≠ k) : y.toNat ≠ k.toNat := fun e => h (UInt8.toNat_inj.1 e)
set_option maxHeartbeats 4000000 in
theorem read_any (A : Option Addr) (n c : Nat) (l : List UInt8) (w : World) (h : Bs w A n c l) :
    Calls Tryz.prog 84 #[.slice A n c] w (ReadR w (readL [] l)) := by
  have h0 := h.upto
  clear h
  go_enter Tryz.func84, Tryz.ntmps84
  go_wp2
  go_loopw [0, 4] (fun v0 v4 wr => StR w (readL [] l) v0 v4 wr) (fun v0 _ _ => lenV v0)
  case atStart => exact ⟨A, n, c, l, none, 0, 0, [], rfl, rfl, h0, OwnO.nil _ _ _ _, rfl, rfl, Below.refl _ _⟩
  case round =>
    clear h0
    obtain ⟨A1, n1, c1, x, A2, n2, c2, ps, rfl, rfl, hbs, hown, hr, hR, hb⟩ := hrel
    have HR := Lib.hid hR
    have HRT := Lib.hid hr
    clear hR hr
    have hsz := hb.size
    have hcap := hbs.1.cap
    have hmax := hbs.1.max
    cases x with
    | nil =>
      obtain rfl : n1 = 0 := by have := hbs.len; simpa using this.symm
      have H : Hid (readL [] l = (osP ps, 0)) := HR.out.symm
      go_wp2
      go_ret2
      exact ReadR.good H.out hown hb
    | cons y t =>
      have hlen := hbs.len
      simp only [List.length_cons] at hlen
      have hpos : 0 < n1 := by omega
      obtain ⟨b, o, rfl, hc⟩ := hbs.1.at_ (k := 0) hpos
      have hcell : wr.cell? ⟨b, o, none⟩ = some (.int .u8 (y.toNat : Int)) := by have := hc 0 (by simp); simpa using this
      clear hc
      by_cases hy1 : y = 255
      · subst hy1
        have H : Hid (readL [] l = (osP ps, 0)) := by rw [← HR.out]; exact read_end _ _
        have hcell' : wr.cell? ⟨b, o, none⟩ = some (.int .u8 255) := hcell
        clear hcell hlen
        go_wp2
        go_ret2
        exact ReadR.good H.out hown hb
      by_cases hy0 : y = 0
      · subst hy0
        have hcell' : wr.cell? ⟨b, o, none⟩ = some (.int .u8 0) := hcell
        have H : Hid (readL (osP ps) t = readL [] l) := by rw [← HR.out, read_zero]; rfl
        obtain ⟨D, hD, hrun⟩ := byP.cutU_l hbs 1 1 rfl (by omega)
        clear hcell hlen
        go_wp2
        go_roundw
        case rel => exact ⟨D, n1 - 1, c1 - 1, t, A2, n2, c2, ps, rfl, rfl, hD, hown, HRT.out, H.out, hb⟩
        case measure => simp [lenV]; omega
      have hyl := y.toNat_lt
      have hn1 : ((y.toNat : Int) != 255) = true := by have := ne_of_nat hy1; simp at this; simp; omega
      have hn0 : ((y.toNat : Int) == 0) = false := by have := ne_of_nat hy0; simp at this; simp; omega
      have hc1 : 1 ≤ (y.toNat : Int) ∧ (y.toNat : Int) ≤ 254 := by
        have h1 := ne_of_nat hy1
        have h0 := ne_of_nat hy0
        simp at h1 h0
        omega
      obtain ⟨hc1, hc2⟩ := hc1
      cases t with
      | nil =>
        have H : Hid (readL [] l = ([], 2)) := by rw [← HR.out]; exact read_lone _ hy1 hy0
        simp only [List.length_nil] at hlen
        have hn2 : n1 < 2 := by omega
        clear hlen hy1 hy0
        generalize y.toNat = k at hcell hyl hn1 hn0 hc1 hc2
        go_wp2_with fail
        refine (readPart_few _ n1 c1 _ hn2).mono ?_
        rintro e w' ⟨rfl, rfl⟩
        go_wp2
        go_ret2
        exact ReadR.err H.out hb
      | cons z r =>
        simp only [List.length_cons] at hlen
        by_cases hsh : r.length < z.toNat
        · have H : Hid (readL [] l = ([], 2)) := by rw [← HR.out]; exact read_short _ hy1 hy0 hsh
          have HC := Lib.hid (readPart_short w.heap.size _ n1 c1 y z r wr hbs hsh)
          clear hlen hy1 hy0 hsh
          generalize y.toNat = k at hcell hyl hn1 hn0 hc1 hc2
          go_wp2_with fail
          refine HC.out.mono ?_
          rintro e w' ⟨rfl, rfl⟩
          go_wp2
          go_ret2
          exact ReadR.err H.out hb
        · have hle : z.toNat ≤ r.length := by omega
          have HP := Lib.hid (read_part (osP ps) (r := r) (n := z) hy1 hy0 hle)
          have HC := Lib.hid (readPart_ok w.heap.size _ n1 c1 y z r wr hbs hle)
          have hzl := z.toNat_lt
          obtain ⟨D, hD, hrun⟩ := byP.cutU_l hbs (2 + z.toNat) (2 + (z.toNat : Int)) (by omega) (by omega)
          have hD' : BsU w.heap.size wr D (n1 - (2 + z.toNat)) (c1 - (2 + z.toNat)) (r.drop z.toNat) := by
            have e1 : (y :: z :: r).drop (2 + z.toNat) = r.drop z.toNat := by
              rw [Nat.add_comm]
              rfl
            rw [e1] at hD
            exact hD
          have HD := Lib.hid hD'
          have hm2 : 2 + z.toNat ≤ n1 := by omega
          clear hlen hy1 hy0 hsh hle hD hD'
          generalize z.toNat = m at HP HC hzl HD hm2 hrun
          generalize y.toNat = k at hcell hyl hn1 hn0 hc1 hc2 HP
          by_cases hj : rightL (joinedL (osP ps) (k : Int) (r.take m)) = true
          · have H : Hid (readL (joinedL (osP ps) (k : Int) (r.take m)) (r.drop m) = readL [] l) := by
              rw [← HR.out, HP.out, if_pos hj]
              rfl
            have HJ := Lib.hid hj
            clear hj
            go_wp2_with fail
            refine HC.out.mono ?_
            rintro e w' ⟨A3, c3, rfl, hd3, rfl⟩
            go_wp2_with fail
            refine (add_yes w.heap.size A2 n2 c2 ps k A3 m c3 (r.take m) _ hsz hown HRT.out hd3 HJ.out).mono ?_
            rintro e w2 ⟨A4, n4, c4, ps4, rfl, hps4, hown4, hb4⟩
            have HPS := Lib.hid hps4
            clear hps4
            have hlen4 : m ≤ c3 := hd3.1.cap
            have hlen5 : c3 ≤ 9223372036854775807 := hd3.1.max
            go_wp2
            go_roundw
            case rel =>
              exact ⟨D, n1 - (2 + m), c1 - (2 + m), r.drop m, A4, n4, c4, ps4, rfl, rfl, HD.out.below hb4, hown4, by rw [HPS.out]; exact HJ.out, by rw [HPS.out]; exact H.out, hb.trans hb4⟩
            case measure => simp [lenV]; omega
          · have hj' : rightL (joinedL (osP ps) (k : Int) (r.take m)) = false := by simpa using hj
            have H : Hid (readL [] l = ([], 3)) := by
              rw [← HR.out, HP.out, if_neg hj]
              rfl
            have HJ := Lib.hid hj'
            clear hj hj'
            go_wp2_with fail
            refine HC.out.mono ?_
            rintro e w' ⟨A3, c3, rfl, hd3, rfl⟩
            go_wp2_with fail
            refine (add_no w.heap.size A2 n2 c2 ps k A3 m c3 (r.take m) _ hsz hown HRT.out hd3 hc1 hc2 (by omega) HJ.out).mono ?_
            rintro e w2 ⟨rfl, hb4⟩
            go_wp2
            go_ret2
            exact ReadR.err H.out (hb.trans hb4)
end Go.Proofs.YtabjcgchcnnjjaaGreatDoor.Tw
