/- What record's Write and the document's Write come to. For all leases whose keys fit (the document's own: of right ones). -/
import Derived.Test.YtoifdjpflannlaaEwRight
import Derived.Test.YtoifdjpflannlaaCoCat
import Derived.Test.YtoifdjpflannlaaCoPut
set_option maxRecDepth 8000
namespace Go.Proofs.Ytoifdjpflannlaa.Ew
open Go.RowKit Co By Ky Rc
open Dw (ba ba_size ba_data ba_list)

/-- '[]byte(s)': a new row. -/
theorem conv_bs (k : List UInt8) (w : World) (hk : k.length ≤ 9223372036854775807) : ∃ c w', (convert 9 35 (.string (ba k))).run Try.prog w = .ok (.slice (some ⟨w.heap.size, 0, none⟩) k.length c) w' ∧ Below w.heap.size w w' ∧ w.heap.size < w'.heap.size ∧
    Bs w' (some ⟨w.heap.size, 0, none⟩) k.length c k := by
  have hz : (ba k).size = k.length := ba_size k
  refine ⟨_, _, run_bytes_of_string w _ _ _ (ba k) Try.underlying9 Try.underlying35 Try.underlying5, ?_, ?_, rfl, ?_, ?_, fun _ => ⟨w.heap.size, 0, rfl, fun i hi => ?_⟩⟩
  · exact ((Below.refl _ _).drew).alloc (Nat.le_refl _) _
  · simp
  · have := grownCap_ge w (ba k).size 0 5
    omega
  · exact grownCap_le_maxLen w _ 0 _ (by unfold maxLen; omega)
  · rw [Nat.zero_add]
    show (World.alloc w.drew _).cell? ⟨w.drew.heap.size, i, none⟩ = _
    rw [World.cell?_alloc_mark, bytesRow_at (ba k) _ i (by show i < k.toArray.size; simpa using hi)]
    rfl
theorem parts4 {w : World} {A1 A2 A3 A4 : Option Addr} {n1 n2 n3 n4 c1 c2 c3 c4 : Nat} {l1 l2 l3 l4 : List UInt8} {t : Nat} (h1 : Bs w A1 n1 c1 l1) (h2 : Bs w A2 n2 c2 l2) (h3 : Bs w A3 n3 c3 l3) (h4 : Bs w A4 n4 c4 l4) :
    Cw.PartsAt (w.alloc (.cells #[.slice A1 n1 c1, .slice A2 n2 c2, .slice A3 n3 c3, .slice A4 n4 c4] t)) w.heap.size 0 [⟨A1, c1, l1⟩, ⟨A2, c2, l2⟩, ⟨A3, c3, l3⟩, ⟨A4, c4, l4⟩] := by
  obtain rfl := h1.len
  obtain rfl := h2.len
  obtain rfl := h3.len
  obtain rfl := h4.len
  intro i hi
  match i, hi with
  | 0, _ => exact ⟨World.cell?_alloc_mark w _ t (0, 0) 0, h1.alloc _⟩
  | 1, _ => exact ⟨World.cell?_alloc_mark w _ t (0, 0) 1, h2.alloc _⟩
  | 2, _ => exact ⟨World.cell?_alloc_mark w _ t (0, 0) 2, h3.alloc _⟩
  | 3, _ => exact ⟨World.cell?_alloc_mark w _ t (0, 0) 3, h4.alloc _⟩
/-- What a call of Write answers. -/
def WrR (w : World) (p : List UInt8 × Int) (e : Ending) (w' : World) : Prop := ∃ A n c, e = .returned (.tuple #[.slice A n c, .int .i64 p.2]) ∧ Own 5 w.heap.size w' A n c p.1 ∧ Below w.heap.size w w'
theorem cel4 {w : World} {g : Nat} {t : TypeId} {a b c d : Value} (h : Cel w g t #[a, b, c, d]) : w.cell? ⟨g, 0, none⟩ = some a ∧ w.cell? ⟨g, 1, none⟩ = some b ∧ w.cell? ⟨g, 2, none⟩ = some c ∧ w.cell? ⟨g, 3, none⟩ = some d := ⟨by rw [h.cell]; rfl, by rw [h.cell]; rfl, by rw [h.cell]; rfl, by rw [h.cell]; rfl⟩
theorem write_no (l : L) (w : World) (hk : Fk l) (hr : ¬ RightR l) :
    Calls Try.prog 19 #[lv l] w fun e w' => e = .returned (.tuple #[.slice none 0 0, .int .i64 1]) ∧ Below w.heap.size w w' := by
  have HR := Lib.hid (fun W => right_any l W hk)
  rw [show rightR l = false from decide_eq_false hr] at HR
  have hb0 : ∀ x, Below w.heap.size w (w.alloc x) := fun x => (Below.refl _ _).alloc (Nat.le_refl _) _
  clear hr
  go_enter Try.func19, Try.ntmps19
  go_wp2_with fail
  refine (HR.out _).mono ?_
  rintro e w1 ⟨rfl, hb1⟩
  have hb2 := (hb0 _).trans (hb1.mono (hb0 (.cells (lcs l) 47)).size)
  go_wp2
  go_ret2
  exact ⟨rfl, hb2⟩
set_option maxHeartbeats 2000000 in
theorem write_nat (a s t : Nat) (k : List UInt8) (w : World) (ha : a ≤ 4294967295) (hs : s ≤ 3) (ht : t ≤ 1125899906842624) (hk : k.length ≤ 256) (hr : rightR ⟨a, s, t, k⟩ = true) :
    Calls Try.prog 19 #[lv ⟨a, s, t, k⟩] w (RB 5 w (12 + k.length) (putL a 4 ++ putL s 1 ++ putL t 7 ++ k) fun x => .tuple #[x, .int .i64 0]) := by
  have HR := Lib.hid (fun W => right_any ⟨a, s, t, k⟩ W (show k.length ≤ _ by omega))
  rw [hr] at HR
  obtain ⟨w0, hw0⟩ : ∃ w0, w0 = w.alloc (.cells (lcs ⟨a, s, t, k⟩) 47) := ⟨_, rfl⟩
  have hb0 : Below w.heap.size w w0 := by rw [hw0]; exact (Below.refl _ _).alloc (Nat.le_refl _) _
  have HC0 := Lib.hid (show Cel w0 w.heap.size 47 (lcs ⟨a, s, t, k⟩) by rw [hw0]; exact Cel.born _ _ _)
  have HB0 := Lib.hid hb0
  clear hr hb0
  go_enter Try.func19, Try.ntmps19
  go_wp2_with fail
  rw [← hw0]
  clear hw0
  refine (HR.out _).mono ?_
  rintro e w1 ⟨rfl, hb1⟩
  have HB1 := Lib.hid (HB0.out.trans (hb1.mono HB0.out.size))
  have HC1 := Lib.hid (HC0.out.below hb1 HC0.out.lt)
  clear hb1 HC0 HB0
  obtain ⟨q0, q1, q2, q3⟩ := cel4 HC1.out
  go_wp2_with fail
  refine (Cw.put_ok a 4 _ (by omega) (by omega) (by show _ < 4294967296; omega)).mono ?_
  rintro e w2 ⟨A2, c2, rfl, hown2, hb2⟩
  have HB2 := Lib.hid (HB1.out.trans (hb2.mono HB1.out.size))
  have HC2 := Lib.hid (HC1.out.below hb2 HC1.out.lt)
  clear hb2 HC1 HB1 q0 q1 q2 q3
  obtain ⟨q0, q1, q2, q3⟩ := cel4 HC2.out
  have HO2 := Lib.hid hown2
  clear hown2
  go_wp2_with fail
  refine (Cw.put_ok s 1 _ (by omega) (by omega) (by show _ < 256; omega)).mono ?_
  rintro e w3 ⟨A3, c3, rfl, hown3, hb3⟩
  have HB3 := Lib.hid (HB2.out.trans (hb3.mono HB2.out.size))
  have HC3 := Lib.hid (HC2.out.below hb3 HC2.out.lt)
  have HO2' := Lib.hid (HO2.out.below hb3)
  clear hb3 HC2 HB2 q0 q1 q2 q3 HO2
  obtain ⟨q0, q1, q2, q3⟩ := cel4 HC3.out
  have HO3 := Lib.hid hown3
  clear hown3
  go_wp2_with fail
  refine (Cw.put_ok t 7 _ (by omega) (by omega) (by show _ < 72057594037927936; omega)).mono ?_
  rintro e w4 ⟨A4, c4, rfl, hown4, hb4⟩
  have HB4 := Lib.hid (HB3.out.trans (hb4.mono HB3.out.size))
  have HC4 := Lib.hid (HC3.out.below hb4 HC3.out.lt)
  have HO2 := Lib.hid (HO2'.out.below hb4)
  have HO3' := Lib.hid (HO3.out.below hb4)
  clear hb4 HC3 HB3 q0 q1 q2 q3 HO2' HO3
  obtain ⟨q0, q1, q2, q3⟩ := cel4 HC4.out
  obtain ⟨c5, w5, hcv, hb5, _, hbs5⟩ := conv_bs k w4 (by omega)
  have hP := parts4 (t := 35) ((HO2.out.below hb5).bs) ((HO3'.out.below hb5).bs) ((hown4.below hb5).bs) hbs5
  have hlen : Cw.totL [⟨A2, c2, putL a 4⟩, ⟨A3, c3, putL s 1⟩, ⟨A4, c4, putL t 7⟩, ⟨some ⟨w4.heap.size, 0, none⟩, c5, k⟩] = 12 + k.length := by
    simp [Cw.totL, putL_length]
    omega
  have hcat : Cw.catL [⟨A2, c2, putL a 4⟩, ⟨A3, c3, putL s 1⟩, ⟨A4, c4, putL t 7⟩, ⟨some ⟨w4.heap.size, 0, none⟩, c5, k⟩] = putL a 4 ++ putL s 1 ++ putL t 7 ++ k := by
    simp [Cw.catL]
  have hcc := Cw.concat_any w5.heap.size 0 4 4 _ _ hP rfl (by omega) (by omega) (by rw [hlen]; omega)
  rw [hlen, hcat] at hcc
  have HCC := Lib.hid hcc
  have HB5 := Lib.hid (HB4.out.trans (hb5.mono HB4.out.size))
  clear hcc hP hlen hcat hbs5 hb5 hown4 HO2 HO3' HC4
  go_wp2_with fail
  refine HCC.out.mono ?_
  rintro e w6 ⟨A6, c6, rfl, hown6, hb6⟩
  have hba : Below w.heap.size w (w5.alloc (Obj.cells #[.slice A2 4 c2, .slice A3 1 c3, .slice A4 7 c4, .slice (some ⟨w4.heap.size, 0, none⟩) k.length c5] 35)) := HB5.out.alloc HB5.out.size _
  clear q0 q1 q2 q3 hcv
  go_wp2
  go_ret2
  exact ⟨A6, c6, rfl, hown6.mono hba.size, hba.trans (hb6.mono hba.size)⟩
theorem enc_nat (a s t : Nat) (k : List UInt8) : encR ⟨a, s, t, k⟩ = putL a 4 ++ putL s 1 ++ putL t 7 ++ k := by
  unfold encR
  show putL ((a : Int).toNat) 4 ++ (UInt8.ofNat ((s : Int).toNat) :: (putL ((t : Int).toNat) 7 ++ k)) = _
  have e : putL s 1 = [UInt8.ofNat s] := by
    show [] ++ [byteV s] = _
    rw [List.nil_append]
    congr 1
    exact UInt8.toNat_inj.1 (by rw [byteV_toNat, UInt8.toNat_ofNat'])
  rw [Int.toNat_natCast, Int.toNat_natCast, Int.toNat_natCast, e, List.append_assoc, List.append_assoc]
  rfl
theorem right_nat {l : L} (h : RightR l) : ∃ a s t : Nat, l = ⟨a, s, t, l.key⟩ ∧ a ≤ 4294967295 ∧ 1 ≤ s ∧ s ≤ 3 ∧ t ≤ 1125899906842624 ∧ l.key.length ≤ 256 := by
  obtain ⟨⟨a0, a1⟩, ⟨s0, s1⟩, ⟨t0, t1⟩, hk⟩ := h
  obtain ⟨a, s, t, k⟩ := l
  simp only at *
  obtain ⟨a, rfl⟩ := Int.eq_ofNat_of_zero_le a0
  obtain ⟨s, rfl⟩ := Int.eq_ofNat_of_zero_le (show 0 ≤ s by omega)
  obtain ⟨t, rfl⟩ := Int.eq_ofNat_of_zero_le t0
  exact ⟨a, s, t, rfl, by omega, by omega, by omega, by omega, (text_len hk).2.2⟩
theorem write_any (l : L) (w : World) (hk : Fk l) : Calls Try.prog 19 #[lv l] w (WrR w (writeR l)) := by
  by_cases hr : RightR l
  · rw [show writeR l = (encR l, 0) from if_pos hr]
    obtain ⟨a, s, t, e, h1, _, h3, h4, h5⟩ := right_nat hr
    have he := enc_nat a s t l.key
    rw [← e] at he
    have hd : rightR ⟨a, s, t, l.key⟩ = true := by rw [← e]; exact decide_eq_true hr
    have := write_nat a s t l.key w h1 h3 h4 h5 hd
    rw [← e, ← he] at this
    refine this.mono ?_
    rintro e w1 ⟨A, c, rfl, ho, hb⟩
    exact ⟨A, _, c, rfl, ho, hb⟩
  · rw [show writeR l = ([], 1) from if_neg hr]
    refine (write_no l w hk hr).mono ?_
    rintro e w1 ⟨rfl, hb⟩
    exact ⟨none, 0, 0, rfl, Own.nil _ _ _, hb⟩
end Go.Proofs.Ytoifdjpflannlaa.Ew
