/- What opts.Keep and opts.Set come to, and the document's own Keep and Fair. For lists of up to 1000 options with 1000 bytes at most. -/
import Derived.Test.YtmefnlgoejbgfaaOwKeep
set_option maxRecDepth 8000
namespace Go.Proofs.Ytmefnlgoejbgfaa.Ow
open Go.RowKit Tl Ms Co By

theorem OwnF.mono {B B' : Nat} {w : World} {A : Option Addr} {n c : Nat} {ps : List Po} (h : OwnF B w A n c ps) (hB : B' ≤ B) : OwnF B' w A n c ps := ⟨h.1.mono hB, fun p hp => (h.2 p hp).mono hB⟩
theorem fair_iff (c : Int) (b : List UInt8) : fairO c b = true ↔ 1 ≤ c ∧ c ≤ 254 ∧ b.length ≤ 600 := by simp [fairO]
theorem fair_no {c : Int} {b : List UInt8} (h : ¬ (1 ≤ c ∧ c ≤ 254 ∧ b.length ≤ 600)) : fairO c b = false := by
  cases hf : fairO c b with
  | false => rfl
  | true => exact absurd ((fair_iff c b).1 hf) h

theorem keep_no (A : Option Addr) (n c : Nat) (code : Int) (D : Option Addr) (m dc : Nat) (b : List UInt8) (w : World) (hd : Bs w D m dc b) (hf : ¬ fairO code b = true) :
    Calls Try.prog 26 #[.slice A n c, .int .i64 code, .slice D m dc] w fun e w' => e = .returned (.tuple #[.slice none 0 0, .int .i64 1]) ∧ Below w.heap.size w w' := by
  have HF := Lib.hid hf
  have HM := Lib.hid hd.len
  have hcap := hd.cap
  have hmax := hd.max
  have hb0 : Below w.heap.size w (w.alloc (.cells #[.int .i64 code] 3)) := (Below.refl _ _).alloc (Nat.le_refl _) _
  clear hf hd
  by_cases h1 : code < 1
  · go_enter Try.func26, Try.ntmps26
    go_wp2
    go_ret2
    exact ⟨rfl, hb0⟩
  by_cases h2 : 254 < code
  · go_enter Try.func26, Try.ntmps26
    go_wp2
    go_ret2
    exact ⟨rfl, hb0⟩
  have h3 : (600 : Int) < (m : Int) := by
    have e1 := HF.out
    have e2 := HM.out
    rw [fair_iff] at e1
    omega
  clear HF HM
  go_enter Try.func26, Try.ntmps26
  go_wp2
  go_ret2
  exact ⟨rfl, hb0⟩

set_option maxHeartbeats 2000000 in
theorem keep_yes (A : Option Addr) (n c : Nat) (ps : List Po) (code : Int) (D : Option Addr) (m dc : Nat) (b : List UInt8) (w : World) (h : RdO w A n c ps) (hn : n ≤ 1000) (hsm : ∀ p ∈ ps, p.l.length ≤ 1000) (hd : Bs w D m dc b) (hf : fairO code b = true) :
    Calls Try.prog 26 #[.slice A n c, .int .i64 code, .slice D m dc] w (KpR w (keepL (osP ps) code b) fun v => .tuple #[v, .int .i64 0]) := by
  have hl := Lib.hid h.len
  have HSM := Lib.hid hsm
  obtain ⟨f1, f2, f3⟩ := (fair_iff code b).1 hf
  obtain rfl : m = b.length := hd.len.symm
  have hcap := hd.cap
  have hmax := hd.max
  have hm3 : ((b.length : Nat) : Int) ≤ 600 := by omega
  have hfl : (keepP ps code).length ≤ n := by
    have := List.length_filter_le (fun p : Po => !(p.code == code)) ps
    have e := hl.out
    unfold keepP
    omega
  obtain ⟨w0, hw0⟩ : ∃ w0, w0 = w.alloc (.cells #[.int .i64 code] 3) := ⟨_, rfl⟩
  have hb0 : Below w.heap.size w w0 := by rw [hw0]; exact (Below.refl _ _).alloc (Nat.le_refl _) _
  have hc0 : Cel w0 w.heap.size 3 #[.int .i64 code] := by rw [hw0]; exact Cel.born w _ _
  have hlt0 : w.heap.size < w0.heap.size := hc0.lt
  have HCL := Lib.hid (cloneO_any A n c ps w0 (h.below hb0) hn)
  have H := Lib.hid h
  have HD := Lib.hid hd
  clear h hd hsm hf f3
  go_enter Try.func26, Try.ntmps26
  go_wp2_with fail
  rw [← hw0]
  clear hw0
  refine HCL.out.mono ?_
  rintro e w1 ⟨A1, k1, c1, rfl, hown1, hb1⟩
  obtain rfl : k1 = n := by rw [← hown1.len]; exact hl.out
  have hb01 := hb0.trans (hb1.mono hb0.size)
  have hrd1 : RdO w1 A1 k1 c1 ps := ⟨hown1.rdc, fun p hp => (H.out.2 p hp).below hb01⟩
  have r1 : w1.cell? ⟨w.heap.size, 0, none⟩ = some (.int .i64 code) := by rw [(hc0.below hb1 hlt0).cell]; rfl
  have HDE := Lib.hid (delete_any w0.heap.size A1 k1 c1 ps code w.heap.size w1 hb1.size hown1 hrd1 hn hlt0 r1)
  clear hown1 hrd1 r1 HCL
  go_wp2_with fail
  refine HDE.out.mono ?_
  rintro e w2 ⟨A2, k2, c2, rfl, hown2, hb2⟩
  have hk2 : k2 ≤ 1000 := by have := hown2.len; omega
  have hb12 := hb1.trans hb2
  have hb02 := hb0.trans (hb12.mono hb0.size)
  have r2 : w2.cell? ⟨w.heap.size, 0, none⟩ = some (.int .i64 code) := by rw [(hc0.below hb12 hlt0).cell]; rfl
  have hba : Below w2.heap.size w2 (w2.alloc (.cells #[.int .i64 code, .slice D b.length dc] 41)) := (Below.refl _ _).alloc (Nat.le_refl _) _
  have hlit := (OwnC.lit1 41 w2 ⟨code, D, dc, b⟩).rdc
  have HO2 := Lib.hid (hown2.below hba)
  have hsz2 : w0.heap.size ≤ (w2.alloc (.cells #[.int .i64 code, .slice D b.length dc] 41)).heap.size := Nat.le_trans hb12.size hba.size
  clear hown2 HDE hb1 hb2
  go_wp2_with (at_builtin; refine wpList_appO Tw.opP rfl (.tmp 24) (.tmp 28) rfl rfl HO2.out rfl hlit (by omega) hsz2 ?_; intro A3 c3 w3 hown3 hb3 _)
  have hb03 := (hb02.trans (hba.mono hb02.size)).trans (hb3.mono hb0.size)
  have hrd3 : RdO w3 A3 (k2 + 1) c3 (keepP ps code ++ [⟨code, D, dc, b⟩]) := ⟨hown3.rdc, fun p hp => by
    rcases List.mem_append.1 hp with hp | hp
    · exact (H.out.2 p (keepP_mem hp)).below hb03
    · simp at hp
      subst hp
      exact HD.out.below hb03⟩
  have HEA := Lib.hid (each_opts A3 (k2 + 1) c3 _ w3 hrd3 (by omega) (fun p hp => by
    rcases List.mem_append.1 hp with hp | hp
    · exact HSM.out p (keepP_mem hp)
    · simp at hp
      subst hp
      show b.length ≤ 1000
      omega))
  have HK : Hid (osP (keepP ps code ++ [⟨code, D, dc, b⟩]) = keepL (osP ps) code b) := by
    show osP (keepP ps code ++ [⟨code, D, dc, b⟩]) = _
    rw [os_app, keepP_os]
    rfl
  clear hown3 hrd3 hlit HO2
  go_wp2_with fail
  refine HEA.out.mono ?_
  rw [HK.out]
  rintro e w4 ⟨A4, m4, c4, qs, rfl, hqs, hown4, hb4⟩
  go_wp2
  go_ret2
  exact ⟨A4, m4, c4, qs, rfl, hqs, hown4.mono hb03.size, hb03.trans (hb4.mono hb03.size)⟩

/-! ### Set -/
def setL (l : List O) (c : Int) (v n : Int) : List O := keepL l c (putL v.toNat n.toNat)
theorem fairB_iff (v n : Int) : Cw.fairB v n = true ↔ 1 ≤ n ∧ n ≤ 7 ∧ 0 ≤ v ∧ v < ((p256 n.toNat : Nat) : Int) := by simp [Cw.fairB]
theorem put_fair (v n : Int) (h : Cw.fairB v n = true) (c : Int) : fairO c (putL v.toNat n.toNat) = fairO c [] := by
  obtain ⟨h1, h2, _⟩ := (fairB_iff v n).1 h
  unfold fairO
  rw [putL_length]
  congr 2
  simp
  omega
theorem set_no (A : Option Addr) (n c : Nat) (code v k : Int) (w : World) (hf : ¬ (Cw.fairB v k = true ∧ fairO code [] = true)) :
    Calls Try.prog 18 #[.slice A n c, .int .i64 code, .int .i64 v, .int .i64 k] w fun e w' => e = .returned (.tuple #[.slice none 0 0, .int .i64 1]) ∧ Below w.heap.size w w' := by
  by_cases hb : Cw.fairB v k = true
  · have hno : ¬ fairO code [] = true := fun e => hf ⟨hb, e⟩
    have HN : Hid (¬ fairO code (putL v.toNat k.toNat) = true) := by rw [put_fair v k hb]; exact hno
    obtain ⟨h1, h2, h3, h4⟩ := (fairB_iff v k).1 hb
    obtain ⟨v', rfl⟩ := Int.eq_ofNat_of_zero_le h3
    obtain ⟨k', rfl⟩ := Int.eq_ofNat_of_zero_le (show 0 ≤ k by omega)
    simp only [Int.toNat_natCast] at HN h4
    have HP := Lib.hid (Cw.put_ok v' k' w (by omega) (by omega) (by omega))
    clear hf hb hno h4 h3
    go_enter Try.func18, Try.ntmps18
    go_wp2_with fail
    refine HP.out.mono ?_
    rintro e w1 ⟨A1, c1, rfl, hown1, hb1⟩
    have HK := Lib.hid (keep_no A n c code A1 k' c1 _ w1 hown1.bs HN.out)
    clear hown1
    go_wp2_with fail
    refine HK.out.mono ?_
    rintro e w2 ⟨rfl, hb2⟩
    go_wp2
    go_ret2
    exact ⟨rfl, hb1.trans (hb2.mono hb1.size)⟩
  · have HP := Lib.hid (Cw.put_no v k w hb)
    clear hf hb
    go_enter Try.func18, Try.ntmps18
    go_wp2_with fail
    refine HP.out.mono ?_
    rintro e w1 ⟨rfl, rfl⟩
    go_wp2
    go_ret2
    exact ⟨rfl, Below.refl _ _⟩
theorem set_yes (A : Option Addr) (n c : Nat) (ps : List Po) (code v k : Int) (w : World) (h : RdO w A n c ps) (hn : n ≤ 1000) (hsm : ∀ p ∈ ps, p.l.length ≤ 1000) (hb : Cw.fairB v k = true) (hf : fairO code [] = true) :
    Calls Try.prog 18 #[.slice A n c, .int .i64 code, .int .i64 v, .int .i64 k] w (KpR w (setL (osP ps) code v k) fun x => .tuple #[x, .int .i64 0]) := by
  have HN : Hid (fairO code (putL v.toNat k.toNat) = true) := by rw [put_fair v k hb]; exact hf
  have HSM := Lib.hid hsm
  have H := Lib.hid h
  obtain ⟨h1, h2, h3, h4⟩ := (fairB_iff v k).1 hb
  obtain ⟨v', rfl⟩ := Int.eq_ofNat_of_zero_le h3
  obtain ⟨k', rfl⟩ := Int.eq_ofNat_of_zero_le (show 0 ≤ k by omega)
  simp only [Int.toNat_natCast] at HN h4
  have HP := Lib.hid (Cw.put_ok v' k' w (by omega) (by omega) (by omega))
  clear hf hb h4 h3 hsm h
  go_enter Try.func18, Try.ntmps18
  go_wp2_with fail
  refine HP.out.mono ?_
  rintro e w1 ⟨A1, c1, rfl, hown1, hb1⟩
  have HK := Lib.hid (keep_yes A n c ps code A1 k' c1 _ w1 (H.out.below hb1) hn HSM.out hown1.bs HN.out)
  clear hown1
  go_wp2_with fail
  refine HK.out.mono ?_
  rintro e w2 ⟨A2, m2, c2, qs, rfl, hqs, hown2, hb2⟩
  go_wp2
  go_ret2
  exact ⟨A2, m2, c2, qs, rfl, hqs, hown2.mono hb1.size, hb1.trans (hb2.mono hb1.size)⟩

/-! ### The document's -/
def StR (ps : List Po) (code : Int) (n : Nat) (w : World) (v i : Value) (wr : World) : Prop :=
  ∃ (k n1 : Nat) (A1 : Option Addr) (c1 : Nat), k ≤ n ∧ i = .int .i64 k ∧ v = .slice A1 n1 c1 ∧ n1 ≤ k ∧ OwnC 41 w.heap.size wr A1 n1 c1 (keepP (ps.take k) code) ∧ Below w.heap.size w wr
def RkR (w : World) (l : List O) (e : Ending) (w' : World) : Prop := ∃ A' m c' qs, e = .returned (.slice A' m c') ∧ osP qs = l ∧ RdO w' A' m c' qs ∧ Below w.heap.size w w'
end Go.Proofs.Ytmefnlgoejbgfaa.Ow
