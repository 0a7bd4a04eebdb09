/- msg.decode, Read and Write, by contract. Condition: what msg's package-level variables hold (En.ok). -/
import Derived.Test.YtabjcgchcnnjjaaGreatDoorMwDec
import Derived.Test.YtabjcgchcnnjjaaGreatDoorMwEnc
import Derived.Test.YtabjcgchcnnjjaaGreatDoorMwA
import Derived.Deep.RegionWith
set_option maxRecDepth 8000
namespace Go.Proofs.YtabjcgchcnnjjaaGreatDoor.Mw
open Go.RowKit Tl Ms Co By

theorem ret_cell {fn : Func} {p u : Tmp} (hres : fn.results = #[.cell p 28, .tmp u]) (tmps : Array Value) (w : World) (g : Nat) (cs : Array Value) (hp : tmps.getD p undef = .pointer (some ⟨g, 0, none⟩)) (hc : Cel w g 28 cs) (hs : cs.size = 13) :
    (results fn tmps).run Tryz.prog w = .ok (.tuple #[.agg cs, tmps.getD u undef]) w := by
  rw [results_cell_tmp hres, hp]
  have := run_loadVar_row (P := Tryz.prog) w g 28 28 cs (0, 0) _ hc Tryz.underlying28 rfl (by rw [hs]; kernel_rfl)
  simp [asAddr, this]
/-- The message's bytes and options lie in blocks from B on. -/
def Mv.fr (B : Nat) (x : Mv) : Prop := (0 < x.n → ∀ a, x.A = some a → B ≤ a.block) ∧ Fr B x.B x.m x.ps
theorem ok_move {w w' : World} {B : Nat} {x : Mv} (h : x.ok w) (hf : Mv.fr B x) (hk : ∀ b, B ≤ b → b < w.heap.size → w'.heap[b]? = w.heap[b]?) : x.ok w' := ⟨bs_move h.ch hf.1 hk, rd_move h.os hf.2 hk⟩
/-- A message or an error, as decode answers them. -/
def DecR (E : En) (w : World) (R : M × Int) (e : Ending) (w' : World) : Prop :=
  Below w.heap.size w w' ∧ ((R.2 = 0 ∧ ∃ x : Mv, e = .returned (.tuple #[x.v, .nilIface]) ∧ x.ok w' ∧ x.mm = R.1 ∧ Mv.fr w.heap.size x) ∨ (R.2 ≠ 0 ∧ ∃ er : Er, e = .returned (.tuple #[zeroV.v, er.v]) ∧ er.ok E ∧ er.num E = R.2))
theorem num_byte {l : List UInt8} {i : Nat} (h : i < l.length) : numAt l i 1 = byteAt l i := by
  unfold numAt byteAt sub
  rw [List.drop_eq_getElem_cons h, List.getD_eq_getElem?_getD, List.getElem?_eq_getElem h, List.take_succ_cons, List.take_zero]
  simp only [valL, List.foldl_cons, List.foldl_nil, Option.getD_some, Nat.zero_mul, Nat.zero_add]
theorem fixed_read {E : En} {l : List UInt8} (h : fixedE E l = none) : 240 ≤ l.length ∧ readM l = if (optionsL l).2 ≠ 0 then (zeroM, (optionsL l).2) else (msgOf l (optionsL l).1, 0) := by
  unfold fixedE at h
  by_cases h1 : l.length < 240
  · rw [if_pos h1] at h; cases h
  rw [if_neg h1] at h
  by_cases h2 : 1500 < l.length
  · rw [if_pos h2] at h; cases h
  rw [if_neg h2] at h
  by_cases h3 : sub l 236 4 ≠ cookieL
  · rw [if_pos h3] at h; cases h
  rw [if_neg h3] at h
  by_cases h4 : 16 < (l.getD 2 0).toNat
  · rw [if_pos h4] at h; cases h
  refine ⟨by omega, ?_⟩
  unfold readM
  rw [if_neg h1, if_neg h2, if_neg (fun k => by rcases k with k | k; exact h3 k; exact h4 k)]
theorem fixed_bad {E : En} {w : World} (hE : E.ok w) {l : List UInt8} {er : Er} (h : fixedE E l = some er) : readM l = (zeroM, er.num E) ∧ er.num E ≠ 0 ∧ er.ok E := by
  unfold fixedE at h
  unfold readM
  have nS := num_S hE
  have nL := num_L hE
  have nF := num_F hE
  by_cases h1 : l.length < 240
  · rw [if_pos h1] at h; cases h
    rw [if_pos h1]
    refine ⟨by show _ = (zeroM, (Er.sen E.S).num E); rw [nS], by show (Er.sen E.S).num E ≠ 0; rw [nS]; decide, .inr (.inr (.inl rfl))⟩
  rw [if_neg h1] at h ⊢
  by_cases h2 : 1500 < l.length
  · rw [if_pos h2] at h; cases h
    rw [if_pos h2]
    refine ⟨by show _ = (zeroM, (Er.sen E.L).num E); rw [nL], by show (Er.sen E.L).num E ≠ 0; rw [nL]; decide, .inr (.inl rfl)⟩
  rw [if_neg h2] at h ⊢
  by_cases h3 : sub l 236 4 ≠ cookieL
  · rw [if_pos h3] at h; cases h
    rw [if_pos (.inl h3)]
    refine ⟨by show _ = (zeroM, (Er.sen E.F).num E); rw [nF], by show (Er.sen E.F).num E ≠ 0; rw [nF]; decide, .inr (.inr (.inr rfl))⟩
  rw [if_neg h3] at h
  by_cases h4 : 16 < (l.getD 2 0).toNat
  · rw [if_pos h4] at h; cases h
    rw [if_pos (.inr h4)]
    refine ⟨by show _ = (zeroM, (Er.sen E.F).num E); rw [nF], by show (Er.sen E.F).num E ≠ 0; rw [nF]; decide, .inr (.inr (.inr rfl))⟩
  · rw [if_neg h4] at h; cases h

set_option maxHeartbeats 800000 in
theorem decode_any (E : En) (A : Option Addr) (n c : Nat) (l : List UInt8) (w : World) (hE : E.ok w) (h : Bs w A n c l) :
    Calls Tryz.prog 35 #[.slice A n c] w (DecR E w (readM l)) := by
  have hm := h.max
  have hcap := h.cap
  have HL := Lib.hid h.len
  have hb0 : Below w.heap.size w (w.alloc (.cells zeroV.cells 28)) := (Below.refl _ _).alloc (Nat.le_refl _) _
  have hcelR := Cel.born w 28 zeroV.cells
  have HE := Lib.hid hE
  have HE0 := Lib.hid (hE.below hb0)
  have h0 := h.below hb0
  cases hfx : fixedE E l with
  | some er =>
    obtain ⟨k1, k2, k3⟩ := fixed_bad hE hfx
    have K1 := Lib.hid k1
    have K2 := Lib.hid k2
    have HFX := Lib.hid hfx
    clear k1 k2 hfx hE
    go_enter Tryz.func35, Tryz.ntmps35
    go_wp2_with fail
    refine (checkFixed_any E A n c l _ HE0.out h0).mono ?_
    rw [HFX.out]
    rintro e w1 ⟨rfl, rfl⟩
    simp only [errV]
    obtain ⟨u, y, hy⟩ := er.form
    rw [hy.out]
    go_wp2
    go_returns
    rw [← hy.out]
    exact ⟨hb0, .inr ⟨by rw [K1.out]; exact K2.out, er, rfl, k3, by rw [K1.out]⟩⟩
  | none =>
    obtain ⟨hn0, hrd⟩ := fixed_read hfx
    have hn : 240 ≤ n := by rw [← HL.out]; exact hn0
    have HRD := Lib.hid hrd
    have HFX := Lib.hid hfx
    clear hrd hfx hE
    go_enter Tryz.func35, Tryz.ntmps35
    go_wp2_with fail
    refine (checkFixed_any E A n c l _ HE0.out h0).mono ?_
    rw [HFX.out]
    rintro e w1 ⟨rfl, rfl⟩
    simp only [errV]
    go_wp2_with fail
    refine (readOptions_any E A n c l _ HE0.out h0 hn).mono ?_
    rintro e w2 ⟨hb2, hJ⟩
    have hbw2 := hb0.trans (hb2.mono hb0.size)
    rcases hJ with ⟨z0, A5, n5, c5, qs, rfl, hqs, hqso, hfr⟩ | ⟨z0, er, rfl, hok, hnum⟩
    rotate_left
    · have H : Hid (readM l = (zeroM, (optionsL l).2)) := by rw [HRD.out, if_pos z0]; rfl
      have Z0 := Lib.hid z0
      have HNM := Lib.hid hnum
      have hc2 := hcelR.below hb2 hcelR.lt
      have q0 : ∀ i (h : i < 13), w2.cell? ⟨w.heap.size, i, none⟩ = some (zeroV.cells[i]'h) := fun i hi => by rw [hc2.cell]; exact Array.getElem?_eq_getElem hi
      have fz := fun i => Cel.frozen hc2 i
      have p0 : w2.cell? ⟨w.heap.size, 0, none⟩ = some (.int .i64 0) := q0 0 (by omega)
      have p1 : w2.cell? ⟨w.heap.size, 1, none⟩ = some (.int .i64 0) := q0 1 (by omega)
      have p2 : w2.cell? ⟨w.heap.size, 2, none⟩ = some (.int .i64 0) := q0 2 (by omega)
      have p3 : w2.cell? ⟨w.heap.size, 3, none⟩ = some (.int .i64 0) := q0 3 (by omega)
      have p4 : w2.cell? ⟨w.heap.size, 4, none⟩ = some (.int .i64 0) := q0 4 (by omega)
      have p5 : w2.cell? ⟨w.heap.size, 5, none⟩ = some (.int .i64 0) := q0 5 (by omega)
      have p6 : w2.cell? ⟨w.heap.size, 6, none⟩ = some (.int .i64 0) := q0 6 (by omega)
      have p7 : w2.cell? ⟨w.heap.size, 7, none⟩ = some (.int .i64 0) := q0 7 (by omega)
      have p8 : w2.cell? ⟨w.heap.size, 8, none⟩ = some (.int .i64 0) := q0 8 (by omega)
      have p9 : w2.cell? ⟨w.heap.size, 9, none⟩ = some (.int .i64 0) := q0 9 (by omega)
      have p10 : w2.cell? ⟨w.heap.size, 10, none⟩ = some (.int .i64 0) := q0 10 (by omega)
      have p11 : w2.cell? ⟨w.heap.size, 11, none⟩ = some (.slice none 0 0) := q0 11 (by omega)
      have p12 : w2.cell? ⟨w.heap.size, 12, none⟩ = some (.slice none 0 0) := q0 12 (by omega)
      clear z0 hnum q0
      obtain ⟨u, y, hy⟩ := er.form
      rw [hy.out]
      have hfin := set13 (.int .i64 0) (.int .i64 0) (.int .i64 0) (.int .i64 0) (.int .i64 0) (.int .i64 0) (.int .i64 0) (.int .i64 0) (.int .i64 0) (.int .i64 0) (.int .i64 0) (.slice none 0 0) (.slice none 0 0) (.int .i64 0) (.int .i64 0) (.int .i64 0) (.int .i64 0) (.int .i64 0) (.int .i64 0) (.int .i64 0) (.int .i64 0) (.int .i64 0) (.int .i64 0) (.int .i64 0) (.slice none 0 0) (.slice none 0 0) hc2
      clear hc2
      go_wp2
      (try simp only [Exit.inBlock, Exit.then])
      refine bodyPost_ret (ret_cell rfl _ _ _ _ rfl hfin rfl) rfl ?_
      rw [← hy.out]
      exact ⟨(((((((((((((hbw2.setCell (p := ⟨w.heap.size, 0, none⟩) (Nat.le_refl _) _).setCell (p := ⟨w.heap.size, 1, none⟩) (Nat.le_refl _) _).setCell (p := ⟨w.heap.size, 2, none⟩) (Nat.le_refl _) _).setCell (p := ⟨w.heap.size, 3, none⟩) (Nat.le_refl _) _).setCell (p := ⟨w.heap.size, 4, none⟩) (Nat.le_refl _) _).setCell (p := ⟨w.heap.size, 5, none⟩) (Nat.le_refl _) _).setCell (p := ⟨w.heap.size, 6, none⟩) (Nat.le_refl _) _).setCell (p := ⟨w.heap.size, 7, none⟩) (Nat.le_refl _) _).setCell (p := ⟨w.heap.size, 8, none⟩) (Nat.le_refl _) _).setCell (p := ⟨w.heap.size, 9, none⟩) (Nat.le_refl _) _).setCell (p := ⟨w.heap.size, 10, none⟩) (Nat.le_refl _) _).setCell (p := ⟨w.heap.size, 11, none⟩) (Nat.le_refl _) _).setCell (p := ⟨w.heap.size, 12, none⟩) (Nat.le_refl _) _), .inr ⟨by rw [H.out]; exact Z0.out, er, rfl, hok, by rw [H.out]; exact HNM.out⟩⟩
    · have H : Hid (readM l = (msgOf l (osP qs), 0)) := by rw [HRD.out, if_neg (by simpa using z0), hqso]; rfl
      clear z0 hqso
      obtain ⟨A2, hs2, hcut2⟩ := byP.cut_lh h 28 44 28 44 rfl rfl (by omega) (by omega)
      have KC : Hid (Bs w A2 16 (c - 28) (sub l 28 16)) := hs2
      clear hs2
      go_wp2_with fail
      refine (readNumbers_any E A n c l _ (HE.out.below hbw2) (h.below hbw2) hn).mono ?_
      rintro e w3 ⟨rfl, hb3⟩
      have hbw3 := hbw2.trans (hb3.mono hbw2.size)
      have hb3a : Below w3.heap.size w3 (w3.alloc (.cells (numV l).cells 28)) := (Below.refl _ _).alloc (Nat.le_refl _) _
      have hcelN := Cel.born w3 28 (numV l).cells
      have hbw3a := hbw3.trans (hb3a.mono hbw3.size)
      go_wp2_with fail
      refine (Tw.clone_any A2 16 (c - 28) (sub l 28 16) _ (KC.out.below hbw3a) (by omega)).mono ?_
      rintro e w4 ⟨A6, c6, rfl, hown6, hb4⟩
      have hbw4 := hbw3a.trans (hb4.mono hbw3a.size)
      have hcN := hcelN.below hb4 hcelN.lt
      have hlt2 : w.heap.size < w2.heap.size := Nat.lt_of_lt_of_le hcelR.lt hb2.size
      have hcR := ((hcelR.below hb2 hcelR.lt).below (hb3.trans (hb3a.mono hb3.size)) hlt2).below hb4 (by have := hb3.size; have := hb3a.size; omega)
      have hne : w.heap.size ≠ w3.heap.size := by have := hb3.size; omega
      have fzN := fun i => Cel.frozen hcN i
      have fzR := fun i => Cel.frozen hcR i
      have p0 : w4.cell? ⟨w.heap.size, 0, none⟩ = some (.int .i64 0) := by rw [hcR.cell]; rfl
      have p1 : w4.cell? ⟨w.heap.size, 1, none⟩ = some (.int .i64 0) := by rw [hcR.cell]; rfl
      have p2 : w4.cell? ⟨w.heap.size, 2, none⟩ = some (.int .i64 0) := by rw [hcR.cell]; rfl
      have p3 : w4.cell? ⟨w.heap.size, 3, none⟩ = some (.int .i64 0) := by rw [hcR.cell]; rfl
      have p4 : w4.cell? ⟨w.heap.size, 4, none⟩ = some (.int .i64 0) := by rw [hcR.cell]; rfl
      have p5 : w4.cell? ⟨w.heap.size, 5, none⟩ = some (.int .i64 0) := by rw [hcR.cell]; rfl
      have p6 : w4.cell? ⟨w.heap.size, 6, none⟩ = some (.int .i64 0) := by rw [hcR.cell]; rfl
      have p7 : w4.cell? ⟨w.heap.size, 7, none⟩ = some (.int .i64 0) := by rw [hcR.cell]; rfl
      have p8 : w4.cell? ⟨w.heap.size, 8, none⟩ = some (.int .i64 0) := by rw [hcR.cell]; rfl
      have p9 : w4.cell? ⟨w.heap.size, 9, none⟩ = some (.int .i64 0) := by rw [hcR.cell]; rfl
      have p10 : w4.cell? ⟨w.heap.size, 10, none⟩ = some (.int .i64 0) := by rw [hcR.cell]; rfl
      have p11 : w4.cell? ⟨w.heap.size, 11, none⟩ = some (.slice none 0 0) := by rw [hcR.cell]; rfl
      have p12 : w4.cell? ⟨w.heap.size, 12, none⟩ = some (.slice none 0 0) := by rw [hcR.cell]; rfl
      have q0 : w4.cell? ⟨w3.heap.size, 0, none⟩ = some (.int .i64 (numAt l 0 1)) := by rw [hcN.cell]; rfl
      have q1 : w4.cell? ⟨w3.heap.size, 1, none⟩ = some (.int .i64 (numAt l 1 1)) := by rw [hcN.cell]; rfl
      have q2 : w4.cell? ⟨w3.heap.size, 2, none⟩ = some (.int .i64 (numAt l 2 1)) := by rw [hcN.cell]; rfl
      have q3 : w4.cell? ⟨w3.heap.size, 3, none⟩ = some (.int .i64 (numAt l 3 1)) := by rw [hcN.cell]; rfl
      have q4 : w4.cell? ⟨w3.heap.size, 4, none⟩ = some (.int .i64 (numAt l 4 4)) := by rw [hcN.cell]; rfl
      have q5 : w4.cell? ⟨w3.heap.size, 5, none⟩ = some (.int .i64 (numAt l 8 2)) := by rw [hcN.cell]; rfl
      have q6 : w4.cell? ⟨w3.heap.size, 6, none⟩ = some (.int .i64 (numAt l 10 2)) := by rw [hcN.cell]; rfl
      have q7 : w4.cell? ⟨w3.heap.size, 7, none⟩ = some (.int .i64 (numAt l 12 4)) := by rw [hcN.cell]; rfl
      have q8 : w4.cell? ⟨w3.heap.size, 8, none⟩ = some (.int .i64 (numAt l 16 4)) := by rw [hcN.cell]; rfl
      have q9 : w4.cell? ⟨w3.heap.size, 9, none⟩ = some (.int .i64 (numAt l 20 4)) := by rw [hcN.cell]; rfl
      have q10 : w4.cell? ⟨w3.heap.size, 10, none⟩ = some (.int .i64 (numAt l 24 4)) := by rw [hcN.cell]; rfl
      have q11 : w4.cell? ⟨w3.heap.size, 11, none⟩ = some (.slice none 0 0) := by rw [hcN.cell]; rfl
      have q12 : w4.cell? ⟨w3.heap.size, 12, none⟩ = some (.slice none 0 0) := by rw [hcN.cell]; rfl
      have hfin := set13 (.int .i64 0) (.int .i64 0) (.int .i64 0) (.int .i64 0) (.int .i64 0) (.int .i64 0) (.int .i64 0) (.int .i64 0) (.int .i64 0) (.int .i64 0) (.int .i64 0) (.slice none 0 0) (.slice none 0 0) (.int .i64 (numAt l 0 1)) (.int .i64 (numAt l 1 1)) (.int .i64 (numAt l 2 1)) (.int .i64 (numAt l 3 1)) (.int .i64 (numAt l 4 4)) (.int .i64 (numAt l 8 2)) (.int .i64 (numAt l 10 2)) (.int .i64 (numAt l 12 4)) (.int .i64 (numAt l 16 4)) (.int .i64 (numAt l 20 4)) (.int .i64 (numAt l 24 4)) (.slice A6 16 c6) (.slice A5 n5 c5) (Cel.far (Cel.far hcR hne 11 (.slice A6 16 c6)) hne 12 (.slice A5 n5 c5))
      have hne2 : w3.heap.size ≠ w.heap.size := Ne.symm hne
      clear hcelN hcelR hcN hcR
      go_wp2
      (try simp only [Exit.inBlock, Exit.then])
      refine bodyPost_ret (ret_cell rfl _ _ _ _ rfl hfin rfl) rfl ?_
      have hX : Below w.heap.size w (((((((((((((((w4.setCell ⟨w3.heap.size, 11, none⟩ (.slice A6 16 c6)).setCell ⟨w3.heap.size, 12, none⟩ (.slice A5 n5 c5)).setCell ⟨w.heap.size, 0, none⟩ (.int .i64 (numAt l 0 1))).setCell ⟨w.heap.size, 1, none⟩ (.int .i64 (numAt l 1 1))).setCell ⟨w.heap.size, 2, none⟩ (.int .i64 (numAt l 2 1))).setCell ⟨w.heap.size, 3, none⟩ (.int .i64 (numAt l 3 1))).setCell ⟨w.heap.size, 4, none⟩ (.int .i64 (numAt l 4 4))).setCell ⟨w.heap.size, 5, none⟩ (.int .i64 (numAt l 8 2))).setCell ⟨w.heap.size, 6, none⟩ (.int .i64 (numAt l 10 2))).setCell ⟨w.heap.size, 7, none⟩ (.int .i64 (numAt l 12 4))).setCell ⟨w.heap.size, 8, none⟩ (.int .i64 (numAt l 16 4))).setCell ⟨w.heap.size, 9, none⟩ (.int .i64 (numAt l 20 4))).setCell ⟨w.heap.size, 10, none⟩ (.int .i64 (numAt l 24 4))).setCell ⟨w.heap.size, 11, none⟩ (.slice A6 16 c6)).setCell ⟨w.heap.size, 12, none⟩ (.slice A5 n5 c5)) := (((((((((((((((hbw4.setCell (p := ⟨w3.heap.size, 11, none⟩) hbw3.size _).setCell (p := ⟨w3.heap.size, 12, none⟩) hbw3.size _).setCell (p := ⟨w.heap.size, 0, none⟩) (Nat.le_refl _) _).setCell (p := ⟨w.heap.size, 1, none⟩) (Nat.le_refl _) _).setCell (p := ⟨w.heap.size, 2, none⟩) (Nat.le_refl _) _).setCell (p := ⟨w.heap.size, 3, none⟩) (Nat.le_refl _) _).setCell (p := ⟨w.heap.size, 4, none⟩) (Nat.le_refl _) _).setCell (p := ⟨w.heap.size, 5, none⟩) (Nat.le_refl _) _).setCell (p := ⟨w.heap.size, 6, none⟩) (Nat.le_refl _) _).setCell (p := ⟨w.heap.size, 7, none⟩) (Nat.le_refl _) _).setCell (p := ⟨w.heap.size, 8, none⟩) (Nat.le_refl _) _).setCell (p := ⟨w.heap.size, 9, none⟩) (Nat.le_refl _) _).setCell (p := ⟨w.heap.size, 10, none⟩) (Nat.le_refl _) _).setCell (p := ⟨w.heap.size, 11, none⟩) (Nat.le_refl _) _).setCell (p := ⟨w.heap.size, 12, none⟩) (Nat.le_refl _) _)
      refine ⟨hX, .inl ⟨by rw [H.out], ⟨numAt l 0 1, numAt l 1 1, numAt l 2 1, numAt l 3 1, numAt l 4 4, numAt l 8 2, numAt l 10 2, numAt l 12 4, numAt l 16 4, numAt l 20 4, numAt l 24 4, A6, 16, c6, sub l 28 16, A5, n5, c5, qs⟩, rfl, ?_, ?_, ⟨fun h0 a ha => ?_, hfr.mono (by simp)⟩⟩⟩
      · have hkeep : ∀ b, b ≠ w.heap.size → b ≠ w3.heap.size → (((((((((((((((w4.setCell ⟨w3.heap.size, 11, none⟩ (.slice A6 16 c6)).setCell ⟨w3.heap.size, 12, none⟩ (.slice A5 n5 c5)).setCell ⟨w.heap.size, 0, none⟩ (.int .i64 (numAt l 0 1))).setCell ⟨w.heap.size, 1, none⟩ (.int .i64 (numAt l 1 1))).setCell ⟨w.heap.size, 2, none⟩ (.int .i64 (numAt l 2 1))).setCell ⟨w.heap.size, 3, none⟩ (.int .i64 (numAt l 3 1))).setCell ⟨w.heap.size, 4, none⟩ (.int .i64 (numAt l 4 4))).setCell ⟨w.heap.size, 5, none⟩ (.int .i64 (numAt l 8 2))).setCell ⟨w.heap.size, 6, none⟩ (.int .i64 (numAt l 10 2))).setCell ⟨w.heap.size, 7, none⟩ (.int .i64 (numAt l 12 4))).setCell ⟨w.heap.size, 8, none⟩ (.int .i64 (numAt l 16 4))).setCell ⟨w.heap.size, 9, none⟩ (.int .i64 (numAt l 20 4))).setCell ⟨w.heap.size, 10, none⟩ (.int .i64 (numAt l 24 4))).setCell ⟨w.heap.size, 11, none⟩ (.slice A6 16 c6)).setCell ⟨w.heap.size, 12, none⟩ (.slice A5 n5 c5)).heap[b]? = w4.heap[b]? := fun b h1 h2 => by
          repeat rw [Below.heap_setCell _ _ _ _ (by first | exact h1 | exact h2)]
        refine ⟨bs_move (B := (w3.alloc (.cells (numV l).cells 28)).heap.size) hown6.bs (fun h0 a ha => ?_) (fun b hB hb => hkeep b ?_ ?_), rd_move hqs hfr (fun b hB hb => (hkeep b ?_ ?_).trans ?_)⟩
        · obtain ⟨g, hA, hB, _⟩ := hown6.head h0
          rw [hA] at ha; cases ha; exact hB
        · have := hbw3.size; simp at hB; omega
        · simp at hB; omega
        · simp at hB; omega
        · have := hb3.size; omega
        · have h34 : b < w3.heap.size := by have := hb3.size; omega
          exact ((hb4.block b (by simp; omega)).trans (hb3a.block b h34)).trans (hb3.block b hb)
      · rw [H.out]
        show (⟨numAt l 0 1, numAt l 1 1, numAt l 2 1, numAt l 3 1, numAt l 4 4, numAt l 8 2, numAt l 10 2, numAt l 12 4, numAt l 16 4, numAt l 20 4, numAt l 24 4, sub l 28 16, osP qs⟩ : M) = msgOf l (osP qs)
        rw [num_byte (show 0 < l.length by omega), num_byte (show 1 < l.length by omega), num_byte (show 2 < l.length by omega), num_byte (show 3 < l.length by omega)]
        rfl
      · obtain ⟨g, hA, hB, _⟩ := hown6.head h0
        have hA' : A6 = some a := ha
        rw [hA] at hA'; cases hA'
        have := hbw3a.size
        show w.heap.size ≤ g
        omega

/-- A message and a number. -/
def RdM (w : World) (R : M × Int) (e : Ending) (w' : World) : Prop := ∃ x : Mv, e = .returned (.tuple #[x.v, .int .i64 R.2]) ∧ x.ok w' ∧ x.mm = R.1 ∧ Below w.heap.size w w'
theorem read_fin {w w1 : World} {t : TypeId} (x : Mv) (hb : Below (w.alloc (.cells zeroV.cells t)).heap.size (w.alloc (.cells zeroV.cells t)) w1) (hx : x.ok w1) (hf : Mv.fr (w.heap.size + 1) x) :
    Cel (((((((((((((w1.setCell ⟨w.heap.size, 0, none⟩ (.int .i64 x.op)).setCell ⟨w.heap.size, 1, none⟩ (.int .i64 x.htype)).setCell ⟨w.heap.size, 2, none⟩ (.int .i64 x.hlen)).setCell ⟨w.heap.size, 3, none⟩ (.int .i64 x.hops)).setCell ⟨w.heap.size, 4, none⟩ (.int .i64 x.xid)).setCell ⟨w.heap.size, 5, none⟩ (.int .i64 x.secs)).setCell ⟨w.heap.size, 6, none⟩ (.int .i64 x.flags)).setCell ⟨w.heap.size, 7, none⟩ (.int .i64 x.ci)).setCell ⟨w.heap.size, 8, none⟩ (.int .i64 x.yi)).setCell ⟨w.heap.size, 9, none⟩ (.int .i64 x.si)).setCell ⟨w.heap.size, 10, none⟩ (.int .i64 x.gi)).setCell ⟨w.heap.size, 11, none⟩ (.slice x.A x.n x.c)).setCell ⟨w.heap.size, 12, none⟩ (.slice x.B x.m x.d)) w.heap.size t x.cells ∧ x.ok (((((((((((((w1.setCell ⟨w.heap.size, 0, none⟩ (.int .i64 x.op)).setCell ⟨w.heap.size, 1, none⟩ (.int .i64 x.htype)).setCell ⟨w.heap.size, 2, none⟩ (.int .i64 x.hlen)).setCell ⟨w.heap.size, 3, none⟩ (.int .i64 x.hops)).setCell ⟨w.heap.size, 4, none⟩ (.int .i64 x.xid)).setCell ⟨w.heap.size, 5, none⟩ (.int .i64 x.secs)).setCell ⟨w.heap.size, 6, none⟩ (.int .i64 x.flags)).setCell ⟨w.heap.size, 7, none⟩ (.int .i64 x.ci)).setCell ⟨w.heap.size, 8, none⟩ (.int .i64 x.yi)).setCell ⟨w.heap.size, 9, none⟩ (.int .i64 x.si)).setCell ⟨w.heap.size, 10, none⟩ (.int .i64 x.gi)).setCell ⟨w.heap.size, 11, none⟩ (.slice x.A x.n x.c)).setCell ⟨w.heap.size, 12, none⟩ (.slice x.B x.m x.d)) ∧ Below w.heap.size w (((((((((((((w1.setCell ⟨w.heap.size, 0, none⟩ (.int .i64 x.op)).setCell ⟨w.heap.size, 1, none⟩ (.int .i64 x.htype)).setCell ⟨w.heap.size, 2, none⟩ (.int .i64 x.hlen)).setCell ⟨w.heap.size, 3, none⟩ (.int .i64 x.hops)).setCell ⟨w.heap.size, 4, none⟩ (.int .i64 x.xid)).setCell ⟨w.heap.size, 5, none⟩ (.int .i64 x.secs)).setCell ⟨w.heap.size, 6, none⟩ (.int .i64 x.flags)).setCell ⟨w.heap.size, 7, none⟩ (.int .i64 x.ci)).setCell ⟨w.heap.size, 8, none⟩ (.int .i64 x.yi)).setCell ⟨w.heap.size, 9, none⟩ (.int .i64 x.si)).setCell ⟨w.heap.size, 10, none⟩ (.int .i64 x.gi)).setCell ⟨w.heap.size, 11, none⟩ (.slice x.A x.n x.c)).setCell ⟨w.heap.size, 12, none⟩ (.slice x.B x.m x.d)) := by
  have hc := (Cel.born w t zeroV.cells).below hb (Cel.born w t zeroV.cells).lt
  have hbF : Below w.heap.size w w1 := ((Below.refl _ _).alloc (Nat.le_refl _) _).trans (hb.mono (by simp))
  refine ⟨set13 (.int .i64 0) (.int .i64 0) (.int .i64 0) (.int .i64 0) (.int .i64 0) (.int .i64 0) (.int .i64 0) (.int .i64 0) (.int .i64 0) (.int .i64 0) (.int .i64 0) (.slice none 0 0) (.slice none 0 0) (.int .i64 x.op) (.int .i64 x.htype) (.int .i64 x.hlen) (.int .i64 x.hops) (.int .i64 x.xid) (.int .i64 x.secs) (.int .i64 x.flags) (.int .i64 x.ci) (.int .i64 x.yi) (.int .i64 x.si) (.int .i64 x.gi) (.slice x.A x.n x.c) (.slice x.B x.m x.d) hc, ok_move hx hf (fun b hB hb' => ?_), (((((((((((((hbF.setCell (p := ⟨w.heap.size, 0, none⟩) (Nat.le_refl _) _).setCell (p := ⟨w.heap.size, 1, none⟩) (Nat.le_refl _) _).setCell (p := ⟨w.heap.size, 2, none⟩) (Nat.le_refl _) _).setCell (p := ⟨w.heap.size, 3, none⟩) (Nat.le_refl _) _).setCell (p := ⟨w.heap.size, 4, none⟩) (Nat.le_refl _) _).setCell (p := ⟨w.heap.size, 5, none⟩) (Nat.le_refl _) _).setCell (p := ⟨w.heap.size, 6, none⟩) (Nat.le_refl _) _).setCell (p := ⟨w.heap.size, 7, none⟩) (Nat.le_refl _) _).setCell (p := ⟨w.heap.size, 8, none⟩) (Nat.le_refl _) _).setCell (p := ⟨w.heap.size, 9, none⟩) (Nat.le_refl _) _).setCell (p := ⟨w.heap.size, 10, none⟩) (Nat.le_refl _) _).setCell (p := ⟨w.heap.size, 11, none⟩) (Nat.le_refl _) _).setCell (p := ⟨w.heap.size, 12, none⟩) (Nat.le_refl _) _)⟩
  have h1 : b ≠ w.heap.size := by omega
  repeat rw [Below.heap_setCell _ _ _ _ h1]

set_option maxHeartbeats 4000000 in
theorem read_any (E : En) (A : Option Addr) (n c : Nat) (l : List UInt8) (w : World) (hE : E.ok w) (h : Bs w A n c l) :
    Calls Tryz.prog 12 #[.slice A n c] w (RdM w (readM l)) := by
  have hb0 : Below w.heap.size w (w.alloc (.cells zeroV.cells 28)) := (Below.refl _ _).alloc (Nat.le_refl _) _
  have HE := Lib.hid hE
  have HE0 := Lib.hid (hE.below hb0)
  have h0 := h.below hb0
  clear hE
  go_enter Tryz.func12, Tryz.ntmps12
  go_wp2_with fail
  refine (decode_any E A n c l _ HE0.out h0).mono ?_
  rintro e w1 ⟨hb1, ⟨z0, x, rfl, hx, hxm, hxf⟩ | ⟨z0, er, rfl, hok, hnum⟩⟩
  · have Z0 := Lib.hid z0
    have HXM := Lib.hid hxm
    clear z0 hxm
    go_wp2_with fail
    have hcR := ((Cel.born w 28 zeroV.cells).below hb1 (Cel.born w 28 zeroV.cells).lt)
    have hne : w.heap.size ≠ w1.heap.size := by have := hcR.lt; omega
    have hne2 : w1.heap.size ≠ w.heap.size := Ne.symm hne
    have hltR := hcR.lt
    have hb1a : Below w1.heap.size w1 (w1.alloc (.cells x.cells 28)) := (Below.refl _ _).alloc (Nat.le_refl _) _
    have KR : Hid (∀ W, Below (w1.alloc (.cells x.cells 28)).heap.size (w1.alloc (.cells x.cells 28)) W → Cel W w.heap.size 28 zeroV.cells ∧ Cel W w1.heap.size 28 x.cells) := fun W hW =>
      ⟨(hcR.below hb1a hcR.lt).below hW (by simp; omega), (Cel.born w1 28 x.cells).below hW (by simp)⟩
    have hb1b : Below (w.alloc (.cells zeroV.cells 28)).heap.size (w.alloc (.cells zeroV.cells 28)) (w1.alloc (.cells x.cells 28)) := hb1.trans (hb1a.mono hb1.size)
    clear hcR
    go_region_with ((go_at_call 26; refine (numberOf_nil _).mono ?_; rintro e w2 ⟨rfl, hb2d⟩; have hb2 := below_undrew hb2d; clear hb2d; obtain ⟨r0, r1, r2, r3, r4, r5, r6, r7, r8, r9, r10, r11, r12, fzR⟩ := cels13 (KR.out _ hb2).1; obtain ⟨q0, q1, q2, q3, q4, q5, q6, q7, q8, q9, q10, q11, q12, fzL⟩ := cels13 (KR.out _ hb2).2))
    all_goals (
      obtain ⟨f1, f2, f3⟩ := read_fin x (hb1b.trans (hb2.mono hb1b.size)) ((hx.below hb1a).below hb2) (by simpa using hxf)
      clear r0 q0 r1 q1 r2 q2 r3 q3 r4 q4 r5 q5 r6 q6 r7 q7 r8 q8 r9 q9 r10 q10 r11 q11 r12 q12 fzR fzL
      go_wp2
      (try simp only [Exit.inBlock, Exit.then])
      refine bodyPost_ret (ret_cell rfl _ _ _ _ rfl f1 rfl) rfl ?_
      exact ⟨x, by rw [Z0.out]; rfl, f2, HXM.out, f3⟩)
  · have Z0 := Lib.hid z0
    have HNM := Lib.hid hnum
    have HZM : Hid ((readM l).1 = zeroM) := read_badM z0
    obtain ⟨x, HX⟩ : ∃ x, Hid (zeroV = x) := ⟨_, rfl⟩
    have HXO : Hid (∀ W, x.ok W) := fun W => by rw [← HX.out]; exact zeroV_ok W
    have HXR : Hid (Mv.fr (w.heap.size + 1) x) := by
      rw [← HX.out]
      exact ⟨fun h0 => absurd h0 (by decide), fun h0 => absurd h0 (by decide), fun q hq => by cases hq⟩
    rw [HX.out]
    clear z0 hnum
    obtain ⟨u, y, hy⟩ := er.form
    rw [hy.out]
    go_wp2_with fail
    have hcR := ((Cel.born w 28 zeroV.cells).below hb1 (Cel.born w 28 zeroV.cells).lt)
    have hne : w.heap.size ≠ w1.heap.size := by have := hcR.lt; omega
    have hne2 : w1.heap.size ≠ w.heap.size := Ne.symm hne
    have hltR := hcR.lt
    have hb1a : Below w1.heap.size w1 (w1.alloc (.cells x.cells 28)) := (Below.refl _ _).alloc (Nat.le_refl _) _
    have KR : Hid (∀ W, Below (w1.alloc (.cells x.cells 28)).heap.size (w1.alloc (.cells x.cells 28)) W → Cel W w.heap.size 28 zeroV.cells ∧ Cel W w1.heap.size 28 x.cells) := fun W hW =>
      ⟨(hcR.below hb1a hcR.lt).below hW (by simp; omega), (Cel.born w1 28 x.cells).below hW (by simp)⟩
    have hb1b : Below (w.alloc (.cells zeroV.cells 28)).heap.size (w.alloc (.cells zeroV.cells 28)) (w1.alloc (.cells x.cells 28)) := hb1.trans (hb1a.mono hb1.size)
    clear hcR
    go_region_with ((go_at_call 26; rw [← hy.out]; refine (numberOf_any E er _ (HE0.out.below hb1b.drew) hok).mono ?_; rintro e w2 ⟨rfl, hb2d⟩; have hb2 := below_undrew hb2d; clear hb2d; obtain ⟨r0, r1, r2, r3, r4, r5, r6, r7, r8, r9, r10, r11, r12, fzR⟩ := cels13 (KR.out _ hb2).1; obtain ⟨q0, q1, q2, q3, q4, q5, q6, q7, q8, q9, q10, q11, q12, fzL⟩ := cels13 (KR.out _ hb2).2))
    all_goals (
      obtain ⟨f1, f2, f3⟩ := read_fin x (hb1b.trans (hb2.mono hb1b.size)) (HXO.out _) HXR.out
      clear r0 q0 r1 q1 r2 q2 r3 q3 r4 q4 r5 q5 r6 q6 r7 q7 r8 q8 r9 q9 r10 q10 r11 q11 r12 q12 fzR fzL
      go_wp2
      (try simp only [Exit.inBlock, Exit.then])
      refine bodyPost_ret (ret_cell rfl _ _ _ _ rfl f1 rfl) rfl ?_
      exact ⟨x, by rw [← HNM.out]; rfl, f2, by rw [← HX.out, HZM.out]; rfl, f3⟩)

/-- Bytes and a number. -/
def WrR (w : World) (x : Mv) (e : Ending) (w' : World) : Prop := Below w.heap.size w w' ∧
  ((rightM x.mm = false ∧ e = .returned (.tuple #[.slice none 0 0, .int .i64 1])) ∨ (rightM x.mm = true ∧ 1500 < (bodyM x.mm).length ∧ e = .returned (.tuple #[.slice none 0 0, .int .i64 3])) ∨
    (rightM x.mm = true ∧ ¬ 1500 < (bodyM x.mm).length ∧ ∃ A n c, e = .returned (.tuple #[.slice A n c, .int .i64 0]) ∧ Own 5 w.heap.size w' A n c (bytesM x.mm)))
set_option maxHeartbeats 1000000 in
theorem write_any (E : En) (x : Mv) (w : World) (hE : E.ok w) (h : x.ok w) : Calls Tryz.prog 7 #[x.v] w (WrR w x) := by
  have hb0 : Below w.heap.size w (w.alloc (.cells x.cells 28)) := (Below.refl _ _).alloc (Nat.le_refl _) _
  have HE0 := Lib.hid (hE.below hb0)
  have NI : Hid ((Er.flt strMessage (.sen E.I)).num E = 1) := num_I E
  have NL : Hid ((Er.flt strEncoding (.sen E.L)).num E = 3) := num_L hE
  have h0 := h.below hb0
  clear hE h
  cases hr : rightM x.mm with
  | false =>
    have HR := Lib.hid hr
    clear hr
    go_enter Tryz.func7, Tryz.ntmps7
    go_wp2_with fail
    refine (encode_no E x _ HE0.out h0 HR.out).mono ?_
    rintro e w1 ⟨rfl, hb1⟩
    have hbw1 := hb0.trans (hb1.mono hb0.size)
    have HE1 := Lib.hid (HE0.out.below hb1)
    obtain ⟨u, y, hy⟩ := (Er.flt strMessage (.sen E.I)).form
    rw [hy.out]
    go_wp2_with fail
    rw [← hy.out]
    refine (numberOf_any E (.flt strMessage (.sen E.I)) _ HE1.out (Or.inl rfl)).mono ?_
    rw [NI.out]
    rintro e w2 ⟨rfl, hb2⟩
    go_wp2
    go_ret2
    exact ⟨hbw1.trans (hb2.mono hbw1.size), .inl ⟨HR.out, rfl⟩⟩
  | true =>
    have HR := Lib.hid hr
    clear hr
    go_enter Tryz.func7, Tryz.ntmps7
    go_wp2_with fail
    refine (encode_yes E x _ HE0.out h0 HR.out).mono ?_
    rintro e w1 ⟨hb1, hJ⟩
    have hbw1 := hb0.trans (hb1.mono hb0.size)
    have HE1 := Lib.hid (HE0.out.below hb1)
    by_cases hfull : 1500 < (bodyM x.mm).length
    · rw [if_pos hfull] at hJ
      subst hJ
      have HF := Lib.hid hfull
      clear hfull
      obtain ⟨u, y, hy⟩ := (Er.flt strEncoding (.sen E.L)).form
      rw [hy.out]
      go_wp2_with fail
      rw [← hy.out]
      refine (numberOf_any E (.flt strEncoding (.sen E.L)) _ HE1.out (Or.inr (Or.inl rfl))).mono ?_
      rw [NL.out]
      rintro e w2 ⟨rfl, hb2⟩
      go_wp2
      go_ret2
      exact ⟨hbw1.trans (hb2.mono hbw1.size), .inr (.inl ⟨HR.out, HF.out, rfl⟩)⟩
    · rw [if_neg hfull] at hJ
      obtain ⟨A, n, c, rfl, hown⟩ := hJ
      have HF := Lib.hid hfull
      clear hfull
      go_wp2_with fail
      refine (numberOf_nil _).mono ?_
      rintro e w2 ⟨rfl, hb2⟩
      go_wp2
      go_ret2
      exact ⟨hbw1.trans (hb2.mono hbw1.size), .inr (.inr ⟨HR.out, HF.out, A, n, c, rfl, (hown.below hb2).mono hb0.size⟩)⟩
end Go.Proofs.YtabjcgchcnnjjaaGreatDoor.Mw
