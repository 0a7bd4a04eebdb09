/- What the document's own writing comes to: one, Write. Conditions: codes from 1 to 254, 1000 bytes of an option at most. -/
import Derived.Test.YtibcpdimdjipjaaDoorTlWrite
import Derived.Deep.RegionLaw
import Derived.StillTailTactics
namespace Go.Proofs.YtibcpdimdjipjaaDoor.By
open Go.RowKit
section
variable {P : Program} {T e S : TypeId} {w : World} {A : Option Addr} {n c : Nat} {l : List UInt8}
/-- 'append' as a step of a region that draws its order. -/
theorem step_app (hp : ByP P T e S) {ops : Array Oper} {o : Oper} {a : Act} {K : Act → World → Prop} {Q : Exit → Act → World → Prop} {E : Prop} (hgd : o.guard = none) (s x : Operand)
    (ho : o.op = .call { callee := .builtin .append, args := #[s, x], argTypes := #[T, T] }) {B : Nat} (hs : a.eval s = .slice A n c) (hown : Own e B w A n c l)
    {A2 : Option Addr} {m c2 : Nat} {l2 : List UInt8} (hx : a.eval x = .slice A2 m c2) (h2 : Bs w A2 m c2 l2) (hb : n + m ≤ 140737488355328) (hB : B ≤ w.heap.size)
    (h : ∀ A' c' w', Own e B w' A' (n + m) c' (l ++ l2) → Below B w w' → w.grownBy w' (Value.slice A n c).ownBlock →
      ((Value.slice A' (n + m) c').ownBlock = (Value.slice A n c).ownBlock ∨ (Value.slice A' (n + m) c').ownBlock = some w.heap.size) → K (a.put o.dst (.slice A' (n + m) c')) w') :
    if Region.wanted o (yielded ops a.tmps) = true then Oper.wp P o a w K Q else E := by
  have hw : Region.wanted o (yielded ops a.tmps) = true := by simp [Region.wanted, hgd]
  rw [if_pos hw]
  exact wp_app hp s x ho hs hown hx h2 hb hB h
end
end Go.Proofs.YtibcpdimdjipjaaDoor.By
namespace Go.Proofs.YtibcpdimdjipjaaDoor.Tw
open Go.RowKit Tl By

set_option maxRecDepth 100000 in
set_option maxHeartbeats 1600000 in
theorem refOne_any : ∀ (k m : Nat) (code : Int) (D : Option Addr) (dc : Nat) (d : List UInt8) (w : World), m ≤ k → Bs w D m dc d → 1 ≤ code → code ≤ 254 → m ≤ 1000 →
    Calls Tryd.prog 29 #[.int .i64 code, .slice D m dc] w (RO 5 w.heap.size w (2 * m + 2) (oneL code d)) := by
  intro k
  induction k with
  | zero =>
    intro m code D dc d w hk hd h1 h2 hm
    have hw1 := wrap_code h1 h2
    have hw2 := wrap_len (m := m) (by omega)
    have HL : Hid (oneL code d = codeB code :: UInt8.ofNat m :: d) := by show oneL code d = _; rw [one_small (by rw [hd.len]; omega), hd.len]
    have hcap := hd.cap
    have hmax := hd.max
    have hn255 : m ≤ 255 := by omega
    go_enter Tryd.func29, Tryd.ntmps29
    go_wp2_with (at_builtin; refine wpList_app byP rfl (.tmp 25) (.tmp 26) rfl rfl (Own.lit2 5 w (codeB code) (UInt8.ofNat m)) rfl (hd.alloc _) (by omega) (by simp) ?_; intro A1 c1 w1 hown1 hb1 _ _)
    go_ret
    exact ⟨A1, 2 + m, c1, rfl, by omega, by rw [HL.out]; exact hown1, ((Below.refl _ _).alloc (Nat.le_refl _) _).trans hb1⟩
  | succ k ih =>
    intro m code D dc d w hk hd h1 h2 hm
    have hw1 := wrap_code h1 h2
    have hcap := hd.cap
    have hmax := hd.max
    by_cases hbig : 255 < m
    · have HL : Hid (oneL code d = codeB code :: 255 :: (d.take 255 ++ oneL code (d.drop 255))) := one_big (by rw [hd.len]; exact hbig)
      obtain ⟨D2, hD2, hrun2⟩ := byP.cutU_h hd.upto 255 255 rfl (by omega)
      obtain ⟨D3, hD3, hrun3⟩ := byP.cutU_l hd.upto 255 255 rfl (by omega)
      have IH := Lib.hid (fun W (hW : Bs W D3 (m - 255) (dc - 255) (d.drop 255)) => ih (m - 255) code D3 (dc - 255) (d.drop 255) W (by omega) hW h1 h2 (by omega))
      clear ih hd
      have hba : Below w.heap.size w (w.alloc (Obj.cells #[Value.int IntKind.u8 ((codeB code).toNat : Int), Value.int IntKind.u8 255] 5)).drew := ((Below.refl _ _).alloc (Nat.le_refl _) _).drew
      have hLa : Own 5 w.heap.size (w.alloc (Obj.cells #[Value.int IntKind.u8 ((codeB code).toNat : Int), Value.int IntKind.u8 255] 5)).drew (some ⟨w.heap.size, 0, none⟩) 2 2 [codeB code, 255] := Own.lit2 5 w (codeB code) 255
      have hDa := hD2.below hba
      go_enter Tryd.func29, Tryd.ntmps29
      go_wp2_with fail
      go_region_law (first
        | (refine step_app byP (by rfl) (.tmp 12) (.tmp 14) (by rfl) (by rfl) hLa (by rfl) hDa.bs (by omega) (by simp) ?_; intro A1 c1 w1 hown1 hb1 _ _)
        | (go_simp; go_at_call 29; refine (IH.out _ ((hD3.below hba).below hb1).bs).mono ?_; rintro e w2 ⟨A2, n2, c2, rfl, hn2, hown2, hb2⟩)
        | (refine step_app byP (by rfl) (.tmp 15) (.tmp 19) (by rfl) (by rfl) (hown1.below hb2) (by rfl) hown2.bs (by omega) (by have h3 := (hba.trans hb1).size; have h4 := hb2.size; omega) ?_; intro A3 c3 w3 hown3 hb3 _ _))
      go_wp2_with fail
      go_ret
      refine ⟨A3, _, c3, rfl, by omega, ?_, ((hba.trans hb1).trans (hb2.mono (hba.trans hb1).size)).trans hb3⟩
      have e3 : codeB code :: 255 :: (d.take 255 ++ oneL code (d.drop 255)) = ([codeB code, 255] ++ d.take 255) ++ oneL code (d.drop 255) := by rw [List.append_assoc]; rfl
      rw [HL.out, e3]
      exact hown3
    · have hw2 := wrap_len (m := m) (by omega)
      have HL : Hid (oneL code d = codeB code :: UInt8.ofNat m :: d) := by show oneL code d = _; rw [one_small (by rw [hd.len]; omega), hd.len]
      have hn255 : m ≤ 255 := by omega
      clear ih
      go_enter Tryd.func29, Tryd.ntmps29
      go_wp2_with (at_builtin; refine wpList_app byP rfl (.tmp 25) (.tmp 26) rfl rfl (Own.lit2 5 w (codeB code) (UInt8.ofNat m)) rfl (hd.alloc _) (by omega) (by simp) ?_; intro A1 c1 w1 hown1 hb1 _ _)
      go_ret
      exact ⟨A1, 2 + m, c1, rfl, by omega, by rw [HL.out]; exact hown1, ((Below.refl _ _).alloc (Nat.le_refl _) _).trans hb1⟩
theorem refOne (m : Nat) (code : Int) (D : Option Addr) (dc : Nat) (d : List UInt8) (w : World) (hd : Bs w D m dc d) (h1 : 1 ≤ code) (h2 : code ≤ 254) (hm : m ≤ 1000) :
    Calls Tryd.prog 29 #[.int .i64 code, .slice D m dc] w (RO 5 w.heap.size w (2 * m + 2) (oneL code d)) := refOne_any m m code D dc d w (Nat.le_refl _) hd h1 h2 hm

/-- What the document's Write answers. -/
def RX (e : Nat) (w : World) (l : List UInt8) (en : Ending) (w' : World) : Prop := ∃ A n c, en = .returned (.slice A n c) ∧ Own e w.heap.size w' A n c l ∧ Below w.heap.size w w'
set_option maxHeartbeats 1600000 in
theorem refWrite_any (A : Option Addr) (n c : Nat) (ps : List Po) (w : World) (h : RdO w A n c ps) (hr : rightL (osP ps) = true) :
    Calls Tryd.prog 18 #[.slice A n c] w (RX 5 w (writeL (osP ps))) := by
  have hl := Lib.hid h.len
  have hm := h.max
  have hcap := h.cap
  have HR := Lib.hid hr
  clear hr
  go_enter Tryd.func18, Tryd.ntmps18
  go_wp2
  go_loopw [3, 4] (fun v i wr => ∃ (k N : Nat) (A2 : Option Addr) (c2 : Nat), k ≤ n ∧ i = .int .i64 k ∧ v = .slice A2 N c2 ∧ N ≤ 72120 ∧ Own 5 w.heap.size wr A2 N c2 (bodyL ((osP ps).take k)) ∧ Below w.heap.size w wr) (fun _ i _ => n - (intOf i).toNat)
  case atStart => exact ⟨0, 0, none, 0, by omega, rfl, rfl, by omega, Own.nil _ _ _, Below.refl _ _⟩
  case round =>
    obtain ⟨k, N, A2, c2, hk, rfl, rfl, hN, hown, hbw⟩ := hrel
    have hsz := hbw.size
    by_cases hlt : k < n
    · obtain ⟨b, o, co, A', m, c', l, rfl, hcell, hcell2, hbs, _, HO, HM, hmc, hc63, hblt⟩ := h.atU hbw hlt
      have hfit : 1 ≤ co ∧ co ≤ 254 ∧ m ≤ 600 := by
        obtain ⟨g1, g2⟩ := HO.out
        have := right_fit HR.out (List.getElem_mem g1)
        rw [g2] at this
        have e := HM.out
        subst e
        exact this
      obtain ⟨hf1, hf2, hf3⟩ := hfit
      have H : Hid (bodyL ((osP ps).take (k + 1)) = bodyL ((osP ps).take k) ++ oneL co l) := by
        obtain ⟨g1, g2⟩ := HO.out
        have := body_next g1
        rw [g2] at this
        exact this
      have HN : Hid ((bodyL ((osP ps).take (k + 1))).length ≤ 72120) := body_len_right HR.out _
      have hi1 : (0 : Int) ≤ (k : Int) := by omega
      have hi2 : (k : Int) < (n : Int) := by omega
      generalize bodyL ((osP ps).take k) = y at H hown
      go_wp2_with fail
      go_region_law (first
        | (go_simp; go_at_call 29; refine (refOne m co A' c' l _ hbs.bs.drew hf1 hf2 (by omega)).mono ?_; rintro e w2 ⟨A3, n3, c3, rfl, hn3, hown3, hb3⟩)
        | (refine step_app byP (by rfl) (.tmp 11) (.tmp 22) (by rfl) (by rfl) (hown.below (below_undrew hb3)) (by rfl) hown3.bs (by omega) (by have h3 := (below_undrew hb3).size; omega) ?_; intro A4 c4 w4 hown4 hb4 _ _))
      all_goals
        have hb5 : Below w.heap.size w w4 := (hbw.trans ((below_undrew hb3).mono hsz)).trans hb4
        have e5 := hown4.bs.len
        have HN4 : Hid (N + n3 ≤ 72120) := by
          have := HN.out
          rw [H.out, e5] at this
          exact this
        clear hb3 hb4 e5
        go_wp2
        go_roundw
        case rel => exact ⟨k + 1, N + n3, A4, c4, by omega, by go_num, rfl, HN4.out, by rw [H.out]; exact hown4, hb5⟩
        case measure => simp [intOf]; omega
    · obtain rfl : k = n := by omega
      have H : Hid ((osP ps).take k = osP ps) := List.take_of_length_le (by rw [os_len, hl.out]; exact Nat.le_refl _)
      rw [H.out] at hown
      have hba2 : Below wr.heap.size wr (wr.alloc (Obj.cells #[Value.int IntKind.u8 255] 5)) := (Below.refl _ _).alloc (Nat.le_refl _) _
      go_wp2_with (at_builtin; refine wpList_app byP rfl (.tmp 24) (.tmp 25) rfl rfl (hown.below hba2) rfl (Own.lit1 5 wr 255).bs (by omega) (by simp; omega) ?_; intro A3 c3 w3 hown3 hb3 _ _)
      go_ret
      exact ⟨A3, N + 1, c3, rfl, hown3, (hbw.trans (hba2.mono hsz)).trans hb3⟩
end Go.Proofs.YtibcpdimdjipjaaDoor.Tw
