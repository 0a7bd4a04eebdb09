/- What clean.Changes comes to: the changes that put leases in the journal's place. For all disks whose names fit and rows of less than 100000 leases whose keys fit. -/
import Derived.Test.YtlefpodonkdbeaaGreatLwFrm
import Derived.Test.YtlefpodonkdbeaaGreatJwAdd
import Derived.Test.YtlefpodonkdbeaaGreatDwA
set_option maxRecDepth 8000
namespace Go.Proofs.YtlefpodonkdbeaaGreat.Lw
open Go.RowKit Co By Ky Rc Dk Jn Ew Jw La
open Dw (ba ba_size ba_data ba_list Dv RdD Sm alloc_more GeR)

def d4V : Cv := ⟨4, nK, [], none, 0, []⟩
def k1V (F : Option Addr) (cF : Nat) (fb : List UInt8) : Cv := ⟨1, nK, [], F, cF, fb⟩
def k2V : Cv := ⟨2, nK, [], none, 0, []⟩
def k3V : Cv := ⟨3, nK, nJ, none, 0, []⟩
theorem litD (w : World) : RdG layC (w.heap.size + 1) (w.alloc (.cells #[.int .i64 4, .string ⟨#[107]⟩, .string ⟨#[]⟩, .slice none 0 0] 75)) (some ⟨w.heap.size, 0, none⟩) 1 1 [d4V] := by
  have := (OwnG.lit (Y := layC) 75 w [d4V] (by simp)).rd
  have e : (w.alloc (.cells (layC.cells [d4V]).toArray 75)).heap.size = w.heap.size + 1 := by simp
  rw [e] at this
  exact this
theorem lit4C (w : World) (F : Option Addr) (m cF : Nat) (fb : List UInt8) (hm : fb.length = m) :
    RdG layC (w.heap.size + 1) (w.alloc (.cells #[.int .i64 1, .string ⟨#[107]⟩, .string ⟨#[]⟩, .slice F m cF, .int .i64 2, .string ⟨#[107]⟩, .string ⟨#[]⟩, .slice none 0 0, .int .i64 3, .string ⟨#[107]⟩, .string ⟨#[106]⟩, .slice none 0 0, .int .i64 5, .string ⟨#[]⟩, .string ⟨#[]⟩, .slice none 0 0] 75)) (some ⟨w.heap.size, 0, none⟩) 4 4 [k1V F cF fb, k2V, k3V, c5V] := by
  subst hm
  have := (OwnG.lit (Y := layC) 75 w [k1V F cF fb, k2V, k3V, c5V] (by simp)).rd
  have e : (w.alloc (.cells (layC.cells [k1V F cF fb, k2V, k3V, c5V]).toArray 75)).heap.size = w.heap.size + 1 := by simp
  rw [e] at this
  exact this
theorem okD (U : Nat) (w : World) : OkC U w d4V := ⟨BsU.nil U w, by show 1 ≤ _; omega, Nat.zero_le _, Nat.zero_le _⟩
theorem okK1 {U : Nat} {w : World} {F : Option Addr} {cF : Nat} {fb : List UInt8} (h : BsU U w F fb.length cF fb) (hl : fb.length ≤ 1000000) : OkC U w (k1V F cF fb) := ⟨h, by show 1 ≤ _; omega, Nat.zero_le _, hl⟩
theorem okK2 (U : Nat) (w : World) : OkC U w k2V := ⟨BsU.nil U w, by show 1 ≤ _; omega, Nat.zero_le _, Nat.zero_le _⟩
theorem okK3 (U : Nat) (w : World) : OkC U w k3V := ⟨BsU.nil U w, by show 1 ≤ _; omega, by show 1 ≤ _; omega, Nat.zero_le _⟩
theorem clean_frm (d : D) (ls : List L) : cleanC d ls = if (frmL ls).2 = 0 then ((if (getK d nK).2 = 0 then [delC] else []) ++ [⟨1, nK, [], (frmL ls).1⟩, safeC, moveC, dirC], 0) else ([], (frmL ls).2) := by
  unfold cleanC frmL
  by_cases h : ∀ a ∈ ls, RightR a
  · rw [if_pos h, if_pos (show allR ls from h)]
    by_cases h2 : 20000 < (framesJ ls).length
    · rw [if_pos h2, if_pos h2, if_neg (by decide)]
    · rw [if_neg h2, if_neg h2, if_pos rfl]
      rfl
  · rw [if_neg h, if_neg (show ¬ allR ls from h), if_neg (by decide)]
theorem frm_len (ls : List L) : (frmL ls).1.length ≤ 20000 := by
  unfold frmL
  split
  · split
    · exact Nat.zero_le _
    · show (framesJ ls).length ≤ _; omega
  · exact Nat.zero_le _
set_option maxHeartbeats 4000000 in
theorem changes_any (x : Dv) (A : Option Addr) (n c : Nat) (ls : List L) (w : World) (h : RdD w.heap.size w x) (hsm : Sm x.d) (hl : RdLs w.heap.size w A n c ls) (hfk : ∀ a ∈ ls, Fk a) :
    Calls Tryz.prog 18 #[x.v, .slice A n c] w (AdR w (cleanC x.d ls)) := by
  obtain ⟨w1, hw1⟩ : ∃ w1, w1 = w.alloc (.cells x.cs 30) := ⟨_, rfl⟩
  have hb1 : Below w.heap.size w w1 := by rw [hw1]; exact (Below.refl _ _).alloc (Nat.le_refl _) _
  have HC1 := Lib.hid (show Cel w1 w.heap.size 30 x.cs by rw [hw1]; exact Cel.born w _ _)
  have HX := Lib.hid ((h.below hb1).mono hb1.size)
  have HFR := Lib.hid (framesOf_any A n c ls w1 ((hl.below hb1).mono hb1.size) hfk)
  have HB1 := Lib.hid hb1
  have HSM := Lib.hid hsm
  have HCL := Lib.hid (clean_frm x.d ls)
  have HLN := Lib.hid (frm_len ls)
  generalize frmL ls = p at HFR HCL HLN
  obtain ⟨fb, er⟩ := p
  clear h hb1 hsm hl hfk
  go_enter Tryz.func18, Tryz.ntmps18
  go_wp2_with fail
  rw [← hw1]
  clear hw1
  refine HFR.out.mono ?_
  rintro e w2 ⟨F, m, cF, rfl, hbs2, hb2⟩
  by_cases h0 : er = 0
  rotate_left
  · have b0 : (er != 0) = true := by simpa using h0
    have H : Hid (cleanC x.d ls = ([], er)) := HCL.out.trans (if_neg h0)
    have HB2 := Lib.hid (HB1.out.trans (hb2.mono HB1.out.size))
    clear h0 hbs2 hb2 HCL HFR
    go_wp2
    go_ret2
    exact ⟨none, 0, 0, [], by rw [H.out]; rfl, RdC.nil _ _, by rw [H.out]; rfl, HB2.out⟩
  · subst h0
    have hcl : cleanC x.d ls = ((if (getK x.d nK).2 = 0 then [delC] else []) ++ [⟨1, nK, [], fb⟩, safeC, moveC, dirC], 0) := HCL.out.trans (if_pos rfl)
    have hX2 := (HX.out.below hb2).mono hb2.size
    have HG := Lib.hid (Dw.get_any x nK w2 hX2 HSM.out)
    have hc2 := HC1.out.below hb2 HC1.out.lt
    have HB2 := Lib.hid (HB1.out.trans (hb2.mono HB1.out.size))
    have HF2 := Lib.hid hbs2.upto
    have hm2 : fb.length = m := hbs2.len
    have HM := Lib.hid hm2
    have hms : m ≤ 20000 := by have := HLN.out; rw [← hm2]; exact this
    have hcm := hbs2.max
    have hcc := hbs2.cap
    obtain ⟨q0, q1, q2⟩ := Dw.cel3 hc2
    generalize getK x.d nK = g at HG hcl
    obtain ⟨gb, ge⟩ := g
    have HCC := Lib.hid hcl
    clear hcl hX2 hc2 hbs2 hb2 HFR HCL HX hm2
    go_wp2_with fail
    refine HG.out.mono ?_
    rintro e w3 ⟨A3, n3, c3, rfl, _, hb3⟩
    have HB3 := Lib.hid (HB2.out.trans (hb3.mono HB2.out.size))
    have HF3 := Lib.hid (Dw.bsu_mono (HF2.out.below hb3) hb3.size)
    clear hb3 HG HF2 q0 q1 q2
    by_cases h5 : ge = 0
    · subst h5
      have H : Hid (cleanC x.d ls = ([delC, ⟨1, nK, [], fb⟩, safeC, moveC, dirC], 0)) := HCC.out
      have hba : Below w3.heap.size w3 (w3.alloc (.cells #[.int .i64 4, .string ⟨#[107]⟩, .string ⟨#[]⟩, .slice none 0 0] 75)) := alloc_more _ _
      have hlD := litD w3
      have hnil := OwnG.nil (Y := layC) 75 w3.heap.size (w3.alloc (.cells #[.int .i64 4, .string ⟨#[107]⟩, .string ⟨#[]⟩, .slice none 0 0] 75))
      clear HCC
      go_wp2_with (first
        | (at_builtin; refine wpList_appG chP (by decide) (by decide) (by kernel_rfl) rfl (.tmp 26) (.tmp 28) rfl rfl hnil rfl hlD (by omega) (by simp) ?_; intro A7 c7 w7 happ; have ho7 := happ.1; simp only [Nat.zero_add, List.nil_append] at ho7; have hb7 : Below w3.heap.size w3 w7 := hba.trans happ.2.1; have hl4 := lit4C w7 F m cF fb HM.out; have hba7 : Below w7.heap.size w7 (w7.alloc (.cells #[.int .i64 1, .string ⟨#[107]⟩, .string ⟨#[]⟩, .slice F m cF, .int .i64 2, .string ⟨#[107]⟩, .string ⟨#[]⟩, .slice none 0 0, .int .i64 3, .string ⟨#[107]⟩, .string ⟨#[106]⟩, .slice none 0 0, .int .i64 5, .string ⟨#[]⟩, .string ⟨#[]⟩, .slice none 0 0] 75)) := alloc_more _ _; have hs7 := hb7.size)
        | (at_builtin; refine wpList_appG chP (by decide) (by decide) (by kernel_rfl) rfl (.tmp 30) (.tmp 36) rfl rfl (ho7.below hba7) rfl hl4 (by omega) (by simp; omega) ?_; intro A8 c8 w8 happ8))
      have hb78 := (hba7.mono hs7).trans happ8.2.1
      have hb38 := hb7.trans hb78
      have HO8 := Lib.hid happ8.1.rd
      have HB8 := Lib.hid (HB3.out.trans (hb38.mono HB3.out.size))
      have HF8 := Lib.hid (Dw.bsu_mono (HF3.out.below hb38) hb38.size)
      clear happ happ8 hb78 hb38 hb7 ho7 hba hba7 hl4 hlD hnil
      go_ret2
      exact ⟨_, _, _, [d4V, k1V F cF fb, k2V, k3V, c5V], by rw [H.out]; rfl, ⟨HO8.out, fun y hy => by
        rcases List.mem_cons.1 hy with rfl | hy
        · exact okD _ _
        · rcases List.mem_cons.1 hy with rfl | hy
          · exact okK1 (by rw [HM.out]; exact HF8.out) (by rw [HM.out]; omega)
          · rcases List.mem_cons.1 hy with rfl | hy
            · exact okK2 _ _
            · rcases List.mem_cons.1 hy with rfl | hy
              · exact okK3 _ _
              · rcases List.mem_cons.1 hy with rfl | hy
                · exact ok5 _ _
                · cases hy⟩, by rw [H.out]; rfl, HB8.out⟩
    · have H : Hid (cleanC x.d ls = ([⟨1, nK, [], fb⟩, safeC, moveC, dirC], 0)) := HCC.out.trans (by rw [if_neg h5]; rfl)
      have b5 : (ge == 0) = false := by simpa using h5
      have hl4 := lit4C w3 F m cF fb HM.out
      have hba : Below w3.heap.size w3 (w3.alloc (.cells #[.int .i64 1, .string ⟨#[107]⟩, .string ⟨#[]⟩, .slice F m cF, .int .i64 2, .string ⟨#[107]⟩, .string ⟨#[]⟩, .slice none 0 0, .int .i64 3, .string ⟨#[107]⟩, .string ⟨#[106]⟩, .slice none 0 0, .int .i64 5, .string ⟨#[]⟩, .string ⟨#[]⟩, .slice none 0 0] 75)) := alloc_more _ _
      have hnil := OwnG.nil (Y := layC) 75 w3.heap.size (w3.alloc (.cells #[.int .i64 1, .string ⟨#[107]⟩, .string ⟨#[]⟩, .slice F m cF, .int .i64 2, .string ⟨#[107]⟩, .string ⟨#[]⟩, .slice none 0 0, .int .i64 3, .string ⟨#[107]⟩, .string ⟨#[106]⟩, .slice none 0 0, .int .i64 5, .string ⟨#[]⟩, .string ⟨#[]⟩, .slice none 0 0] 75))
      clear HCC h5
      go_wp2_with (at_builtin; refine wpList_appG chP (by decide) (by decide) (by kernel_rfl) rfl (.tmp 30) (.tmp 36) rfl rfl hnil rfl hl4 (by omega) (by simp) ?_; intro A8 c8 w8 happ8; have ho8 := happ8.1; simp only [Nat.zero_add, List.nil_append] at ho8)
      have hb38 := hba.trans happ8.2.1
      have HO8 := Lib.hid ho8.rd
      have HB8 := Lib.hid (HB3.out.trans (hb38.mono HB3.out.size))
      have HF8 := Lib.hid (Dw.bsu_mono (HF3.out.below hb38) hb38.size)
      clear happ8 hb38 ho8 hba hl4 hnil
      go_ret2
      exact ⟨_, _, _, [k1V F cF fb, k2V, k3V, c5V], by rw [H.out]; rfl, ⟨HO8.out, fun y hy => by
        rcases List.mem_cons.1 hy with rfl | hy
        · exact okK1 (by rw [HM.out]; exact HF8.out) (by rw [HM.out]; omega)
        · rcases List.mem_cons.1 hy with rfl | hy
          · exact okK2 _ _
          · rcases List.mem_cons.1 hy with rfl | hy
            · exact okK3 _ _
            · rcases List.mem_cons.1 hy with rfl | hy
              · exact ok5 _ _
              · cases hy⟩, by rw [H.out]; rfl, HB8.out⟩
end Go.Proofs.YtlefpodonkdbeaaGreat.Lw
