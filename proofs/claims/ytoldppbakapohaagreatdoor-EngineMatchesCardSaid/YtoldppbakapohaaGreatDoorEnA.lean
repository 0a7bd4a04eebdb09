/- What boarderlaw15's Great comes to. Conditions: the configuration and the leases read; the keys fit. -/
import Derived.Test.YtoldppbakapohaaGreatDoorXwB
import Derived.Test.YtoldppbakapohaaGreatDoorVwF
import Derived.Test.YtoldppbakapohaaGreatDoorBwB
import Derived.Test.YtoldppbakapohaaGreatDoorEzKit
import Derived.Test.YtoldppbakapohaaGreatDoorByMake
import Derived.Test.YtoldppbakapohaaGreatDoorRwA
import Derived.Test.YtoldppbakapohaaGreatDoorRpB
import Derived.Test.YtoldppbakapohaaGreatDoorEzC
import Derived.Test.YtoldppbakapohaaGreatDoorMwA
import Derived.Test.YtoldppbakapohaaGreatDoorEwEq
import Derived.BigQuiet
import Derived.Deep.QuietTactic
section
set_option maxRecDepth 8000
namespace Go.Proofs.YtoldppbakapohaaGreatDoor.Xw
open Go.RowKit Co By Ky Rc Ew Jw La Tb Lw Cf Al Bw
open Vw (Cx RdPl layP atP FiR AdR KeR isI cel3C)
open Dw (ba ba_size ba_data ba_list alloc_more)

/-- Is it more than is looked at? -/
def greatA (c : Cf) (t : List L) (k : List UInt8) : Bool := greatC c || (greatL t || decide (1000 < k.length))
theorem boxC1 (w : World) (x : Cx) : ∃ w0, w0 = w.alloc (.cells x.cs 24) ∧ Cel w0 w.heap.size 24 x.cs ∧ Below w.heap.size w w0 := ⟨_, rfl, Cel.born _ _ _, alloc_more _ _⟩
set_option maxHeartbeats 2000000 in
theorem great_any (x : Cx) (A : Option Addr) (n c U : Nat) (l : List L) (k : List UInt8) (w : World) (hx : x.ok U w) (h : RdLs U w A n c l) (hU : U ≤ w.heap.size) (hf : ∀ a ∈ l, Fk a) (hk : k.length ≤ 9223372036854775807) :
    Calls Tryz.prog 34 #[x.v, .slice A n c, .string (ba k)] w (isB (greatA x.cf l k) w) := by
  obtain ⟨w0, hw0, hc0, hb0⟩ := boxC1 w x
  have HC := Lib.hid (Vw.great_any x U w0 (hx.below (hb0.mono hU)) (Nat.le_trans hU hb0.size))
  have HT := Lib.hid (fun W (hW : Below w.heap.size w W) => Bw.greatT_any A n c U l W (h.below (hW.mono hU)) hf)
  have HB0 := Lib.hid hb0
  have HC0 := Lib.hid hc0
  have hkz : (ba k).size ≤ 9223372036854775807 := by rw [ba_size]; exact hk
  have HG : Hid (greatA x.cf l k = (greatC x.cf || (greatL l || decide (1000 < k.length)))) := rfl
  generalize greatA x.cf l k = g at HG ⊢
  clear hx h hU hf hk hb0 hc0
  cases hg : greatC x.cf with
  | true =>
    rw [hg] at HC HG
    have HF : Hid (g = true) := HG.out
    clear hg HG HT
    go_enter Tryz.func34, Tryz.ntmps34
    go_upto_region 1 with fail
    rw [← hw0]
    clear hw0
    obtain ⟨c0, c1, c2⟩ := cel3C HC0.out
    go_wp2_with fail
    refine HC.out.mono ?_
    rintro e w1 ⟨rfl, hb1⟩
    go_wp2
    go_ret
    exact ⟨ret_bool HF.out.symm, HB0.out.trans (hb1.mono HB0.out.size)⟩
  | false =>
    rw [hg] at HC HG
    cases ht : greatL l with
    | true =>
      rw [ht] at HT HG
      have HF : Hid (g = true) := HG.out
      clear hg ht HG
      go_enter Tryz.func34, Tryz.ntmps34
      go_upto_region 1 with fail
      rw [← hw0]
      clear hw0
      obtain ⟨c0, c1, c2⟩ := cel3C HC0.out
      go_wp2_with fail
      refine HC.out.mono ?_
      rintro e w1 ⟨rfl, hb1⟩
      have HB1 := Lib.hid (HB0.out.trans (hb1.mono HB0.out.size))
      go_wp2_with fail
      refine (HT.out _ HB1.out).mono ?_
      rintro e w2 ⟨rfl, rfl⟩
      go_wp2
      go_ret
      exact ⟨ret_bool HF.out.symm, HB1.out⟩
    | false =>
      rw [ht] at HT HG
      have HF : Hid (g = decide (((ba k).size : Int) > 1000)) := by
        show _ = _
        rw [HG.out, ba_size, Bool.false_or, Bool.false_or, decide_eq_decide]
        omega
      clear hg ht HG
      go_enter Tryz.func34, Tryz.ntmps34
      go_upto_region 1 with fail
      rw [← hw0]
      clear hw0
      obtain ⟨c0, c1, c2⟩ := cel3C HC0.out
      go_wp2_with fail
      refine HC.out.mono ?_
      rintro e w1 ⟨rfl, hb1⟩
      have HB1 := Lib.hid (HB0.out.trans (hb1.mono HB0.out.size))
      go_wp2_with fail
      refine (HT.out _ HB1.out).mono ?_
      rintro e w2 ⟨rfl, rfl⟩
      go_wp2
      go_ret
      exact ⟨ret_bool HF.out.symm, HB1.out⟩

end Go.Proofs.YtoldppbakapohaaGreatDoor.Xw
end
/- What boarderlaw19's client comes to: a message of the client i02, of a kind, with more options. Condition: the more options read. -/
section
set_option maxRecDepth 8000
namespace Go.Proofs.YtoldppbakapohaaGreatDoor.Ex
open Go.RowKit Tl Co Ms Cf Ad By Rp Ky Rc Ew Jw La Tb Pk Al Cl Eg Ey Ez Ow
open Dw (ba ba_size ba_data ba_list)
open Pw (alloc_more celM_all boxM)
open Vw (Cx cel3C)
open Rpw (zc13 Mo)

theorem lits (e : Nat) (w : World) (ps : List Po) (n : Nat) (cs : Array Value) (hcs : cs.toList = cellsP ps) (hn : ps.length = n) (hm : n ≤ 9223372036854775807) : OwnC e w.heap.size (w.alloc (.cells cs e)) (some ⟨w.heap.size, 0, none⟩) n n ps := by
  have h := World.ownsRow_lit (e := e) (size := 2) w cs n (Nat.le_refl _) (by unfold maxLen; omega) (by rw [← Array.length_toList, hcs, cellsP_len, hn])
  rw [hcs] at h
  exact h
/-- The client's message. -/
def cliM (kb : UInt8) (l : List O) : M := ⟨1, 0, 0, 0, 0, 0, 0, 0, 0, 0, 0, List.replicate 16 0, (53, [kb]) :: (61, [48, 50]) :: l⟩
def cliP (b : Nat) (kb : UInt8) : List Po := [⟨53, some ⟨b + 1, 0, none⟩, 1, [kb]⟩, ⟨61, some ⟨b + 1 + 1, 0, none⟩, 2, [48, 50]⟩]
theorem cli_boxes (w : World) (kb : UInt8) : ∃ w3, w3 = (((w.alloc (.cells zc13 29)).alloc (.cells #[.int .u8 (kb.toNat : Int)] 5)).alloc (.cells #[.int .u8 48, .int .u8 50] 5 (2, 2 + 1))).alloc (.cells #[.int .i64 53, .slice (some ⟨w.heap.size + 1, 0, none⟩) 1 1, .int .i64 61, .slice (some ⟨w.heap.size + 1 + 1, 0, none⟩) 2 2] 74) ∧
    Cel w3 w.heap.size 29 zc13 ∧ OwnC 74 (w.heap.size + 1) w3 (some ⟨w.heap.size + 1 + 1 + 1, 0, none⟩) 2 2 (cliP w.heap.size kb) ∧ Own 5 (w.heap.size + 1) w3 (some ⟨w.heap.size + 1, 0, none⟩) 1 1 [kb] ∧ Bs w3 (some ⟨w.heap.size + 1 + 1, 0, none⟩) 2 2 [48, 50] ∧ Below w.heap.size w w3 ∧ w3.heap.size = w.heap.size + 1 + 1 + 1 + 1 := by
  have c0 := Cel.born w 29 zc13
  obtain ⟨w0, e0⟩ : ∃ w0, w0 = w.alloc (.cells zc13 29) := ⟨_, rfl⟩
  have z0 : w0.heap.size = w.heap.size + 1 := by rw [e0]; simp
  have b0 : Below w.heap.size w w0 := by rw [e0]; exact alloc_more _ _
  have h1 := Own.lit1 5 w0 kb
  obtain ⟨w1, e1⟩ : ∃ w1, w1 = w0.alloc (.cells #[.int .u8 (kb.toNat : Int)] 5) := ⟨_, rfl⟩
  have z1 : w1.heap.size = w.heap.size + 1 + 1 := by rw [e1]; simp [z0]
  have b1 : Below w0.heap.size w0 w1 := by rw [e1]; exact alloc_more _ _
  have h2 := Bs.const w1 5 (2, 2 + 1) [48, 50] (by decide)
  obtain ⟨w2, e2⟩ : ∃ w2, w2 = w1.alloc (.cells #[.int .u8 48, .int .u8 50] 5 (2, 2 + 1)) := ⟨_, rfl⟩
  have z2 : w2.heap.size = w.heap.size + 1 + 1 + 1 := by rw [e2]; simp [z1]
  have b2 : Below w1.heap.size w1 w2 := by rw [e2]; exact alloc_more _ _
  have h3 := lits 74 w2 (cliP w.heap.size kb) 2 #[.int .i64 53, .slice (some ⟨w.heap.size + 1, 0, none⟩) 1 1, .int .i64 61, .slice (some ⟨w.heap.size + 1 + 1, 0, none⟩) 2 2] rfl rfl (by omega)
  obtain ⟨w3, e3⟩ : ∃ w3, w3 = w2.alloc (.cells #[.int .i64 53, .slice (some ⟨w.heap.size + 1, 0, none⟩) 1 1, .int .i64 61, .slice (some ⟨w.heap.size + 1 + 1, 0, none⟩) 2 2] 74) := ⟨_, rfl⟩
  have z3 : w3.heap.size = w.heap.size + 1 + 1 + 1 + 1 := by rw [e3]; simp [z2]
  have b3 : Below w2.heap.size w2 w3 := by rw [e3]; exact alloc_more _ _
  have k13 := tr b2 b3
  have k03 := tr b1 k13
  rw [← e0] at c0
  rw [← e1] at h1
  have h2' : Bs w2 (some ⟨w1.heap.size, 0, none⟩) 2 2 [48, 50] := by rw [e2]; exact h2
  rw [← e3] at h3
  refine ⟨w3, by rw [e3, e2, e1, e0], c0.below k03 c0.lt, ?_, ?_, ?_, tr b0 k03, z3⟩
  · rw [z2] at h3
    exact h3.mono (by omega)
  · rw [z0] at h1
    exact (h1.below k13).mono (Nat.le_refl _)
  · rw [z1] at h2'
    exact h2'.below b3
/-- What a call of client's answers. -/
def ClR (kb : UInt8) (l : List O) (w : World) (e : Ending) (w' : World) : Prop := ∃ y : Mv, e = .returned y.v ∧ y.ok w' ∧ y.mm = cliM kb l ∧ (∀ p ∈ y.ps, p.l.length ≤ 1000) ∧ Below w.heap.size w w'
theorem cli_ret {fn : Func} {p : Tmp} (hres : fn.results = #[.cell p 29]) (tmps : Array Value) (w : World) (g : Nat) (cs : Array Value) (hp : tmps.getD p undef = .pointer (some ⟨g, 0, none⟩)) (hc : Cel w g 29 cs) (hs : cs.size = 13) :
    (results fn tmps).run Tryz.prog w = .ok (.agg cs) w := results_cell_row hres tmps w g _ cs (0, 0) _ hp hc Tryz.underlying29 rfl (by rw [hs]; kernel_rfl)
theorem own_kept {e B g g' n c m k : Nat} {w w' : World} {l : List UInt8} (h : Own e B w (some ⟨g, 0, none⟩) n c l) (hg : w.grownBy w' (Value.slice (some ⟨g', 0, none⟩) m k).ownBlock) (hne : g ≠ g') : Own e B w' (some ⟨g, 0, none⟩) n c l :=
  World.ownsRow.kept h hg (.inr (by simp [Value.ownBlock, hne]))
theorem bs_kept {g g' n c : Nat} {w w' : World} {l : List UInt8} (h : Bs w (some ⟨g, 0, none⟩) n c l) (hg : w.grownBy w' (some g')) (hne : g ≠ g') : Bs w' (some ⟨g, 0, none⟩) n c l := by
  obtain ⟨h1, h2, h3, h4⟩ := h
  refine ⟨h1, h2, h3, fun hn => ?_⟩
  obtain ⟨b, o, e, hc⟩ := h4 hn
  refine ⟨b, o, e, fun i hi => hg.cell (hc i hi) ?_⟩
  obtain ⟨rfl, rfl⟩ : g = b ∧ 0 = o := by injection e with e; injection e with e1 e2; exact ⟨e1, e2⟩
  simp [hne]
theorem cli_end {w wq w9 : World} {kb : UInt8} {A A9 : Option Addr} {n c c9 cb : Nat} {ps : List Po} {cs : Array Value} (_ : n ≤ 100) (h9 : w9 = wq.setRow w.heap.size cs) (ho : OwnC 74 (w.heap.size + 1) wq A9 (2 + n) c9 (cliP w.heap.size kb ++ ps)) (hc : Own 5 (w.heap.size + 1) wq (some ⟨cb, 0, none⟩) 16 16 (List.replicate 16 0))
    (hk : Own 5 (w.heap.size + 1) wq (some ⟨w.heap.size + 1, 0, none⟩) 1 1 [kb]) (hi : Bs wq (some ⟨w.heap.size + 1 + 1, 0, none⟩) 2 2 [48, 50]) (hb : Below w.heap.size w wq) (hp : ∀ W, Below w.heap.size w W → RdO W A n c ps) (hs : ∀ p ∈ ps, p.l.length ≤ 1000) :
    ClR kb (osP ps) w (.returned (.agg (#[.int .i64 1, .int .i64 0, .int .i64 0, .int .i64 0, .int .i64 0, .int .i64 0, .int .i64 0, .int .i64 0, .int .i64 0, .int .i64 0, .int .i64 0, .slice (some ⟨cb, 0, none⟩) 16 16, .slice A9 (2 + n) c9]))) w9 := by
  have hlt : w.heap.size < w.heap.size + 1 := Nat.lt_succ_self _
  have hg := rowG wq w.heap.size cs
  rw [← h9] at hg
  have hb9 : Below w.heap.size w w9 := by rw [h9]; exact rowB hb (Nat.le_refl _) _
  have ho9 : OwnC 74 (w.heap.size + 1) w9 A9 (2 + n) c9 (cliP w.heap.size kb ++ ps) := Rpw.row_low ho hlt hg
  have hc9 : Own 5 (w.heap.size + 1) w9 (some ⟨cb, 0, none⟩) 16 16 (List.replicate 16 0) := Rpw.row_low hc hlt hg
  have hk9 : Own 5 (w.heap.size + 1) w9 (some ⟨w.heap.size + 1, 0, none⟩) 1 1 [kb] := Rpw.row_low hk hlt hg
  have hi9 : Bs w9 (some ⟨w.heap.size + 1 + 1, 0, none⟩) 2 2 [48, 50] := bs_kept hi hg (by omega)
  refine ⟨⟨1, 0, 0, 0, 0, 0, 0, 0, 0, 0, 0, some ⟨cb, 0, none⟩, 16, 16, List.replicate 16 0, A9, 2 + n, c9, cliP w.heap.size kb ++ ps⟩, rfl, ⟨hc9.bs, ho9.rdc, fun p q => ?_⟩, rfl, fun p q => ?_, hb9⟩
  · rcases List.mem_append.1 q with q | q
    · simp only [cliP, List.mem_cons, List.not_mem_nil, or_false] at q
      rcases q with rfl | rfl
      · exact hk9.bs
      · exact hi9
    · exact (hp _ hb9).2 p q
  · rcases List.mem_append.1 q with q | q
    · simp only [cliP, List.mem_cons, List.not_mem_nil, or_false] at q
      rcases q with rfl | rfl
      · simp
      · simp
    · exact hs p q
set_option maxHeartbeats 8000000 in
theorem client_any (kind : Int) (kb : UInt8) (A : Option Addr) (n c : Nat) (ps : List Po) (w : World) (hk : IntKind.u8.wrap kind = (kb.toNat : Int)) (h : RdO w A n c ps) (hn : n ≤ 100) (hs : ∀ p ∈ ps, p.l.length ≤ 1000) :
    Calls Tryz.prog 37 #[.int .i64 kind, .slice A n c] w (ClR kb (osP ps) w) := by
  have hmk : ∀ W, (Instr.makeSlice 26 (.int .i64 16) (.int .i64 16)).run Tryz.prog W = .ok (.slice (some ⟨W.heap.size, 0, none⟩) 16 16) (W.alloc (.cells (madeCells (Value.int .u8 0).cells 16) 5)) := fun W => byP.make (P := Tryz.prog) 16 (by omega) W
  have HMD := Lib.hid (fun W : World => Own.made 5 W 16 (by omega))
  generalize madeCells (Value.int .u8 0).cells 16 = CS at hmk HMD
  obtain ⟨w3, hw3, hz3, hl3, hk3, hi3, hb3, hs3⟩ := cli_boxes w kb
  have kc := Lib.run_convert_bytes_const (P := Tryz.prog) ((w.alloc (.cells #[.int .i64 0, .int .i64 0, .int .i64 0, .int .i64 0, .int .i64 0, .int .i64 0, .int .i64 0, .int .i64 0, .int .i64 0, .int .i64 0, .int .i64 0, .slice none 0 0, .slice none 0 0] 29)).alloc (.cells #[.int .u8 (kb.toNat : Int)] 5)) 26 5 #[.int .u8 48, .int .u8 50] 2 2 byP.hT byP.he
  rw [show ((w.alloc (.cells #[.int .i64 0, .int .i64 0, .int .i64 0, .int .i64 0, .int .i64 0, .int .i64 0, .int .i64 0, .int .i64 0, .int .i64 0, .int .i64 0, .int .i64 0, .slice none 0 0, .slice none 0 0] 29)).alloc (.cells #[.int .u8 (kb.toNat : Int)] 5)).heap.size = w.heap.size + 1 + 1 by simp] at kc
  have KZ := Lib.hid (fun W (hW : Below w3.heap.size w3 W) => hz3.below hW hz3.lt)
  have KL := Lib.hid (fun W (hW : Below w3.heap.size w3 W) => hl3.below hW)
  have KK := Lib.hid (fun W (hW : Below w3.heap.size w3 W) => hk3.below hW)
  have KI := Lib.hid (fun W (hW : Below w3.heap.size w3 W) => hi3.below hW)
  have HB3 := Lib.hid hb3
  have HS3 := Lib.hid hs3
  have HPS := Lib.hid (fun W (hW : Below w.heap.size w W) => h.below hW)
  have HSM := Lib.hid hs
  have HN := Lib.hid hn
  clear hz3 hl3 hk3 hi3 hb3 hs3 h hs hn
  go_enter Tryz.func37, Tryz.ntmps37
  go_upto_region 2 with fail
  rw [← hw3]
  clear hw3
  refine wp_region_held_drew (S := fun _ => True) (by kernel_rfl) trivial (fun hHeld => ?_)
  refine wpAnyH_take (i := 1) (v := .slice (some ⟨w.heap.size + 1 + 1 + 1, 0, none⟩) 2 2) rfl (by kernel_rfl) (by kernel_rfl) (by kernel_rfl) (fun _ _ _ h => h) (.inl ⟨by rfl, fun w hSw => by go_simp⟩) hHeld ?_
  simp only [Act.put, gTo, sTo]
  refine wpAnyH_take (i := 2) (v := .slice A n c) rfl (by kernel_rfl) (by kernel_rfl) (by kernel_rfl) (fun _ _ _ h => h) (.inl ⟨by rfl, fun w hSw => by go_simp⟩) hHeld ?_
  simp only [Act.put, gTo, gZe, gSu, sTo, sZe, sSu]
  refine wpAnyH_ready (rs := [0, 3]) (by kernel_rfl) (by simp) ?_
  refine AllReadyH.cons rfl (fun K2 hK2 => ?_) (AllReadyH.cons rfl (fun K2 hK2 => ?_) AllReadyH.nil)
  · go_simp
    obtain ⟨w5, hw5⟩ : ∃ w5, w5 = (w3.alloc (.cells CS 5)).drew := ⟨_, rfl⟩
    rw [← hw5]
    have hb5 : Below w3.heap.size w3 w5 := by rw [hw5]; exact (alloc_more _ _).drew
    have HM5 := Lib.hid (show Own 5 w3.heap.size w5 (some ⟨w3.heap.size, 0, none⟩) 16 16 (List.replicate 16 0) by rw [hw5]; exact HMD.out w3)
    clear hw5
    obtain ⟨cb, hcb⟩ : ∃ cb, cb = w3.heap.size := ⟨_, rfl⟩
    rw [← hcb]
    have HCB := Lib.hid hcb
    rw [← hcb] at HM5
    clear hcb
    refine hK2.out _ _ (trivial) (fun hHeld => ?_)
    clear hK2 K2
    try simp only [Act.put, gTo, gZe, gSu, sTo, sZe, sSu]
    refine wpAnyH_ready (rs := [3]) (by kernel_rfl) (by simp) ?_
    refine AllReadyH.cons rfl (fun K2 hK2 => ?_) AllReadyH.nil
    refine By.step_appO Tw.opP (by rfl) (.tmp 15) (.tmp 16) (by rfl) (by rfl) (KL.out _ hb5) (by rfl) (HPS.out _ (tr HB3.out hb5)).1 (by have := HN.out; omega) (by have := HS3.out; have := (hb5).size; omega) ?_
    intro A9 c9 w7 hown7 hb7 hg7
    obtain ⟨wq, hwq⟩ : ∃ wq, wq = w7 := ⟨_, rfl⟩
    subst hwq
    have HBQ := Lib.hid (show Below w.heap.size w wq from (tr HB3.out hb5).trans (hb7.mono (Nat.le_add_right _ 1)))
    have HOW := Lib.hid hown7
    have HZQ := Lib.hid ((KZ.out _ hb5).below hb7 (Nat.lt_succ_self _))
    have HCH := Lib.hid ((own_kept HM5.out hg7 (by have := HCB.out; have := HS3.out; omega)).mono (show w.heap.size + 1 ≤ cb by have := HCB.out; have := HS3.out; omega))
    have HKQ := Lib.hid (own_kept (KK.out _ hb5) hg7 (by omega))
    have HIQ := Lib.hid (bs_kept (KI.out _ hb5) hg7 (by show w.heap.size + 1 + 1 ≠ w.heap.size + 1 + 1 + 1; omega))
    clear hown7 hb7 hg7
    refine hK2.out _ _ (trivial) (fun hHeld => ?_)
    clear hK2 K2
    try simp only [Act.put, gTo, gZe, gSu, sTo, sZe, sSu]
    refine wpAnyH_take (i := 4) (v := .agg #[.int .i64 1, .int .i64 0, .int .i64 0, .int .i64 0, .int .i64 0, .int .i64 0, .int .i64 0, .int .i64 0, .int .i64 0, .int .i64 0, .int .i64 0, .slice (some ⟨cb, 0, none⟩) 16 16, .slice A9 (2 + n) c9]) rfl (by kernel_rfl) (by kernel_rfl) (by kernel_rfl) (fun _ _ _ h => h) (.inl ⟨by rfl, fun w hSw => by go_simp⟩) hHeld ?_
    simp only [Act.put, gTo, gZe, gSu, sTo, sZe, sSu]
    refine wpAnyH_ready (rs := [5]) (by kernel_rfl) (by simp) ?_
    refine AllReadyH.cons rfl (fun K2 hK2 => ?_) AllReadyH.nil
    refine wp_store_row 29 (.tmp 4) (.tmp 18) rfl w.heap.size #[.int .i64 1, .int .i64 0, .int .i64 0, .int .i64 0, .int .i64 0, .int .i64 0, .int .i64 0, .int .i64 0, .int .i64 0, .int .i64 0, .int .i64 0, .slice (some ⟨cb, 0, none⟩) 16 16, .slice A9 (2 + n) c9] rfl rfl 29 zc13 HZQ.out (by kernel_rfl) rfl (by kernel_rfl) ?_
    obtain ⟨w9, hw9⟩ : ∃ w9, w9 = wq.setRow w.heap.size #[.int .i64 1, .int .i64 0, .int .i64 0, .int .i64 0, .int .i64 0, .int .i64 0, .int .i64 0, .int .i64 0, .int .i64 0, .int .i64 0, .int .i64 0, .slice (some ⟨cb, 0, none⟩) 16 16, .slice A9 (2 + n) c9] := ⟨_, rfl⟩
    rw [← hw9]
    have HW9 := Lib.hid hw9
    clear hw9
    refine hK2.out _ _ (trivial) (fun hHeld => ?_)
    clear hK2 K2
    try simp only [Act.put, gTo, gZe, gSu]
    refine wpAnyH_done (by kernel_rfl) ?_ _
    go_wp2
    (try simp only [Exit.inBlock, Exit.then])
    refine bodyPost_ret (cli_ret rfl _ _ w.heap.size #[.int .i64 1, .int .i64 0, .int .i64 0, .int .i64 0, .int .i64 0, .int .i64 0, .int .i64 0, .int .i64 0, .int .i64 0, .int .i64 0, .int .i64 0, .slice (some ⟨cb, 0, none⟩) 16 16, .slice A9 (2 + n) c9] rfl (by rw [HW9.out]; exact rowC HZQ.out _) rfl) rfl ?_
    exact cli_end HN.out HW9.out HOW.out HCH.out HKQ.out HIQ.out HBQ.out HPS.out HSM.out
  · have hb5 : Below w3.heap.size w3 w3.drew := (Below.refl w3.heap.size w3).drew
    refine By.step_appO Tw.opP (by rfl) (.tmp 15) (.tmp 16) (by rfl) (by rfl) (KL.out _ hb5) (by rfl) (HPS.out _ (tr HB3.out hb5)).1 (by have := HN.out; omega) (by have := HS3.out; have := (hb5).size; omega) ?_
    intro A9 c9 w7 hown7 hb7 hg7
    refine hK2.out _ _ (trivial) (fun hHeld => ?_)
    clear hK2 K2
    try simp only [Act.put, gTo, gZe, gSu, sTo, sZe, sSu]
    refine wpAnyH_ready (rs := [0]) (by kernel_rfl) (by simp) ?_
    refine AllReadyH.cons rfl (fun K2 hK2 => ?_) AllReadyH.nil
    go_simp
    obtain ⟨wq, hwq⟩ : ∃ wq, wq = w7.alloc (.cells CS 5) := ⟨_, rfl⟩
    rw [← hwq]
    have hbq : Below w7.heap.size w7 wq := by rw [hwq]; exact alloc_more _ _
    have HM5 := Lib.hid (show Own 5 w7.heap.size wq (some ⟨w7.heap.size, 0, none⟩) 16 16 (List.replicate 16 0) by rw [hwq]; exact HMD.out w7)
    clear hwq
    have h7s : w.heap.size + 1 ≤ w7.heap.size := by have h1 := hb7.size; have h2 := HS3.out; have h3 : w3.heap.size ≤ w7.heap.size := h1; omega
    obtain ⟨cb, hcb⟩ : ∃ cb, cb = w7.heap.size := ⟨_, rfl⟩
    rw [← hcb]
    rw [← hcb] at HM5
    have HBQ := Lib.hid (show Below w.heap.size w wq from ((tr HB3.out hb5).trans (hb7.mono (Nat.le_add_right _ 1))).trans (hbq.mono (by omega)))
    have HOW := Lib.hid (hown7.below hbq)
    have HZQ := Lib.hid (((KZ.out _ hb5).below hb7 (Nat.lt_succ_self _)).below hbq (by omega))
    have HCH := Lib.hid (HM5.out.mono (show w.heap.size + 1 ≤ cb by omega))
    have HKQ := Lib.hid ((own_kept (KK.out _ hb5) hg7 (by omega)).below hbq)
    have HIQ := Lib.hid ((bs_kept (KI.out _ hb5) hg7 (by show w.heap.size + 1 + 1 ≠ w.heap.size + 1 + 1 + 1; omega)).below hbq)
    clear hown7 hb7 hg7 hbq h7s hcb
    refine hK2.out _ _ (trivial) (fun hHeld => ?_)
    clear hK2 K2
    try simp only [Act.put, gTo, gZe, gSu, sTo, sZe, sSu]
    refine wpAnyH_take (i := 4) (v := .agg #[.int .i64 1, .int .i64 0, .int .i64 0, .int .i64 0, .int .i64 0, .int .i64 0, .int .i64 0, .int .i64 0, .int .i64 0, .int .i64 0, .int .i64 0, .slice (some ⟨cb, 0, none⟩) 16 16, .slice A9 (2 + n) c9]) rfl (by kernel_rfl) (by kernel_rfl) (by kernel_rfl) (fun _ _ _ h => h) (.inl ⟨by rfl, fun w hSw => by go_simp⟩) hHeld ?_
    simp only [Act.put, gTo, gZe, gSu, sTo, sZe, sSu]
    refine wpAnyH_ready (rs := [5]) (by kernel_rfl) (by simp) ?_
    refine AllReadyH.cons rfl (fun K2 hK2 => ?_) AllReadyH.nil
    refine wp_store_row 29 (.tmp 4) (.tmp 18) rfl w.heap.size #[.int .i64 1, .int .i64 0, .int .i64 0, .int .i64 0, .int .i64 0, .int .i64 0, .int .i64 0, .int .i64 0, .int .i64 0, .int .i64 0, .int .i64 0, .slice (some ⟨cb, 0, none⟩) 16 16, .slice A9 (2 + n) c9] rfl rfl 29 zc13 HZQ.out (by kernel_rfl) rfl (by kernel_rfl) ?_
    obtain ⟨w9, hw9⟩ : ∃ w9, w9 = wq.setRow w.heap.size #[.int .i64 1, .int .i64 0, .int .i64 0, .int .i64 0, .int .i64 0, .int .i64 0, .int .i64 0, .int .i64 0, .int .i64 0, .int .i64 0, .int .i64 0, .slice (some ⟨cb, 0, none⟩) 16 16, .slice A9 (2 + n) c9] := ⟨_, rfl⟩
    rw [← hw9]
    have HW9 := Lib.hid hw9
    clear hw9
    refine hK2.out _ _ (trivial) (fun hHeld => ?_)
    clear hK2 K2
    try simp only [Act.put, gTo, gZe, gSu]
    refine wpAnyH_done (by kernel_rfl) ?_ _
    go_wp2
    (try simp only [Exit.inBlock, Exit.then])
    refine bodyPost_ret (cli_ret rfl _ _ w.heap.size #[.int .i64 1, .int .i64 0, .int .i64 0, .int .i64 0, .int .i64 0, .int .i64 0, .int .i64 0, .int .i64 0, .int .i64 0, .int .i64 0, .int .i64 0, .slice (some ⟨cb, 0, none⟩) 16 16, .slice A9 (2 + n) c9] rfl (by rw [HW9.out]; exact rowC HZQ.out _) rfl) rfl ?_
    exact cli_end HN.out HW9.out HOW.out HCH.out HKQ.out HIQ.out HBQ.out HPS.out HSM.out
end Go.Proofs.YtoldppbakapohaaGreatDoor.Ex
end
/- The examples of boarderlaw19: what becomes of the client's three messages. No conditions. -/
section
set_option maxRecDepth 8000
namespace Go.Proofs.YtoldppbakapohaaGreatDoor.Ex
open Go.RowKit Tl Co Ms Cf Ad By Rp Ky Rc La Tb Pk Al Cl Eg
open Vw (cfP)

def exO : List O := [((54 : Int), [(10 : UInt8), 0, 0, 1]), ((50 : Int), [(10 : UInt8), 0, 0, 10])]
def exL : L := ⟨167772170, 1, 605, [105, 48, 50]⟩
def exA1 : An := handleE (cfP 167772170) [] (cliM 1 []) 1 5
def exA2 : An := handleE (cfP 167772170) [] (cliM 3 exO) 1 5
def exA3 : An := handleE (cfP 167772170) [exL] (cliM 4 exO) 1 9
theorem ex_a1 : exA1.send = true := by kernel_rfl
theorem ex_a2 : exA1.reply.yi = 167772170 := by kernel_rfl
theorem ex_a3 : exA1.to.2.2 = true := by kernel_rfl
theorem ex_b1 : exA2.send = true := by kernel_rfl
theorem ex_b2 : exA2.keep = true := by kernel_rfl
theorem ex_b3 : exA2.lease = exL := by kernel_rfl
theorem ex_t : setT [] exL = ([exL], 0) := by kernel_rfl
theorem ex_c1 : exA3.send = false := by kernel_rfl
theorem ex_c2 : exA3.keep = true := by kernel_rfl
theorem ex_c3 : exA3.lease.till = 309 := by kernel_rfl
theorem ex_c4 : exA3.lease.state = 3 := by kernel_rfl
end Go.Proofs.YtoldppbakapohaaGreatDoor.Ex
end
/- boarderlaw19's great. Condition: the configuration, the leases and the message read. -/
section
set_option maxRecDepth 8000
namespace Go.Proofs.YtoldppbakapohaaGreatDoor.Ex
open Go.RowKit Tl Co Ms Cf Ad By Rp Ky Rc Ew Jw La Tb Pk Al Cl Eg Ey
open Dw (ba ba_size ba_data ba_list)
open Pw (alloc_more celM_all boxM boxCM small_ms)
open Vw (Cx cel3C)

def great19 (c : Cf) (l : List L) (m : M) : Bool := Xw.greatA c l [] || Mw.greatM m
theorem great19_no {c : Cf} {l : List L} {m : M} (h : great19 c l m = false) : Small c ∧ Mw.greatM m = false := by
  obtain ⟨h1, h2⟩ := Bool.or_eq_false_iff.1 h
  exact ⟨small_iff.1 (Bool.or_eq_false_iff.1 h1).1, h2⟩
set_option maxHeartbeats 4000000 in
theorem great19_any (c : Cx) (A : Option Addr) (n cc U : Nat) (l : List L) (x : Mv) (w : World) (hc : c.ok U w) (hl : RdLs U w A n cc l) (hU : U ≤ w.heap.size) (hf : ∀ b ∈ l, Fk b) (hx : x.ok w) :
    Calls Tryz.prog 9 #[c.v, .slice A n cc, x.v] w (Vw.isB (great19 c.cf l x.mm) w) := by
  obtain ⟨w0, hw0, hc0, hm0, hb0, hs0⟩ := boxCM w c x 29
  have C1 := Lib.hid (Xw.great_any c A n cc U l [] w0 (hc.below (hb0.mono hU)) (hl.below (hb0.mono hU)) (Nat.le_trans hU hb0.size) hf (by simp))
  have C2 := Lib.hid (fun W (hW : Below w0.heap.size w0 W) => Mw.great_msg x W (hx.below (tr hb0 hW)))
  have KM := Lib.hid (fun W (hW : Below w0.heap.size w0 W) => celM_all (hm0.below hW hm0.lt))
  have HG : Hid (great19 c.cf l x.mm = (Xw.greatA c.cf l [] || Mw.greatM x.mm)) := rfl
  generalize great19 c.cf l x.mm = g at HG ⊢
  generalize Xw.greatA c.cf l [] = g1 at C1 HG
  generalize Mw.greatM x.mm = g2 at C2 HG
  have HB0 := Lib.hid hb0
  obtain ⟨v0, v1, v2⟩ := cel3C hc0
  clear hc hl hU hf hx hc0 hm0 hb0 hs0
  cases g1 with
  | true =>
    have HT : Hid (g = true) := HG.out
    go_enter Tryz.func9, Tryz.ntmps9
    go_upto_region 1 with fail
    rw [← hw0]
    clear hw0
    go_wp2_with fail
    refine C1.out.mono ?_
    rintro e w1 ⟨rfl, hb1⟩
    have HB1 := Lib.hid (tr HB0.out hb1)
    clear hb1 v0 v1 v2
    go_wp2
    go_ret
    exact ⟨by rw [HT.out]; rfl, HB1.out⟩
  | false =>
    have HT : Hid (g = g2) := HG.out
    go_enter Tryz.func9, Tryz.ntmps9
    go_upto_region 1 with fail
    rw [← hw0]
    clear hw0
    go_wp2_with fail
    refine C1.out.mono ?_
    rintro e w1 ⟨rfl, hb1⟩
    have HB01 := Lib.hid hb1
    have HB1 := Lib.hid (tr HB0.out hb1)
    clear hb1 v0 v1 v2
    obtain ⟨⟨m0, m1, m2, m3, m4, m5, m6⟩, m7, m8, m9, m10, m11, m12⟩ := KM.out w1 HB01.out
    go_wp2_with fail
    refine (C2.out w1 HB01.out).mono ?_
    rintro e w2 ⟨rfl, hb2⟩
    have HB2 := Lib.hid (tr HB1.out hb2)
    clear hb2 m0 m1 m2 m3 m4 m5 m6 m7 m8 m9 m10 m11 m12
    go_wp2
    go_ret
    exact ⟨by rw [HT.out]; rfl, HB2.out⟩
end Go.Proofs.YtoldppbakapohaaGreatDoor.Ex
end
/- boarderlaw19's knows: the document's examples come out. Condition: what msg's package-level variables hold (En.ok). -/
section
set_option maxRecDepth 8000
namespace Go.Proofs.YtoldppbakapohaaGreatDoor.Ex
open Go.RowKit Tl Co Ms Cf Ad By Rp Ky Rc Ew Jw La Tb Pk Al Cl Eg Ey Ez Ow
open Dw (ba ba_size ba_data ba_list)
open Pw (alloc_more celM_all boxM)
open Vw (Cx cel3C PlA plCx plCs plain_any cfP)
open Rpw (zc13 Mo)

theorem lit4 (e : Nat) (w : World) (x y z u : UInt8) : Own e w.heap.size (w.alloc (.cells #[.int .u8 (x.toNat : Int), .int .u8 (y.toNat : Int), .int .u8 (z.toNat : Int), .int .u8 (u.toNat : Int)] e)) (some ⟨w.heap.size, 0, none⟩) 4 4 [x, y, z, u] :=
  World.ownsRow_lit w #[.int .u8 (x.toNat : Int), .int .u8 (y.toNat : Int), .int .u8 (z.toNat : Int), .int .u8 (u.toNat : Int)] 4 (Nat.le_refl _) (by unfold maxLen; omega) rfl
theorem box54 (w : World) : ∃ w2, w2 = (w.alloc (.cells #[.int .u8 10, .int .u8 0, .int .u8 0, .int .u8 1] 5)).alloc (.cells #[.int .i64 54, .slice (some ⟨w.heap.size, 0, none⟩) 4 4] 74) ∧ Bs w2 (some ⟨w.heap.size, 0, none⟩) 4 4 [10, 0, 0, 1] ∧ Cel w2 (w.heap.size + 1) 74 #[.int .i64 54, .slice (some ⟨w.heap.size, 0, none⟩) 4 4] ∧ Below w.heap.size w w2 := by
  have h1 := (lit4 5 w 10 0 0 1).bs
  obtain ⟨w1, e1⟩ : ∃ w1, w1 = w.alloc (.cells #[.int .u8 10, .int .u8 0, .int .u8 0, .int .u8 1] 5) := ⟨_, rfl⟩
  have z1 : w1.heap.size = w.heap.size + 1 := by rw [e1]; simp
  have b1 : Below w.heap.size w w1 := by rw [e1]; exact alloc_more _ _
  have c2 := Cel.born w1 74 #[.int .i64 54, .slice (some ⟨w.heap.size, 0, none⟩) 4 4]
  have h1' : Bs w1 (some ⟨w.heap.size, 0, none⟩) 4 4 [10, 0, 0, 1] := by rw [e1]; exact h1
  rw [z1] at c2
  exact ⟨_, by rw [← e1], h1'.below (alloc_more _ _), c2, tr b1 (alloc_more _ _)⟩
theorem box50 (w : World) : ∃ w2, w2 = (w.alloc (.cells #[.int .u8 10, .int .u8 0, .int .u8 0, .int .u8 10] 5)).alloc (.cells #[.int .i64 50, .slice (some ⟨w.heap.size, 0, none⟩) 4 4] 74) ∧ Bs w2 (some ⟨w.heap.size, 0, none⟩) 4 4 [10, 0, 0, 10] ∧ Cel w2 (w.heap.size + 1) 74 #[.int .i64 50, .slice (some ⟨w.heap.size, 0, none⟩) 4 4] ∧ Below w.heap.size w w2 := by
  have h1 := (lit4 5 w 10 0 0 10).bs
  obtain ⟨w1, e1⟩ : ∃ w1, w1 = w.alloc (.cells #[.int .u8 10, .int .u8 0, .int .u8 0, .int .u8 10] 5) := ⟨_, rfl⟩
  have z1 : w1.heap.size = w.heap.size + 1 := by rw [e1]; simp
  have b1 : Below w.heap.size w w1 := by rw [e1]; exact alloc_more _ _
  have c2 := Cel.born w1 74 #[.int .i64 50, .slice (some ⟨w.heap.size, 0, none⟩) 4 4]
  have h1' : Bs w1 (some ⟨w.heap.size, 0, none⟩) 4 4 [10, 0, 0, 10] := by rw [e1]; exact h1
  rw [z1] at c2
  exact ⟨_, by rw [← e1], h1'.below (alloc_more _ _), c2, tr b1 (alloc_more _ _)⟩
def exP (a b : Nat) : List Po := [⟨54, some ⟨a, 0, none⟩, 4, [10, 0, 0, 1]⟩, ⟨50, some ⟨b, 0, none⟩, 4, [10, 0, 0, 10]⟩]
theorem exP_small (a b : Nat) : ∀ p ∈ exP a b, p.l.length ≤ 1000 := fun p hp => by
  simp only [exP, List.mem_cons, List.not_mem_nil, or_false] at hp
  rcases hp with rfl | rfl
  · simp
  · simp
theorem plc3 {W : World} {g b : Nat} {t : TypeId} (h : Cel W g t (plCs b)) : W.cell? ⟨g, 0, none⟩ = some (.int .i64 167772161) ∧ W.cell? ⟨g, 1, none⟩ = some (.int .i64 300) ∧ W.cell? ⟨g, 2, none⟩ = some (.slice (some ⟨b + 5, 0, none⟩) 1 1) := ⟨by rw [h.cell]; rfl, by rw [h.cell]; rfl, by rw [h.cell]; rfl⟩
theorem opt2 {W : World} {g b : Nat} {code : Int} {t : TypeId} (h : Cel W g t #[.int .i64 code, .slice (some ⟨b, 0, none⟩) 4 4]) : W.cell? ⟨g, 0, none⟩ = some (.int .i64 code) ∧ W.cell? ⟨g, 1, none⟩ = some (.slice (some ⟨b, 0, none⟩) 4 4) := ⟨by rw [h.cell]; rfl, by rw [h.cell]; rfl⟩
theorem fk_exL : ∀ b ∈ [exL], Fk b := fun b hb => by
  simp only [List.mem_cons, List.not_mem_nil, or_false] at hb
  subst hb
  show (3 : Nat) ≤ 9223372036854775807
  omega
set_option maxHeartbeats 16000000 in
theorem knows_yes (E : Mw.En) (w : World) (hE : E.ok w) : Calls Tryz.prog 10 #[] w (isTrue w) := by
  have KE := Lib.hid (fun W (hW : Below w.heap.size w W) => hE.below hW)
  clear hE
  go_enter Tryz.func10, Tryz.ntmps10
  go_wp2_with fail
  refine (plain_any w).mono ?_
  rintro e wp ⟨rfl, hpl, hbp, hsp⟩
  obtain ⟨w1, hw1⟩ : ∃ w1, w1 = wp.alloc (.cells (plCs w.heap.size) 24) := ⟨_, rfl⟩
  have hb1 : Below w.heap.size w w1 := by rw [hw1]; exact tr hbp (alloc_more _ _)
  have hc1 : Cel w1 wp.heap.size 24 (plCs w.heap.size) := by rw [hw1]; exact Cel.born _ _ _
  have hp1 : PlA w1 w.heap.size 167772170 := by rw [hw1]; exact hpl.below (alloc_more _ _) (by omega)
  have hs1 : w.heap.size + 5 < w1.heap.size := by rw [hw1]; simp; omega
  have HC1 := Lib.hid hc1
  have HP1 := Lib.hid hp1
  have HS1 := Lib.hid hs1
  have HB1 := Lib.hid hb1
  clear hpl hbp hsp hc1 hp1 hs1 hb1
  go_upto_region 2 with fail
  rw [← hw1]
  clear hw1
  generalize wp.heap.size = cb at HC1 ⊢
  obtain ⟨w2, hw2, ho2, hd2, hb12⟩ := box54 w1
  have HO2 := Lib.hid ho2
  have HD2 := Lib.hid hd2
  have HB12 := Lib.hid hb12
  clear ho2 hd2 hb12
  go_upto_region 3 with fail
  rw [← hw2]
  clear hw2
  obtain ⟨w3, hw3, ho3, hd3, hb23⟩ := box50 w2
  have HO3 := Lib.hid ho3
  have HD3 := Lib.hid hd3
  have HB23 := Lib.hid hb23
  clear ho3 hd3 hb23
  go_upto_region 4 with fail
  rw [← hw3]
  clear hw3
  have HB13 := Lib.hid (tr HB12.out HB23.out)
  have HB3 := Lib.hid (tr HB1.out HB13.out)
  have MC := Lib.hid (fun W (hW : Below w3.heap.size w3 W) => plc3 (HC1.out.below (tr HB13.out hW) HC1.out.lt))
  have MP := Lib.hid (fun W (hW : Below w3.heap.size w3 W) => HP1.out.below (tr HB13.out hW) HS1.out)
  have MS : Hid (w.heap.size + 5 < w3.heap.size) := Nat.lt_of_lt_of_le HS1.out HB13.out.size
  have ME := Lib.hid (fun W (hW : Below w3.heap.size w3 W) => KE.out W (tr HB3.out hW))
  have M2 := Lib.hid (fun W (hW : Below w3.heap.size w3 W) => opt2 (HD2.out.below (tr HB23.out hW) HD2.out.lt))
  have M3 := Lib.hid (fun W (hW : Below w3.heap.size w3 W) => opt2 (HD3.out.below hW HD3.out.lt))
  have MB : Hid (∀ W, Below w3.heap.size w3 W → ∀ p ∈ exP w1.heap.size w2.heap.size, p.bs W) := fun W hW p hp => by
    simp only [exP, List.mem_cons, List.not_mem_nil, or_false] at hp
    rcases hp with rfl | rfl
    · exact HO2.out.below (tr HB23.out hW)
    · exact HO3.out.below hW
  have HPS := Lib.hid (exP_small w1.heap.size w2.heap.size)
  have HB33 := Lib.hid (Below.refl w3.heap.size w3)
  clear KE HC1 HP1 HS1 HO2 HD2 HO3 HD3
  have OC := Lib.hid (fun W (hW : Below w3.heap.size w3 W) => PlA.ok (U := w3.heap.size) (MP.out W (tr HB33.out hW)) (Nat.lt_of_lt_of_le MS.out HB33.out.size))
  have OE := Lib.hid (fun W (hW : Below w3.heap.size w3 W) => ME.out W (tr HB33.out hW))
  have OU := Lib.hid (fun W (hW : Below w3.heap.size w3 W) => hW.size)
  have HPB := Lib.hid (fun W (hW : Below w3.heap.size w3 W) => MB.out W (tr HB33.out hW))
  go_upto_region 4 with fail
  have SS := Lib.hid (fun W (hW : Below w3.heap.size w3 W) => MC.out W (tr HB33.out hW))
  go_cut [4] from 14 to 16 (fun v wx => ∃ (g : Nat) (y : Av), v = .pointer (some ⟨g, 0, none⟩) ∧ Hid (Cel wx g 37 y.cs) ∧ Hid (y.an = exA1) ∧ Hid (Below w3.heap.size w3 wx))
  case first =>
    refine wp_region_held_drew (S := (fun W => W.cell? ⟨cb, 0, none⟩ = some (.int .i64 167772161) ∧ W.cell? ⟨cb, 1, none⟩ = some (.int .i64 300) ∧ W.cell? ⟨cb, 2, none⟩ = some (.slice (some ⟨w.heap.size + 5, 0, none⟩) 1 1))) (by kernel_rfl) (SS.out _ (Below.refl _ _).drew) (fun hHeld => ?_)
    refine wpAnyH_take (i := 0) (v := .agg #[.int .i64 167772161, .int .i64 300, .slice (some ⟨w.heap.size + 5, 0, none⟩) 1 1]) rfl (by kernel_rfl) (by kernel_rfl) (by kernel_rfl) (fun _ _ _ h => h) (.inl ⟨by rfl, fun w hSw => by obtain ⟨s0, s1, s2⟩ := hSw; go_simp⟩) hHeld ?_
    simp only [Act.put, gTo, gZe, sTo, sZe, sSu]
    refine wpAnyH_ready (rs := [1, 3]) (by kernel_rfl) (by simp) ?_
    refine AllReadyH.cons rfl (fun K2 hK2 => ?_) (AllReadyH.cons rfl (fun K2 hK2 => ?_) AllReadyH.nil)
    · go_simp
      go_at_call 37
      refine (client_any 1 1 none 0 0 [] _ (by decide) (RdO.nil _) (by omega) (fun p q => by cases q)).mono ?_
      rintro ee q1 ⟨x, rfl, hxo, hxm, hxs, hbu⟩
      have hbq1 : Below w3.heap.size w3 q1 := below_undrew hbu
      have hbu := hbq1
      have HX_q1 := Lib.hid hxo
      have HXM := Lib.hid hxm
      have HXS := Lib.hid hxs
      clear hxo hxm hxs hbu
      refine hK2.out _ _ (SS.out _ hbq1) (fun hHeld => ?_)
      clear hK2 K2
      try simp only [Act.put, gTo, gZe, gSu, sTo, sZe, sSu]
      refine wpAnyH_ready (rs := [2, 3]) (by kernel_rfl) (by simp) ?_
      refine AllReadyH.cons rfl (fun K2 hK2 => ?_) (AllReadyH.cons rfl (fun K2 hK2 => ?_) AllReadyH.nil)
      · go_simp
        go_at_call 11
        refine (handle_any E (plCx w.heap.size 167772170) none 0 0 w3.heap.size [] x 1 5 _ (OC.out _ hbq1) (RdG.nil _ _) (OU.out _ hbq1) (Vw.ex_small 167772170) HX_q1.out (fun b q => by cases q) HXS.out (OE.out _ hbq1)).mono ?_
        rintro ee q2 ⟨y, rfl, hmp, hya, hbu⟩
        have hbq2 : Below w3.heap.size w3 q2 := tr hbq1 hbu
        rw [HXM.out] at hya
        have HYA := Lib.hid (show y.an = exA1 from hya)
        clear hmp hya hbu
        refine hK2.out _ _ (SS.out _ hbq2) (fun hHeld => ?_)
        clear hK2 K2
        try simp only [Act.put, gTo, gZe, gSu, sTo, sZe, sSu]
        refine wpAnyH_ready (rs := [3]) (by kernel_rfl) (by simp) ?_
        refine AllReadyH.cons rfl (fun K2 hK2 => ?_) AllReadyH.nil
        go_simp
        obtain ⟨q3, hq3⟩ : ∃ q3, q3 = (q2.alloc (.cells zav 37)) := ⟨_, rfl⟩
        rw [← hq3]
        have HZ_q3 := Lib.hid (show Cel q3 q2.heap.size 37 zav by rw [hq3]; exact Cel.born _ _ _)
        have hby : Below q2.heap.size q2 q3 := by rw [hq3]; exact alloc_more _ _
        have hbq3 : Below w3.heap.size w3 q3 := tr hbq2 hby
        clear hq3
        clear hby
        refine hK2.out _ _ (SS.out _ hbq3) (fun hHeld => ?_)
        clear hK2 K2
        try simp only [Act.put, gTo, gZe, gSu, sTo, sZe, sSu]
        refine wpAnyH_ready (rs := [4]) (by kernel_rfl) (by simp) ?_
        refine AllReadyH.cons rfl (fun K2 hK2 => ?_) AllReadyH.nil
        have hge : w3.heap.size ≤ q2.heap.size := (hbq2 : Below _ _ _).size
        refine wp_store_row 37 (.tmp 4) (.tmp 16) rfl q2.heap.size y.cs rfl rfl 37 zav HZ_q3.out (by kernel_rfl) rfl (by kernel_rfl) ?_
        obtain ⟨q4, hq4⟩ : ∃ q4, q4 = q3.setRow (q2.heap.size) y.cs := ⟨_, rfl⟩
        rw [← hq4]
        have HC9 := Lib.hid (show Cel q4 (q2.heap.size) 37 y.cs by rw [hq4]; exact rowC HZ_q3.out _)
        have hbq4 : Below w3.heap.size w3 q4 := by rw [hq4]; exact rowB hbq3 hge _
        clear hq4
        refine hK2.out _ _ (SS.out _ hbq4) (fun hHeld => ?_)
        clear hK2 K2
        try simp only [Act.put, gTo, gZe, gSu]
        refine wpAnyH_done (by kernel_rfl) ?_ _
        go_wp2_with fail
        go_meet
        exact ⟨_, y, rfl, HC9, HYA, Lib.hid hbq4⟩
      · go_simp
        obtain ⟨q5, hq5⟩ : ∃ q5, q5 = (q1.alloc (.cells zav 37)) := ⟨_, rfl⟩
        rw [← hq5]
        have HZ_q5 := Lib.hid (show Cel q5 q1.heap.size 37 zav by rw [hq5]; exact Cel.born _ _ _)
        have hby : Below q1.heap.size q1 q5 := by rw [hq5]; exact alloc_more _ _
        have hbq5 : Below w3.heap.size w3 q5 := tr hbq1 hby
        clear hq5
        have HX_q5 := Lib.hid (HX_q1.out.below hby)
        clear hby
        refine hK2.out _ _ (SS.out _ hbq5) (fun hHeld => ?_)
        clear hK2 K2
        try simp only [Act.put, gTo, gZe, gSu, sTo, sZe, sSu]
        refine wpAnyH_ready (rs := [2]) (by kernel_rfl) (by simp) ?_
        refine AllReadyH.cons rfl (fun K2 hK2 => ?_) AllReadyH.nil
        go_simp
        go_at_call 11
        refine (handle_any E (plCx w.heap.size 167772170) none 0 0 w3.heap.size [] x 1 5 _ (OC.out _ hbq5) (RdG.nil _ _) (OU.out _ hbq5) (Vw.ex_small 167772170) HX_q5.out (fun b q => by cases q) HXS.out (OE.out _ hbq5)).mono ?_
        rintro ee q6 ⟨y, rfl, hmp, hya, hbu⟩
        have hbq6 : Below w3.heap.size w3 q6 := tr hbq5 hbu
        have HZ_q6 := Lib.hid (HZ_q5.out.below hbu HZ_q5.out.lt)
        rw [HXM.out] at hya
        have HYA := Lib.hid (show y.an = exA1 from hya)
        clear hmp hya hbu
        refine hK2.out _ _ (SS.out _ hbq6) (fun hHeld => ?_)
        clear hK2 K2
        try simp only [Act.put, gTo, gZe, gSu, sTo, sZe, sSu]
        refine wpAnyH_ready (rs := [4]) (by kernel_rfl) (by simp) ?_
        refine AllReadyH.cons rfl (fun K2 hK2 => ?_) AllReadyH.nil
        have hge : w3.heap.size ≤ q1.heap.size := (hbq1 : Below _ _ _).size
        refine wp_store_row 37 (.tmp 4) (.tmp 16) rfl q1.heap.size y.cs rfl rfl 37 zav HZ_q6.out (by kernel_rfl) rfl (by kernel_rfl) ?_
        obtain ⟨q7, hq7⟩ : ∃ q7, q7 = q6.setRow (q1.heap.size) y.cs := ⟨_, rfl⟩
        rw [← hq7]
        have HC9 := Lib.hid (show Cel q7 (q1.heap.size) 37 y.cs by rw [hq7]; exact rowC HZ_q6.out _)
        have hbq7 : Below w3.heap.size w3 q7 := by rw [hq7]; exact rowB hbq6 hge _
        clear hq7
        refine hK2.out _ _ (SS.out _ hbq7) (fun hHeld => ?_)
        clear hK2 K2
        try simp only [Act.put, gTo, gZe, gSu]
        refine wpAnyH_done (by kernel_rfl) ?_ _
        go_wp2_with fail
        go_meet
        exact ⟨_, y, rfl, HC9, HYA, Lib.hid hbq7⟩
    · go_simp
      obtain ⟨q8, hq8⟩ : ∃ q8, q8 = (w3.alloc (.cells zav 37)).drew := ⟨_, rfl⟩
      rw [← hq8]
      have HZ_q8 := Lib.hid (show Cel q8 w3.heap.size 37 zav by rw [hq8]; exact Cel.born _ _ _)
      have hby : Below w3.heap.size w3 q8 := by rw [hq8]; exact (alloc_more _ _).drew
      have hbq8 : Below w3.heap.size w3 q8 := hby
      clear hq8
      clear hby
      refine hK2.out _ _ (SS.out _ hbq8) (fun hHeld => ?_)
      clear hK2 K2
      try simp only [Act.put, gTo, gZe, gSu, sTo, sZe, sSu]
      refine wpAnyH_ready (rs := [1]) (by kernel_rfl) (by simp) ?_
      refine AllReadyH.cons rfl (fun K2 hK2 => ?_) AllReadyH.nil
      go_simp
      go_at_call 37
      refine (client_any 1 1 none 0 0 [] _ (by decide) (RdO.nil _) (by omega) (fun p q => by cases q)).mono ?_
      rintro ee q9 ⟨x, rfl, hxo, hxm, hxs, hbu⟩
      have hbq9 : Below w3.heap.size w3 q9 := tr hbq8 hbu
      have HZ_q9 := Lib.hid (HZ_q8.out.below hbu HZ_q8.out.lt)
      have HX_q9 := Lib.hid hxo
      have HXM := Lib.hid hxm
      have HXS := Lib.hid hxs
      clear hxo hxm hxs hbu
      refine hK2.out _ _ (SS.out _ hbq9) (fun hHeld => ?_)
      clear hK2 K2
      try simp only [Act.put, gTo, gZe, gSu, sTo, sZe, sSu]
      refine wpAnyH_ready (rs := [2]) (by kernel_rfl) (by simp) ?_
      refine AllReadyH.cons rfl (fun K2 hK2 => ?_) AllReadyH.nil
      go_simp
      go_at_call 11
      refine (handle_any E (plCx w.heap.size 167772170) none 0 0 w3.heap.size [] x 1 5 _ (OC.out _ hbq9) (RdG.nil _ _) (OU.out _ hbq9) (Vw.ex_small 167772170) HX_q9.out (fun b q => by cases q) HXS.out (OE.out _ hbq9)).mono ?_
      rintro ee q10 ⟨y, rfl, hmp, hya, hbu⟩
      have hbq10 : Below w3.heap.size w3 q10 := tr hbq9 hbu
      have HZ_q10 := Lib.hid (HZ_q9.out.below hbu HZ_q9.out.lt)
      rw [HXM.out] at hya
      have HYA := Lib.hid (show y.an = exA1 from hya)
      clear hmp hya hbu
      refine hK2.out _ _ (SS.out _ hbq10) (fun hHeld => ?_)
      clear hK2 K2
      try simp only [Act.put, gTo, gZe, gSu, sTo, sZe, sSu]
      refine wpAnyH_ready (rs := [4]) (by kernel_rfl) (by simp) ?_
      refine AllReadyH.cons rfl (fun K2 hK2 => ?_) AllReadyH.nil
      refine wp_store_row 37 (.tmp 4) (.tmp 16) rfl w3.heap.size y.cs rfl rfl 37 zav HZ_q10.out (by kernel_rfl) rfl (by kernel_rfl) ?_
      obtain ⟨q11, hq11⟩ : ∃ q11, q11 = q10.setRow (w3.heap.size) y.cs := ⟨_, rfl⟩
      rw [← hq11]
      have HC9 := Lib.hid (show Cel q11 (w3.heap.size) 37 y.cs by rw [hq11]; exact rowC HZ_q10.out _)
      have hbq11 : Below w3.heap.size w3 q11 := by rw [hq11]; exact rowB hbq10 (Nat.le_refl _) _
      clear hq11
      refine hK2.out _ _ (SS.out _ hbq11) (fun hHeld => ?_)
      clear hK2 K2
      try simp only [Act.put, gTo, gZe, gSu]
      refine wpAnyH_done (by kernel_rfl) ?_ _
      go_wp2_with fail
      go_meet
      exact ⟨_, y, rfl, HC9, HYA, Lib.hid hbq11⟩
  case rest =>
  obtain ⟨g1, y1, rfl, HC1, HA1, HB34⟩ := hcut
  obtain ⟨w4, hww⟩ : ∃ z, z = wc := ⟨_, rfl⟩
  subst hww
  clear OC OE OU HPB SS
  have OC := Lib.hid (fun W (hW : Below w4.heap.size w4 W) => PlA.ok (U := w4.heap.size) (MP.out W (tr HB34.out hW)) (Nat.lt_of_lt_of_le MS.out HB34.out.size))
  have OE := Lib.hid (fun W (hW : Below w4.heap.size w4 W) => ME.out W (tr HB34.out hW))
  have OU := Lib.hid (fun W (hW : Below w4.heap.size w4 W) => hW.size)
  have HPB := Lib.hid (fun W (hW : Below w4.heap.size w4 W) => MB.out W (tr HB34.out hW))
  go_upto_region 5 with fail
  have SS := Lib.hid (fun W (hW : Below w4.heap.size w4 W) => And.intro (MC.out W (tr HB34.out hW)) (And.intro (M2.out W (tr HB34.out hW)) (M3.out W (tr HB34.out hW))))
  go_cut [5] from 17 to 22 (fun v wx => ∃ (g : Nat) (y : Av), v = .pointer (some ⟨g, 0, none⟩) ∧ Hid (Cel wx g 37 y.cs) ∧ Hid (y.an = exA2) ∧ Hid (Below w4.heap.size w4 wx))
  case first =>
    refine wp_region_held_drew (S := (fun W => (W.cell? ⟨cb, 0, none⟩ = some (.int .i64 167772161) ∧ W.cell? ⟨cb, 1, none⟩ = some (.int .i64 300) ∧ W.cell? ⟨cb, 2, none⟩ = some (.slice (some ⟨w.heap.size + 5, 0, none⟩) 1 1)) ∧ (W.cell? ⟨w1.heap.size + 1, 0, none⟩ = some (.int .i64 54) ∧ W.cell? ⟨w1.heap.size + 1, 1, none⟩ = some (.slice (some ⟨w1.heap.size, 0, none⟩) 4 4)) ∧ W.cell? ⟨w2.heap.size + 1, 0, none⟩ = some (.int .i64 50) ∧ W.cell? ⟨w2.heap.size + 1, 1, none⟩ = some (.slice (some ⟨w2.heap.size, 0, none⟩) 4 4))) (by kernel_rfl) (SS.out _ (Below.refl _ _).drew) (fun hHeld => ?_)
    refine wpAnyH_take (i := 0) (v := .agg #[.int .i64 167772161, .int .i64 300, .slice (some ⟨w.heap.size + 5, 0, none⟩) 1 1]) rfl (by kernel_rfl) (by kernel_rfl) (by kernel_rfl) (fun _ _ _ h => h) (.inl ⟨by rfl, fun w hSw => by obtain ⟨⟨s0, s1, s2⟩, ⟨t0, t1⟩, u0, u1⟩ := hSw; go_simp⟩) hHeld ?_
    simp only [Act.put, gTo, gZe, sTo, sZe, sSu]
    refine wpAnyH_take (i := 1) (v := .agg #[.int .i64 54, .slice (some ⟨w1.heap.size, 0, none⟩) 4 4]) rfl (by kernel_rfl) (by kernel_rfl) (by kernel_rfl) (fun _ _ _ h => h) (.inl ⟨by rfl, fun w hSw => by obtain ⟨⟨s0, s1, s2⟩, ⟨t0, t1⟩, u0, u1⟩ := hSw; go_simp⟩) hHeld ?_
    simp only [Act.put, gTo, gZe, gSu, sTo, sZe, sSu]
    refine wpAnyH_take (i := 2) (v := .agg #[.int .i64 50, .slice (some ⟨w2.heap.size, 0, none⟩) 4 4]) rfl (by kernel_rfl) (by kernel_rfl) (by kernel_rfl) (fun _ _ _ h => h) (.inl ⟨by rfl, fun w hSw => by obtain ⟨⟨s0, s1, s2⟩, ⟨t0, t1⟩, u0, u1⟩ := hSw; go_simp⟩) hHeld ?_
    simp only [Act.put, gTo, gZe, gSu, sTo, sZe, sSu]
    refine wpAnyH_ready (rs := [3, 6]) (by kernel_rfl) (by simp) ?_
    refine AllReadyH.cons rfl (fun K2 hK2 => ?_) (AllReadyH.cons rfl (fun K2 hK2 => ?_) AllReadyH.nil)
    · go_simp
      obtain ⟨q1, hq1⟩ : ∃ q1, q1 = (w4.alloc (.cells #[.int .i64 54, .slice (some ⟨w1.heap.size, 0, none⟩) 4 4, .int .i64 50, .slice (some ⟨w2.heap.size, 0, none⟩) 4 4] 74)).drew := ⟨_, rfl⟩
      rw [← hq1]
      have hby : Below w4.heap.size w4 q1 := by rw [hq1]; exact (alloc_more _ _).drew
      have hbq1 : Below w4.heap.size w4 q1 := hby
      have HR_q1 := Lib.hid (show RdO q1 (some ⟨w4.heap.size, 0, none⟩) 2 2 (exP w1.heap.size w2.heap.size) from ⟨by rw [hq1]; exact (lits 74 w4 (exP w1.heap.size w2.heap.size) 2 #[.int .i64 54, .slice (some ⟨w1.heap.size, 0, none⟩) 4 4, .int .i64 50, .slice (some ⟨w2.heap.size, 0, none⟩) 4 4] rfl rfl (by omega)).rdc, HPB.out _ hbq1⟩)
      clear hq1
      clear hby
      refine hK2.out _ _ (SS.out _ hbq1) (fun hHeld => ?_)
      clear hK2 K2
      try simp only [Act.put, gTo, gZe, gSu, sTo, sZe, sSu]
      refine wpAnyH_ready (rs := [4, 6]) (by kernel_rfl) (by simp) ?_
      refine AllReadyH.cons rfl (fun K2 hK2 => ?_) (AllReadyH.cons rfl (fun K2 hK2 => ?_) AllReadyH.nil)
      · go_simp
        go_at_call 37
        refine (client_any 3 3 (some ⟨w4.heap.size, 0, none⟩) 2 2 (exP w1.heap.size w2.heap.size) _ (by decide) HR_q1.out (by omega) HPS.out).mono ?_
        rintro ee q2 ⟨x, rfl, hxo, hxm, hxs, hbu⟩
        have hbq2 : Below w4.heap.size w4 q2 := tr hbq1 hbu
        have HX_q2 := Lib.hid hxo
        have HXM := Lib.hid hxm
        have HXS := Lib.hid hxs
        clear hxo hxm hxs hbu
        refine hK2.out _ _ (SS.out _ hbq2) (fun hHeld => ?_)
        clear hK2 K2
        try simp only [Act.put, gTo, gZe, gSu, sTo, sZe, sSu]
        refine wpAnyH_ready (rs := [5, 6]) (by kernel_rfl) (by simp) ?_
        refine AllReadyH.cons rfl (fun K2 hK2 => ?_) (AllReadyH.cons rfl (fun K2 hK2 => ?_) AllReadyH.nil)
        · go_simp
          go_at_call 11
          refine (handle_any E (plCx w.heap.size 167772170) none 0 0 w4.heap.size [] x 1 5 _ (OC.out _ hbq2) (RdG.nil _ _) (OU.out _ hbq2) (Vw.ex_small 167772170) HX_q2.out (fun b q => by cases q) HXS.out (OE.out _ hbq2)).mono ?_
          rintro ee q3 ⟨y, rfl, hmp, hya, hbu⟩
          have hbq3 : Below w4.heap.size w4 q3 := tr hbq2 hbu
          rw [HXM.out] at hya
          have HYA := Lib.hid (show y.an = exA2 from hya)
          clear hmp hya hbu
          refine hK2.out _ _ (SS.out _ hbq3) (fun hHeld => ?_)
          clear hK2 K2
          try simp only [Act.put, gTo, gZe, gSu, sTo, sZe, sSu]
          refine wpAnyH_ready (rs := [6]) (by kernel_rfl) (by simp) ?_
          refine AllReadyH.cons rfl (fun K2 hK2 => ?_) AllReadyH.nil
          go_simp
          obtain ⟨q4, hq4⟩ : ∃ q4, q4 = (q3.alloc (.cells zav 37)) := ⟨_, rfl⟩
          rw [← hq4]
          have HZ_q4 := Lib.hid (show Cel q4 q3.heap.size 37 zav by rw [hq4]; exact Cel.born _ _ _)
          have hby : Below q3.heap.size q3 q4 := by rw [hq4]; exact alloc_more _ _
          have hbq4 : Below w4.heap.size w4 q4 := tr hbq3 hby
          clear hq4
          clear hby
          refine hK2.out _ _ (SS.out _ hbq4) (fun hHeld => ?_)
          clear hK2 K2
          try simp only [Act.put, gTo, gZe, gSu, sTo, sZe, sSu]
          refine wpAnyH_ready (rs := [7]) (by kernel_rfl) (by simp) ?_
          refine AllReadyH.cons rfl (fun K2 hK2 => ?_) AllReadyH.nil
          have hge : w4.heap.size ≤ q3.heap.size := (hbq3 : Below _ _ _).size
          refine wp_store_row 37 (.tmp 5) (.tmp 22) rfl q3.heap.size y.cs rfl rfl 37 zav HZ_q4.out (by kernel_rfl) rfl (by kernel_rfl) ?_
          obtain ⟨q5, hq5⟩ : ∃ q5, q5 = q4.setRow (q3.heap.size) y.cs := ⟨_, rfl⟩
          rw [← hq5]
          have HC9 := Lib.hid (show Cel q5 (q3.heap.size) 37 y.cs by rw [hq5]; exact rowC HZ_q4.out _)
          have hbq5 : Below w4.heap.size w4 q5 := by rw [hq5]; exact rowB hbq4 hge _
          clear hq5
          refine hK2.out _ _ (SS.out _ hbq5) (fun hHeld => ?_)
          clear hK2 K2
          try simp only [Act.put, gTo, gZe, gSu]
          refine wpAnyH_done (by kernel_rfl) ?_ _
          go_wp2_with fail
          go_meet
          exact ⟨_, y, rfl, HC9, HYA, Lib.hid hbq5⟩
        · go_simp
          obtain ⟨q6, hq6⟩ : ∃ q6, q6 = (q2.alloc (.cells zav 37)) := ⟨_, rfl⟩
          rw [← hq6]
          have HZ_q6 := Lib.hid (show Cel q6 q2.heap.size 37 zav by rw [hq6]; exact Cel.born _ _ _)
          have hby : Below q2.heap.size q2 q6 := by rw [hq6]; exact alloc_more _ _
          have hbq6 : Below w4.heap.size w4 q6 := tr hbq2 hby
          clear hq6
          have HX_q6 := Lib.hid (HX_q2.out.below hby)
          clear hby
          refine hK2.out _ _ (SS.out _ hbq6) (fun hHeld => ?_)
          clear hK2 K2
          try simp only [Act.put, gTo, gZe, gSu, sTo, sZe, sSu]
          refine wpAnyH_ready (rs := [5]) (by kernel_rfl) (by simp) ?_
          refine AllReadyH.cons rfl (fun K2 hK2 => ?_) AllReadyH.nil
          go_simp
          go_at_call 11
          refine (handle_any E (plCx w.heap.size 167772170) none 0 0 w4.heap.size [] x 1 5 _ (OC.out _ hbq6) (RdG.nil _ _) (OU.out _ hbq6) (Vw.ex_small 167772170) HX_q6.out (fun b q => by cases q) HXS.out (OE.out _ hbq6)).mono ?_
          rintro ee q7 ⟨y, rfl, hmp, hya, hbu⟩
          have hbq7 : Below w4.heap.size w4 q7 := tr hbq6 hbu
          have HZ_q7 := Lib.hid (HZ_q6.out.below hbu HZ_q6.out.lt)
          rw [HXM.out] at hya
          have HYA := Lib.hid (show y.an = exA2 from hya)
          clear hmp hya hbu
          refine hK2.out _ _ (SS.out _ hbq7) (fun hHeld => ?_)
          clear hK2 K2
          try simp only [Act.put, gTo, gZe, gSu, sTo, sZe, sSu]
          refine wpAnyH_ready (rs := [7]) (by kernel_rfl) (by simp) ?_
          refine AllReadyH.cons rfl (fun K2 hK2 => ?_) AllReadyH.nil
          have hge : w4.heap.size ≤ q2.heap.size := (hbq2 : Below _ _ _).size
          refine wp_store_row 37 (.tmp 5) (.tmp 22) rfl q2.heap.size y.cs rfl rfl 37 zav HZ_q7.out (by kernel_rfl) rfl (by kernel_rfl) ?_
          obtain ⟨q8, hq8⟩ : ∃ q8, q8 = q7.setRow (q2.heap.size) y.cs := ⟨_, rfl⟩
          rw [← hq8]
          have HC9 := Lib.hid (show Cel q8 (q2.heap.size) 37 y.cs by rw [hq8]; exact rowC HZ_q7.out _)
          have hbq8 : Below w4.heap.size w4 q8 := by rw [hq8]; exact rowB hbq7 hge _
          clear hq8
          refine hK2.out _ _ (SS.out _ hbq8) (fun hHeld => ?_)
          clear hK2 K2
          try simp only [Act.put, gTo, gZe, gSu]
          refine wpAnyH_done (by kernel_rfl) ?_ _
          go_wp2_with fail
          go_meet
          exact ⟨_, y, rfl, HC9, HYA, Lib.hid hbq8⟩
      · go_simp
        obtain ⟨q9, hq9⟩ : ∃ q9, q9 = (q1.alloc (.cells zav 37)) := ⟨_, rfl⟩
        rw [← hq9]
        have HZ_q9 := Lib.hid (show Cel q9 q1.heap.size 37 zav by rw [hq9]; exact Cel.born _ _ _)
        have hby : Below q1.heap.size q1 q9 := by rw [hq9]; exact alloc_more _ _
        have hbq9 : Below w4.heap.size w4 q9 := tr hbq1 hby
        clear hq9
        have HR_q9 := Lib.hid (HR_q1.out.below hby)
        clear hby
        refine hK2.out _ _ (SS.out _ hbq9) (fun hHeld => ?_)
        clear hK2 K2
        try simp only [Act.put, gTo, gZe, gSu, sTo, sZe, sSu]
        refine wpAnyH_ready (rs := [4]) (by kernel_rfl) (by simp) ?_
        refine AllReadyH.cons rfl (fun K2 hK2 => ?_) AllReadyH.nil
        go_simp
        go_at_call 37
        refine (client_any 3 3 (some ⟨w4.heap.size, 0, none⟩) 2 2 (exP w1.heap.size w2.heap.size) _ (by decide) HR_q9.out (by omega) HPS.out).mono ?_
        rintro ee q10 ⟨x, rfl, hxo, hxm, hxs, hbu⟩
        have hbq10 : Below w4.heap.size w4 q10 := tr hbq9 hbu
        have HZ_q10 := Lib.hid (HZ_q9.out.below hbu HZ_q9.out.lt)
        have HX_q10 := Lib.hid hxo
        have HXM := Lib.hid hxm
        have HXS := Lib.hid hxs
        clear hxo hxm hxs hbu
        refine hK2.out _ _ (SS.out _ hbq10) (fun hHeld => ?_)
        clear hK2 K2
        try simp only [Act.put, gTo, gZe, gSu, sTo, sZe, sSu]
        refine wpAnyH_ready (rs := [5]) (by kernel_rfl) (by simp) ?_
        refine AllReadyH.cons rfl (fun K2 hK2 => ?_) AllReadyH.nil
        go_simp
        go_at_call 11
        refine (handle_any E (plCx w.heap.size 167772170) none 0 0 w4.heap.size [] x 1 5 _ (OC.out _ hbq10) (RdG.nil _ _) (OU.out _ hbq10) (Vw.ex_small 167772170) HX_q10.out (fun b q => by cases q) HXS.out (OE.out _ hbq10)).mono ?_
        rintro ee q11 ⟨y, rfl, hmp, hya, hbu⟩
        have hbq11 : Below w4.heap.size w4 q11 := tr hbq10 hbu
        have HZ_q11 := Lib.hid (HZ_q10.out.below hbu HZ_q10.out.lt)
        rw [HXM.out] at hya
        have HYA := Lib.hid (show y.an = exA2 from hya)
        clear hmp hya hbu
        refine hK2.out _ _ (SS.out _ hbq11) (fun hHeld => ?_)
        clear hK2 K2
        try simp only [Act.put, gTo, gZe, gSu, sTo, sZe, sSu]
        refine wpAnyH_ready (rs := [7]) (by kernel_rfl) (by simp) ?_
        refine AllReadyH.cons rfl (fun K2 hK2 => ?_) AllReadyH.nil
        have hge : w4.heap.size ≤ q1.heap.size := (hbq1 : Below _ _ _).size
        refine wp_store_row 37 (.tmp 5) (.tmp 22) rfl q1.heap.size y.cs rfl rfl 37 zav HZ_q11.out (by kernel_rfl) rfl (by kernel_rfl) ?_
        obtain ⟨q12, hq12⟩ : ∃ q12, q12 = q11.setRow (q1.heap.size) y.cs := ⟨_, rfl⟩
        rw [← hq12]
        have HC9 := Lib.hid (show Cel q12 (q1.heap.size) 37 y.cs by rw [hq12]; exact rowC HZ_q11.out _)
        have hbq12 : Below w4.heap.size w4 q12 := by rw [hq12]; exact rowB hbq11 hge _
        clear hq12
        refine hK2.out _ _ (SS.out _ hbq12) (fun hHeld => ?_)
        clear hK2 K2
        try simp only [Act.put, gTo, gZe, gSu]
        refine wpAnyH_done (by kernel_rfl) ?_ _
        go_wp2_with fail
        go_meet
        exact ⟨_, y, rfl, HC9, HYA, Lib.hid hbq12⟩
    · go_simp
      obtain ⟨q13, hq13⟩ : ∃ q13, q13 = (w4.alloc (.cells zav 37)).drew := ⟨_, rfl⟩
      rw [← hq13]
      have HZ_q13 := Lib.hid (show Cel q13 w4.heap.size 37 zav by rw [hq13]; exact Cel.born _ _ _)
      have hby : Below w4.heap.size w4 q13 := by rw [hq13]; exact (alloc_more _ _).drew
      have hbq13 : Below w4.heap.size w4 q13 := hby
      clear hq13
      clear hby
      refine hK2.out _ _ (SS.out _ hbq13) (fun hHeld => ?_)
      clear hK2 K2
      try simp only [Act.put, gTo, gZe, gSu, sTo, sZe, sSu]
      refine wpAnyH_ready (rs := [3]) (by kernel_rfl) (by simp) ?_
      refine AllReadyH.cons rfl (fun K2 hK2 => ?_) AllReadyH.nil
      go_simp
      obtain ⟨q14, hq14⟩ : ∃ q14, q14 = (q13.alloc (.cells #[.int .i64 54, .slice (some ⟨w1.heap.size, 0, none⟩) 4 4, .int .i64 50, .slice (some ⟨w2.heap.size, 0, none⟩) 4 4] 74)) := ⟨_, rfl⟩
      rw [← hq14]
      have hby : Below q13.heap.size q13 q14 := by rw [hq14]; exact alloc_more _ _
      have hbq14 : Below w4.heap.size w4 q14 := tr hbq13 hby
      have HR_q14 := Lib.hid (show RdO q14 (some ⟨q13.heap.size, 0, none⟩) 2 2 (exP w1.heap.size w2.heap.size) from ⟨by rw [hq14]; exact (lits 74 q13 (exP w1.heap.size w2.heap.size) 2 #[.int .i64 54, .slice (some ⟨w1.heap.size, 0, none⟩) 4 4, .int .i64 50, .slice (some ⟨w2.heap.size, 0, none⟩) 4 4] rfl rfl (by omega)).rdc, HPB.out _ hbq14⟩)
      clear hq14
      have HZ_q14 := Lib.hid (HZ_q13.out.below hby HZ_q13.out.lt)
      clear hby
      refine hK2.out _ _ (SS.out _ hbq14) (fun hHeld => ?_)
      clear hK2 K2
      try simp only [Act.put, gTo, gZe, gSu, sTo, sZe, sSu]
      refine wpAnyH_ready (rs := [4]) (by kernel_rfl) (by simp) ?_
      refine AllReadyH.cons rfl (fun K2 hK2 => ?_) AllReadyH.nil
      go_simp
      go_at_call 37
      refine (client_any 3 3 (some ⟨q13.heap.size, 0, none⟩) 2 2 (exP w1.heap.size w2.heap.size) _ (by decide) HR_q14.out (by omega) HPS.out).mono ?_
      rintro ee q15 ⟨x, rfl, hxo, hxm, hxs, hbu⟩
      have hbq15 : Below w4.heap.size w4 q15 := tr hbq14 hbu
      have HZ_q15 := Lib.hid (HZ_q14.out.below hbu HZ_q14.out.lt)
      have HX_q15 := Lib.hid hxo
      have HXM := Lib.hid hxm
      have HXS := Lib.hid hxs
      clear hxo hxm hxs hbu
      refine hK2.out _ _ (SS.out _ hbq15) (fun hHeld => ?_)
      clear hK2 K2
      try simp only [Act.put, gTo, gZe, gSu, sTo, sZe, sSu]
      refine wpAnyH_ready (rs := [5]) (by kernel_rfl) (by simp) ?_
      refine AllReadyH.cons rfl (fun K2 hK2 => ?_) AllReadyH.nil
      go_simp
      go_at_call 11
      refine (handle_any E (plCx w.heap.size 167772170) none 0 0 w4.heap.size [] x 1 5 _ (OC.out _ hbq15) (RdG.nil _ _) (OU.out _ hbq15) (Vw.ex_small 167772170) HX_q15.out (fun b q => by cases q) HXS.out (OE.out _ hbq15)).mono ?_
      rintro ee q16 ⟨y, rfl, hmp, hya, hbu⟩
      have hbq16 : Below w4.heap.size w4 q16 := tr hbq15 hbu
      have HZ_q16 := Lib.hid (HZ_q15.out.below hbu HZ_q15.out.lt)
      rw [HXM.out] at hya
      have HYA := Lib.hid (show y.an = exA2 from hya)
      clear hmp hya hbu
      refine hK2.out _ _ (SS.out _ hbq16) (fun hHeld => ?_)
      clear hK2 K2
      try simp only [Act.put, gTo, gZe, gSu, sTo, sZe, sSu]
      refine wpAnyH_ready (rs := [7]) (by kernel_rfl) (by simp) ?_
      refine AllReadyH.cons rfl (fun K2 hK2 => ?_) AllReadyH.nil
      refine wp_store_row 37 (.tmp 5) (.tmp 22) rfl w4.heap.size y.cs rfl rfl 37 zav HZ_q16.out (by kernel_rfl) rfl (by kernel_rfl) ?_
      obtain ⟨q17, hq17⟩ : ∃ q17, q17 = q16.setRow (w4.heap.size) y.cs := ⟨_, rfl⟩
      rw [← hq17]
      have HC9 := Lib.hid (show Cel q17 (w4.heap.size) 37 y.cs by rw [hq17]; exact rowC HZ_q16.out _)
      have hbq17 : Below w4.heap.size w4 q17 := by rw [hq17]; exact rowB hbq16 (Nat.le_refl _) _
      clear hq17
      refine hK2.out _ _ (SS.out _ hbq17) (fun hHeld => ?_)
      clear hK2 K2
      try simp only [Act.put, gTo, gZe, gSu]
      refine wpAnyH_done (by kernel_rfl) ?_ _
      go_wp2_with fail
      go_meet
      exact ⟨_, y, rfl, HC9, HYA, Lib.hid hbq17⟩
  case rest =>
  obtain ⟨g2, y2, rfl, HC2, HA2, HB45⟩ := hcut
  obtain ⟨w5, hww⟩ : ∃ z, z = wc := ⟨_, rfl⟩
  subst hww
  clear OC OE OU HPB SS
  have HB35 := Lib.hid (tr HB34.out HB45.out)
  have HC1 := Lib.hid (HC1.out.below HB45.out HC1.out.lt)
  have HY2 := Lib.hid (show y2.l = exL from (congrArg An.lease HA2.out).trans ex_b3)
  have HST := Lib.hid (Bw.set_any none 0 0 w5.heap.size [] exL w5 (RdG.nil _ _) (Nat.le_refl _) (fun b q => by cases q) (fk_exL exL (by simp)))
  rw [ex_t] at HST
  obtain ⟨⟨_, _, _, _, _, _, _, _, _, _, _, _, _, _, _, _, _, _, z18, z19, z20, z21⟩, _⟩ := cells22 HC2.out
  rw [HY2.out] at z18 z19 z20 z21
  replace z18 : w5.cell? ⟨g2, 18, none⟩ = some (.int .i64 167772170) := z18
  replace z19 : w5.cell? ⟨g2, 19, none⟩ = some (.int .i64 1) := z19
  replace z20 : w5.cell? ⟨g2, 20, none⟩ = some (.int .i64 605) := z20
  replace z21 : w5.cell? ⟨g2, 21, none⟩ = some (.string ⟨#[105, 48, 50]⟩) := z21
  go_wp2_with fail
  refine HST.out.mono ?_
  rintro e w6 ⟨A6, n6, c6, rfl, how6, hb6⟩
  have HB36 := Lib.hid (tr HB35.out hb6)
  have HB46 := Lib.hid (tr HB45.out hb6)
  have HC1 := Lib.hid (HC1.out.below hb6 HC1.out.lt)
  have HC2 := Lib.hid (HC2.out.below hb6 HC2.out.lt)
  have OT := Lib.hid (fun W (hW : Below w6.heap.size w6 W) => how6.rd.below hW)
  clear how6 hb6 z18 z19 z20 z21
  have OC := Lib.hid (fun W (hW : Below w6.heap.size w6 W) => PlA.ok (U := w6.heap.size) (MP.out W (tr HB36.out hW)) (Nat.lt_of_lt_of_le MS.out HB36.out.size))
  have OE := Lib.hid (fun W (hW : Below w6.heap.size w6 W) => ME.out W (tr HB36.out hW))
  have OU := Lib.hid (fun W (hW : Below w6.heap.size w6 W) => hW.size)
  have HPB := Lib.hid (fun W (hW : Below w6.heap.size w6 W) => MB.out W (tr HB36.out hW))
  go_upto_region 7 with fail
  have SS := Lib.hid (fun W (hW : Below w6.heap.size w6 W) => And.intro (MC.out W (tr HB36.out hW)) (And.intro (M2.out W (tr HB36.out hW)) (M3.out W (tr HB36.out hW))))
  go_cut [8] from 29 to 35 (fun v wx => ∃ (g : Nat) (y : Av), v = .pointer (some ⟨g, 0, none⟩) ∧ Hid (Cel wx g 37 y.cs) ∧ Hid (y.an = exA3) ∧ Hid (Below w6.heap.size w6 wx))
  case first =>
    refine wp_region_held_drew (S := (fun W => (W.cell? ⟨cb, 0, none⟩ = some (.int .i64 167772161) ∧ W.cell? ⟨cb, 1, none⟩ = some (.int .i64 300) ∧ W.cell? ⟨cb, 2, none⟩ = some (.slice (some ⟨w.heap.size + 5, 0, none⟩) 1 1)) ∧ (W.cell? ⟨w1.heap.size + 1, 0, none⟩ = some (.int .i64 54) ∧ W.cell? ⟨w1.heap.size + 1, 1, none⟩ = some (.slice (some ⟨w1.heap.size, 0, none⟩) 4 4)) ∧ W.cell? ⟨w2.heap.size + 1, 0, none⟩ = some (.int .i64 50) ∧ W.cell? ⟨w2.heap.size + 1, 1, none⟩ = some (.slice (some ⟨w2.heap.size, 0, none⟩) 4 4))) (by kernel_rfl) (SS.out _ (Below.refl _ _).drew) (fun hHeld => ?_)
    refine wpAnyH_take (i := 0) (v := .agg #[.int .i64 167772161, .int .i64 300, .slice (some ⟨w.heap.size + 5, 0, none⟩) 1 1]) rfl (by kernel_rfl) (by kernel_rfl) (by kernel_rfl) (fun _ _ _ h => h) (.inl ⟨by rfl, fun w hSw => by obtain ⟨⟨s0, s1, s2⟩, ⟨t0, t1⟩, u0, u1⟩ := hSw; go_simp⟩) hHeld ?_
    simp only [Act.put, gTo, gZe, sTo, sZe, sSu]
    refine wpAnyH_take (i := 1) (v := .slice A6 n6 c6) rfl (by kernel_rfl) (by kernel_rfl) (by kernel_rfl) (fun _ _ _ h => h) (.inl ⟨by rfl, fun w hSw => by go_simp⟩) hHeld ?_
    simp only [Act.put, gTo, gZe, gSu, sTo, sZe, sSu]
    refine wpAnyH_take (i := 2) (v := .agg #[.int .i64 54, .slice (some ⟨w1.heap.size, 0, none⟩) 4 4]) rfl (by kernel_rfl) (by kernel_rfl) (by kernel_rfl) (fun _ _ _ h => h) (.inl ⟨by rfl, fun w hSw => by obtain ⟨⟨s0, s1, s2⟩, ⟨t0, t1⟩, u0, u1⟩ := hSw; go_simp⟩) hHeld ?_
    simp only [Act.put, gTo, gZe, gSu, sTo, sZe, sSu]
    refine wpAnyH_take (i := 3) (v := .agg #[.int .i64 50, .slice (some ⟨w2.heap.size, 0, none⟩) 4 4]) rfl (by kernel_rfl) (by kernel_rfl) (by kernel_rfl) (fun _ _ _ h => h) (.inl ⟨by rfl, fun w hSw => by obtain ⟨⟨s0, s1, s2⟩, ⟨t0, t1⟩, u0, u1⟩ := hSw; go_simp⟩) hHeld ?_
    simp only [Act.put, gTo, gZe, gSu, sTo, sZe, sSu]
    refine wpAnyH_ready (rs := [4, 7]) (by kernel_rfl) (by simp) ?_
    refine AllReadyH.cons rfl (fun K2 hK2 => ?_) (AllReadyH.cons rfl (fun K2 hK2 => ?_) AllReadyH.nil)
    · go_simp
      obtain ⟨q1, hq1⟩ : ∃ q1, q1 = (w6.alloc (.cells #[.int .i64 54, .slice (some ⟨w1.heap.size, 0, none⟩) 4 4, .int .i64 50, .slice (some ⟨w2.heap.size, 0, none⟩) 4 4] 74)).drew := ⟨_, rfl⟩
      rw [← hq1]
      have hby : Below w6.heap.size w6 q1 := by rw [hq1]; exact (alloc_more _ _).drew
      have hbq1 : Below w6.heap.size w6 q1 := hby
      have HR_q1 := Lib.hid (show RdO q1 (some ⟨w6.heap.size, 0, none⟩) 2 2 (exP w1.heap.size w2.heap.size) from ⟨by rw [hq1]; exact (lits 74 w6 (exP w1.heap.size w2.heap.size) 2 #[.int .i64 54, .slice (some ⟨w1.heap.size, 0, none⟩) 4 4, .int .i64 50, .slice (some ⟨w2.heap.size, 0, none⟩) 4 4] rfl rfl (by omega)).rdc, HPB.out _ hbq1⟩)
      clear hq1
      clear hby
      refine hK2.out _ _ (SS.out _ hbq1) (fun hHeld => ?_)
      clear hK2 K2
      try simp only [Act.put, gTo, gZe, gSu, sTo, sZe, sSu]
      refine wpAnyH_ready (rs := [5, 7]) (by kernel_rfl) (by simp) ?_
      refine AllReadyH.cons rfl (fun K2 hK2 => ?_) (AllReadyH.cons rfl (fun K2 hK2 => ?_) AllReadyH.nil)
      · go_simp
        go_at_call 37
        refine (client_any 4 4 (some ⟨w6.heap.size, 0, none⟩) 2 2 (exP w1.heap.size w2.heap.size) _ (by decide) HR_q1.out (by omega) HPS.out).mono ?_
        rintro ee q2 ⟨x, rfl, hxo, hxm, hxs, hbu⟩
        have hbq2 : Below w6.heap.size w6 q2 := tr hbq1 hbu
        have HX_q2 := Lib.hid hxo
        have HXM := Lib.hid hxm
        have HXS := Lib.hid hxs
        clear hxo hxm hxs hbu
        refine hK2.out _ _ (SS.out _ hbq2) (fun hHeld => ?_)
        clear hK2 K2
        try simp only [Act.put, gTo, gZe, gSu, sTo, sZe, sSu]
        refine wpAnyH_ready (rs := [6, 7]) (by kernel_rfl) (by simp) ?_
        refine AllReadyH.cons rfl (fun K2 hK2 => ?_) (AllReadyH.cons rfl (fun K2 hK2 => ?_) AllReadyH.nil)
        · go_simp
          go_at_call 11
          refine (handle_any E (plCx w.heap.size 167772170) A6 n6 c6 w6.heap.size [exL] x 1 9 _ (OC.out _ hbq2) (OT.out _ hbq2) (OU.out _ hbq2) (Vw.ex_small 167772170) HX_q2.out fk_exL HXS.out (OE.out _ hbq2)).mono ?_
          rintro ee q3 ⟨y, rfl, hmp, hya, hbu⟩
          have hbq3 : Below w6.heap.size w6 q3 := tr hbq2 hbu
          rw [HXM.out] at hya
          have HYA := Lib.hid (show y.an = exA3 from hya)
          clear hmp hya hbu
          refine hK2.out _ _ (SS.out _ hbq3) (fun hHeld => ?_)
          clear hK2 K2
          try simp only [Act.put, gTo, gZe, gSu, sTo, sZe, sSu]
          refine wpAnyH_ready (rs := [7]) (by kernel_rfl) (by simp) ?_
          refine AllReadyH.cons rfl (fun K2 hK2 => ?_) AllReadyH.nil
          go_simp
          obtain ⟨q4, hq4⟩ : ∃ q4, q4 = (q3.alloc (.cells zav 37)) := ⟨_, rfl⟩
          rw [← hq4]
          have HZ_q4 := Lib.hid (show Cel q4 q3.heap.size 37 zav by rw [hq4]; exact Cel.born _ _ _)
          have hby : Below q3.heap.size q3 q4 := by rw [hq4]; exact alloc_more _ _
          have hbq4 : Below w6.heap.size w6 q4 := tr hbq3 hby
          clear hq4
          clear hby
          refine hK2.out _ _ (SS.out _ hbq4) (fun hHeld => ?_)
          clear hK2 K2
          try simp only [Act.put, gTo, gZe, gSu, sTo, sZe, sSu]
          refine wpAnyH_ready (rs := [8]) (by kernel_rfl) (by simp) ?_
          refine AllReadyH.cons rfl (fun K2 hK2 => ?_) AllReadyH.nil
          have hge : w6.heap.size ≤ q3.heap.size := (hbq3 : Below _ _ _).size
          refine wp_store_row 37 (.tmp 8) (.tmp 35) rfl q3.heap.size y.cs rfl rfl 37 zav HZ_q4.out (by kernel_rfl) rfl (by kernel_rfl) ?_
          obtain ⟨q5, hq5⟩ : ∃ q5, q5 = q4.setRow (q3.heap.size) y.cs := ⟨_, rfl⟩
          rw [← hq5]
          have HC9 := Lib.hid (show Cel q5 (q3.heap.size) 37 y.cs by rw [hq5]; exact rowC HZ_q4.out _)
          have hbq5 : Below w6.heap.size w6 q5 := by rw [hq5]; exact rowB hbq4 hge _
          clear hq5
          refine hK2.out _ _ (SS.out _ hbq5) (fun hHeld => ?_)
          clear hK2 K2
          try simp only [Act.put, gTo, gZe, gSu]
          refine wpAnyH_done (by kernel_rfl) ?_ _
          go_wp2_with fail
          go_meet
          exact ⟨_, y, rfl, HC9, HYA, Lib.hid hbq5⟩
        · go_simp
          obtain ⟨q6, hq6⟩ : ∃ q6, q6 = (q2.alloc (.cells zav 37)) := ⟨_, rfl⟩
          rw [← hq6]
          have HZ_q6 := Lib.hid (show Cel q6 q2.heap.size 37 zav by rw [hq6]; exact Cel.born _ _ _)
          have hby : Below q2.heap.size q2 q6 := by rw [hq6]; exact alloc_more _ _
          have hbq6 : Below w6.heap.size w6 q6 := tr hbq2 hby
          clear hq6
          have HX_q6 := Lib.hid (HX_q2.out.below hby)
          clear hby
          refine hK2.out _ _ (SS.out _ hbq6) (fun hHeld => ?_)
          clear hK2 K2
          try simp only [Act.put, gTo, gZe, gSu, sTo, sZe, sSu]
          refine wpAnyH_ready (rs := [6]) (by kernel_rfl) (by simp) ?_
          refine AllReadyH.cons rfl (fun K2 hK2 => ?_) AllReadyH.nil
          go_simp
          go_at_call 11
          refine (handle_any E (plCx w.heap.size 167772170) A6 n6 c6 w6.heap.size [exL] x 1 9 _ (OC.out _ hbq6) (OT.out _ hbq6) (OU.out _ hbq6) (Vw.ex_small 167772170) HX_q6.out fk_exL HXS.out (OE.out _ hbq6)).mono ?_
          rintro ee q7 ⟨y, rfl, hmp, hya, hbu⟩
          have hbq7 : Below w6.heap.size w6 q7 := tr hbq6 hbu
          have HZ_q7 := Lib.hid (HZ_q6.out.below hbu HZ_q6.out.lt)
          rw [HXM.out] at hya
          have HYA := Lib.hid (show y.an = exA3 from hya)
          clear hmp hya hbu
          refine hK2.out _ _ (SS.out _ hbq7) (fun hHeld => ?_)
          clear hK2 K2
          try simp only [Act.put, gTo, gZe, gSu, sTo, sZe, sSu]
          refine wpAnyH_ready (rs := [8]) (by kernel_rfl) (by simp) ?_
          refine AllReadyH.cons rfl (fun K2 hK2 => ?_) AllReadyH.nil
          have hge : w6.heap.size ≤ q2.heap.size := (hbq2 : Below _ _ _).size
          refine wp_store_row 37 (.tmp 8) (.tmp 35) rfl q2.heap.size y.cs rfl rfl 37 zav HZ_q7.out (by kernel_rfl) rfl (by kernel_rfl) ?_
          obtain ⟨q8, hq8⟩ : ∃ q8, q8 = q7.setRow (q2.heap.size) y.cs := ⟨_, rfl⟩
          rw [← hq8]
          have HC9 := Lib.hid (show Cel q8 (q2.heap.size) 37 y.cs by rw [hq8]; exact rowC HZ_q7.out _)
          have hbq8 : Below w6.heap.size w6 q8 := by rw [hq8]; exact rowB hbq7 hge _
          clear hq8
          refine hK2.out _ _ (SS.out _ hbq8) (fun hHeld => ?_)
          clear hK2 K2
          try simp only [Act.put, gTo, gZe, gSu]
          refine wpAnyH_done (by kernel_rfl) ?_ _
          go_wp2_with fail
          go_meet
          exact ⟨_, y, rfl, HC9, HYA, Lib.hid hbq8⟩
      · go_simp
        obtain ⟨q9, hq9⟩ : ∃ q9, q9 = (q1.alloc (.cells zav 37)) := ⟨_, rfl⟩
        rw [← hq9]
        have HZ_q9 := Lib.hid (show Cel q9 q1.heap.size 37 zav by rw [hq9]; exact Cel.born _ _ _)
        have hby : Below q1.heap.size q1 q9 := by rw [hq9]; exact alloc_more _ _
        have hbq9 : Below w6.heap.size w6 q9 := tr hbq1 hby
        clear hq9
        have HR_q9 := Lib.hid (HR_q1.out.below hby)
        clear hby
        refine hK2.out _ _ (SS.out _ hbq9) (fun hHeld => ?_)
        clear hK2 K2
        try simp only [Act.put, gTo, gZe, gSu, sTo, sZe, sSu]
        refine wpAnyH_ready (rs := [5]) (by kernel_rfl) (by simp) ?_
        refine AllReadyH.cons rfl (fun K2 hK2 => ?_) AllReadyH.nil
        go_simp
        go_at_call 37
        refine (client_any 4 4 (some ⟨w6.heap.size, 0, none⟩) 2 2 (exP w1.heap.size w2.heap.size) _ (by decide) HR_q9.out (by omega) HPS.out).mono ?_
        rintro ee q10 ⟨x, rfl, hxo, hxm, hxs, hbu⟩
        have hbq10 : Below w6.heap.size w6 q10 := tr hbq9 hbu
        have HZ_q10 := Lib.hid (HZ_q9.out.below hbu HZ_q9.out.lt)
        have HX_q10 := Lib.hid hxo
        have HXM := Lib.hid hxm
        have HXS := Lib.hid hxs
        clear hxo hxm hxs hbu
        refine hK2.out _ _ (SS.out _ hbq10) (fun hHeld => ?_)
        clear hK2 K2
        try simp only [Act.put, gTo, gZe, gSu, sTo, sZe, sSu]
        refine wpAnyH_ready (rs := [6]) (by kernel_rfl) (by simp) ?_
        refine AllReadyH.cons rfl (fun K2 hK2 => ?_) AllReadyH.nil
        go_simp
        go_at_call 11
        refine (handle_any E (plCx w.heap.size 167772170) A6 n6 c6 w6.heap.size [exL] x 1 9 _ (OC.out _ hbq10) (OT.out _ hbq10) (OU.out _ hbq10) (Vw.ex_small 167772170) HX_q10.out fk_exL HXS.out (OE.out _ hbq10)).mono ?_
        rintro ee q11 ⟨y, rfl, hmp, hya, hbu⟩
        have hbq11 : Below w6.heap.size w6 q11 := tr hbq10 hbu
        have HZ_q11 := Lib.hid (HZ_q10.out.below hbu HZ_q10.out.lt)
        rw [HXM.out] at hya
        have HYA := Lib.hid (show y.an = exA3 from hya)
        clear hmp hya hbu
        refine hK2.out _ _ (SS.out _ hbq11) (fun hHeld => ?_)
        clear hK2 K2
        try simp only [Act.put, gTo, gZe, gSu, sTo, sZe, sSu]
        refine wpAnyH_ready (rs := [8]) (by kernel_rfl) (by simp) ?_
        refine AllReadyH.cons rfl (fun K2 hK2 => ?_) AllReadyH.nil
        have hge : w6.heap.size ≤ q1.heap.size := (hbq1 : Below _ _ _).size
        refine wp_store_row 37 (.tmp 8) (.tmp 35) rfl q1.heap.size y.cs rfl rfl 37 zav HZ_q11.out (by kernel_rfl) rfl (by kernel_rfl) ?_
        obtain ⟨q12, hq12⟩ : ∃ q12, q12 = q11.setRow (q1.heap.size) y.cs := ⟨_, rfl⟩
        rw [← hq12]
        have HC9 := Lib.hid (show Cel q12 (q1.heap.size) 37 y.cs by rw [hq12]; exact rowC HZ_q11.out _)
        have hbq12 : Below w6.heap.size w6 q12 := by rw [hq12]; exact rowB hbq11 hge _
        clear hq12
        refine hK2.out _ _ (SS.out _ hbq12) (fun hHeld => ?_)
        clear hK2 K2
        try simp only [Act.put, gTo, gZe, gSu]
        refine wpAnyH_done (by kernel_rfl) ?_ _
        go_wp2_with fail
        go_meet
        exact ⟨_, y, rfl, HC9, HYA, Lib.hid hbq12⟩
    · go_simp
      obtain ⟨q13, hq13⟩ : ∃ q13, q13 = (w6.alloc (.cells zav 37)).drew := ⟨_, rfl⟩
      rw [← hq13]
      have HZ_q13 := Lib.hid (show Cel q13 w6.heap.size 37 zav by rw [hq13]; exact Cel.born _ _ _)
      have hby : Below w6.heap.size w6 q13 := by rw [hq13]; exact (alloc_more _ _).drew
      have hbq13 : Below w6.heap.size w6 q13 := hby
      clear hq13
      clear hby
      refine hK2.out _ _ (SS.out _ hbq13) (fun hHeld => ?_)
      clear hK2 K2
      try simp only [Act.put, gTo, gZe, gSu, sTo, sZe, sSu]
      refine wpAnyH_ready (rs := [4]) (by kernel_rfl) (by simp) ?_
      refine AllReadyH.cons rfl (fun K2 hK2 => ?_) AllReadyH.nil
      go_simp
      obtain ⟨q14, hq14⟩ : ∃ q14, q14 = (q13.alloc (.cells #[.int .i64 54, .slice (some ⟨w1.heap.size, 0, none⟩) 4 4, .int .i64 50, .slice (some ⟨w2.heap.size, 0, none⟩) 4 4] 74)) := ⟨_, rfl⟩
      rw [← hq14]
      have hby : Below q13.heap.size q13 q14 := by rw [hq14]; exact alloc_more _ _
      have hbq14 : Below w6.heap.size w6 q14 := tr hbq13 hby
      have HR_q14 := Lib.hid (show RdO q14 (some ⟨q13.heap.size, 0, none⟩) 2 2 (exP w1.heap.size w2.heap.size) from ⟨by rw [hq14]; exact (lits 74 q13 (exP w1.heap.size w2.heap.size) 2 #[.int .i64 54, .slice (some ⟨w1.heap.size, 0, none⟩) 4 4, .int .i64 50, .slice (some ⟨w2.heap.size, 0, none⟩) 4 4] rfl rfl (by omega)).rdc, HPB.out _ hbq14⟩)
      clear hq14
      have HZ_q14 := Lib.hid (HZ_q13.out.below hby HZ_q13.out.lt)
      clear hby
      refine hK2.out _ _ (SS.out _ hbq14) (fun hHeld => ?_)
      clear hK2 K2
      try simp only [Act.put, gTo, gZe, gSu, sTo, sZe, sSu]
      refine wpAnyH_ready (rs := [5]) (by kernel_rfl) (by simp) ?_
      refine AllReadyH.cons rfl (fun K2 hK2 => ?_) AllReadyH.nil
      go_simp
      go_at_call 37
      refine (client_any 4 4 (some ⟨q13.heap.size, 0, none⟩) 2 2 (exP w1.heap.size w2.heap.size) _ (by decide) HR_q14.out (by omega) HPS.out).mono ?_
      rintro ee q15 ⟨x, rfl, hxo, hxm, hxs, hbu⟩
      have hbq15 : Below w6.heap.size w6 q15 := tr hbq14 hbu
      have HZ_q15 := Lib.hid (HZ_q14.out.below hbu HZ_q14.out.lt)
      have HX_q15 := Lib.hid hxo
      have HXM := Lib.hid hxm
      have HXS := Lib.hid hxs
      clear hxo hxm hxs hbu
      refine hK2.out _ _ (SS.out _ hbq15) (fun hHeld => ?_)
      clear hK2 K2
      try simp only [Act.put, gTo, gZe, gSu, sTo, sZe, sSu]
      refine wpAnyH_ready (rs := [6]) (by kernel_rfl) (by simp) ?_
      refine AllReadyH.cons rfl (fun K2 hK2 => ?_) AllReadyH.nil
      go_simp
      go_at_call 11
      refine (handle_any E (plCx w.heap.size 167772170) A6 n6 c6 w6.heap.size [exL] x 1 9 _ (OC.out _ hbq15) (OT.out _ hbq15) (OU.out _ hbq15) (Vw.ex_small 167772170) HX_q15.out fk_exL HXS.out (OE.out _ hbq15)).mono ?_
      rintro ee q16 ⟨y, rfl, hmp, hya, hbu⟩
      have hbq16 : Below w6.heap.size w6 q16 := tr hbq15 hbu
      have HZ_q16 := Lib.hid (HZ_q15.out.below hbu HZ_q15.out.lt)
      rw [HXM.out] at hya
      have HYA := Lib.hid (show y.an = exA3 from hya)
      clear hmp hya hbu
      refine hK2.out _ _ (SS.out _ hbq16) (fun hHeld => ?_)
      clear hK2 K2
      try simp only [Act.put, gTo, gZe, gSu, sTo, sZe, sSu]
      refine wpAnyH_ready (rs := [8]) (by kernel_rfl) (by simp) ?_
      refine AllReadyH.cons rfl (fun K2 hK2 => ?_) AllReadyH.nil
      refine wp_store_row 37 (.tmp 8) (.tmp 35) rfl w6.heap.size y.cs rfl rfl 37 zav HZ_q16.out (by kernel_rfl) rfl (by kernel_rfl) ?_
      obtain ⟨q17, hq17⟩ : ∃ q17, q17 = q16.setRow (w6.heap.size) y.cs := ⟨_, rfl⟩
      rw [← hq17]
      have HC9 := Lib.hid (show Cel q17 (w6.heap.size) 37 y.cs by rw [hq17]; exact rowC HZ_q16.out _)
      have hbq17 : Below w6.heap.size w6 q17 := by rw [hq17]; exact rowB hbq16 (Nat.le_refl _) _
      clear hq17
      refine hK2.out _ _ (SS.out _ hbq17) (fun hHeld => ?_)
      clear hK2 K2
      try simp only [Act.put, gTo, gZe, gSu]
      refine wpAnyH_done (by kernel_rfl) ?_ _
      go_wp2_with fail
      go_meet
      exact ⟨_, y, rfl, HC9, HYA, Lib.hid hbq17⟩
  case rest =>
  obtain ⟨g3, y3, rfl, HC3, HA3, HB67⟩ := hcut
  obtain ⟨w7, hww⟩ : ∃ z, z = wc := ⟨_, rfl⟩
  subst hww
  have HC1 := Lib.hid (HC1.out.below HB67.out HC1.out.lt)
  have HC2 := Lib.hid (HC2.out.below HB67.out HC2.out.lt)
  have HB7 := Lib.hid (tr HB3.out (tr HB36.out HB67.out))
  obtain ⟨⟨a0, _, _, _, _, _, _, _, _, _, a10, _, _, _, _, _, _, a17, _, _, _, _⟩, _⟩ := cells22 HC1.out
  obtain ⟨⟨b0, b1, _, _, _, _, _, _, _, _, _, _, _, _, _, _, _, _, b18, b19, b20, b21⟩, _⟩ := cells22 HC2.out
  obtain ⟨⟨c0, c1, _, _, _, _, _, _, _, _, _, _, _, _, _, _, _, _, _, c19, c20, _⟩, _⟩ := cells22 HC3.out
  rw [show y1.send = true from (congrArg An.send HA1.out).trans ex_a1] at a0
  rw [show y1.x.yi = 167772170 from (congrArg (fun z => z.reply.yi) HA1.out).trans ex_a2] at a10
  rw [show y1.tr = true from (congrArg (fun z => z.to.2.2) HA1.out).trans ex_a3] at a17
  rw [show y2.send = true from (congrArg An.send HA2.out).trans ex_b1] at b0
  rw [show y2.keep = true from (congrArg An.keep HA2.out).trans ex_b2] at b1
  rw [HY2.out] at b18 b19 b20 b21
  replace b18 : w7.cell? ⟨g2, 18, none⟩ = some (.int .i64 167772170) := b18
  replace b19 : w7.cell? ⟨g2, 19, none⟩ = some (.int .i64 1) := b19
  replace b20 : w7.cell? ⟨g2, 20, none⟩ = some (.int .i64 605) := b20
  replace b21 : w7.cell? ⟨g2, 21, none⟩ = some (.string ⟨#[105, 48, 50]⟩) := b21
  rw [show y3.send = false from (congrArg An.send HA3.out).trans ex_c1] at c0
  rw [show y3.keep = true from (congrArg An.keep HA3.out).trans ex_c2] at c1
  rw [show y3.l.state = 3 from (congrArg (fun z => z.lease.state) HA3.out).trans ex_c4] at c19
  rw [show y3.l.till = 309 from (congrArg (fun z => z.lease.till) HA3.out).trans ex_c3] at c20
  have HQ : ∀ W, (binOp .eql 35 (.agg #[.int .i64 167772170, .int .i64 1, .int .i64 605, .string ⟨#[105, 48, 50]⟩]) (.agg #[.int .i64 167772170, .int .i64 1, .int .i64 605, .string ⟨#[105, 48, 50]⟩])).run Tryz.prog W = .ok (.bool true) W := fun W => leq_self exL W
  go_wp2
  go_ret
  exact ⟨rfl, HB7.out⟩
end Go.Proofs.YtoldppbakapohaaGreatDoor.Ex
end
