/- The box in which reply's options keep the list that they append to, the two closures over it, and the small calls: Asked, flags, replies. Conditions: those that each theorem names. -/
import Derived.Test.YtoldppbakapohaaGreatDoorMathA
import Derived.Test.YtoldppbakapohaaGreatDoorOwA
import Derived.Test.YtoldppbakapohaaGreatDoorMwA
import Derived.Test.YtoldppbakapohaaGreatDoorVwB
import Derived.Deep.RegionHeld3
import Derived.Deep.Cut
import Derived.Deep.CutRange
import Derived.Deep.DeepCutAuto
section
set_option maxRecDepth 8000
namespace Go.Proofs.YtoldppbakapohaaGreatDoor.Rpw
open Go.RowKit Tl Co Ms Cf Ad By Ow Rp
open Pw (alloc_more celM_all boxM)

theorem frz {w : World} {g : Nat} {t : TypeId} {cs : Array Value} (h : Cel w g t cs) (i : Nat) : w.frozen? ⟨g, i, none⟩ = false := Ow.cel_fr h i
theorem celP {w : World} {g : Nat} {t : TypeId} {cs : Array Value} (h : Cel w g t cs) (i : Nat) (v : Value) : Cel (w.setCell ⟨g, i, none⟩ v) g t (cs.setIfInBounds i v) := Ow.cel_put h i v
theorem ownC_put {e B n c : Nat} {w : World} {A : Option Addr} {ps : List Po} (h : OwnC e B w A n c ps) {g : Nat} (hg : g < B) (j : Nat) (v : Value) : OwnC e B (w.setCell ⟨g, j, none⟩ v) A n c ps := by
  refine World.ownsRow.kept h (Ow.grown_set w g j v) ?_
  by_cases k : (Value.slice A n c).ownBlock = none
  · exact .inl k
  · refine .inr fun k2 => ?_
    have := (World.ownsRow.lt h g k2).1
    omega
theorem ownF_put {B n c : Nat} {w : World} {A : Option Addr} {ps : List Po} (h : OwnF B w A n c ps) {g : Nat} (hg : g < B) (j : Nat) (v : Value) : OwnF B (w.setCell ⟨g, j, none⟩ v) A n c ps := ⟨ownC_put h.1 hg j v, fun p hp => own_keep (h.2 p hp) hg j v⟩

/-! ### Lists of few options -/
/-- Options of the codes cs, at most, none of them great. -/
def Sm (cs : List Int) (L : List O) : Prop := L.length ≤ cs.length ∧ ∀ o ∈ L, o.1 ∈ cs ∧ o.2.length ≤ 1000
theorem Sm.nil : Sm [] [] := ⟨Nat.le_refl _, fun o ho => by cases ho⟩
theorem Sm.more {cs : List Int} {L : List O} (h : Sm cs L) (c : Int) : Sm (c :: cs) L := ⟨Nat.le_succ_of_le h.1, fun o ho => ⟨List.mem_cons_of_mem _ (h.2 o ho).1, (h.2 o ho).2⟩⟩
theorem Sm.snoc {cs : List Int} {L : List O} (h : Sm cs L) (c : Int) {d : List UInt8} (hd : d.length ≤ 1000) : Sm (c :: cs) (L ++ [(c, d)]) := by
  refine ⟨by rw [List.length_append]; simp only [List.length_cons, List.length_nil]; have := h.1; omega, fun o ho => ?_⟩
  rcases List.mem_append.1 ho with ho | ho
  · exact ⟨List.mem_cons_of_mem _ (h.2 o ho).1, (h.2 o ho).2⟩
  · rcases List.mem_singleton.1 ho with rfl
    exact ⟨List.mem_cons_self, hd⟩
theorem Sm.iff {cs : List Int} {L : List O} (h : Sm cs L) (p : Bool) (c : Int) {d : List UInt8} (hd : d.length ≤ 1000) : Sm (c :: cs) (L ++ ifL p c d) := by
  unfold ifL
  cases p with
  | false => simpa using h.more c
  | true => exact h.snoc c hd
theorem Sm.echo {cs : List Int} {L : List O} (h : Sm cs L) {l : List O} (hl : rightL l = true) (c : Int) : Sm (c :: cs) (L ++ echoL l c) := by
  unfold echoL
  cases hf : findL l c with
  | none => simpa using h.more c
  | some d => exact h.snoc c (Nat.le_trans (find_len hl hf) (by omega))
theorem keep_new {L : List O} {c : Int} {b : List UInt8} (h : ∀ o ∈ L, o.1 ≠ c) : keepL L c b = L ++ [(c, b)] := by
  unfold keepL
  congr 1
  unfold withoutL
  exact List.filter_eq_self.2 fun o ho => by simp [h o ho]
theorem Sm.keep {cs : List Int} {L : List O} (h : Sm cs L) {c : Int} (hc : c ∉ cs) (b : List UInt8) : keepL L c b = L ++ [(c, b)] := keep_new fun o ho e => hc (e ▸ (h.2 o ho).1)
theorem sm_ps {cs : List Int} {ps : List Po} (h : Sm cs (osP ps)) : ∀ p ∈ ps, p.l.length ≤ 1000 := fun p hp => (h.2 p.o (os_mem hp)).2

/-! ### The box -/
/-- The box g holds a slice of the call's own, behind it, that reads as L. -/
def Bo (g : Nat) (w : World) (L : List O) : Prop := ∃ A n c ps B, g < B ∧ B ≤ w.heap.size ∧ Cel w g 27 #[.slice A n c] ∧ OwnF B w A n c ps ∧ osP ps = L
theorem Bo.below {g : Nat} {w w' : World} {L : List O} (h : Bo g w L) (hb : Below w.heap.size w w') : Bo g w' L := by
  obtain ⟨A, n, c, ps, B, h1, h2, h3, h4, h5⟩ := h
  exact ⟨A, n, c, ps, B, h1, Nat.le_trans h2 hb.size, h3.below hb h3.lt, h4.below hb, h5⟩
theorem Bo.born (w : World) : Bo w.heap.size (w.alloc (.cells #[.slice none 0 0] 27)) [] :=
  ⟨none, 0, 0, [], w.heap.size + 1, Nat.lt_succ_self _, by simp, Cel.born _ _ _, ⟨OwnC.nil _ _ _, fun p hp => by cases hp⟩, rfl⟩
def BoR (g : Nat) (w : World) (L : List O) (e : Ending) (w' : World) : Prop := e = .returned (.tuple #[]) ∧ Bo g w' L ∧ Below g w w'
theorem app31 (x y z u : Value) : #[x, y, z] ++ #[u] = #[x, y, z, u] := rfl
theorem app12 (x y z : Value) : #[x] ++ #[y, z] = #[x, y, z] := rfl

set_option maxHeartbeats 1000000 in
/-- 'put': the list, and one option behind it. -/
theorem put_any (g : Nat) (cs : List Int) (L : List O) (code v k : Int) (w : World) (h : Bo g w L) (hs : Sm cs L) (h7 : cs.length ≤ 7) (hc : code ∉ cs) (hb : Cw.fairB v k = true) (hf : fairO code [] = true) :
    Calls Tryz.prog 235 (#[.int .i64 code, .int .i64 v, .int .i64 k] ++ #[.pointer (some ⟨g, 0, none⟩)]) w (BoR g w (L ++ [(code, putL v.toNat k.toNat)])) := by
  rw [app31, ← hs.keep hc]
  obtain ⟨A, n, c, ps, B, hg, hB, hcl, ho, rfl⟩ := h
  have e1 : w.cell? ⟨g, 0, none⟩ = some (.slice A n c) := by rw [hcl.cell]; rfl
  have hn : n ≤ 1000 := by have h1 := ho.1.len; have h2 := hs.1; rw [os_len] at h2; omega
  have HS := Lib.hid (set_yes A n c ps code v k w ho.rd hn (sm_ps hs) hb hf)
  have HC := Lib.hid hcl
  have HG : Hid (g < w.heap.size) := hcl.lt
  have HQ : Hid (setL (osP ps) code v k = keepL (osP ps) code (putL v.toNat k.toNat)) := rfl
  rw [HQ.out] at HS
  generalize keepL (osP ps) code (putL v.toNat k.toNat) = Q at HS ⊢
  clear hcl ho hs hb hf hc HQ h7 hg hB hn
  go_enter Tryz.func235, Tryz.ntmps235
  go_wp2_with fail
  refine HS.out.mono ?_
  rintro e w1 ⟨A1, m1, c1, qs, rfl, hqs, hown, hb1⟩
  have hc1 := HC.out.below hb1 HC.out.lt
  have e2 : w1.cell? ⟨g, 0, none⟩ = some (.slice A n c) := by rw [hc1.cell]; rfl
  have f1 := frz hc1 0
  have HC1 := Lib.hid hc1
  have HO := Lib.hid hown
  have HB1 := Lib.hid hb1
  have HE := Lib.hid hqs
  clear hc1 hown hb1 hqs e1
  go_wp2
  go_end0
  exact ⟨rfl, ⟨A1, m1, c1, qs, w.heap.size, HG.out, by simpa using HB1.out.size, celP HC1.out 0 _, ownF_put HO.out HG.out 0 _, HE.out⟩, (HB1.out.mono (Nat.le_of_lt HG.out)).setCell (p := ⟨g, 0, none⟩) (Nat.le_refl _) _⟩

set_option maxHeartbeats 1000000 in
/-- 'giveBack': the list, and the message's option behind it, if there is one. -/
theorem give_any (x : Mv) (g gm : Nat) (cs : List Int) (L : List O) (code : Int) (w : World) (h : Bo g w L) (hs : Sm cs L) (h7 : cs.length ≤ 7) (hc : code ∉ cs) (hm : Cel w gm 29 x.cells) (hx : x.ok w) (hr : rightL (osP x.ps) = true) (hsm : ∀ p ∈ x.ps, p.l.length ≤ 1000) (h1 : 1 ≤ code ∧ code ≤ 254) :
    Calls Tryz.prog 236 (#[.int .i64 code] ++ #[.pointer (some ⟨gm, 0, none⟩), .pointer (some ⟨g, 0, none⟩)]) w (BoR g w (L ++ echoL (osP x.ps) code)) := by
  rw [app12]
  have HF := Lib.hid (Tw.find_any x.B x.m x.d x.ps code w hx.os hsm)
  have HL : Hid (∀ b, findL (osP x.ps) code = some b → b.length ≤ 600) := fun b hb => find_len hr hb
  have m12 : w.cell? ⟨gm, 12, none⟩ = some (.slice x.B x.m x.d) := (celM_all hm).2.2.2.2.2.2
  unfold echoL
  have HB := Lib.hid h
  have HS := Lib.hid hs
  have HN := Lib.hid hc
  generalize findL (osP x.ps) code = r at HF HL
  clear h hs hc hm hx hr hsm
  cases r with
  | none =>
    go_enter Tryz.func236, Tryz.ntmps236
    go_wp2_with fail
    refine HF.out.mono ?_
    rintro e w1 ⟨A1, m1, c1, rfl, hbs, hb1⟩
    have HBS := Lib.hid hbs
    have HB1 := Lib.hid hb1
    clear hbs hb1 m12
    go_wp2
    go_end0
    obtain ⟨_, _, _, _, B, hg, hB, _⟩ := HB.out
    exact ⟨rfl, by simpa using HB.out.below HB1.out, HB1.out.mono (by omega)⟩
  | some b =>
    have hb6 := HL.out b rfl
    show Calls _ _ _ w (BoR g w (L ++ [(code, b)]))
    rw [← HS.out.keep HN.out b]
    go_enter Tryz.func236, Tryz.ntmps236
    go_wp2_with fail
    refine HF.out.mono ?_
    rintro e w1 ⟨A1, m1, c1, rfl, hbs, hb1⟩
    obtain ⟨A, n, c, ps, B, hg, hB, hcl, ho, rfl⟩ := HB.out.below hb1
    have e1 : w1.cell? ⟨g, 0, none⟩ = some (.slice A n c) := by rw [hcl.cell]; rfl
    have hn : n ≤ 1000 := by have q1 := ho.1.len; have q2 := HS.out.1; rw [os_len] at q2; omega
    have HKE := Lib.hid (keep_yes A n c ps code A1 m1 c1 b w1 ho.rd hn (sm_ps HS.out) hbs ((fair_iff code b).2 ⟨h1.1, h1.2, hb6⟩))
    have HC := Lib.hid hcl
    have HG : Hid (g < w1.heap.size) := hcl.lt
    have HG0 : Hid (g < w.heap.size) := by obtain ⟨_, _, _, _, B, hg, hB, _⟩ := HB.out; exact Nat.lt_of_lt_of_le hg hB
    have HB1 := Lib.hid hb1
    clear hcl ho hbs hb1 hn hb6 m12 hg hB HL HF HB h1
    go_wp2_with fail
    refine HKE.out.mono ?_
    rintro e w2 ⟨A2, m2, c2, qs, rfl, hqs, hown, hb2⟩
    have hc2 := HC.out.below hb2 HC.out.lt
    have e2 : w2.cell? ⟨g, 0, none⟩ = some (.slice A n c) := by rw [hc2.cell]; rfl
    have f1 := frz hc2 0
    have HC2 := Lib.hid hc2
    have HO := Lib.hid hown
    have HB2 := Lib.hid hb2
    have HE := Lib.hid hqs
    clear hc2 hown hb2 hqs e1
    go_wp2
    go_end0
    exact ⟨rfl, ⟨A2, m2, c2, qs, w1.heap.size, HG.out, by simpa using HB2.out.size, celP HC2.out 0 _, ownF_put HO.out HG.out 0 _, HE.out⟩, ((HB1.out.trans (HB2.out.mono HB1.out.size)).mono (Nat.le_of_lt HG0.out)).setCell (p := ⟨g, 0, none⟩) (Nat.le_refl _) _⟩

/-! ### The small calls -/
def BlR (t : Bool) (w : World) (e : Ending) (w' : World) : Prop := e = .returned (.bool t) ∧ Below w.heap.size w w'
set_option maxHeartbeats 1000000 in
theorem asked_any (x : Mv) (code : Int) (w : World) (hx : x.ok w) (hsm : ∀ p ∈ x.ps, p.l.length ≤ 1000) : Calls Tryz.prog 237 #[x.v, .int .i64 code] w (BlR (asksL (osP x.ps) code) w) := by
  obtain ⟨w0, hw0, hc0, hb0, _⟩ := boxM w x 29
  have HX := Lib.hid (hx.below hb0)
  have HF := Lib.hid (Tw.find_any x.B x.m x.d x.ps 55 w0 HX.out.os hsm)
  have HW := Lib.hid (fun W (hW : Below w0.heap.size w0 W) => wants_any x.B x.m x.d x.ps code W (HX.out.os.below hW) hsm)
  have HA : Hid (asksL (osP x.ps) code = ((findL (osP x.ps) 55).isNone || hasB (listedL (osP x.ps)) code)) := rfl
  generalize asksL (osP x.ps) code = a at HA ⊢
  generalize hasB (listedL (osP x.ps)) code = b at HA HW
  generalize findL (osP x.ps) 55 = r at HF HA
  have HC := Lib.hid hc0
  have HB := Lib.hid hb0
  have m12 : w0.cell? ⟨w.heap.size, 12, none⟩ = some (.slice x.B x.m x.d) := (celM_all hc0).2.2.2.2.2.2
  clear hx hsm hc0 hb0
  cases r with
  | none =>
    have HT : Hid (a = true) := HA.out
    go_enter Tryz.func237, Tryz.ntmps237
    go_upto_region 1 with fail
    rw [← hw0]
    clear hw0
    go_wp2_with fail
    refine HF.out.mono ?_
    rintro e w1 ⟨A1, m1, c1, rfl, hbs, hb1⟩
    have HB1 := Lib.hid (HB.out.trans (hb1.mono HB.out.size))
    clear hbs hb1 m12
    go_wp2
    go_ret
    exact ⟨ret_bool HT.out.symm, HB1.out⟩
  | some d =>
    have HT : Hid (a = b) := HA.out
    go_enter Tryz.func237, Tryz.ntmps237
    go_upto_region 1 with fail
    rw [← hw0]
    clear hw0
    go_wp2_with fail
    refine HF.out.mono ?_
    rintro e w1 ⟨A1, m1, c1, rfl, hbs, hb1⟩
    have m12b : w1.cell? ⟨w.heap.size, 12, none⟩ = some (.slice x.B x.m x.d) := (celM_all (HC.out.below hb1 HC.out.lt)).2.2.2.2.2.2
    have HB1 := Lib.hid hb1
    clear hbs hb1 m12
    go_wp2_with fail
    refine (HW.out _ HB1.out).mono ?_
    rintro e w2 ⟨rfl, hb2⟩
    have HB2 := Lib.hid (HB.out.trans ((HB1.out.trans (hb2.mono HB1.out.size)).mono HB.out.size))
    clear hb2 m12b
    go_wp2
    go_ret
    exact ⟨ret_bool HT.out.symm, HB2.out⟩

def InR (t : Int) (w : World) (e : Ending) (w' : World) : Prop := e = .returned (.int .i64 t) ∧ Below w.heap.size w w'
set_option maxHeartbeats 1000000 in
theorem flags_any (x : Mv) (kind : Int) (w : World) (h0 : 0 ≤ x.flags) (h1 : x.flags ≤ 65535) : Calls Tryz.prog 228 #[x.v, .int .i64 kind] w (InR (flagsR x.mm kind) w) := by
  have hf : flagsR x.mm kind = if kind = 6 ∧ x.gi ≠ 0 ∧ x.flags < 32768 then x.flags + 32768 else x.flags := rfl
  have HB := Lib.hid (alloc_more w (.cells x.cells 29))
  by_cases hk : kind = 6
  · subst hk
    by_cases hg : x.gi = 0
    · have HT : Hid (flagsR x.mm 6 = x.flags) := by show _ = _; rw [hf, if_neg (fun k => k.2.1 hg)]
      clear hf h0 h1
      go_enter Tryz.func228, Tryz.ntmps228
      go_wp2
      go_ret
      exact ⟨by rw [HT.out]; rfl, alloc_more _ _⟩
    · by_cases hl : x.flags < 32768
      · have HT : Hid (flagsR x.mm 6 = x.flags + 32768) := by show _ = _; rw [hf, if_pos ⟨rfl, hg, hl⟩]
        clear hf
        go_enter Tryz.func228, Tryz.ntmps228
        go_wp2
        go_ret
        refine ⟨?_, HB.out⟩
        rw [HT.out]
        go_num
      · have HT : Hid (flagsR x.mm 6 = x.flags) := by show _ = _; rw [hf, if_neg (fun k => hl k.2.2)]
        clear hf
        go_enter Tryz.func228, Tryz.ntmps228
        go_wp2
        go_ret
        exact ⟨by rw [HT.out]; rfl, alloc_more _ _⟩
  · have HT : Hid (flagsR x.mm kind = x.flags) := by show _ = _; rw [hf, if_neg (fun k => hk k.1)]
    clear hf h0 h1
    go_enter Tryz.func228, Tryz.ntmps228
    go_wp2
    go_ret
    exact ⟨by rw [HT.out]; rfl, alloc_more _ _⟩
theorem replies_any (kind : Int) (w : World) : Calls Tryz.prog 227 #[.int .i64 kind] w fun e w' => e = .returned (.bool (decide (kind = 2 ∨ kind = 5 ∨ kind = 6))) ∧ w = w' := by
  by_cases h2 : kind = 2
  · subst h2
    go_enter Tryz.func227, Tryz.ntmps227
    go_wp2
    go_ret
    exact ⟨rfl, rfl⟩
  · by_cases h5 : kind = 5
    · subst h5
      go_enter Tryz.func227, Tryz.ntmps227
      go_wp2
      go_ret
      exact ⟨rfl, rfl⟩
    · have H : Hid ((kind == 2 || kind == 5 || kind == 6) = decide (kind = 2 ∨ kind = 5 ∨ kind = 6)) := by
        show (kind == 2 || kind == 5 || kind == 6) = _
        by_cases h6 : kind = 6 <;> simp [h2, h5, h6]
      go_enter Tryz.func227, Tryz.ntmps227
      go_wp2
      go_ret
      exact ⟨ret_bool H.out, rfl⟩
end Go.Proofs.YtoldppbakapohaaGreatDoor.Rpw
end
/- What reply's subnet comes to: the subnet at a place of a valid configuration. Condition: the configuration reads and is small. -/
section
set_option maxRecDepth 8000
namespace Go.Proofs.YtoldppbakapohaaGreatDoor.Rpw
open Go.RowKit Tl Co Ms Cf Ad By Ow Rp
open Pw (alloc_more celM_all boxM)
open Vw (Cx Sx isI check_any cel3C atN atS cel7 Seven snsOf sns_len sns_get nets_len nets_get)

def zS : Sn := ⟨0, 0, [], [], 0, 0, 0⟩
@[reducible] def zcs : Array Value := #[.int .i64 0, .int .i64 0, .slice none 0 0, .slice none 0 0, .int .i64 0, .int .i64 0, .int .i64 0]
/-- The subnet at a place. -/
def subAt (c : Cf) (net sub : Int) : Sn := (c.nets.getD net.toNat []).getD sub.toNat zS
/-- Is there a subnet, of a valid configuration? -/
def subB (c : Cf) (net sub : Int) : Bool := decide (checkC c = 0) && (decide (0 ≤ net ∧ net < c.nets.length) && decide (0 ≤ sub ∧ sub < (c.nets.getD net.toNat []).length))
theorem fair_sub (c : Cf) (net sub : Int) (m : M) (kind yi : Int) : fairR c net sub m kind yi = (subB c net sub && (rightM m && (rightB yi && decide (kind = 2 ∨ kind = 5 ∨ kind = 6)))) := by
  unfold fairR subB
  simp only [Bool.and_assoc]
theorem subB_iff {c : Cf} {net sub : Int} : subB c net sub = true ↔ checkC c = 0 ∧ (0 ≤ net ∧ net < c.nets.length) ∧ 0 ≤ sub ∧ sub < (c.nets.getD net.toNat []).length := by
  unfold subB
  simp only [Bool.and_eq_true, decide_eq_true_eq]
theorem subB_no {c : Cf} {net sub : Int} (h : ¬ (checkC c = 0 ∧ (0 ≤ net ∧ net < c.nets.length) ∧ 0 ≤ sub ∧ sub < (c.nets.getD net.toNat []).length)) : subB c net sub = false := by
  cases hb : subB c net sub with
  | false => rfl
  | true => exact absurd (subB_iff.1 hb) h
/-- What is at such a place is one of the configuration's subnets. -/
theorem sub_mem {c : Cf} {net sub : Int} (h : subB c net sub = true) : ∃ n ∈ c.nets, subAt c net sub ∈ n := by
  obtain ⟨_, ⟨h1, h2⟩, h3, h4⟩ := subB_iff.1 h
  obtain ⟨i, rfl⟩ := Int.eq_ofNat_of_zero_le h1
  obtain ⟨j, rfl⟩ := Int.eq_ofNat_of_zero_le h3
  simp only [Int.toNat_natCast] at h4
  have hi : i < c.nets.length := by omega
  unfold subAt
  simp only [Int.toNat_natCast]
  have e : c.nets.getD i [] = c.nets[i] := by rw [List.getD_eq_getElem?_getD, List.getElem?_eq_getElem hi]; rfl
  rw [e] at h4 ⊢
  have hj : j < (c.nets[i]).length := by omega
  refine ⟨c.nets[i], List.getElem_mem hi, ?_⟩
  rw [List.getD_eq_getElem?_getD, List.getElem?_eq_getElem hj]
  exact List.getElem_mem hj

theorem celP7 {w : World} {g : Nat} {t : TypeId} (c0 c1 c2 c3 c4 c5 c6 v0 v1 v2 v3 v4 v5 v6 : Value) (h : Cel w g t #[c0, c1, c2, c3, c4, c5, c6]) :
    Cel (((((((w.setCell ⟨g, 0, none⟩ v0).setCell ⟨g, 1, none⟩ v1).setCell ⟨g, 2, none⟩ v2).setCell ⟨g, 3, none⟩ v3).setCell ⟨g, 4, none⟩ v4).setCell ⟨g, 5, none⟩ v5).setCell ⟨g, 6, none⟩ v6) g t #[v0, v1, v2, v3, v4, v5, v6] := by
  have h0 : Cel _ g t #[v0, c1, c2, c3, c4, c5, c6] := celP h 0 v0
  have h1 : Cel _ g t #[v0, v1, c2, c3, c4, c5, c6] := celP h0 1 v1
  have h2 : Cel _ g t #[v0, v1, v2, c3, c4, c5, c6] := celP h1 2 v2
  have h3 : Cel _ g t #[v0, v1, v2, v3, c4, c5, c6] := celP h2 3 v3
  have h4 : Cel _ g t #[v0, v1, v2, v3, v4, c5, c6] := celP h3 4 v4
  have h5 : Cel _ g t #[v0, v1, v2, v3, v4, v5, c6] := celP h4 5 v5
  have h6 : Cel _ g t #[v0, v1, v2, v3, v4, v5, v6] := celP h5 6 v6
  exact h6
theorem belowP7 {B : Nat} {w w' : World} (h : Below B w w') {g : Nat} (hg : B ≤ g) (v0 v1 v2 v3 v4 v5 v6 : Value) :
    Below B w (((((((w'.setCell ⟨g, 0, none⟩ v0).setCell ⟨g, 1, none⟩ v1).setCell ⟨g, 2, none⟩ v2).setCell ⟨g, 3, none⟩ v3).setCell ⟨g, 4, none⟩ v4).setCell ⟨g, 5, none⟩ v5).setCell ⟨g, 6, none⟩ v6) :=
  ((((((h.setCell (p := ⟨g, 0, none⟩) hg _).setCell (p := ⟨g, 1, none⟩) hg _).setCell (p := ⟨g, 2, none⟩) hg _).setCell (p := ⟨g, 3, none⟩) hg _).setCell (p := ⟨g, 4, none⟩) hg _).setCell (p := ⟨g, 5, none⟩) hg _).setCell (p := ⟨g, 6, none⟩) hg _
theorem frz7 {w : World} {g : Nat} {t : TypeId} {cs : Array Value} (h : Cel w g t cs) : w.frozen? ⟨g, 0, none⟩ = false ∧ w.frozen? ⟨g, 1, none⟩ = false ∧ w.frozen? ⟨g, 2, none⟩ = false ∧ w.frozen? ⟨g, 3, none⟩ = false ∧ w.frozen? ⟨g, 4, none⟩ = false ∧ w.frozen? ⟨g, 5, none⟩ = false ∧ w.frozen? ⟨g, 6, none⟩ = false :=
  ⟨frz h 0, frz h 1, frz h 2, frz h 3, frz h 4, frz h 5, frz h 6⟩
theorem ret_sn2 {fn : Func} {p u : Tmp} (hres : fn.results = #[.cell p 115, .tmp u]) (tmps : Array Value) (w : World) (g : Nat) (cs : Array Value) (hp : tmps.getD p undef = .pointer (some ⟨g, 0, none⟩)) (hc : Cel w g 115 cs) (hs : cs.size = 7) :
    (results fn tmps).run Tryz.prog w = .ok (.tuple #[.agg cs, tmps.getD u undef]) w := by
  rw [results_cell_tmp hres, hp]
  have := run_loadVar_row (P := Tryz.prog) w g 115 115 cs (0, 0) _ hc Tryz.underlying115 rfl (by rw [hs]; kernel_rfl)
  simp [asAddr, this]
theorem cel7z {w : World} {g : Nat} {t : TypeId} (h : Cel w g t zcs) : w.cell? ⟨g, 0, none⟩ = some (.int .i64 0) ∧ w.cell? ⟨g, 1, none⟩ = some (.int .i64 0) ∧ w.cell? ⟨g, 2, none⟩ = some (.slice none 0 0) ∧ w.cell? ⟨g, 3, none⟩ = some (.slice none 0 0) ∧ w.cell? ⟨g, 4, none⟩ = some (.int .i64 0) ∧ w.cell? ⟨g, 5, none⟩ = some (.int .i64 0) ∧ w.cell? ⟨g, 6, none⟩ = some (.int .i64 0) :=
  ⟨by rw [h.cell]; rfl, by rw [h.cell]; rfl, by rw [h.cell]; rfl, by rw [h.cell]; rfl, by rw [h.cell]; rfl, by rw [h.cell]; rfl, by rw [h.cell]; rfl⟩
def SbR (c : Cf) (net sub : Int) (w : World) (e : Ending) (w' : World) : Prop := Below w.heap.size w w' ∧
  ((subB c net sub = true ∧ ∃ (s : Sx) (pn rn : Nat), e = .returned (.tuple #[s.v pn rn, .bool true]) ∧ s.s = subAt c net sub) ∨ (subB c net sub = false ∧ e = .returned (.tuple #[.agg zcs, .bool false])))
theorem boxS2 (w : World) (c : Cx) : ∃ w1, w1 = (w.alloc (.cells c.cs 24)).alloc (.cells zcs 115) ∧ Cel w1 w.heap.size 24 c.cs ∧ Cel w1 (w.heap.size + 1) 115 zcs ∧ Below w.heap.size w w1 ∧ w1.heap.size = w.heap.size + 2 := by
  have ca := Cel.born w 24 c.cs
  have ba := alloc_more w (.cells c.cs 24)
  have sa : (w.alloc (.cells c.cs 24)).heap.size = w.heap.size + 1 := by simp
  refine ⟨_, rfl, ?_⟩
  generalize w.alloc (.cells c.cs 24) = wa at ca ba sa
  have cb := Cel.born wa 115 zcs
  have bb := alloc_more wa (.cells zcs 115)
  have sb : (wa.alloc (.cells zcs 115)).heap.size = w.heap.size + 2 := by simp; omega
  rw [sa] at cb
  exact ⟨ca.below bb ca.lt, cb, ba.trans (bb.mono ba.size), sb⟩

set_option maxHeartbeats 4000000 in
theorem subnet_any (c : Cx) (net sub : Int) (U : Nat) (w : World) (h : c.ok U w) (hU : U ≤ w.heap.size) (hS : Small c.cf) : Calls Tryz.prog 226 #[c.v, .int .i64 net, .int .i64 sub] w (SbR c.cf net sub w) := by
  obtain ⟨w0, hw0, hc0, hd0, hb0, hz0⟩ := boxS2 w c
  have HK := Lib.hid (fun W (hW : Below w.heap.size w W) => check_any c U W (h.below (hW.mono hU)) (Nat.le_trans hU hW.size) hS)
  have HB0 := Lib.hid hb0
  have HC := Lib.hid hc0
  have HD := Lib.hid hd0
  have HZ := Lib.hid hz0
  have HX := Lib.hid (fun W (hW : Below w.heap.size w W) => h.below (hW.mono hU))
  have HUU := Lib.hid hU
  have HNL : Hid (c.cf.nets.length = c.n) := h.nets
  have hcap := (Vw.Cx.ok.rd h).cap
  have hmax := (Vw.Cx.ok.rd h).max
  clear hc0 hd0 hb0 hz0 hS h hU
  by_cases hck : checkC c.cf = 0
  · have HCK := Lib.hid hck
    rw [hck] at HK
    clear hck
    by_cases hn : 0 ≤ net ∧ net < c.n
    · obtain ⟨hn0, hn1⟩ := hn
      obtain ⟨i, rfl⟩ := Int.eq_ofNat_of_zero_le hn0
      have hi : i < c.n := by omega
      go_enter Tryz.func226, Tryz.ntmps226
      go_upto_region 1 with fail
      rw [← hw0]
      clear hw0
      obtain ⟨c0, c1, c2⟩ := cel3C HC.out
      go_wp2_with fail
      refine (HK.out w0 HB0.out).mono ?_
      rintro e w1 ⟨rfl, hb1⟩
      have HC1 := Lib.hid (HC.out.below hb1 HC.out.lt)
      have HD1 := Lib.hid (HD.out.below hb1 HD.out.lt)
      have HB1 := Lib.hid (HB0.out.trans (hb1.mono HB0.out.size))
      clear hb1 c0 c1 c2
      obtain ⟨b, o, x, m, hA, hbU, hget, hrd, hcell⟩ := atN (Vw.Cx.ok.rd (HX.out w1 HB1.out)) hi
      have HG := Lib.hid hget.out
      have HR := Lib.hid hrd
      have hm := hrd.cap
      have hm2 := hrd.max
      obtain ⟨c0, c1, c2⟩ := cel3C HC1.out
      have HSL : Hid ((c.cf.nets.getD i []).length = m) := by
        show _ = _
        rw [show c.cf.nets.getD i [] = snsOf x.xs from by rw [List.getD_eq_getElem?_getD, show c.cf.nets[i]? = some (snsOf x.xs) from nets_get hget.out]; rfl, sns_len, hrd.len]
      clear hget hrd
      rw [hA] at c2
      by_cases hs : 0 ≤ sub ∧ sub < m
      · obtain ⟨hs0, hs1⟩ := hs
        obtain ⟨j, rfl⟩ := Int.eq_ofNat_of_zero_le hs0
        have hj : j < m := by omega
        obtain ⟨bs, os, s, pn, rn, hAs, hbs, hgs, _, _, _, hsev⟩ := atS HR.out hj
        have HGS := Lib.hid hgs.out
        rw [hAs] at hcell
        obtain ⟨s0, s1, s2, s3, s4, s5, s6⟩ := hsev
        obtain ⟨d0, d1, d2, d3, d4, d5, d6⟩ := frz7 HD1.out
        obtain ⟨y0, y1, y2, y3, y4, y5, y6⟩ := cel7z HD1.out
        go_wp2
        refine bodyPost_ret (ret_sn2 rfl _ _ (w.heap.size + 1) (s.cs pn rn) rfl (celP7 _ _ _ _ _ _ _ _ _ _ _ _ _ _ HD1.out) rfl) rfl ?_
        refine ⟨belowP7 HB1.out (Nat.le_succ _) _ _ _ _ _ _ _, .inl ⟨subB_iff.2 ⟨HCK.out, ⟨hn0, by rw [HNL.out]; exact hn1⟩, hs0, by rw [Int.toNat_natCast, HSL.out]; exact hs1⟩, s, pn, rn, rfl, ?_⟩⟩
        unfold subAt
        rw [Int.toNat_natCast, Int.toNat_natCast, show c.cf.nets.getD i [] = snsOf x.xs from by rw [List.getD_eq_getElem?_getD, show c.cf.nets[i]? = some (snsOf x.xs) from nets_get HG.out]; rfl, List.getD_eq_getElem?_getD, sns_get HGS.out]
        rfl
      · have HNO : Hid (¬ (0 ≤ sub ∧ sub < (m : Int))) := hs
        by_cases hs0 : sub < 0
        · clear hs
          obtain ⟨y0, y1, y2, y3, y4, y5, y6⟩ := cel7z HD1.out
          obtain ⟨d0, d1, d2, d3, d4, d5, d6⟩ := frz7 HD1.out
          go_wp2
          refine bodyPost_ret (ret_sn2 rfl _ _ (w.heap.size + 1) zcs rfl (celP7 _ _ _ _ _ _ _ _ _ _ _ _ _ _ HD1.out) rfl) rfl ?_
          exact ⟨belowP7 HB1.out (Nat.le_succ _) _ _ _ _ _ _ _, .inr ⟨subB_no (fun k => HNO.out (by have e := HSL.out; rw [Int.toNat_natCast, e] at k; exact k.2.2)), rfl⟩⟩
        · have hs1 : (m : Int) ≤ sub := by omega
          have hs2 : 0 ≤ sub := by omega
          clear hs
          obtain ⟨y0, y1, y2, y3, y4, y5, y6⟩ := cel7z HD1.out
          obtain ⟨d0, d1, d2, d3, d4, d5, d6⟩ := frz7 HD1.out
          go_wp2
          refine bodyPost_ret (ret_sn2 rfl _ _ (w.heap.size + 1) zcs rfl (celP7 _ _ _ _ _ _ _ _ _ _ _ _ _ _ HD1.out) rfl) rfl ?_
          exact ⟨belowP7 HB1.out (Nat.le_succ _) _ _ _ _ _ _ _, .inr ⟨subB_no (fun k => HNO.out (by have e := HSL.out; rw [Int.toNat_natCast, e] at k; exact k.2.2)), rfl⟩⟩
    · have HNO : Hid (¬ (0 ≤ net ∧ net < (c.n : Int))) := hn
      by_cases hn0 : net < 0
      · clear hn
        go_enter Tryz.func226, Tryz.ntmps226
        go_upto_region 1 with fail
        rw [← hw0]
        clear hw0
        obtain ⟨c0, c1, c2⟩ := cel3C HC.out
        go_wp2_with fail
        refine (HK.out w0 HB0.out).mono ?_
        rintro e w1 ⟨rfl, hb1⟩
        have HC1 := Lib.hid (HC.out.below hb1 HC.out.lt)
        have HD1 := Lib.hid (HD.out.below hb1 HD.out.lt)
        have HB1 := Lib.hid (HB0.out.trans (hb1.mono HB0.out.size))
        clear hb1 c0 c1 c2
        obtain ⟨c0, c1, c2⟩ := cel3C HC1.out
        obtain ⟨y0, y1, y2, y3, y4, y5, y6⟩ := cel7z HD1.out
        obtain ⟨d0, d1, d2, d3, d4, d5, d6⟩ := frz7 HD1.out
        go_wp2
        refine bodyPost_ret (ret_sn2 rfl _ _ (w.heap.size + 1) zcs rfl (celP7 _ _ _ _ _ _ _ _ _ _ _ _ _ _ HD1.out) rfl) rfl ?_
        exact ⟨belowP7 HB1.out (Nat.le_succ _) _ _ _ _ _ _ _, .inr ⟨subB_no (fun k => HNO.out (by have e := HNL.out; rw [e] at k; exact k.2.1)), rfl⟩⟩
      · have hn1 : (c.n : Int) ≤ net := by omega
        have hn2 : 0 ≤ net := by omega
        clear hn
        go_enter Tryz.func226, Tryz.ntmps226
        go_upto_region 1 with fail
        rw [← hw0]
        clear hw0
        obtain ⟨c0, c1, c2⟩ := cel3C HC.out
        go_wp2_with fail
        refine (HK.out w0 HB0.out).mono ?_
        rintro e w1 ⟨rfl, hb1⟩
        have HC1 := Lib.hid (HC.out.below hb1 HC.out.lt)
        have HD1 := Lib.hid (HD.out.below hb1 HD.out.lt)
        have HB1 := Lib.hid (HB0.out.trans (hb1.mono HB0.out.size))
        clear hb1 c0 c1 c2
        obtain ⟨c0, c1, c2⟩ := cel3C HC1.out
        obtain ⟨y0, y1, y2, y3, y4, y5, y6⟩ := cel7z HD1.out
        obtain ⟨d0, d1, d2, d3, d4, d5, d6⟩ := frz7 HD1.out
        go_wp2
        refine bodyPost_ret (ret_sn2 rfl _ _ (w.heap.size + 1) zcs rfl (celP7 _ _ _ _ _ _ _ _ _ _ _ _ _ _ HD1.out) rfl) rfl ?_
        exact ⟨belowP7 HB1.out (Nat.le_succ _) _ _ _ _ _ _ _, .inr ⟨subB_no (fun k => HNO.out (by have e := HNL.out; rw [e] at k; exact k.2.1)), rfl⟩⟩
  · have HCK := Lib.hid hck
    generalize checkC c.cf = ck at HK hck
    have hckb : (ck != 0) = true := by simpa using hck
    clear hck
    go_enter Tryz.func226, Tryz.ntmps226
    go_upto_region 1 with fail
    rw [← hw0]
    clear hw0
    obtain ⟨c0, c1, c2⟩ := cel3C HC.out
    go_wp2_with fail
    refine (HK.out w0 HB0.out).mono ?_
    rintro e w1 ⟨rfl, hb1⟩
    have HC1 := Lib.hid (HC.out.below hb1 HC.out.lt)
    have HD1 := Lib.hid (HD.out.below hb1 HD.out.lt)
    have HB1 := Lib.hid (HB0.out.trans (hb1.mono HB0.out.size))
    clear hb1 c0 c1 c2
    obtain ⟨c0, c1, c2⟩ := cel3C HC1.out
    obtain ⟨y0, y1, y2, y3, y4, y5, y6⟩ := cel7z HD1.out
    obtain ⟨d0, d1, d2, d3, d4, d5, d6⟩ := frz7 HD1.out
    go_wp2
    refine bodyPost_ret (ret_sn2 rfl _ _ (w.heap.size + 1) zcs rfl (celP7 _ _ _ _ _ _ _ _ _ _ _ _ _ _ HD1.out) rfl) rfl ?_
    exact ⟨belowP7 HB1.out (Nat.le_succ _) _ _ _ _ _ _ _, .inr ⟨subB_no (fun k => HCK.out k.1), rfl⟩⟩
end Go.Proofs.YtoldppbakapohaaGreatDoor.Rpw
end
/- What reply's options come to: the list, in its own memory. Conditions: the message's options are right, the numbers are 32-bit ones. -/
section
set_option maxRecDepth 8000
namespace Go.Proofs.YtoldppbakapohaaGreatDoor.Rpw
open Go.RowKit Tl Co Ms Cf Ad By Ow Rp
open Pw (alloc_more celM_all boxM)
open Vw (Cx Sx cel7)

theorem fair4 {v : Int} (h : rightB v = true) : Cw.fairB v 4 = true := by
  have := rightB_iff.1 h
  have p4 : p256 4 = 4294967296 := by decide
  exact (fairB_iff v 4).2 ⟨by omega, by omega, by omega, by show v < ((p256 4 : Nat) : Int); rw [p4]; omega⟩
theorem fair1 {k : Int} (h : k = 2 ∨ k = 5 ∨ k = 6) : Cw.fairB k 1 = true := by rcases h with rfl | rfl | rfl <;> decide
theorem byte1 {k : Int} (h : k = 2 ∨ k = 5 ∨ k = 6) : putL k.toNat (1 : Int).toNat = [byteI k] := by rcases h with rfl | rfl | rfl <;> rfl
theorem bo_le {g : Nat} {w : World} {L : List O} (h : Bo g w L) : g ≤ w.heap.size := by
  obtain ⟨_, _, _, _, B, hg, hB, _⟩ := h
  exact Nat.le_of_lt (Nat.lt_of_lt_of_le hg hB)
/-! ### The list, stage by stage -/
def O2 (srv kind : Int) : List O := ([] ++ [((53 : Int), [byteI kind])]) ++ [((54 : Int), numB srv 4)]
def O3 (srv kind : Int) (s : Sn) (p : Bool) : List O := O2 srv kind ++ ifL p 51 (numB s.time 4)
def O4 (srv kind : Int) (s : Sn) (p q : Bool) : List O := O3 srv kind s p ++ ifL q 1 (numB (4294967296 - sz s.bits) 4)
def O5 (srv kind : Int) (s : Sn) (p q r : Bool) : List O := O4 srv kind s p q ++ ifL r 3 (numB s.router 4)
theorem o_all (srv : Int) (s : Sn) (l : List O) (kind yi : Int) : optsR srv s l kind yi = (O5 srv kind s (!decide (kind = 6) && decide (0 < yi)) (!decide (kind = 6) && asksL l 1) (!decide (kind = 6) && (asksL l 3 && decide (0 < s.router))) ++ echoL l 61) ++ echoL l 82 := by
  unfold optsR O5 O4 O3 O2
  simp only [List.nil_append, List.append_assoc]
theorem o_nak (srv : Int) (s : Sn) (l : List O) (yi : Int) : optsR srv s l 6 yi = (O2 srv 6 ++ echoL l 61) ++ echoL l 82 := by
  rw [o_all]
  simp [O5, O4, O3, ifL]
theorem o_ack {kind yi : Int} (srv : Int) (s : Sn) (l : List O) (hk : kind ≠ 6) (hy : 0 ≤ yi) (hr : 0 ≤ s.router) : optsR srv s l kind yi = (O5 srv kind s (yi != 0) (asksL l 1) (s.router != 0 && asksL l 3) ++ echoL l 61) ++ echoL l 82 := by
  have h1 : decide (kind = 6) = false := decide_eq_false hk
  have h2 : decide (0 < yi) = (yi != 0) := by rw [Bool.eq_iff_iff]; simp; omega
  have h3 : decide (0 < s.router) = (s.router != 0) := by rw [Bool.eq_iff_iff]; simp; omega
  rw [o_all, h1, h2, h3, Bool.and_comm (asksL l 3)]
  simp
theorem sm2 (srv kind : Int) : Sm [54, 53] (O2 srv kind) := (Sm.nil.snoc 53 (by simp)).snoc 54 (by rw [numB_len]; omega)
theorem sm3 (srv kind : Int) (s : Sn) (p : Bool) : Sm [51, 54, 53] (O3 srv kind s p) := (sm2 srv kind).iff p 51 (by rw [numB_len]; omega)
theorem sm4 (srv kind : Int) (s : Sn) (p q : Bool) : Sm [1, 51, 54, 53] (O4 srv kind s p q) := (sm3 srv kind s p).iff q 1 (by rw [numB_len]; omega)
theorem sm5 (srv kind : Int) (s : Sn) (p q r : Bool) : Sm [3, 1, 51, 54, 53] (O5 srv kind s p q r) := (sm4 srv kind s p q).iff r 3 (by rw [numB_len]; omega)
theorem boxO3 (w : World) (s : Sx) (pn rn : Nat) (x : Mv) : ∃ w3, w3 = ((w.alloc (.cells (s.cs pn rn) 115)).alloc (.cells x.cells 29)).alloc (.cells #[.slice none 0 0] 27) ∧
    Cel w3 w.heap.size 115 (s.cs pn rn) ∧ Cel w3 (w.heap.size + 1) 29 x.cells ∧ Bo (w.heap.size + 2) w3 [] ∧ Below w.heap.size w w3 := by
  have ca := Cel.born w 115 (s.cs pn rn)
  have ba := alloc_more w (.cells (s.cs pn rn) 115)
  have sa : (w.alloc (.cells (s.cs pn rn) 115)).heap.size = w.heap.size + 1 := by simp
  refine ⟨_, rfl, ?_⟩
  generalize w.alloc (.cells (s.cs pn rn) 115) = wa at ca ba sa
  have cb := Cel.born wa 29 x.cells
  have bb := alloc_more wa (.cells x.cells 29)
  have sb : (wa.alloc (.cells x.cells 29)).heap.size = w.heap.size + 2 := by simp; omega
  generalize wa.alloc (.cells x.cells 29) = wb at cb bb sb
  have cc := Bo.born wb
  have bc := alloc_more wb (.cells #[.slice none 0 0] 27)
  rw [sa] at cb
  rw [sb] at cc
  exact ⟨(ca.below bb ca.lt).below bc (by omega), cb.below bc cb.lt, cc, (ba.trans (bb.mono ba.size)).trans (bc.mono (by omega))⟩

set_option maxHeartbeats 8000000 in
theorem options_any (srv : Int) (s : Sx) (pn rn : Nat) (x : Mv) (kind yi : Int) (w : World) (hx : x.ok w) (hr : rightL (osP x.ps) = true) (hsm : ∀ p ∈ x.ps, p.l.length ≤ 1000)
    (h1 : rightB srv = true) (h2 : rightB s.time = true) (h3 : rightB (4294967296 - sz s.bits) = true) (h4 : bitsB s.bits = true) (h5 : rightB s.router = true) (h6 : rightB yi = true) (hk : kind = 2 ∨ kind = 5 ∨ kind = 6) :
    Calls Tryz.prog 229 #[.int .i64 srv, s.v pn rn, x.v, .int .i64 kind, .int .i64 yi] w (KpR w (optsR srv s.s (osP x.ps) kind yi) fun v => v) := by
  obtain ⟨w3, hw3, hcs, hcm, hbo, hb0⟩ := boxO3 w s pn rn x
  have HCS := Lib.hid hcs
  have HCM := Lib.hid hcm
  have HB0 := Lib.hid hb0
  have HX := Lib.hid (fun W (hW : Below (w.heap.size + 2) w3 W) => hx.below (hb0.trans (hW.mono (Nat.le_add_right _ 2))))
  have HO := Lib.hid hbo
  have HB := Lib.hid (Below.refl (w.heap.size + 2) w3)
  have HS2 : Hid (∀ W : World, Below (w.heap.size + 2) w3 W → _) := fun W hW => cel7 (hcs.below hW (by omega))
  have HM2 : Hid (∀ W : World, Below (w.heap.size + 2) w3 W → _) := fun W hW => celM_all (hcm.below hW (by omega))
  have HC2 : Hid (∀ W : World, Below (w.heap.size + 2) w3 W → Cel W (w.heap.size + 1) 29 x.cells) := fun W hW => hcm.below hW (by omega)
  have HR := Lib.hid hr
  have HSM := Lib.hid hsm
  have F1 := Lib.hid (fair4 h1)
  have F2 := Lib.hid (fair4 h2)
  have F3 := Lib.hid (fair4 h3)
  have F5 := Lib.hid (fair4 h5)
  have FK := Lib.hid (fair1 hk)
  have BK := Lib.hid (byte1 hk)
  have HBI := Lib.hid h4
  have HY : Hid (0 ≤ yi) := (rightB_iff.1 h6).1
  have HRO : Hid (0 ≤ s.router) := (rightB_iff.1 h5).1
  clear hcs hcm hbo hb0 hx hr hsm h1 h2 h3 h4 h5 h6
  by_cases h6 : kind = 6
  · subst h6
    go_enter Tryz.func229, Tryz.ntmps229
    go_upto_region 2 with fail
    rw [← hw3]
    clear hw3
    go_wp2_with fail
    refine (put_any (w.heap.size + 2) [] [] 53 6 1 w3 HO.out Sm.nil (by decide) (by decide) FK.out (by decide)).mono ?_
    rintro e w4 ⟨rfl, hbo, hb⟩
    have HO : Hid (Bo (w.heap.size + 2) w4 ([] ++ [((53 : Int), [byteI 6])])) := by rw [BK.out] at hbo; exact hbo
    have HB := Lib.hid (HB.out.trans hb)
    clear hbo hb
    go_wp2_with fail
    refine (put_any (w.heap.size + 2) [53] _ 54 srv 4 w4 HO.out (Sm.nil.snoc 53 (by simp)) (by decide) (by decide) F1.out (by decide)).mono ?_
    rintro e w5 ⟨rfl, hbo, hb⟩
    have HO : Hid (Bo (w.heap.size + 2) w5 (O2 srv 6)) := hbo
    have HB := Lib.hid (HB.out.trans hb)
    clear hbo hb
    go_wp2_with fail
    refine (give_any x (w.heap.size + 2) (w.heap.size + 1) [54, 53] (O2 srv 6) 61 w5 HO.out (sm2 srv 6) (by decide) (by decide) (HC2.out _ HB.out) (HX.out _ HB.out) HR.out HSM.out (by decide)).mono ?_
    rintro e wy ⟨rfl, hbo, hb⟩
    have HO : Hid (Bo (w.heap.size + 2) wy (O2 srv 6 ++ echoL (osP x.ps) 61)) := hbo
    have HB := Lib.hid (HB.out.trans hb)
    clear hbo hb
    go_wp2_with fail
    refine (give_any x (w.heap.size + 2) (w.heap.size + 1) (61 :: [54, 53]) (O2 srv 6 ++ echoL (osP x.ps) 61) 82 wy HO.out ((sm2 srv 6).echo HR.out 61) (by decide) (by decide) (HC2.out _ HB.out) (HX.out _ HB.out) HR.out HSM.out (by decide)).mono ?_
    rintro e wz ⟨rfl, hbo, hb⟩
    have HO : Hid (Bo (w.heap.size + 2) wz (O2 srv 6 ++ echoL (osP x.ps) 61 ++ echoL (osP x.ps) 82)) := hbo
    have HB := Lib.hid (HB.out.trans hb)
    clear hbo hb
    obtain ⟨A, n, c, ps, B, hg, hB, hcl, hown, hos⟩ := HO.out
    have e1 : wz.cell? ⟨w.heap.size + 2, 0, none⟩ = some (.slice A n c) := by rw [hcl.cell]; rfl
    have HOW := Lib.hid hown
    have HOS := Lib.hid hos
    have HGB := Lib.hid hg
    clear hcl hown hos hg hB
    go_wp2
    go_ret
    exact ⟨A, n, c, ps, rfl, by rw [HOS.out]; exact (o_nak srv s.s (osP x.ps) yi).symm, ⟨HOW.out.1.mono (by have := HGB.out; omega), fun p hp => (HOW.out.2 p hp).mono (by have := HGB.out; omega)⟩, HB0.out.trans (HB.out.mono (by omega))⟩
  · have hk6 : (kind != 6) = true := by simpa using h6
    have HK6 := Lib.hid h6
    clear h6 hk
    go_enter Tryz.func229, Tryz.ntmps229
    go_upto_region 2 with fail
    rw [← hw3]
    clear hw3
    go_wp2_with fail
    refine (put_any (w.heap.size + 2) [] [] 53 kind 1 w3 HO.out Sm.nil (by decide) (by decide) FK.out (by decide)).mono ?_
    rintro e w4 ⟨rfl, hbo, hb⟩
    have HO : Hid (Bo (w.heap.size + 2) w4 ([] ++ [((53 : Int), [byteI kind])])) := by rw [BK.out] at hbo; exact hbo
    have HB := Lib.hid (HB.out.trans hb)
    clear hbo hb
    go_wp2_with fail
    refine (put_any (w.heap.size + 2) [53] _ 54 srv 4 w4 HO.out (Sm.nil.snoc 53 (by simp)) (by decide) (by decide) F1.out (by decide)).mono ?_
    rintro e w5 ⟨rfl, hbo, hb⟩
    have HO : Hid (Bo (w.heap.size + 2) w5 (O2 srv kind)) := hbo
    have HB := Lib.hid (HB.out.trans hb)
    clear hbo hb
    go_upto_if 31 with fail
    go_cut [14] from 27 to 35 (fun v wx => v = .bool true ∧ Hid (Bo (w.heap.size + 2) wx (O3 srv kind s.s (yi != 0))) ∧ Hid (Below (w.heap.size + 2) w3 wx))
    case first =>
      cases hy : (yi != 0) with
      | false =>
        go_wp2_with fail
        go_meet
        exact ⟨rfl, Lib.hid (by rw [hy]; simpa [O3, ifL] using HO.out), HB⟩
      | true =>
        obtain ⟨s0, s1, s2, s3, s4, s5, s6⟩ := HS2.out w5 HB.out
        go_wp2_with fail
        refine (put_any (w.heap.size + 2) [54, 53] _ 51 s.time 4 w5 HO.out (sm2 srv kind) (by decide) (by decide) F2.out (by decide)).mono ?_
        rintro e w6 ⟨rfl, hbo, hb⟩
        have HO : Hid (Bo (w.heap.size + 2) w6 (O3 srv kind s.s true)) := hbo
        have HB := Lib.hid (HB.out.trans hb)
        clear hbo hb
        clear s0 s1 s2 s3 s4 s5 s6
        go_wp2_with fail
        go_meet
        exact ⟨rfl, Lib.hid (by rw [hy]; exact HO.out), HB⟩
    case rest =>
      obtain ⟨rfl, ho, hb⟩ := hcut
      have HO := ho
      have HB := hb
      clear ho hb
      have HA1 := Lib.hid (fun W (hW : x.ok W) => asked_any x 1 W hW HSM.out)
      have HA3 := Lib.hid (fun W (hW : x.ok W) => asked_any x 3 W hW HSM.out)
      generalize hp : (yi != 0) = p at HO ⊢
      have HP := Lib.hid hp
      clear hp
      obtain ⟨a1, ha1⟩ : ∃ a1, asksL (osP x.ps) 1 = a1 := ⟨_, rfl⟩
      obtain ⟨a3, ha3⟩ : ∃ a3, asksL (osP x.ps) 3 = a3 := ⟨_, rfl⟩
      rw [ha1] at HA1
      rw [ha3] at HA3
      have HQ1 := Lib.hid ha1
      have HQ3 := Lib.hid ha3
      clear ha1 ha3
      have m13 := HM2.out wc HB.out
      obtain ⟨⟨m0, m1, m2, m3, m4, m5, m6⟩, m7, m8, m9, m10, m11, m12⟩ := m13
      go_wp2_with fail
      refine (HA1.out _ (HX.out _ HB.out)).mono ?_
      rintro e w7 ⟨rfl, hb⟩
      have HB := Lib.hid (HB.out.trans (hb.mono (bo_le HO.out)))
      have HO := Lib.hid (Bo.below HO.out hb)
      clear hb m0 m1 m2 m3 m4 m5 m6 m7 m8 m9 m10 m11 m12
      go_upto_if 40 with fail
      go_cut [14, 15, 16] from 36 to 49 (fun v v15 v16 wx => v = .bool true ∧ Hid (Bo (w.heap.size + 2) wx (O4 srv kind s.s p a1)) ∧ Hid (Below (w.heap.size + 2) w3 wx))
      case first =>
        cases a1 with
        | false =>
          go_wp2_with fail
          go_meet
          exact ⟨rfl, Lib.hid (by simpa [O4, ifL] using HO.out), HB⟩
        | true =>
          obtain ⟨s0, s1, s2, s3, s4, s5, s6⟩ := HS2.out w7 HB.out
          go_wp2_with fail
          refine (Aw.mask_yes s.bits w7 HBI.out).mono ?_
          rintro e wm ⟨rfl, rfl⟩
          go_wp2_with fail
          refine (put_any (w.heap.size + 2) [51, 54, 53] _ 1 (4294967296 - sz s.bits) 4 w7 HO.out (sm3 srv kind s.s p) (by decide) (by decide) F3.out (by decide)).mono ?_
          rintro e w8 ⟨rfl, hbo, hb⟩
          have HO : Hid (Bo (w.heap.size + 2) w8 (O4 srv kind s.s p true)) := hbo
          have HB := Lib.hid (HB.out.trans hb)
          clear hbo hb
          clear s0 s1 s2 s3 s4 s5 s6
          go_wp2_with fail
          go_meet
          exact ⟨rfl, HO, HB⟩
      case rest =>
        obtain ⟨rfl, ho, hb⟩ := hcut
        have HO := ho
        have HB := hb
        clear ho hb
        have HAC : Hid (optsR srv s.s (osP x.ps) kind yi = (O5 srv kind s.s p a1 (s.router != 0 && a3) ++ echoL (osP x.ps) 61) ++ echoL (osP x.ps) 82) := by
          show _ = _
          rw [o_ack srv s.s (osP x.ps) HK6.out HY.out HRO.out, HP.out, HQ1.out, HQ3.out]
          rfl
        cases hr : (s.router != 0) with
        | false =>
          rw [hr] at HAC
          obtain ⟨s0, s1, s2, s3, s4, s5, s6⟩ := HS2.out wc HB.out
          go_wp2_with fail
          refine (give_any x (w.heap.size + 2) (w.heap.size + 1) [1, 51, 54, 53] (O4 srv kind s.s p a1) 61 wc HO.out (sm4 srv kind s.s p a1) (by decide) (by decide) (HC2.out _ HB.out) (HX.out _ HB.out) HR.out HSM.out (by decide)).mono ?_
          rintro e wy ⟨rfl, hbo, hb⟩
          have HO : Hid (Bo (w.heap.size + 2) wy (O4 srv kind s.s p a1 ++ echoL (osP x.ps) 61)) := hbo
          have HB := Lib.hid (HB.out.trans hb)
          clear hbo hb
          go_wp2_with fail
          refine (give_any x (w.heap.size + 2) (w.heap.size + 1) (61 :: [1, 51, 54, 53]) (O4 srv kind s.s p a1 ++ echoL (osP x.ps) 61) 82 wy HO.out ((sm4 srv kind s.s p a1).echo HR.out 61) (by decide) (by decide) (HC2.out _ HB.out) (HX.out _ HB.out) HR.out HSM.out (by decide)).mono ?_
          rintro e wz ⟨rfl, hbo, hb⟩
          have HO : Hid (Bo (w.heap.size + 2) wz (O4 srv kind s.s p a1 ++ echoL (osP x.ps) 61 ++ echoL (osP x.ps) 82)) := hbo
          have HB := Lib.hid (HB.out.trans hb)
          clear hbo hb
          obtain ⟨A, n, c, ps, B, hg, hB, hcl, hown, hos⟩ := HO.out
          have e1 : wz.cell? ⟨w.heap.size + 2, 0, none⟩ = some (.slice A n c) := by rw [hcl.cell]; rfl
          have HOW := Lib.hid hown
          have HOS := Lib.hid hos
          have HGB := Lib.hid hg
          clear hcl hown hos hg hB
          go_wp2
          go_ret
          exact ⟨A, n, c, ps, rfl, by rw [HOS.out]; exact (HAC.out.trans (by simp [O5, ifL])).symm, ⟨HOW.out.1.mono (by have := HGB.out; omega), fun p hp => (HOW.out.2 p hp).mono (by have := HGB.out; omega)⟩, HB0.out.trans (HB.out.mono (by omega))⟩
        | true =>
          rw [hr] at HAC
          obtain ⟨s0, s1, s2, s3, s4, s5, s6⟩ := HS2.out wc HB.out
          have m13 := HM2.out wc HB.out
          obtain ⟨⟨m0, m1, m2, m3, m4, m5, m6⟩, m7, m8, m9, m10, m11, m12⟩ := m13
          go_wp2_with fail
          refine (HA3.out _ (HX.out _ HB.out)).mono ?_
          rintro e w9 ⟨rfl, hb⟩
          have HB := Lib.hid (HB.out.trans (hb.mono (bo_le HO.out)))
          have HO := Lib.hid (Bo.below HO.out hb)
          clear hb m0 m1 m2 m3 m4 m5 m6 m7 m8 m9 m10 m11 m12
          obtain ⟨s0, s1, s2, s3, s4, s5, s6⟩ := HS2.out w9 HB.out
          cases a3 with
          | false =>
            go_wp2_with fail
            refine (give_any x (w.heap.size + 2) (w.heap.size + 1) [1, 51, 54, 53] (O4 srv kind s.s p a1) 61 w9 HO.out (sm4 srv kind s.s p a1) (by decide) (by decide) (HC2.out _ HB.out) (HX.out _ HB.out) HR.out HSM.out (by decide)).mono ?_
            rintro e wy ⟨rfl, hbo, hb⟩
            have HO : Hid (Bo (w.heap.size + 2) wy (O4 srv kind s.s p a1 ++ echoL (osP x.ps) 61)) := hbo
            have HB := Lib.hid (HB.out.trans hb)
            clear hbo hb
            go_wp2_with fail
            refine (give_any x (w.heap.size + 2) (w.heap.size + 1) (61 :: [1, 51, 54, 53]) (O4 srv kind s.s p a1 ++ echoL (osP x.ps) 61) 82 wy HO.out ((sm4 srv kind s.s p a1).echo HR.out 61) (by decide) (by decide) (HC2.out _ HB.out) (HX.out _ HB.out) HR.out HSM.out (by decide)).mono ?_
            rintro e wz ⟨rfl, hbo, hb⟩
            have HO : Hid (Bo (w.heap.size + 2) wz (O4 srv kind s.s p a1 ++ echoL (osP x.ps) 61 ++ echoL (osP x.ps) 82)) := hbo
            have HB := Lib.hid (HB.out.trans hb)
            clear hbo hb
            obtain ⟨A, n, c, ps, B, hg, hB, hcl, hown, hos⟩ := HO.out
            have e1 : wz.cell? ⟨w.heap.size + 2, 0, none⟩ = some (.slice A n c) := by rw [hcl.cell]; rfl
            have HOW := Lib.hid hown
            have HOS := Lib.hid hos
            have HGB := Lib.hid hg
            clear hcl hown hos hg hB
            go_wp2
            go_ret
            exact ⟨A, n, c, ps, rfl, by rw [HOS.out]; exact (HAC.out.trans (by simp [O5, ifL])).symm, ⟨HOW.out.1.mono (by have := HGB.out; omega), fun p hp => (HOW.out.2 p hp).mono (by have := HGB.out; omega)⟩, HB0.out.trans (HB.out.mono (by omega))⟩
          | true =>
            go_wp2_with fail
            refine (put_any (w.heap.size + 2) [1, 51, 54, 53] _ 3 s.router 4 w9 HO.out (sm4 srv kind s.s p a1) (by decide) (by decide) F5.out (by decide)).mono ?_
            rintro e w10 ⟨rfl, hbo, hb⟩
            have HO : Hid (Bo (w.heap.size + 2) w10 (O5 srv kind s.s p a1 true)) := hbo
            have HB := Lib.hid (HB.out.trans hb)
            clear hbo hb
            go_wp2_with fail
            refine (give_any x (w.heap.size + 2) (w.heap.size + 1) [3, 1, 51, 54, 53] (O5 srv kind s.s p a1 true) 61 w10 HO.out (sm5 srv kind s.s p a1 true) (by decide) (by decide) (HC2.out _ HB.out) (HX.out _ HB.out) HR.out HSM.out (by decide)).mono ?_
            rintro e wy ⟨rfl, hbo, hb⟩
            have HO : Hid (Bo (w.heap.size + 2) wy (O5 srv kind s.s p a1 true ++ echoL (osP x.ps) 61)) := hbo
            have HB := Lib.hid (HB.out.trans hb)
            clear hbo hb
            go_wp2_with fail
            refine (give_any x (w.heap.size + 2) (w.heap.size + 1) (61 :: [3, 1, 51, 54, 53]) (O5 srv kind s.s p a1 true ++ echoL (osP x.ps) 61) 82 wy HO.out ((sm5 srv kind s.s p a1 true).echo HR.out 61) (by decide) (by decide) (HC2.out _ HB.out) (HX.out _ HB.out) HR.out HSM.out (by decide)).mono ?_
            rintro e wz ⟨rfl, hbo, hb⟩
            have HO : Hid (Bo (w.heap.size + 2) wz (O5 srv kind s.s p a1 true ++ echoL (osP x.ps) 61 ++ echoL (osP x.ps) 82)) := hbo
            have HB := Lib.hid (HB.out.trans hb)
            clear hbo hb
            obtain ⟨A, n, c, ps, B, hg, hB, hcl, hown, hos⟩ := HO.out
            have e1 : wz.cell? ⟨w.heap.size + 2, 0, none⟩ = some (.slice A n c) := by rw [hcl.cell]; rfl
            have HOW := Lib.hid hown
            have HOS := Lib.hid hos
            have HGB := Lib.hid hg
            clear hcl hown hos hg hB
            go_wp2
            go_ret
            exact ⟨A, n, c, ps, rfl, by rw [HOS.out]; exact HAC.out.symm, ⟨HOW.out.1.mono (by have := HGB.out; omega), fun p hp => (HOW.out.2 p hp).mono (by have := HGB.out; omega)⟩, HB0.out.trans (HB.out.mono (by omega))⟩
end Go.Proofs.YtoldppbakapohaaGreatDoor.Rpw
end
