/- The box in which reply's options keep the list that they append to, the two closures over it, and the small calls: Asked, flags, replies. Conditions: those that each theorem names. -/
import Derived.Test.YtabjcgchcnnjjaaGreatMathA
import Derived.Test.YtabjcgchcnnjjaaGreatOwA
import Derived.Test.YtabjcgchcnnjjaaGreatMwA
import Derived.Deep.RegionHeld3
import Derived.Deep.Cut
set_option maxRecDepth 8000
namespace Go.Proofs.YtabjcgchcnnjjaaGreat.Rpw
open Go.RowKit Tl Co Ms Cf Ad By Ow Rp
open Pw (alloc_more celM_all boxM)

theorem frz {w : World} {g : Nat} {t : TypeId} {cs : Array Value} (h : Cel w g t cs) (i : Nat) : w.frozen? ⟨g, i, none⟩ = false := Ow.cel_fr h i
theorem celP {w : World} {g : Nat} {t : TypeId} {cs : Array Value} (h : Cel w g t cs) (i : Nat) (v : Value) : Cel (w.setCell ⟨g, i, none⟩ v) g t (cs.setIfInBounds i v) := Ow.cel_put h i v
theorem ownC_put {e B n c : Nat} {w : World} {A : Option Addr} {ps : List Po} (h : OwnC e B w A n c ps) {g : Nat} (hg : g < B) (j : Nat) (v : Value) : OwnC e B (w.setCell ⟨g, j, none⟩ v) A n c ps := by
  refine World.ownsRow.kept h (Ow.grown_set w g j v) ?_
  by_cases k : (Value.slice A n c).ownBlock = none
  · exact .inl k
  · refine .inr fun k2 => ?_
    have := (World.ownsRow.lt h g k2).1
    omega
theorem ownF_put {B n c : Nat} {w : World} {A : Option Addr} {ps : List Po} (h : OwnF B w A n c ps) {g : Nat} (hg : g < B) (j : Nat) (v : Value) : OwnF B (w.setCell ⟨g, j, none⟩ v) A n c ps := ⟨ownC_put h.1 hg j v, fun p hp => own_keep (h.2 p hp) hg j v⟩

/-! ### Lists of few options -/
/-- Options of the codes cs, at most, none of them great. -/
def Sm (cs : List Int) (L : List O) : Prop := L.length ≤ cs.length ∧ ∀ o ∈ L, o.1 ∈ cs ∧ o.2.length ≤ 1000
theorem Sm.nil : Sm [] [] := ⟨Nat.le_refl _, fun o ho => by cases ho⟩
theorem Sm.more {cs : List Int} {L : List O} (h : Sm cs L) (c : Int) : Sm (c :: cs) L := ⟨Nat.le_succ_of_le h.1, fun o ho => ⟨List.mem_cons_of_mem _ (h.2 o ho).1, (h.2 o ho).2⟩⟩
theorem Sm.snoc {cs : List Int} {L : List O} (h : Sm cs L) (c : Int) {d : List UInt8} (hd : d.length ≤ 1000) : Sm (c :: cs) (L ++ [(c, d)]) := by
  refine ⟨by rw [List.length_append]; simp only [List.length_cons, List.length_nil]; have := h.1; omega, fun o ho => ?_⟩
  rcases List.mem_append.1 ho with ho | ho
  · exact ⟨List.mem_cons_of_mem _ (h.2 o ho).1, (h.2 o ho).2⟩
  · rcases List.mem_singleton.1 ho with rfl
    exact ⟨List.mem_cons_self, hd⟩
theorem Sm.iff {cs : List Int} {L : List O} (h : Sm cs L) (p : Bool) (c : Int) {d : List UInt8} (hd : d.length ≤ 1000) : Sm (c :: cs) (L ++ ifL p c d) := by
  unfold ifL
  cases p with
  | false => simpa using h.more c
  | true => exact h.snoc c hd
theorem Sm.echo {cs : List Int} {L : List O} (h : Sm cs L) {l : List O} (hl : rightL l = true) (c : Int) : Sm (c :: cs) (L ++ echoL l c) := by
  unfold echoL
  cases hf : findL l c with
  | none => simpa using h.more c
  | some d => exact h.snoc c (Nat.le_trans (find_len hl hf) (by omega))
theorem keep_new {L : List O} {c : Int} {b : List UInt8} (h : ∀ o ∈ L, o.1 ≠ c) : keepL L c b = L ++ [(c, b)] := by
  unfold keepL
  congr 1
  unfold withoutL
  exact List.filter_eq_self.2 fun o ho => by simp [h o ho]
theorem Sm.keep {cs : List Int} {L : List O} (h : Sm cs L) {c : Int} (hc : c ∉ cs) (b : List UInt8) : keepL L c b = L ++ [(c, b)] := keep_new fun o ho e => hc (e ▸ (h.2 o ho).1)
theorem sm_ps {cs : List Int} {ps : List Po} (h : Sm cs (osP ps)) : ∀ p ∈ ps, p.l.length ≤ 1000 := fun p hp => (h.2 p.o (os_mem hp)).2

/-! ### The box -/
/-- The box g holds a slice of the call's own, behind it, that reads as L. -/
def Bo (g : Nat) (w : World) (L : List O) : Prop := ∃ A n c ps B, g < B ∧ B ≤ w.heap.size ∧ Cel w g 26 #[.slice A n c] ∧ OwnF B w A n c ps ∧ osP ps = L
theorem Bo.below {g : Nat} {w w' : World} {L : List O} (h : Bo g w L) (hb : Below w.heap.size w w') : Bo g w' L := by
  obtain ⟨A, n, c, ps, B, h1, h2, h3, h4, h5⟩ := h
  exact ⟨A, n, c, ps, B, h1, Nat.le_trans h2 hb.size, h3.below hb h3.lt, h4.below hb, h5⟩
theorem Bo.born (w : World) : Bo w.heap.size (w.alloc (.cells #[.slice none 0 0] 26)) [] :=
  ⟨none, 0, 0, [], w.heap.size + 1, Nat.lt_succ_self _, by simp, Cel.born _ _ _, ⟨OwnC.nil _ _ _, fun p hp => by cases hp⟩, rfl⟩
def BoR (g : Nat) (w : World) (L : List O) (e : Ending) (w' : World) : Prop := e = .returned (.tuple #[]) ∧ Bo g w' L ∧ Below g w w'
theorem app31 (x y z u : Value) : #[x, y, z] ++ #[u] = #[x, y, z, u] := rfl
theorem app12 (x y z : Value) : #[x] ++ #[y, z] = #[x, y, z] := rfl

set_option maxHeartbeats 1000000 in
/-- 'put': the list, and one option behind it. -/
theorem put_any (g : Nat) (cs : List Int) (L : List O) (code v k : Int) (w : World) (h : Bo g w L) (hs : Sm cs L) (h7 : cs.length ≤ 7) (hc : code ∉ cs) (hb : Cw.fairB v k = true) (hf : fairO code [] = true) :
    Calls Tryz.prog 39 (#[.int .i64 code, .int .i64 v, .int .i64 k] ++ #[.pointer (some ⟨g, 0, none⟩)]) w (BoR g w (L ++ [(code, putL v.toNat k.toNat)])) := by
  rw [app31, ← hs.keep hc]
  obtain ⟨A, n, c, ps, B, hg, hB, hcl, ho, rfl⟩ := h
  have e1 : w.cell? ⟨g, 0, none⟩ = some (.slice A n c) := by rw [hcl.cell]; rfl
  have hn : n ≤ 1000 := by have h1 := ho.1.len; have h2 := hs.1; rw [os_len] at h2; omega
  have HS := Lib.hid (set_yes A n c ps code v k w ho.rd hn (sm_ps hs) hb hf)
  have HC := Lib.hid hcl
  have HG : Hid (g < w.heap.size) := hcl.lt
  have HQ : Hid (setL (osP ps) code v k = keepL (osP ps) code (putL v.toNat k.toNat)) := rfl
  rw [HQ.out] at HS
  generalize keepL (osP ps) code (putL v.toNat k.toNat) = Q at HS ⊢
  clear hcl ho hs hb hf hc HQ h7 hg hB hn
  go_enter Tryz.func39, Tryz.ntmps39
  go_wp2_with fail
  refine HS.out.mono ?_
  rintro e w1 ⟨A1, m1, c1, qs, rfl, hqs, hown, hb1⟩
  have hc1 := HC.out.below hb1 HC.out.lt
  have e2 : w1.cell? ⟨g, 0, none⟩ = some (.slice A n c) := by rw [hc1.cell]; rfl
  have f1 := frz hc1 0
  have HC1 := Lib.hid hc1
  have HO := Lib.hid hown
  have HB1 := Lib.hid hb1
  have HE := Lib.hid hqs
  clear hc1 hown hb1 hqs e1
  go_wp2
  go_end0
  exact ⟨rfl, ⟨A1, m1, c1, qs, w.heap.size, HG.out, by simpa using HB1.out.size, celP HC1.out 0 _, ownF_put HO.out HG.out 0 _, HE.out⟩, (HB1.out.mono (Nat.le_of_lt HG.out)).setCell (p := ⟨g, 0, none⟩) (Nat.le_refl _) _⟩

set_option maxHeartbeats 1000000 in
/-- 'giveBack': the list, and the message's option behind it, if there is one. -/
theorem give_any (x : Mv) (g gm : Nat) (cs : List Int) (L : List O) (code : Int) (w : World) (h : Bo g w L) (hs : Sm cs L) (h7 : cs.length ≤ 7) (hc : code ∉ cs) (hm : Cel w gm 28 x.cells) (hx : x.ok w) (hr : rightL (osP x.ps) = true) (hsm : ∀ p ∈ x.ps, p.l.length ≤ 1000) (h1 : 1 ≤ code ∧ code ≤ 254) :
    Calls Tryz.prog 41 (#[.int .i64 code] ++ #[.pointer (some ⟨gm, 0, none⟩), .pointer (some ⟨g, 0, none⟩)]) w (BoR g w (L ++ echoL (osP x.ps) code)) := by
  rw [app12]
  have HF := Lib.hid (Tw.find_any x.B x.m x.d x.ps code w hx.os hsm)
  have HL : Hid (∀ b, findL (osP x.ps) code = some b → b.length ≤ 600) := fun b hb => find_len hr hb
  have m12 : w.cell? ⟨gm, 12, none⟩ = some (.slice x.B x.m x.d) := (celM_all hm).2.2.2.2.2.2
  unfold echoL
  have HB := Lib.hid h
  have HS := Lib.hid hs
  have HN := Lib.hid hc
  generalize findL (osP x.ps) code = r at HF HL
  clear h hs hc hm hx hr hsm
  cases r with
  | none =>
    go_enter Tryz.func41, Tryz.ntmps41
    go_wp2_with fail
    refine HF.out.mono ?_
    rintro e w1 ⟨A1, m1, c1, rfl, hbs, hb1⟩
    have HBS := Lib.hid hbs
    have HB1 := Lib.hid hb1
    clear hbs hb1 m12
    go_wp2
    go_end0
    obtain ⟨_, _, _, _, B, hg, hB, _⟩ := HB.out
    exact ⟨rfl, by simpa using HB.out.below HB1.out, HB1.out.mono (by omega)⟩
  | some b =>
    have hb6 := HL.out b rfl
    show Calls _ _ _ w (BoR g w (L ++ [(code, b)]))
    rw [← HS.out.keep HN.out b]
    go_enter Tryz.func41, Tryz.ntmps41
    go_wp2_with fail
    refine HF.out.mono ?_
    rintro e w1 ⟨A1, m1, c1, rfl, hbs, hb1⟩
    obtain ⟨A, n, c, ps, B, hg, hB, hcl, ho, rfl⟩ := HB.out.below hb1
    have e1 : w1.cell? ⟨g, 0, none⟩ = some (.slice A n c) := by rw [hcl.cell]; rfl
    have hn : n ≤ 1000 := by have q1 := ho.1.len; have q2 := HS.out.1; rw [os_len] at q2; omega
    have HKE := Lib.hid (keep_yes A n c ps code A1 m1 c1 b w1 ho.rd hn (sm_ps HS.out) hbs ((fair_iff code b).2 ⟨h1.1, h1.2, hb6⟩))
    have HC := Lib.hid hcl
    have HG : Hid (g < w1.heap.size) := hcl.lt
    have HG0 : Hid (g < w.heap.size) := by obtain ⟨_, _, _, _, B, hg, hB, _⟩ := HB.out; exact Nat.lt_of_lt_of_le hg hB
    have HB1 := Lib.hid hb1
    clear hcl ho hbs hb1 hn hb6 m12 hg hB HL HF HB h1
    go_wp2_with fail
    refine HKE.out.mono ?_
    rintro e w2 ⟨A2, m2, c2, qs, rfl, hqs, hown, hb2⟩
    have hc2 := HC.out.below hb2 HC.out.lt
    have e2 : w2.cell? ⟨g, 0, none⟩ = some (.slice A n c) := by rw [hc2.cell]; rfl
    have f1 := frz hc2 0
    have HC2 := Lib.hid hc2
    have HO := Lib.hid hown
    have HB2 := Lib.hid hb2
    have HE := Lib.hid hqs
    clear hc2 hown hb2 hqs e1
    go_wp2
    go_end0
    exact ⟨rfl, ⟨A2, m2, c2, qs, w1.heap.size, HG.out, by simpa using HB2.out.size, celP HC2.out 0 _, ownF_put HO.out HG.out 0 _, HE.out⟩, ((HB1.out.trans (HB2.out.mono HB1.out.size)).mono (Nat.le_of_lt HG0.out)).setCell (p := ⟨g, 0, none⟩) (Nat.le_refl _) _⟩

/-! ### The small calls -/
def BlR (t : Bool) (w : World) (e : Ending) (w' : World) : Prop := e = .returned (.bool t) ∧ Below w.heap.size w w'
set_option maxHeartbeats 1000000 in
theorem asked_any (x : Mv) (code : Int) (w : World) (hx : x.ok w) (hsm : ∀ p ∈ x.ps, p.l.length ≤ 1000) : Calls Tryz.prog 8 #[x.v, .int .i64 code] w (BlR (asksL (osP x.ps) code) w) := by
  obtain ⟨w0, hw0, hc0, hb0, _⟩ := boxM w x 28
  have HX := Lib.hid (hx.below hb0)
  have HF := Lib.hid (Tw.find_any x.B x.m x.d x.ps 55 w0 HX.out.os hsm)
  have HW := Lib.hid (fun W (hW : Below w0.heap.size w0 W) => wants_any x.B x.m x.d x.ps code W (HX.out.os.below hW) hsm)
  have HA : Hid (asksL (osP x.ps) code = ((findL (osP x.ps) 55).isNone || hasB (listedL (osP x.ps)) code)) := rfl
  generalize asksL (osP x.ps) code = a at HA ⊢
  generalize hasB (listedL (osP x.ps)) code = b at HA HW
  generalize findL (osP x.ps) 55 = r at HF HA
  have HC := Lib.hid hc0
  have HB := Lib.hid hb0
  have m12 : w0.cell? ⟨w.heap.size, 12, none⟩ = some (.slice x.B x.m x.d) := (celM_all hc0).2.2.2.2.2.2
  clear hx hsm hc0 hb0
  cases r with
  | none =>
    have HT : Hid (a = true) := HA.out
    go_enter Tryz.func8, Tryz.ntmps8
    go_upto_region 1 with fail
    rw [← hw0]
    clear hw0
    go_wp2_with fail
    refine HF.out.mono ?_
    rintro e w1 ⟨A1, m1, c1, rfl, hbs, hb1⟩
    have HB1 := Lib.hid (HB.out.trans (hb1.mono HB.out.size))
    clear hbs hb1 m12
    go_wp2
    go_ret
    exact ⟨ret_bool HT.out.symm, HB1.out⟩
  | some d =>
    have HT : Hid (a = b) := HA.out
    go_enter Tryz.func8, Tryz.ntmps8
    go_upto_region 1 with fail
    rw [← hw0]
    clear hw0
    go_wp2_with fail
    refine HF.out.mono ?_
    rintro e w1 ⟨A1, m1, c1, rfl, hbs, hb1⟩
    have m12b : w1.cell? ⟨w.heap.size, 12, none⟩ = some (.slice x.B x.m x.d) := (celM_all (HC.out.below hb1 HC.out.lt)).2.2.2.2.2.2
    have HB1 := Lib.hid hb1
    clear hbs hb1 m12
    go_wp2_with fail
    refine (HW.out _ HB1.out).mono ?_
    rintro e w2 ⟨rfl, hb2⟩
    have HB2 := Lib.hid (HB.out.trans ((HB1.out.trans (hb2.mono HB1.out.size)).mono HB.out.size))
    clear hb2 m12b
    go_wp2
    go_ret
    exact ⟨ret_bool HT.out.symm, HB2.out⟩

def InR (t : Int) (w : World) (e : Ending) (w' : World) : Prop := e = .returned (.int .i64 t) ∧ Below w.heap.size w w'
set_option maxHeartbeats 1000000 in
theorem flags_any (x : Mv) (kind : Int) (w : World) (h0 : 0 ≤ x.flags) (h1 : x.flags ≤ 65535) : Calls Tryz.prog 21 #[x.v, .int .i64 kind] w (InR (flagsR x.mm kind) w) := by
  have hf : flagsR x.mm kind = if kind = 6 ∧ x.gi ≠ 0 ∧ x.flags < 32768 then x.flags + 32768 else x.flags := rfl
  have HB := Lib.hid (alloc_more w (.cells x.cells 28))
  by_cases hk : kind = 6
  · subst hk
    by_cases hg : x.gi = 0
    · have HT : Hid (flagsR x.mm 6 = x.flags) := by show _ = _; rw [hf, if_neg (fun k => k.2.1 hg)]
      clear hf h0 h1
      go_enter Tryz.func21, Tryz.ntmps21
      go_wp2
      go_ret
      exact ⟨by rw [HT.out]; rfl, alloc_more _ _⟩
    · by_cases hl : x.flags < 32768
      · have HT : Hid (flagsR x.mm 6 = x.flags + 32768) := by show _ = _; rw [hf, if_pos ⟨rfl, hg, hl⟩]
        clear hf
        go_enter Tryz.func21, Tryz.ntmps21
        go_wp2
        go_ret
        refine ⟨?_, HB.out⟩
        rw [HT.out]
        go_num
      · have HT : Hid (flagsR x.mm 6 = x.flags) := by show _ = _; rw [hf, if_neg (fun k => hl k.2.2)]
        clear hf
        go_enter Tryz.func21, Tryz.ntmps21
        go_wp2
        go_ret
        exact ⟨by rw [HT.out]; rfl, alloc_more _ _⟩
  · have HT : Hid (flagsR x.mm kind = x.flags) := by show _ = _; rw [hf, if_neg (fun k => hk k.1)]
    clear hf h0 h1
    go_enter Tryz.func21, Tryz.ntmps21
    go_wp2
    go_ret
    exact ⟨by rw [HT.out]; rfl, alloc_more _ _⟩
theorem replies_any (kind : Int) (w : World) : Calls Tryz.prog 19 #[.int .i64 kind] w fun e w' => e = .returned (.bool (decide (kind = 2 ∨ kind = 5 ∨ kind = 6))) ∧ w = w' := by
  by_cases h2 : kind = 2
  · subst h2
    go_enter Tryz.func19, Tryz.ntmps19
    go_wp2
    go_ret
    exact ⟨rfl, rfl⟩
  · by_cases h5 : kind = 5
    · subst h5
      go_enter Tryz.func19, Tryz.ntmps19
      go_wp2
      go_ret
      exact ⟨rfl, rfl⟩
    · have H : Hid ((kind == 2 || kind == 5 || kind == 6) = decide (kind = 2 ∨ kind = 5 ∨ kind = 6)) := by
        show (kind == 2 || kind == 5 || kind == 6) = _
        by_cases h6 : kind = 6 <;> simp [h2, h5, h6]
      go_enter Tryz.func19, Tryz.ntmps19
      go_wp2
      go_ret
      exact ⟨ret_bool H.out, rfl⟩
end Go.Proofs.YtabjcgchcnnjjaaGreat.Rpw
