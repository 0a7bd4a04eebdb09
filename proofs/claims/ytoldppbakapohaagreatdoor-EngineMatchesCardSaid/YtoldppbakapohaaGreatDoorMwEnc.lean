/- msg.encode and msg.Write: a message's bytes, or its error. Condition: what msg's package-level variables hold (En.ok). -/
import Derived.Test.YtoldppbakapohaaGreatDoorMwC
import Derived.Test.YtoldppbakapohaaGreatDoorByZ
import Derived.Test.YtoldppbakapohaaGreatDoorTlB
import Derived.Test.YtoldppbakapohaaGreatDoorByMake
import Derived.BigQuiet
import Derived.Deep.RegionWith
import Derived.Deep.CutRange
set_option maxRecDepth 8000
namespace Go.Proofs.YtoldppbakapohaaGreatDoor.Mw
open Go.RowKit Tl Ms Co By

def strMessage : ByteArray := ⟨#[109, 101, 115, 115, 97, 103, 101]⟩
def strEncoding : ByteArray := ⟨#[101, 110, 99, 111, 100, 105, 110, 103]⟩
set_option maxHeartbeats 1000000 in
theorem encode_no (E : En) (x : Mv) (w : World) (hE : E.ok w) (h : x.ok w) (hr : rightM x.mm = false) :
    Calls Tryz.prog 230 #[x.v] w fun e w' => e = .returned (.tuple #[.slice none 0 0, (Er.flt strMessage (.sen E.I)).v]) ∧ Below w.heap.size w w' := by
  have hb0 : Below w.heap.size w (w.alloc (.cells x.cells 29)) := (Below.refl _ _).alloc (Nat.le_refl _) _
  have HE := Lib.hid hE
  have HR := Lib.hid hr
  clear hE hr
  go_enter Tryz.func230, Tryz.ntmps230
  go_wp2_with fail
  refine (right_any x _ (h.alloc _)).mono ?_
  rw [HR.out]
  rintro e w1 ⟨rfl, hb1⟩
  have hbw1 := hb0.trans (hb1.mono hb0.size)
  have gI := (HE.out.below hbw1).gI
  go_wp2
  go_quiet (fail)
  go_wp2
  go_ret2
  exact ⟨rfl, below_drewN hbw1 _⟩

/-- '[]byte("..")' of a constant, its row laid at some earlier time: the row is marked behind its end; the value goes on as it is. -/
theorem conv_at {P : Program} {t e : TypeId} (ht : P.underlying t = some (.slice e)) (he : P.underlying e = some (.int .u8)) {W : World} {g : Nat} {C : Array Value} (n c : Nat) (h : W.heap[g]? = some (.cells C e)) :
    ∃ W', (convert t t (.slice (some ⟨g, 0, none⟩) n c)).run P W = .ok (.slice (some ⟨g, 0, none⟩) n c) W' ∧ Below g W W' ∧ W'.heap.size = W.heap.size ∧ (∀ k, k ≠ g → W'.heap[k]? = W.heap[k]?) ∧ ∀ j, W'.cell? ⟨g, j, none⟩ = C[j]? := by
  have hsh : W.shape? g = some (e, C.size) := by
    unfold World.shape?
    rw [h]
  have hk : ∀ k, k ≠ g → (W.freeze ⟨g, C.size, none⟩ 1).heap[k]? = W.heap[k]? := fun k hk => by
    unfold World.freeze
    rw [if_neg (by decide)]
    simp [Array.getElem?_modify, Ne.symm hk]
  refine ⟨W.freeze ⟨g, C.size, none⟩ 1, ?_, ⟨rfl, rfl, rfl, ?_, fun k hlt => hk k (by omega)⟩, ?_, hk, fun j => ?_⟩
  · simp [convert, run_underlying ht, run_underlying he, markStringish, hsh]
  · unfold World.freeze
    rw [if_neg (by decide)]
    simp
  · unfold World.freeze
    rw [if_neg (by decide)]
    simp
  · unfold World.freeze World.cell?
    rw [if_neg (by decide)]
    simp [Array.getElem?_modify, h]
theorem conv_new (w : World) (n c : Nat) (C : Array Value) : (convert 26 26 (.slice (some ⟨w.heap.size, 0, none⟩) n c)).run Tryz.prog (w.alloc (.cells C 5)) = .ok (.slice (some ⟨w.heap.size, 0, none⟩) n c) (w.alloc (.cells C 5 (C.size, C.size + 1))) :=
  Lib.run_convert_bytes_const (P := Tryz.prog) w 26 5 C n c Tryz.underlying26 Tryz.underlying5
theorem conv_newD (w : World) (n c : Nat) (C : Array Value) : (convert 26 26 (.slice (some ⟨w.heap.size, 0, none⟩) n c)).run Tryz.prog (w.alloc (.cells C 5)).drew = .ok (.slice (some ⟨w.heap.size, 0, none⟩) n c) (w.alloc (.cells C 5 (C.size, C.size + 1))).drew :=
  conv_new w.drew n c C
/-- A row of the call's own, when one other block has turned. -/
theorem own_apart {e B g n c : Nat} {W W' : World} {A : Option Addr} {l : List UInt8} (hg : g < B) (h : Own e B W A n c l) (ho : ∀ k, k ≠ g → W'.heap[k]? = W.heap[k]?) : Bs W' A n c l := by
  have hb := h.bs
  refine ⟨hb.1, hb.2.1, hb.2.2.1, fun hn => ?_⟩
  obtain ⟨b, hA, hB, _⟩ := h.head hn
  obtain ⟨b', o, e', hc⟩ := hb.2.2.2 hn
  subst hA
  cases e'
  exact ⟨b, 0, rfl, fun i hi => (World.cell?_of_block (ho b (by omega))).trans (hc i hi)⟩
theorem parts5 {W : World} {t : TypeId} {A1 A2 A3 A4 A5 : Option Addr} {n1 n2 n3 n4 n5 c1 c2 c3 c4 c5 : Nat} {l1 l2 l3 l4 l5 : List UInt8} (h1 : Bs W A1 n1 c1 l1) (h2 : Bs W A2 n2 c2 l2) (h3 : Bs W A3 n3 c3 l3) (h4 : Bs W A4 n4 c4 l4) (h5 : Bs W A5 n5 c5 l5) (g : Nat) (hg : g = W.heap.size) :
    Cw.PartsAt (W.alloc (.cells #[.slice A1 n1 c1, .slice A2 n2 c2, .slice A3 n3 c3, .slice A4 n4 c4, .slice A5 n5 c5] t)) g 0 [⟨A1, c1, l1⟩, ⟨A2, c2, l2⟩, ⟨A3, c3, l3⟩, ⟨A4, c4, l4⟩, ⟨A5, c5, l5⟩] := by
  subst hg
  intro i hi
  have hcell := Cel.born W t #[.slice A1 n1 c1, .slice A2 n2 c2, .slice A3 n3 c3, .slice A4 n4 c4, .slice A5 n5 c5]
  have e1 := h1.len
  have e2 := h2.len
  have e3 := h3.len
  have e4 := h4.len
  have e5 := h5.len
  match i, hi with
  | 0, _ => exact ⟨by rw [hcell.cell]; simp [e1], by simp only [gZe]; rw [e1]; exact h1.alloc _⟩
  | 1, _ => exact ⟨by rw [hcell.cell]; simp [e2], by simp only [gSu, gZe]; rw [e2]; exact h2.alloc _⟩
  | 2, _ => exact ⟨by rw [hcell.cell]; simp [e3], by simp only [gSu, gZe]; rw [e3]; exact h3.alloc _⟩
  | 3, _ => exact ⟨by rw [hcell.cell]; simp [e4], by simp only [gSu, gZe]; rw [e4]; exact h4.alloc _⟩
  | 4, _ => exact ⟨by rw [hcell.cell]; simp [e5], by simp only [gSu, gZe]; rw [e5]; exact h5.alloc _⟩
theorem cookie_lit (W : World) (e : TypeId) (g : Nat) (hg : g = W.heap.size) (fr : Nat × Nat) : Bs (W.alloc (.cells #[.int .u8 99, .int .u8 130, .int .u8 83, .int .u8 99] e fr)) (some ⟨g, 0, none⟩) 4 4 cookieL := by
  subst hg
  exact Bs.const W e fr cookieL (by decide)
theorem write_len {l : List O} (h : rightL l = true) : (writeL l).length ≤ 72121 := by
  have := body_len_right h l.length
  rw [List.take_length] at this
  unfold writeL
  rw [List.length_append]
  simp only [List.length_cons, List.length_nil]
  omega
theorem cat5 {x : Mv} (h : RightM x.mm) {A1 A2 A3 A4 A5 : Option Addr} {c1 c2 c3 c4 c5 : Nat} :
    Cw.catL [⟨A1, c1, catN (pairsM x.mm)⟩, ⟨A2, c2, x.ch⟩, ⟨A3, c3, List.replicate 192 0⟩, ⟨A4, c4, cookieL⟩, ⟨A5, c5, writeL (osP x.ps)⟩] = bodyM x.mm := by
  have e := cat_pairs h.1
  unfold Cw.catL bodyM
  rw [← e]
  simp [Mv.mm]

/-- What encode answers at a message that is right. -/
def EncR (E : En) (x : Mv) (w : World) (e : Ending) (w' : World) : Prop :=
  Below w.heap.size w w' ∧ if 1500 < (bodyM x.mm).length then e = .returned (.tuple #[.slice none 0 0, (Er.flt strEncoding (.sen E.L)).v]) else
      ∃ A n c, e = .returned (.tuple #[.slice A n c, .nilIface]) ∧ Own 5 w.heap.size w' A n c (bytesM x.mm)
set_option maxHeartbeats 4000000 in
theorem encode_yes (E : En) (x : Mv) (w : World) (hE : E.ok w) (h : x.ok w) (hr : rightM x.mm = true) :
    Calls Tryz.prog 230 #[x.v] w (EncR E x w) := by
  have hb0 : Below w.heap.size w (w.alloc (.cells x.cells 29)) := (Below.refl _ _).alloc (Nat.le_refl _) _
  have HE := Lib.hid hE
  have HR := Lib.hid hr
  have HM : Hid (RightM x.mm) := (rightM_iff _).1 hr
  clear hE hr
  go_enter Tryz.func230, Tryz.ntmps230
  go_wp2_with fail
  refine (right_any x _ (h.alloc _)).mono ?_
  rw [HR.out]
  rintro e w1 ⟨rfl, hb1⟩
  have hcel := box_at (x := x) (by simp) hb1
  have hbw1 := hb0.trans (hb1.mono hb0.size)
  have hc12 : w1.cell? ⟨w.heap.size, 12, none⟩ = some (.slice x.B x.m x.d) := by rw [hcel.cell]; rfl
  go_wp2_with fail
  refine (Tw.write_yes _ _ _ x.ps _ (h.os.below hbw1) HM.out.2.2.1).mono ?_
  rintro e w2 ⟨A3, n3, c3, rfl, hown3, hb2⟩
  have hbw2 := hbw1.trans (hb2.mono hbw1.size)
  have hmade := Own.made 5 w2 192 (by omega)
  have hmk : ∀ W, (Instr.makeSlice 26 (.int .i64 192) (.int .i64 192)).run Tryz.prog W = .ok (.slice (some ⟨W.heap.size, 0, none⟩) 192 192) (W.alloc (.cells (madeCells (Value.int .u8 0).cells 192) 5)) := fun W => byP.make (P := Tryz.prog) 192 (by omega) W
  generalize madeCells (Value.int .u8 0).cells 192 = CS at hmk hmade
  have hcel2 := hcel.below hb2 hcel.lt
  clear hc12
  go_wp2_with fail
  have hb4 : Below w2.heap.size w2 (w2.alloc (.cells CS 5)) := (Below.refl _ _).alloc (Nat.le_refl _) _
  have hF := hmade.bs
  have hcel4 := hcel2.below hb4 hcel2.lt
  have hO := (hown3.below hb4).bs
  have hbw4 := hbw2.trans (hb4.mono hbw2.size)
  generalize w2.alloc (.cells CS 5) = w4 at *
  have hE4 := HE.out.below hbw4
  have hC := h.ch.below hbw4
  have K : Hid (∀ W, Below w4.heap.size w4 W → Cel W w.heap.size 29 x.cells) := fun W hW => hcel4.below hW hcel4.lt
  have HHo := Lib.hid HM.out.1
  have E4 := Lib.hid hE4
  have KF := Lib.hid hF
  have KO := Lib.hid hO
  have KC := Lib.hid hC
  have htot : ∀ (A1 A2 A3 A4 A5 : Option Addr) (c1 c2 c3 c4 c5 : Nat), Cw.totL [⟨A1, c1, catN (pairsM x.mm)⟩, ⟨A2, c2, x.ch⟩, ⟨A3, c3, List.replicate 192 0⟩, ⟨A4, c4, cookieL⟩, ⟨A5, c5, writeL (osP x.ps)⟩] = (bodyM x.mm).length := fun A1 A2 A3 A4 A5 c1 c2 c3 c4 c5 => by rw [← cat5 HM.out (A1 := A1) (A2 := A2) (A3 := A3) (A4 := A4) (A5 := A5) (c1 := c1) (c2 := c2) (c3 := c3) (c4 := c4) (c5 := c5), Cw.cat_len]
  have HT := Lib.hid htot
  have HL : Hid ((bodyM x.mm).length = 240 + (writeL (osP x.ps)).length) := body_lenM HM.out.2.1
  have HL2 : Hid ((writeL (osP x.ps)).length ≤ 72121) := write_len HM.out.2.2.1
  clear hF hO hC hcel4 hcel2 hcel hE4 hmk hmade hown3 htot hb4 hb2 hb1 hbw2 hbw1 hb0
  have hcv := conv_new
  have hcvD := conv_newD
  have k0 : w4.cell? ⟨w.heap.size, 0, none⟩ = some (.int .i64 x.op) := by rw [(K.out _ (Below.refl _ _)).cell]; rfl
  have a0 : ∀ o, (w4.alloc o).cell? ⟨w.heap.size, 0, none⟩ = some (.int .i64 x.op) := fun o => by rw [(K.out _ ((Below.refl _ _).alloc (Nat.le_refl _) o)).cell]; rfl
  have k1 : w4.cell? ⟨w.heap.size, 1, none⟩ = some (.int .i64 x.htype) := by rw [(K.out _ (Below.refl _ _)).cell]; rfl
  have a1 : ∀ o, (w4.alloc o).cell? ⟨w.heap.size, 1, none⟩ = some (.int .i64 x.htype) := fun o => by rw [(K.out _ ((Below.refl _ _).alloc (Nat.le_refl _) o)).cell]; rfl
  have k2 : w4.cell? ⟨w.heap.size, 2, none⟩ = some (.int .i64 x.hlen) := by rw [(K.out _ (Below.refl _ _)).cell]; rfl
  have a2 : ∀ o, (w4.alloc o).cell? ⟨w.heap.size, 2, none⟩ = some (.int .i64 x.hlen) := fun o => by rw [(K.out _ ((Below.refl _ _).alloc (Nat.le_refl _) o)).cell]; rfl
  have k3 : w4.cell? ⟨w.heap.size, 3, none⟩ = some (.int .i64 x.hops) := by rw [(K.out _ (Below.refl _ _)).cell]; rfl
  have a3 : ∀ o, (w4.alloc o).cell? ⟨w.heap.size, 3, none⟩ = some (.int .i64 x.hops) := fun o => by rw [(K.out _ ((Below.refl _ _).alloc (Nat.le_refl _) o)).cell]; rfl
  have k4 : w4.cell? ⟨w.heap.size, 4, none⟩ = some (.int .i64 x.xid) := by rw [(K.out _ (Below.refl _ _)).cell]; rfl
  have a4 : ∀ o, (w4.alloc o).cell? ⟨w.heap.size, 4, none⟩ = some (.int .i64 x.xid) := fun o => by rw [(K.out _ ((Below.refl _ _).alloc (Nat.le_refl _) o)).cell]; rfl
  have k5 : w4.cell? ⟨w.heap.size, 5, none⟩ = some (.int .i64 x.secs) := by rw [(K.out _ (Below.refl _ _)).cell]; rfl
  have a5 : ∀ o, (w4.alloc o).cell? ⟨w.heap.size, 5, none⟩ = some (.int .i64 x.secs) := fun o => by rw [(K.out _ ((Below.refl _ _).alloc (Nat.le_refl _) o)).cell]; rfl
  have k6 : w4.cell? ⟨w.heap.size, 6, none⟩ = some (.int .i64 x.flags) := by rw [(K.out _ (Below.refl _ _)).cell]; rfl
  have a6 : ∀ o, (w4.alloc o).cell? ⟨w.heap.size, 6, none⟩ = some (.int .i64 x.flags) := fun o => by rw [(K.out _ ((Below.refl _ _).alloc (Nat.le_refl _) o)).cell]; rfl
  have k7 : w4.cell? ⟨w.heap.size, 7, none⟩ = some (.int .i64 x.ci) := by rw [(K.out _ (Below.refl _ _)).cell]; rfl
  have a7 : ∀ o, (w4.alloc o).cell? ⟨w.heap.size, 7, none⟩ = some (.int .i64 x.ci) := fun o => by rw [(K.out _ ((Below.refl _ _).alloc (Nat.le_refl _) o)).cell]; rfl
  have k8 : w4.cell? ⟨w.heap.size, 8, none⟩ = some (.int .i64 x.yi) := by rw [(K.out _ (Below.refl _ _)).cell]; rfl
  have a8 : ∀ o, (w4.alloc o).cell? ⟨w.heap.size, 8, none⟩ = some (.int .i64 x.yi) := fun o => by rw [(K.out _ ((Below.refl _ _).alloc (Nat.le_refl _) o)).cell]; rfl
  have k9 : w4.cell? ⟨w.heap.size, 9, none⟩ = some (.int .i64 x.si) := by rw [(K.out _ (Below.refl _ _)).cell]; rfl
  have a9 : ∀ o, (w4.alloc o).cell? ⟨w.heap.size, 9, none⟩ = some (.int .i64 x.si) := fun o => by rw [(K.out _ ((Below.refl _ _).alloc (Nat.le_refl _) o)).cell]; rfl
  have k10 : w4.cell? ⟨w.heap.size, 10, none⟩ = some (.int .i64 x.gi) := by rw [(K.out _ (Below.refl _ _)).cell]; rfl
  have a10 : ∀ o, (w4.alloc o).cell? ⟨w.heap.size, 10, none⟩ = some (.int .i64 x.gi) := fun o => by rw [(K.out _ ((Below.refl _ _).alloc (Nat.le_refl _) o)).cell]; rfl
  have k11 : w4.cell? ⟨w.heap.size, 11, none⟩ = some (.slice x.A x.n x.c) := by rw [(K.out _ (Below.refl _ _)).cell]; rfl
  have a11 : ∀ o, (w4.alloc o).cell? ⟨w.heap.size, 11, none⟩ = some (.slice x.A x.n x.c) := fun o => by rw [(K.out _ ((Below.refl _ _).alloc (Nat.le_refl _) o)).cell]; rfl
  have k12 : w4.cell? ⟨w.heap.size, 12, none⟩ = some (.slice x.B x.m x.d) := by rw [(K.out _ (Below.refl _ _)).cell]; rfl
  have a12 : ∀ o, (w4.alloc o).cell? ⟨w.heap.size, 12, none⟩ = some (.slice x.B x.m x.d) := fun o => by rw [(K.out _ ((Below.refl _ _).alloc (Nat.le_refl _) o)).cell]; rfl
  go_cut [7] from 21 to 30 (fun v wx => ∃ A6 c6, v = .slice A6 (bodyM x.mm).length c6 ∧ Hid (Own 5 w4.heap.size wx A6 (bodyM x.mm).length c6 (bodyM x.mm)) ∧ Hid (Below w4.heap.size w4 wx))
  case first =>
   go_region_with
      (first
        | (go_at_call 241
           refine (writeNumbers_any E x w4.drew (E4.out.below (Below.refl _ _).drew) HHo.out).mono ?_
           rintro e w5 ⟨A5, c5, rfl, hown5, hb5⟩
           have hb45 : Hid (Below w4.heap.size w4 w5) := below_undrew hb5
           have KN := Lib.hid hown5.bs
           have m11 : w5.cell? ⟨w.heap.size, 11, none⟩ = some (.slice x.A x.n x.c) := by rw [(K.out _ hb45.out).cell]; rfl
           have n11 : ∀ o, (w5.alloc o).cell? ⟨w.heap.size, 11, none⟩ = some (.slice x.A x.n x.c) := fun o => by rw [(K.out _ (hb45.out.alloc hb45.out.size o)).cell]; rfl
           clear hown5 hb5)
        | (go_at_call 241
           refine (writeNumbers_any E x (w4.alloc (.cells #[.int .u8 99, .int .u8 130, .int .u8 83, .int .u8 99] 5)).drew (E4.out.below ((Below.refl _ _).alloc (Nat.le_refl _) _).drew) HHo.out).mono ?_
           rintro e w5 ⟨A5, c5, rfl, hown5, hb5⟩
           have hb45 : Hid (Below w4.heap.size w4 w5) := Below.trans ((Below.refl _ _).alloc (Nat.le_refl _) _).drew (hb5.mono (by simp))
           have KN := Lib.hid hown5.bs
           have hbl : w5.heap[w4.heap.size]? = some (.cells #[.int .u8 99, .int .u8 130, .int .u8 83, .int .u8 99] 5) := (hb5.block _ (by simp)).trans (heap_alloc_new w4 _)
           obtain ⟨w55, hcv5, hbk, hsz5, hoth, hcells⟩ := conv_at (P := Tryz.prog) Tryz.underlying26 Tryz.underlying5 4 4 hbl
           have hb55 : Hid (Below w4.heap.size w4 w55) := hb45.out.trans hbk
           have KK : Hid (Bs w55 (some ⟨w4.heap.size, 0, none⟩) 4 4 cookieL) := ⟨rfl, Nat.le_refl _, by unfold maxLen; omega, fun _ => ⟨w4.heap.size, 0, rfl, fun i hi => by rw [Nat.zero_add, hcells]; match i, hi with | 0, _ => rfl | 1, _ => rfl | 2, _ => rfl | 3, _ => rfl⟩⟩
           have KN5 : Hid (Bs w55 A5 28 c5 (catN (pairsM x.mm))) := own_apart (by simp) hown5 hoth
           have m11 : w5.cell? ⟨w.heap.size, 11, none⟩ = some (.slice x.A x.n x.c) := by rw [(K.out _ hb45.out).cell]; rfl
           have n11 : w55.cell? ⟨w.heap.size, 11, none⟩ = some (.slice x.A x.n x.c) := by rw [(K.out _ hb55.out).cell]; rfl
           clear hown5 hb5 hbk hsz5 hoth hcells hbl)
        | (go_at_call 241
           refine (writeNumbers_any E x (w4.alloc (.cells #[.int .u8 99, .int .u8 130, .int .u8 83, .int .u8 99] 5 (4, 5))).drew (E4.out.below ((Below.refl _ _).alloc (Nat.le_refl _) _).drew) HHo.out).mono ?_
           rintro e w5 ⟨A5, c5, rfl, hown5, hb5⟩
           have hb45 : Hid (Below w4.heap.size w4 w5) := Below.trans ((Below.refl _ _).alloc (Nat.le_refl _) _).drew (hb5.mono (by simp))
           have KN := Lib.hid hown5.bs
           have KK : Hid (Bs w5 (some ⟨w4.heap.size, 0, none⟩) 4 4 cookieL) := Bs.below (w := (w4.alloc (.cells #[.int .u8 99, .int .u8 130, .int .u8 83, .int .u8 99] 5 (4, 5))).drew) (cookie_lit w4 5 _ rfl (4, 5)) hb5
           have m11 : w5.cell? ⟨w.heap.size, 11, none⟩ = some (.slice x.A x.n x.c) := by rw [(K.out _ hb45.out).cell]; rfl
           clear hown5 hb5)
        | (go_at_call 240
           refine (Cw.concat_any _ 0 5 5 [⟨A5, c5, catN (pairsM x.mm)⟩, ⟨x.A, x.c, x.ch⟩, ⟨some ⟨w2.heap.size, 0, none⟩, 192, List.replicate 192 0⟩, ⟨some ⟨w5.heap.size, 0, none⟩, 4, cookieL⟩, ⟨A3, c3, writeL (osP x.ps)⟩] _ (parts5 (KN.out.alloc _) ((KC.out.below hb45.out).alloc _) ((KF.out.below hb45.out).alloc _) (cookie_lit w5 5 _ rfl _) ((KO.out.below hb45.out).alloc _) _ (by simp)) rfl (by omega) (by omega) (by rw [HT.out, HL.out]; have := HL2.out; omega)).mono ?_
           rw [HT.out, cat5 HM.out]
           rintro e w6 ⟨A6, c6, rfl, hown6, hb6⟩
           have hb46 : Hid (Below w4.heap.size w4 w6) := Below.trans ((hb45.out.alloc hb45.out.size _).alloc (hb45.out.alloc hb45.out.size _).size _) (hb6.mono ((hb45.out.alloc hb45.out.size _).alloc (hb45.out.alloc hb45.out.size _).size _).size)
           have K6 := Lib.hid (hown6.mono (B' := w4.heap.size) ((hb45.out.alloc hb45.out.size _).alloc (hb45.out.alloc hb45.out.size _).size _).size)
           clear hown6 hb6)
        | (go_at_call 240
           refine (Cw.concat_any _ 0 5 5 [⟨A5, c5, catN (pairsM x.mm)⟩, ⟨x.A, x.c, x.ch⟩, ⟨some ⟨w2.heap.size, 0, none⟩, 192, List.replicate 192 0⟩, ⟨some ⟨w4.heap.size, 0, none⟩, 4, cookieL⟩, ⟨A3, c3, writeL (osP x.ps)⟩] _ (parts5 KN5.out (KC.out.below hb55.out) (KF.out.below hb55.out) KK.out (KO.out.below hb55.out) _ rfl) rfl (by omega) (by omega) (by rw [HT.out, HL.out]; have := HL2.out; omega)).mono ?_
           rw [HT.out, cat5 HM.out]
           rintro e w6 ⟨A6, c6, rfl, hown6, hb6⟩
           have hb46 : Hid (Below w4.heap.size w4 w6) := Below.trans (hb55.out.alloc hb55.out.size _) (hb6.mono (hb55.out.alloc hb55.out.size _).size)
           have K6 := Lib.hid (hown6.mono (B' := w4.heap.size) (hb55.out.alloc hb55.out.size _).size)
           clear hown6 hb6)
        | (go_at_call 240
           refine (Cw.concat_any _ 0 5 5 [⟨A5, c5, catN (pairsM x.mm)⟩, ⟨x.A, x.c, x.ch⟩, ⟨some ⟨w2.heap.size, 0, none⟩, 192, List.replicate 192 0⟩, ⟨some ⟨w4.heap.size, 0, none⟩, 4, cookieL⟩, ⟨A3, c3, writeL (osP x.ps)⟩] _ (parts5 KN.out (KC.out.below hb45.out) (KF.out.below hb45.out) KK.out (KO.out.below hb45.out) _ rfl) rfl (by omega) (by omega) (by rw [HT.out, HL.out]; have := HL2.out; omega)).mono ?_
           rw [HT.out, cat5 HM.out]
           rintro e w6 ⟨A6, c6, rfl, hown6, hb6⟩
           have hb46 : Hid (Below w4.heap.size w4 w6) := Below.trans (hb45.out.alloc hb45.out.size _) (hb6.mono (hb45.out.alloc hb45.out.size _).size)
           have K6 := Lib.hid (hown6.mono (B' := w4.heap.size) (hb45.out.alloc hb45.out.size _).size)
           clear hown6 hb6))
   all_goals (go_wp2_with fail; go_meet)
   all_goals (case rel => exact ⟨A6, c6, rfl, K6, hb46⟩)
  case rest =>
   obtain ⟨A6, c6, rfl, K6, hb46⟩ := hcut
   have hbw6 : Below w.heap.size w wc := hbw4.trans (hb46.out.mono hbw4.size)
   have hN : 240 ≤ (bodyM x.mm).length ∧ (bodyM x.mm).length ≤ 72400 := by have := HL.out; have := HL2.out; omega
   have HP : Hid (bytesM x.mm = bodyM x.mm ++ List.replicate (300 - (bodyM x.mm).length) 0) := rfl
   have gL := (E4.out.below hb46.out).gL
   clear k0 k1 k2 k3 k4 k5 k6 k7 k8 k9 k10 k11 k12 a0 a1 a2 a3 a4 a5 a6 a7 a8 a9 a10 a11 a12 hcv hcvD HT HL
   obtain ⟨N, KN2⟩ : ∃ N, Hid ((bodyM x.mm).length = N) := ⟨_, rfl⟩
   rw [KN2.out] at K6 hN HP ⊢
   obtain ⟨hN1, hN2⟩ := hN
   by_cases hfull : (1500 : Int) < (N : Int)
   · have hf2 : 1500 < N := by omega
     have HF2 := Lib.hid hf2
     clear hf2
     go_wp2
     go_quiet (fail)
     go_wp2
     go_ret2
     refine ⟨below_drewN hbw6 _, ?_⟩
     rw [KN2.out, if_pos HF2.out]
     rfl
   have HF2 : Hid (¬ 1500 < N) := by show ¬ _; omega
   by_cases hsm : (N : Int) < 300
   · obtain ⟨A7, c7, w7, hrun, hown7, hb7⟩ := run_app_zeros byP 3 26 Tryz.underlying3 K6.out (by omega) (300 - N) (by omega) hb46.out.size
     rw [show ((300 - N : Nat) : Int) = 300 - (N : Int) by omega] at hrun
     have HR7 := Lib.hid hrun
     have HO7 := Lib.hid hown7
     clear hrun hown7
     have hmx : max 0 (300 - (N : Int)) = 300 - (N : Int) := by omega
     go_wp2_with (at_builtin; refine Lib.wpList_append_run _ rfl (.tmp 37) (.tmp 41) _ _ rfl _ _ rfl rfl _ _ HR7.out ?_)
     go_ret2
     refine ⟨hbw6.trans (hb7.mono hbw4.size), ?_⟩
     rw [KN2.out, if_neg HF2.out]
     exact ⟨A7, _, c7, rfl, by rw [HP.out]; exact HO7.out.mono hbw4.size⟩
   · obtain ⟨A7, c7, w7, hrun, hown7, hb7⟩ := run_app_zeros byP 3 26 Tryz.underlying3 K6.out (by omega) 0 (by omega) hb46.out.size
     have HR7 : Hid ((Builtin.append_ #[26, 3] 26 #[.slice A6 N c6, .int .i64 0]).run Tryz.prog wc = .ok (.slice A7 (N + 0) c7) w7) := hrun
     have HO7 := Lib.hid hown7
     have e0 : 300 - N = 0 := by omega
     rw [e0] at HP
     clear hrun hown7 e0
     have hmx : max 0 (300 - (N : Int)) = 0 := by omega
     go_wp2_with (at_builtin; refine Lib.wpList_append_run _ rfl (.tmp 37) (.tmp 41) _ _ rfl _ _ rfl rfl _ _ HR7.out ?_)
     go_ret2
     refine ⟨hbw6.trans (hb7.mono hbw4.size), ?_⟩
     rw [KN2.out, if_neg HF2.out]
     exact ⟨A7, _, c7, rfl, by rw [HP.out]; exact HO7.out.mono hbw4.size⟩
end Go.Proofs.YtoldppbakapohaaGreatDoor.Mw
