/- What slices.IndexFunc and ContainsFunc at conf's types come to, for whatever function is handed to them that answers for each element. -/
import Derived.Test.YtoilljilndmmfaaVwPx2
import Derived.BigQuiet
import Derived.Deep.QuietTactic
set_option maxRecDepth 8000
namespace Go.Proofs.Ytoilljilndmmfaa.Vw
open Go.RowKit By Cf Ad Ky
open Dw (ba ba_size ba_data ba_list alloc_more)

/-- The place of the first that is wanted; -1: there is none. -/
def idxI {α : Type} (q : α → Bool) (l : List α) : Int := match l.findIdx? q with | some k => (k : Int) | none => -1
def idxB {α : Type} (q : α → Bool) (l : List α) (w : World) (e : Ending) (w' : World) : Prop := e = .returned (.int .i64 (idxI q l)) ∧ Below w.heap.size w w'
section
variable {α : Type} {q : α → Bool} {l : List α} {k : Nat} {a : α}
theorem mem_take_at (h : a ∈ l.take k) : ∃ j, j < k ∧ l[j]? = some a := by
  obtain ⟨j, hj, e⟩ := List.mem_iff_getElem.1 h
  rw [List.length_take] at hj
  exact ⟨j, by omega, by rw [List.getElem?_eq_getElem (by omega), ← e, List.getElem_take]⟩
theorem take_at (h : l[k]? = some a) : l.take (k + 1) = l.take k ++ [a] := by rw [List.take_add_one, h]; rfl
theorem idx_hit (h : l[k]? = some a) (hE : ∀ b ∈ l.take k, q b = false) (hq : q a = true) : idxI q l = (k : Int) := by
  obtain ⟨hk, e⟩ := List.getElem?_eq_some_iff.1 h
  have : l.findIdx? q = some k := List.findIdx?_eq_some_iff_getElem.2 ⟨hk, by rw [e]; exact hq, fun j hj => by
    rw [Bool.not_eq_true]
    exact hE _ (List.mem_take_iff_getElem.2 ⟨j, by omega, rfl⟩)⟩
  unfold idxI
  rw [this]
theorem take_skip (h : l[k]? = some a) (hE : ∀ b ∈ l.take k, q b = false) (hq : q a = false) : ∀ b ∈ l.take (k + 1), q b = false := by
  intro b hb
  rw [take_at h] at hb
  rcases List.mem_append.1 hb with hb | hb
  · exact hE b hb
  · simp at hb
    rw [hb]
    exact hq
theorem idx_miss (hE : ∀ b ∈ l, q b = false) : idxI q l = -1 := by
  have : l.findIdx? q = none := List.findIdx?_eq_none_iff.2 hE
  unfold idxI
  rw [this]
end
theorem idx_any {α : Type} (q : α → Bool) (l : List α) : decide (idxI q l ≥ 0) = l.any q := by
  unfold idxI
  cases h : l.findIdx? q with
  | none =>
    have := List.findIdx?_eq_none_iff.1 h
    rw [decide_eq_false (by decide), eq_comm, List.any_eq_false]
    exact fun a ha => by rw [this a ha]; decide
  | some k =>
    obtain ⟨hk, hq, _⟩ := List.findIdx?_eq_some_iff_getElem.1 h
    show decide ((k : Int) ≥ 0) = _
    rw [decide_eq_true (by omega), eq_comm, List.any_eq_true]
    exact ⟨_, List.getElem_mem hk, hq⟩
theorem hok0 {U : Nat} {w w' : World} {A : Option Addr} {n c k m : Nat} {l : List Nx} {a : Nx} (h : RdNx U w A n c l) (ha : l[k]? = some a) (hm : RdSx U w' a.A m a.c a.xs) : RdSx U w a.A m a.c a.xs := by
  have := h.2 a (List.mem_of_getElem? ha)
  rwa [hm.len] at this
section
variable {U V : Nat} {w w' : World} {A : Option Addr} {n c : Nat} {ps : List Px} {ks : List Kx}
theorem RdPx.below (h : RdPx U w A n c ps) (hb : Below U w w') : RdPx U w' A n c ps := ⟨h.1.below hb, fun x hx => (h.2 x hx).below hb⟩
theorem RdPx.mono (h : RdPx U w A n c ps) (hV : U ≤ V) : RdPx V w A n c ps := ⟨h.1.mono hV, fun x hx => (h.2 x hx).mono hV⟩
theorem RdPx.drew (h : RdPx U w A n c ps) : RdPx U w.drew A n c ps := ⟨h.1.drew, fun x hx => (h.2 x hx).drew⟩
theorem RdPx.len (h : RdPx U w A n c ps) : ps.length = n := h.1.len
theorem RdPx.cap (h : RdPx U w A n c ps) : n ≤ c := h.1.cap
theorem RdPx.max (h : RdPx U w A n c ps) : c ≤ 9223372036854775807 := h.1.max
/-- One of a slice that reads: its nine cells, with the numbers of its pools and reservations as letters. -/
theorem atX (h : RdPx U w A n c ps) {k : Nat} (hk : k < n) : ∃ b o p pn rn, A = some ⟨b, o, none⟩ ∧ b < U ∧ Hid (ps[k]? = some p) ∧ p.x.ok U w pn rn ∧ Hid (p.x.pools.length = pn) ∧ Hid (p.x.res.length = rn) ∧
    w.cell? ⟨b, o + k * 9, none⟩ = some (.int .i64 p.x.base) ∧ w.cell? ⟨b, o + k * 9 + 1, none⟩ = some (.int .i64 p.x.bits) ∧ w.cell? ⟨b, o + k * 9 + 2, none⟩ = some (.slice p.x.pA pn p.x.pc) ∧ w.cell? ⟨b, o + k * 9 + 3, none⟩ = some (.slice p.x.rA rn p.x.rc) ∧
    w.cell? ⟨b, o + k * 9 + 4, none⟩ = some (.int .i64 p.x.iface) ∧ w.cell? ⟨b, o + k * 9 + 5, none⟩ = some (.int .i64 p.x.router) ∧ w.cell? ⟨b, o + k * 9 + 6, none⟩ = some (.int .i64 p.x.time) ∧ w.cell? ⟨b, o + k * 9 + 7, none⟩ = some (.int .i64 (p.net : Int)) ∧ w.cell? ⟨b, o + k * 9 + 8, none⟩ = some (.int .i64 (p.sub : Int)) := by
  obtain ⟨b, o, e, hU, x, hl, hc⟩ := h.1.at_ hk
  exact ⟨b, o, x, x.x.pools.length, x.x.res.length, e, hU, hl, h.2 x (List.mem_of_getElem? hl.out), rfl, rfl, hc 0 _ rfl, hc 1 _ rfl, hc 2 _ rfl, hc 3 _ rfl, hc 4 _ rfl, hc 5 _ rfl, hc 6 _ rfl, hc 7 _ rfl, hc 8 _ rfl⟩
theorem atK (h : RdKx U w A n c ks) {k : Nat} (hk : k < n) : ∃ b o a, A = some ⟨b, o, none⟩ ∧ b < U ∧ Hid (ks[k]? = some a) ∧ w.cell? ⟨b, o + k * 3, none⟩ = some (.string (ba a.r.key)) ∧ w.cell? ⟨b, o + k * 3 + 1, none⟩ = some (.int .i64 a.r.addr) ∧ w.cell? ⟨b, o + k * 3 + 2, none⟩ = some (.int .i64 (a.net : Int)) := by
  obtain ⟨b, o, e, hU, r, hl, hc⟩ := h.at_ hk
  exact ⟨b, o, r, e, hU, hl, hc 0 _ rfl, hc 1 _ rfl, hc 2 _ rfl⟩
end
set_option maxHeartbeats 2000000 in
theorem indexX (K : Nat) (hE : ∀ args W, (callFunc K args).run Try.prog W = .ok (.enter K args) W) (bs : Array Value) (q : Px → Bool) (A : Option Addr) (n c U : Nat) (l : List Px) (w : World) (h : RdPx U w A n c l) (hU : U ≤ w.heap.size)
    (HK : ∀ a ∈ l, ∀ (pn rn : Nat), a.x.pools.length = pn → a.x.res.length = rn → ∀ W, Below w.heap.size w W → Calls Try.prog K (#[a.v pn rn] ++ bs) W (isB (q a) W)) :
    Calls Try.prog 50 #[.slice A n c, .func (.func K) #[] bs] w (idxB q l w) := by
  have HX := Lib.hid h
  have HL := Lib.hid h.len
  have HKK := Lib.hid HK
  have HEN := Lib.hid hE
  have HUU := Lib.hid hU
  have hcp := h.cap
  have hmx := h.max
  clear h HK hE hU
  go_enter Try.func50, Try.ntmps50
  go_wp2
  go_loopw [8] (fun v wr => ∃ k : Nat, v = .int .i64 k ∧ k ≤ n ∧ Hid (∀ a ∈ l.take k, q a = false) ∧ Hid (Below w.heap.size w wr)) (fun v _ => n - (intOf v).toNat)
  case atStart => exact ⟨0, rfl, by omega, fun a ha => by simp at ha, Below.refl _ _⟩
  case round =>
    obtain ⟨k, rfl, hk2, HE, HB⟩ := hrel
    by_cases hlt : k < n
    · obtain ⟨b, o, a, pn, rn, rfl, hbU, HA, hok, HP, HR, c0, c1, c2, c3, c4, c5, c6, c7, c8⟩ := atX (HX.out.below (HB.out.mono HUU.out)) hlt
      have hkz : (k : Int) < (n : Int) := by omega
      have HC := Lib.hid (HKK.out a (List.mem_of_getElem? HA.out) pn rn HP.out HR.out wr HB.out)
      cases hq : q a with
      | true =>
        have HT : Hid (idxI q l = (k : Int)) := idx_hit HA.out HE.out hq
        rw [hq] at HC
        clear hq HE HA
        go_wp2_with fail
        rw [HEN.out, Oper.upon_enter]
        refine HC.out.mono ?_
        rintro e w3 ⟨rfl, hb3⟩
        go_wp2
        go_ret
        exact ⟨ret_int HT.out.symm, HB.out.trans (hb3.mono HB.out.size)⟩
      | false =>
        have HT : Hid (∀ a ∈ l.take (k + 1), q a = false) := take_skip HA.out HE.out hq
        rw [hq] at HC
        clear hq HE HA
        go_wp2_with fail
        rw [HEN.out, Oper.upon_enter]
        refine HC.out.mono ?_
        rintro e w3 ⟨rfl, hb3⟩
        go_wp2
        go_roundw
        case rel => exact ⟨k + 1, by go_num, by omega, HT.out, HB.out.trans (hb3.mono HB.out.size)⟩
        case measure => simp [intOf]; omega
    · obtain rfl : k = n := by omega
      have HT : Hid (idxI q l = -1) := idx_miss (by rw [← HL.out] at HE; rw [List.take_length] at HE; exact HE.out)
      have hkz : ¬ (k : Int) < (k : Int) := by omega
      clear hlt HE
      go_wp2
      go_ret
      exact ⟨ret_int HT.out.symm, HB.out⟩
set_option maxHeartbeats 1000000 in
theorem hasX (K : Nat) (hE : ∀ args W, (callFunc K args).run Try.prog W = .ok (.enter K args) W) (bs : Array Value) (q : Px → Bool) (A : Option Addr) (n c U : Nat) (l : List Px) (w : World) (h : RdPx U w A n c l) (hU : U ≤ w.heap.size)
    (HK : ∀ a ∈ l, ∀ (pn rn : Nat), a.x.pools.length = pn → a.x.res.length = rn → ∀ W, Below w.heap.size w W → Calls Try.prog K (#[a.v pn rn] ++ bs) W (isB (q a) W)) :
    Calls Try.prog 25 #[.slice A n c, .func (.func K) #[] bs] w (isB (l.any q) w) := by
  have HC := Lib.hid (indexX K hE bs q A n c U l w h hU HK)
  have HT := Lib.hid (idx_any q l)
  clear h hU HK hE
  go_enter Try.func25, Try.ntmps25
  go_wp2_with fail
  refine HC.out.mono ?_
  rintro e w1 ⟨rfl, hb1⟩
  go_wp2
  go_ret
  exact ⟨ret_bool HT.out, hb1⟩
set_option maxHeartbeats 2000000 in
theorem indexK (K : Nat) (hE : ∀ args W, (callFunc K args).run Try.prog W = .ok (.enter K args) W) (bs : Array Value) (q : Kx → Bool) (A : Option Addr) (n c U : Nat) (l : List Kx) (w : World) (h : RdKx U w A n c l) (hU : U ≤ w.heap.size)
    (HK : ∀ a ∈ l, ∀ W, Below w.heap.size w W → Calls Try.prog K (#[a.v] ++ bs) W (isB (q a) W)) :
    Calls Try.prog 77 #[.slice A n c, .func (.func K) #[] bs] w (idxB q l w) := by
  have HX := Lib.hid h
  have HL := Lib.hid h.len
  have HKK := Lib.hid HK
  have HEN := Lib.hid hE
  have HUU := Lib.hid hU
  have hcp := h.cap
  have hmx := h.max
  clear h HK hE hU
  go_enter Try.func77, Try.ntmps77
  go_wp2
  go_loopw [8] (fun v wr => ∃ k : Nat, v = .int .i64 k ∧ k ≤ n ∧ Hid (∀ a ∈ l.take k, q a = false) ∧ Hid (Below w.heap.size w wr)) (fun v _ => n - (intOf v).toNat)
  case atStart => exact ⟨0, rfl, by omega, fun a ha => by simp at ha, Below.refl _ _⟩
  case round =>
    obtain ⟨k, rfl, hk2, HE, HB⟩ := hrel
    by_cases hlt : k < n
    · obtain ⟨b, o, a, rfl, hbU, HA, c0, c1, c2⟩ := atK (HX.out.below (HB.out.mono HUU.out)) hlt
      have hkz : (k : Int) < (n : Int) := by omega
      have HC := Lib.hid (HKK.out a (List.mem_of_getElem? HA.out)  wr HB.out)
      cases hq : q a with
      | true =>
        have HT : Hid (idxI q l = (k : Int)) := idx_hit HA.out HE.out hq
        rw [hq] at HC
        clear hq HE HA
        go_wp2_with fail
        rw [HEN.out, Oper.upon_enter]
        refine HC.out.mono ?_
        rintro e w3 ⟨rfl, hb3⟩
        go_wp2
        go_ret
        exact ⟨ret_int HT.out.symm, HB.out.trans (hb3.mono HB.out.size)⟩
      | false =>
        have HT : Hid (∀ a ∈ l.take (k + 1), q a = false) := take_skip HA.out HE.out hq
        rw [hq] at HC
        clear hq HE HA
        go_wp2_with fail
        rw [HEN.out, Oper.upon_enter]
        refine HC.out.mono ?_
        rintro e w3 ⟨rfl, hb3⟩
        go_wp2
        go_roundw
        case rel => exact ⟨k + 1, by go_num, by omega, HT.out, HB.out.trans (hb3.mono HB.out.size)⟩
        case measure => simp [intOf]; omega
    · obtain rfl : k = n := by omega
      have HT : Hid (idxI q l = -1) := idx_miss (by rw [← HL.out] at HE; rw [List.take_length] at HE; exact HE.out)
      have hkz : ¬ (k : Int) < (k : Int) := by omega
      clear hlt HE
      go_wp2
      go_ret
      exact ⟨ret_int HT.out.symm, HB.out⟩
set_option maxHeartbeats 2000000 in
theorem indexP (K : Nat) (hE : ∀ args W, (callFunc K args).run Try.prog W = .ok (.enter K args) W) (bs : Array Value) (q : Pl → Bool) (A : Option Addr) (n c U : Nat) (l : List Pl) (w : World) (h : RdPl U w A n c l) (hU : U ≤ w.heap.size)
    (HK : ∀ a ∈ l, ∀ W, Below w.heap.size w W → Calls Try.prog K (#[.agg #[.int .i64 a.first, .int .i64 a.last]] ++ bs) W (isB (q a) W)) :
    Calls Try.prog 81 #[.slice A n c, .func (.func K) #[] bs] w (idxB q l w) := by
  have HX := Lib.hid h
  have HL := Lib.hid h.len
  have HKK := Lib.hid HK
  have HEN := Lib.hid hE
  have HUU := Lib.hid hU
  have hcp := h.cap
  have hmx := h.max
  clear h HK hE hU
  go_enter Try.func81, Try.ntmps81
  go_wp2
  go_loopw [8] (fun v wr => ∃ k : Nat, v = .int .i64 k ∧ k ≤ n ∧ Hid (∀ a ∈ l.take k, q a = false) ∧ Hid (Below w.heap.size w wr)) (fun v _ => n - (intOf v).toNat)
  case atStart => exact ⟨0, rfl, by omega, fun a ha => by simp at ha, Below.refl _ _⟩
  case round =>
    obtain ⟨k, rfl, hk2, HE, HB⟩ := hrel
    by_cases hlt : k < n
    · obtain ⟨b, o, a, rfl, hbU, HA, c0, c1⟩ := atP (HX.out.below (HB.out.mono HUU.out)) hlt
      have hkz : (k : Int) < (n : Int) := by omega
      have HC := Lib.hid (HKK.out a (List.mem_of_getElem? HA.out)  wr HB.out)
      cases hq : q a with
      | true =>
        have HT : Hid (idxI q l = (k : Int)) := idx_hit HA.out HE.out hq
        rw [hq] at HC
        clear hq HE HA
        go_wp2_with fail
        rw [HEN.out, Oper.upon_enter]
        refine HC.out.mono ?_
        rintro e w3 ⟨rfl, hb3⟩
        go_wp2
        go_ret
        exact ⟨ret_int HT.out.symm, HB.out.trans (hb3.mono HB.out.size)⟩
      | false =>
        have HT : Hid (∀ a ∈ l.take (k + 1), q a = false) := take_skip HA.out HE.out hq
        rw [hq] at HC
        clear hq HE HA
        go_wp2_with fail
        rw [HEN.out, Oper.upon_enter]
        refine HC.out.mono ?_
        rintro e w3 ⟨rfl, hb3⟩
        go_wp2
        go_roundw
        case rel => exact ⟨k + 1, by go_num, by omega, HT.out, HB.out.trans (hb3.mono HB.out.size)⟩
        case measure => simp [intOf]; omega
    · obtain rfl : k = n := by omega
      have HT : Hid (idxI q l = -1) := idx_miss (by rw [← HL.out] at HE; rw [List.take_length] at HE; exact HE.out)
      have hkz : ¬ (k : Int) < (k : Int) := by omega
      clear hlt HE
      go_wp2
      go_ret
      exact ⟨ret_int HT.out.symm, HB.out⟩
set_option maxHeartbeats 1000000 in
theorem hasP (K : Nat) (hE : ∀ args W, (callFunc K args).run Try.prog W = .ok (.enter K args) W) (bs : Array Value) (q : Pl → Bool) (A : Option Addr) (n c U : Nat) (l : List Pl) (w : World) (h : RdPl U w A n c l) (hU : U ≤ w.heap.size)
    (HK : ∀ a ∈ l, ∀ W, Below w.heap.size w W → Calls Try.prog K (#[.agg #[.int .i64 a.first, .int .i64 a.last]] ++ bs) W (isB (q a) W)) :
    Calls Try.prog 52 #[.slice A n c, .func (.func K) #[] bs] w (isB (l.any q) w) := by
  have HC := Lib.hid (indexP K hE bs q A n c U l w h hU HK)
  have HT := Lib.hid (idx_any q l)
  clear h hU HK hE
  go_enter Try.func52, Try.ntmps52
  go_wp2_with fail
  refine HC.out.mono ?_
  rintro e w1 ⟨rfl, hb1⟩
  go_wp2
  go_ret
  exact ⟨ret_bool HT.out, hb1⟩
set_option maxHeartbeats 2000000 in
theorem indexR (K : Nat) (hE : ∀ args W, (callFunc K args).run Try.prog W = .ok (.enter K args) W) (bs : Array Value) (q : Rs → Bool) (A : Option Addr) (n c U : Nat) (l : List Rs) (w : World) (h : RdRs U w A n c l) (hU : U ≤ w.heap.size)
    (HK : ∀ a ∈ l, ∀ W, Below w.heap.size w W → Calls Try.prog K (#[.agg #[.string (ba a.key), .int .i64 a.addr]] ++ bs) W (isB (q a) W)) :
    Calls Try.prog 82 #[.slice A n c, .func (.func K) #[] bs] w (idxB q l w) := by
  have HX := Lib.hid h
  have HL := Lib.hid h.len
  have HKK := Lib.hid HK
  have HEN := Lib.hid hE
  have HUU := Lib.hid hU
  have hcp := h.cap
  have hmx := h.max
  clear h HK hE hU
  go_enter Try.func82, Try.ntmps82
  go_wp2
  go_loopw [8] (fun v wr => ∃ k : Nat, v = .int .i64 k ∧ k ≤ n ∧ Hid (∀ a ∈ l.take k, q a = false) ∧ Hid (Below w.heap.size w wr)) (fun v _ => n - (intOf v).toNat)
  case atStart => exact ⟨0, rfl, by omega, fun a ha => by simp at ha, Below.refl _ _⟩
  case round =>
    obtain ⟨k, rfl, hk2, HE, HB⟩ := hrel
    by_cases hlt : k < n
    · obtain ⟨b, o, a, rfl, hbU, HA, c0, c1⟩ := atR (HX.out.below (HB.out.mono HUU.out)) hlt
      have hkz : (k : Int) < (n : Int) := by omega
      have HC := Lib.hid (HKK.out a (List.mem_of_getElem? HA.out)  wr HB.out)
      cases hq : q a with
      | true =>
        have HT : Hid (idxI q l = (k : Int)) := idx_hit HA.out HE.out hq
        rw [hq] at HC
        clear hq HE HA
        go_wp2_with fail
        rw [HEN.out, Oper.upon_enter]
        refine HC.out.mono ?_
        rintro e w3 ⟨rfl, hb3⟩
        go_wp2
        go_ret
        exact ⟨ret_int HT.out.symm, HB.out.trans (hb3.mono HB.out.size)⟩
      | false =>
        have HT : Hid (∀ a ∈ l.take (k + 1), q a = false) := take_skip HA.out HE.out hq
        rw [hq] at HC
        clear hq HE HA
        go_wp2_with fail
        rw [HEN.out, Oper.upon_enter]
        refine HC.out.mono ?_
        rintro e w3 ⟨rfl, hb3⟩
        go_wp2
        go_roundw
        case rel => exact ⟨k + 1, by go_num, by omega, HT.out, HB.out.trans (hb3.mono HB.out.size)⟩
        case measure => simp [intOf]; omega
    · obtain rfl : k = n := by omega
      have HT : Hid (idxI q l = -1) := idx_miss (by rw [← HL.out] at HE; rw [List.take_length] at HE; exact HE.out)
      have hkz : ¬ (k : Int) < (k : Int) := by omega
      clear hlt HE
      go_wp2
      go_ret
      exact ⟨ret_int HT.out.symm, HB.out⟩
set_option maxHeartbeats 1000000 in
theorem hasR (K : Nat) (hE : ∀ args W, (callFunc K args).run Try.prog W = .ok (.enter K args) W) (bs : Array Value) (q : Rs → Bool) (A : Option Addr) (n c U : Nat) (l : List Rs) (w : World) (h : RdRs U w A n c l) (hU : U ≤ w.heap.size)
    (HK : ∀ a ∈ l, ∀ W, Below w.heap.size w W → Calls Try.prog K (#[.agg #[.string (ba a.key), .int .i64 a.addr]] ++ bs) W (isB (q a) W)) :
    Calls Try.prog 54 #[.slice A n c, .func (.func K) #[] bs] w (isB (l.any q) w) := by
  have HC := Lib.hid (indexR K hE bs q A n c U l w h hU HK)
  have HT := Lib.hid (idx_any q l)
  clear h hU HK hE
  go_enter Try.func54, Try.ntmps54
  go_wp2_with fail
  refine HC.out.mono ?_
  rintro e w1 ⟨rfl, hb1⟩
  go_wp2
  go_ret
  exact ⟨ret_bool HT.out, hb1⟩
set_option maxHeartbeats 2000000 in
theorem indexN (K : Nat) (hE : ∀ args W, (callFunc K args).run Try.prog W = .ok (.enter K args) W) (bs : Array Value) (q : Nx → Bool) (A : Option Addr) (n c U : Nat) (l : List Nx) (w : World) (h : RdNx U w A n c l) (hU : U ≤ w.heap.size)
    (HK : ∀ a ∈ l, ∀ (m : Nat), RdSx U w a.A m a.c a.xs → ∀ W, Below w.heap.size w W → Calls Try.prog K (#[.agg #[.slice a.A m a.c]] ++ bs) W (isB (q a) W)) :
    Calls Try.prog 79 #[.slice A n c, .func (.func K) #[] bs] w (idxB q l w) := by
  have HX := Lib.hid h
  have HL := Lib.hid h.len
  have HKK := Lib.hid HK
  have HEN := Lib.hid hE
  have HUU := Lib.hid hU
  have hcp := h.cap
  have hmx := h.max
  clear h HK hE hU
  go_enter Try.func79, Try.ntmps79
  go_wp2
  go_loopw [8] (fun v wr => ∃ k : Nat, v = .int .i64 k ∧ k ≤ n ∧ Hid (∀ a ∈ l.take k, q a = false) ∧ Hid (Below w.heap.size w wr)) (fun v _ => n - (intOf v).toNat)
  case atStart => exact ⟨0, rfl, by omega, fun a ha => by simp at ha, Below.refl _ _⟩
  case round =>
    obtain ⟨k, rfl, hk2, HE, HB⟩ := hrel
    by_cases hlt : k < n
    · obtain ⟨b, o, a, m, rfl, hbU, HA, hok, c0⟩ := atN (HX.out.below (HB.out.mono HUU.out)) hlt
      have hkz : (k : Int) < (n : Int) := by omega
      have HC := Lib.hid (HKK.out a (List.mem_of_getElem? HA.out) m (hok0 HX.out HA.out hok) wr HB.out)
      cases hq : q a with
      | true =>
        have HT : Hid (idxI q l = (k : Int)) := idx_hit HA.out HE.out hq
        rw [hq] at HC
        clear hq HE HA
        go_wp2_with fail
        rw [HEN.out, Oper.upon_enter]
        refine HC.out.mono ?_
        rintro e w3 ⟨rfl, hb3⟩
        go_wp2
        go_ret
        exact ⟨ret_int HT.out.symm, HB.out.trans (hb3.mono HB.out.size)⟩
      | false =>
        have HT : Hid (∀ a ∈ l.take (k + 1), q a = false) := take_skip HA.out HE.out hq
        rw [hq] at HC
        clear hq HE HA
        go_wp2_with fail
        rw [HEN.out, Oper.upon_enter]
        refine HC.out.mono ?_
        rintro e w3 ⟨rfl, hb3⟩
        go_wp2
        go_roundw
        case rel => exact ⟨k + 1, by go_num, by omega, HT.out, HB.out.trans (hb3.mono HB.out.size)⟩
        case measure => simp [intOf]; omega
    · obtain rfl : k = n := by omega
      have HT : Hid (idxI q l = -1) := idx_miss (by rw [← HL.out] at HE; rw [List.take_length] at HE; exact HE.out)
      have hkz : ¬ (k : Int) < (k : Int) := by omega
      clear hlt HE
      go_wp2
      go_ret
      exact ⟨ret_int HT.out.symm, HB.out⟩
set_option maxHeartbeats 1000000 in
theorem hasN (K : Nat) (hE : ∀ args W, (callFunc K args).run Try.prog W = .ok (.enter K args) W) (bs : Array Value) (q : Nx → Bool) (A : Option Addr) (n c U : Nat) (l : List Nx) (w : World) (h : RdNx U w A n c l) (hU : U ≤ w.heap.size)
    (HK : ∀ a ∈ l, ∀ (m : Nat), RdSx U w a.A m a.c a.xs → ∀ W, Below w.heap.size w W → Calls Try.prog K (#[.agg #[.slice a.A m a.c]] ++ bs) W (isB (q a) W)) :
    Calls Try.prog 48 #[.slice A n c, .func (.func K) #[] bs] w (isB (l.any q) w) := by
  have HC := Lib.hid (indexN K hE bs q A n c U l w h hU HK)
  have HT := Lib.hid (idx_any q l)
  clear h hU HK hE
  go_enter Try.func48, Try.ntmps48
  go_wp2_with fail
  refine HC.out.mono ?_
  rintro e w1 ⟨rfl, hb1⟩
  go_wp2
  go_ret
  exact ⟨ret_bool HT.out, hb1⟩
end Go.Proofs.Ytoilljilndmmfaa.Vw
