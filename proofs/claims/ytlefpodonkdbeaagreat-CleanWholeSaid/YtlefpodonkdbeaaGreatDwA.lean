/- Words for disks in memory: files, entries, disks by value, as they read below a mark. No conditions but those that each theorem names. -/
import Derived.Test.YtlefpodonkdbeaaGreatMathA
import Derived.Test.YtlefpodonkdbeaaGreatKitA
import Derived.Test.YtlefpodonkdbeaaGreatCoA
import Derived.Sort.Walk0
import Derived.WalkSpells
import Derived.WalkLawsBesides
import Derived.IntWalk
import Derived.BigQuiet
import Derived.Laws.CopyRow
import Derived.Laws.Rows
import Derived.Deep.RegionWith
section
set_option maxRecDepth 8000
namespace Go.Proofs.YtlefpodonkdbeaaGreat.Dw
open Go.RowKit By Dk

/-! ### Strings -/
/-- A name as a string. -/
def ba (l : List UInt8) : ByteArray := ⟨l.toArray⟩
theorem ba_data (l : List UInt8) : (ba l).data.toList = l := rfl
theorem ba_list (l : List UInt8) : (ba l).toList = l := by rw [ByteArray.toList_eq]; rfl
theorem ba_size (l : List UInt8) : (ba l).size = l.length := rfl
theorem ba_of (s : ByteArray) : s = ba s.data.toList := rfl
theorem ba_inj {a b : List UInt8} (h : ba a = ba b) : a = b := by have := congrArg (fun s => s.data.toList) h; exact this

/-! ### Entries -/
def layE : Lay E := ⟨2, fun e => [.string (ba e.1), .int .i64 e.2], fun _ => rfl, fun e u hu => by
  rcases List.mem_cons.1 hu with rfl | hu
  · rfl
  · rcases List.mem_cons.1 hu with rfl | hu
    · rfl
    · cases hu⟩
abbrev RdE (U : Nat) (w : World) (A : Option Addr) (n c : Nat) (l : List E) : Prop := RdG layE U w A n c l
abbrev OwnE (e B : Nat) (w : World) (A : Option Addr) (n c : Nat) (l : List E) : Prop := OwnG layE e B w A n c l
section
variable {U : Nat} {w w' : World} {A : Option Addr} {n c : Nat} {l : List E}
/-- One entry of a slice that reads. -/
theorem atE (h : RdE U w A n c l) {k : Nat} (hk : k < n) : ∃ b o s f, A = some ⟨b, o, none⟩ ∧ b < U ∧ Hid (l[k]? = some (s, f)) ∧ w.cell? ⟨b, o + k * 2, none⟩ = some (.string (ba s)) ∧ w.cell? ⟨b, o + k * 2 + 1, none⟩ = some (.int .i64 f) := by
  obtain ⟨b, o, e, hU, ⟨s, f⟩, hl, hc⟩ := h.at_ hk
  exact ⟨b, o, s, f, e, hU, hl, hc 0 _ rfl, hc 1 _ rfl⟩
end
theorem nil_of {α : Type} {Y : Lay α} {U n c : Nat} {w : World} {l : List α} (h : RdG Y U w none n c l) : n = 0 ∧ l = [] := by
  have h0 : n = 0 := by
    rcases Nat.eq_zero_or_pos n with h0 | h0
    · exact h0
    · obtain ⟨_, _, e, _⟩ := h.2.2.2 h0
      cases e
  refine ⟨h0, List.length_eq_zero_iff.1 ?_⟩
  rw [h.len, h0]

/-! ### Files -/
/-- A file as it lies in memory. -/
structure Fv where
  A : Option Addr
  c : Nat
  l : List UInt8
  s : Int
def Fv.f (x : Fv) : F := ⟨x.l, x.s⟩
def layF : Lay Fv := ⟨2, fun x => [.slice x.A x.l.length x.c, .int .i64 x.s], fun _ => rfl, fun e u hu => by
  rcases List.mem_cons.1 hu with rfl | hu
  · rfl
  · rcases List.mem_cons.1 hu with rfl | hu
    · rfl
    · cases hu⟩
def fsOf (xs : List Fv) : List F := xs.map Fv.f
theorem fs_len (xs : List Fv) : (fsOf xs).length = xs.length := List.length_map ..
/-- The files' bytes read, below U. -/
def Byt (U : Nat) (w : World) (xs : List Fv) : Prop := ∀ x ∈ xs, BsU U w x.A x.l.length x.c x.l
def RdF (U : Nat) (w : World) (A : Option Addr) (n c : Nat) (xs : List Fv) : Prop := RdG layF U w A n c xs ∧ Byt U w xs
theorem bsu_mono {U V : Nat} {w : World} {A : Option Addr} {n c : Nat} {l : List UInt8} (h : BsU U w A n c l) (hV : U ≤ V) : BsU V w A n c l := ⟨h.1, fun hn a ha => Nat.lt_of_lt_of_le (h.2 hn a ha) hV⟩
section
variable {U V : Nat} {w w' : World} {A : Option Addr} {n c : Nat} {xs : List Fv}
theorem Byt.below (h : Byt U w xs) (hb : Below U w w') : Byt U w' xs := fun x hx => (h x hx).below hb
theorem Byt.mono (h : Byt U w xs) (hV : U ≤ V) : Byt V w xs := fun x hx => bsu_mono (h x hx) hV
theorem RdF.below (h : RdF U w A n c xs) (hb : Below U w w') : RdF U w' A n c xs := ⟨h.1.below hb, h.2.below hb⟩
theorem RdF.mono (h : RdF U w A n c xs) (hV : U ≤ V) : RdF V w A n c xs := ⟨h.1.mono hV, h.2.mono hV⟩
theorem RdF.drew (h : RdF U w A n c xs) : RdF U w.drew A n c xs := h
theorem RdF.len (h : RdF U w A n c xs) : xs.length = n := h.1.len
theorem RdF.cap (h : RdF U w A n c xs) : n ≤ c := h.1.cap
theorem RdF.max (h : RdF U w A n c xs) : c ≤ 9223372036854775807 := h.1.max
theorem RdF.nil (U : Nat) (w : World) : RdF U w none 0 0 [] := ⟨RdG.nil U w, fun x hx => by cases hx⟩
/-- One file of a slice that reads. -/
theorem atF (h : RdF U w A n c xs) {k : Nat} (hk : k < n) : ∃ b o x, A = some ⟨b, o, none⟩ ∧ b < U ∧ Hid (xs[k]? = some x) ∧ BsU U w x.A x.l.length x.c x.l ∧ w.cell? ⟨b, o + k * 2, none⟩ = some (.slice x.A x.l.length x.c) ∧ w.cell? ⟨b, o + k * 2 + 1, none⟩ = some (.int .i64 x.s) := by
  obtain ⟨b, o, e, hU, x, hl, hc⟩ := h.1.at_ hk
  exact ⟨b, o, x, e, hU, hl, h.2 x (List.mem_of_getElem? hl.out), hc 0 _ rfl, hc 1 _ rfl⟩
end
theorem fs_get {xs : List Fv} {k : Nat} {x : Fv} (h : xs[k]? = some x) : (fsOf xs)[k]? = some x.f := by unfold fsOf; rw [List.getElem?_map, h]; rfl

/-! ### Disks -/
/-- A disk by value: its three slices, and the files as they lie. -/
structure Dv where
  fA : Option Addr
  fn : Nat
  fc : Nat
  xs : List Fv
  nA : Option Addr
  nn : Nat
  nc : Nat
  now : List E
  kA : Option Addr
  kn : Nat
  kc : Nat
  kept : List E
def Dv.d (x : Dv) : D := ⟨fsOf x.xs, x.now, x.kept⟩
@[reducible] def Dv.v (x : Dv) : Value := .agg #[.slice x.fA x.fn x.fc, .slice x.nA x.nn x.nc, .slice x.kA x.kn x.kc]
def zeroV : Dv := ⟨none, 0, 0, [], none, 0, 0, [], none, 0, 0, []⟩
structure RdD (U : Nat) (w : World) (x : Dv) : Prop where
  f : RdF U w x.fA x.fn x.fc x.xs
  n : RdE U w x.nA x.nn x.nc x.now
  k : RdE U w x.kA x.kn x.kc x.kept
section
variable {U V : Nat} {w w' : World} {x : Dv}
theorem RdD.below (h : RdD U w x) (hb : Below U w w') : RdD U w' x := ⟨h.f.below hb, h.n.below hb, h.k.below hb⟩
theorem RdD.mono (h : RdD U w x) (hV : U ≤ V) : RdD V w x := ⟨h.f.mono hV, h.n.mono hV, h.k.mono hV⟩
theorem RdD.drew (h : RdD U w x) : RdD U w.drew x := ⟨h.f, h.n, h.k⟩
theorem RdD.zero (U : Nat) (w : World) : RdD U w zeroV := ⟨RdF.nil U w, RdG.nil U w, RdG.nil U w⟩
end
/-- A call that answers a disk. -/
def DR (w : World) (f : Value → Value) (d : D) (e : Ending) (w' : World) : Prop := ∃ x : Dv, e = .returned (f (.agg #[.slice x.fA x.fn x.fc, .slice x.nA x.nn x.nc, .slice x.kA x.kn x.kc])) ∧ x.d = d ∧ RdD w'.heap.size w' x ∧ Below w.heap.size w w'

/-! ### The program's types -/
theorem filP : RgP Tryz.prog 27 63 layF (.agg #[.slice none 0 0, .int .i64 0]) 32 := ⟨Tryz.underlying27, by kernel_rfl⟩
theorem entP : RgP Tryz.prog 28 68 layE (.agg #[.string ⟨#[]⟩, .int .i64 0]) 24 := ⟨Tryz.underlying28, by kernel_rfl⟩
theorem rfilP : RgP Tryz.prog 34 66 layF (.agg #[.slice none 0 0, .int .i64 0]) 32 := ⟨Tryz.underlying34, by kernel_rfl⟩
theorem rentP : RgP Tryz.prog 35 69 layE (.agg #[.string ⟨#[]⟩, .int .i64 0]) 24 := ⟨Tryz.underlying35, by kernel_rfl⟩
end Go.Proofs.YtlefpodonkdbeaaGreat.Dw
end
/- What disk's small functions come to: rightName, wrongFile; slices.IndexFunc and slices.ContainsFunc over files and entries, for any function handed in. For all inputs. -/
section
set_option maxRecDepth 8000
namespace Go.Proofs.YtlefpodonkdbeaaGreat.Dw
open Go.RowKit By Dk

theorem rightName_any (s : List UInt8) (w : World) (hs : s.length ≤ 9223372036854775807) :
    Calls Tryz.prog 111 #[.string (ba s)] w fun e w' => e = .returned (.bool (decide (FairN s))) ∧ w = w' := by
  have hz := Lib.hid (ba_size s)
  by_cases h1 : (1 : Int) ≤ ((ba s).size : Int)
  · by_cases h2 : ((ba s).size : Int) ≤ 16
    · go_enter Tryz.func111, Tryz.ntmps111
      go_wp2
      go_ret
      exact ⟨ret_bool (decide_eq_true (by have := hz.out; unfold FairN; omega)).symm, rfl⟩
    · go_enter Tryz.func111, Tryz.ntmps111
      go_wp2
      go_ret
      exact ⟨ret_bool (decide_eq_false (by have := hz.out; unfold FairN; omega)).symm, rfl⟩
  · go_enter Tryz.func111, Tryz.ntmps111
    go_wp2
    go_ret
    exact ⟨ret_bool (decide_eq_false (by have := hz.out; unfold FairN; omega)).symm, rfl⟩

theorem wrongFile_any (A : Option Addr) (c : Nat) (l : List UInt8) (s : Int) (w : World) (hs : l.length ≤ 9223372036854775807) :
    Calls Tryz.prog 83 #[.agg #[.slice A l.length c, .int .i64 s]] w fun e w' => e = .returned (.bool (!decide (FileOk ⟨l, s⟩))) ∧ Below w.heap.size w w' := by
  have hb : ∀ x, Below w.heap.size w (w.alloc x) := fun x => (Below.refl _ _).alloc (Nat.le_refl _) _
  by_cases h1 : (20000 : Int) < (l.length : Int)
  · go_enter Tryz.func83, Tryz.ntmps83
    go_wp2
    go_ret
    exact ⟨ret_bool (by rw [show decide (FileOk ⟨l, s⟩) = false from decide_eq_false (by unfold FileOk; simp only; omega)]; rfl), hb _⟩
  by_cases h2 : s < 0
  · go_enter Tryz.func83, Tryz.ntmps83
    go_wp2
    go_ret
    exact ⟨ret_bool (by rw [show decide (FileOk ⟨l, s⟩) = false from decide_eq_false (by unfold FileOk; simp only; omega)]; rfl), hb _⟩
  by_cases h3 : (l.length : Int) < s
  · go_enter Tryz.func83, Tryz.ntmps83
    go_wp2
    go_ret
    exact ⟨ret_bool (by rw [show decide (FileOk ⟨l, s⟩) = false from decide_eq_false (by unfold FileOk; simp only; omega)]; rfl), hb _⟩
  · go_enter Tryz.func83, Tryz.ntmps83
    go_wp2
    go_ret
    exact ⟨ret_bool (by rw [show decide (FileOk ⟨l, s⟩) = true from decide_eq_true (by unfold FileOk; simp only; omega)]; rfl), hb _⟩

/-! ### Index and Contains, for any function -/
/-- What an index tells: the first place where p holds, and how far it went. -/
def IxR (n : Nat) (p : Nat → Bool) (I : Nat → World → Prop) (e : Ending) (w' : World) : Prop :=
  (∃ j : Nat, j < n ∧ e = .returned (.int .i64 (j : Int)) ∧ p j = true ∧ (∀ i, i < j → p i = false) ∧ I (j + 1) w') ∨ (e = .returned (.int .i64 (-1)) ∧ (∀ i, i < n → p i = false) ∧ I n w')
def CtR (n : Nat) (p : Nat → Bool) (I : Nat → World → Prop) (e : Ending) (w' : World) : Prop :=
  (∃ j : Nat, j < n ∧ e = .returned (.bool true) ∧ p j = true ∧ (∀ i, i < j → p i = false) ∧ I (j + 1) w') ∨ (e = .returned (.bool false) ∧ (∀ i, i < n → p i = false) ∧ I n w')
theorem none_step {p : Nat → Bool} {k : Nat} (h : ∀ i, i < k → p i = false) (hk : p k = false) : ∀ i, i < k + 1 → p i = false := fun i hi => by
  rcases Nat.lt_or_ge i k with h' | h'
  · exact h i h'
  · obtain rfl : i = k := by omega
    exact hk

set_option maxHeartbeats 400000 in
theorem indexE_gen (K g : Nat) (hE : ∀ args W, (callFunc K args).run Tryz.prog W = .ok (.enter K args) W) (U : Nat) (A : Option Addr) (n c : Nat) (l : List E) (p : Nat → Bool) (I : Nat → World → Prop) (w : World) (h0 : RdE U w A n c l)
    (h : ∀ k W, I k W → RdE U W A n c l) (hI : I 0 w)
    (hK : ∀ k s f W, l[k]? = some (s, f) → I k W → Calls Tryz.prog K #[.agg #[.string (ba s), .int .i64 f], .pointer (some ⟨g, 0, none⟩)] W fun e W' => e = .returned (.bool (p k)) ∧ I (k + 1) W') :
    Calls Tryz.prog 77 #[.slice A n c, .func (.func K) #[] #[.pointer (some ⟨g, 0, none⟩)]] w (IxR n p I) := by
  have hm := h0.max
  have hcap := h0.cap
  have HK := Lib.hid hK
  have HR := Lib.hid h
  have HEN := Lib.hid hE
  clear hK h h0 hE
  go_enter Tryz.func77, Tryz.ntmps77
  go_wp2
  go_loopw [8] (fun i wr => ∃ k : Nat, k ≤ n ∧ i = .int .i64 k ∧ (∀ i, i < k → p i = false) ∧ I k wr) (fun i _ => n - (intOf i).toNat)
  case atStart => exact ⟨0, by omega, rfl, fun i hi => absurd hi (Nat.not_lt_zero _), hI⟩
  case round =>
    obtain ⟨k, hk, rfl, hs, hIk⟩ := hrel
    have HS := Lib.hid hs
    clear hs
    by_cases hlt : k < n
    · obtain ⟨b, o, s, f, rfl, _, HE, c1, c2⟩ := atE (HR.out k wr hIk) hlt
      have HC := Lib.hid (HK.out k s f wr HE.out hIk)
      clear HE
      go_wp2_with fail
      rw [HEN.out, Oper.upon_enter]
      refine HC.out.mono ?_
      rintro e w1 ⟨rfl, hI1⟩
      have HP : Hid (p k = p k) := rfl
      generalize hp : p k = b1 at HP
      cases b1 with
      | true =>
        have HT := Lib.hid hp
        clear hp
        go_wp2
        go_ret
        exact .inl ⟨k, hlt, rfl, HT.out, HS.out, hI1⟩
      | false =>
        have HT := Lib.hid hp
        clear hp
        go_wp2
        go_roundw
        case rel => exact ⟨k + 1, by omega, by go_num, none_step HS.out HT.out, hI1⟩
        case measure => simp [intOf]; omega
    · obtain rfl : k = n := by omega
      go_wp2
      go_ret
      exact .inr ⟨rfl, HS.out, hIk⟩

theorem containsE_gen (K g : Nat) (hE : ∀ args W, (callFunc K args).run Tryz.prog W = .ok (.enter K args) W) (U : Nat) (A : Option Addr) (n c : Nat) (l : List E) (p : Nat → Bool) (I : Nat → World → Prop) (w : World) (h0 : RdE U w A n c l)
    (h : ∀ k W, I k W → RdE U W A n c l) (hI : I 0 w)
    (hK : ∀ k s f W, l[k]? = some (s, f) → I k W → Calls Tryz.prog K #[.agg #[.string (ba s), .int .i64 f], .pointer (some ⟨g, 0, none⟩)] W fun e W' => e = .returned (.bool (p k)) ∧ I (k + 1) W') :
    Calls Tryz.prog 112 #[.slice A n c, .func (.func K) #[] #[.pointer (some ⟨g, 0, none⟩)]] w (CtR n p I) := by
  have HC := Lib.hid (indexE_gen K g hE U A n c l p I w h0 h hI hK)
  clear hK h h0
  go_enter Tryz.func112, Tryz.ntmps112
  go_wp2_with fail
  refine HC.out.mono ?_
  rintro e w1 (⟨j, hj, rfl, h1, h2, h3⟩ | ⟨rfl, h2, h3⟩)
  · have H2 := Lib.hid h2
    have H1 := Lib.hid h1
    have hj0 : (0 : Int) ≤ (j : Int) := by omega
    clear h1 h2
    go_wp2
    go_ret
    exact .inl ⟨j, hj, rfl, H1.out, H2.out, h3⟩
  · have H2 := Lib.hid h2
    clear h2
    go_wp2
    go_ret
    exact .inr ⟨rfl, H2.out, h3⟩

/-! ### Files that are wrong -/
def allOk (l : List F) : Prop := ∀ f ∈ l, FileOk f
instance (l : List F) : Decidable (allOk l) := by unfold allOk; infer_instance
set_option maxHeartbeats 400000 in
theorem indexF_any (A : Option Addr) (n c : Nat) (xs : List Fv) (w : World) (h : RdF w.heap.size w A n c xs) :
    Calls Tryz.prog 110 #[.slice A n c, .func (.func 83) #[] #[]] w fun e w' => (∃ i : Int, e = .returned (.int .i64 i) ∧ decide (0 ≤ i) = !decide (allOk (fsOf xs))) ∧ Below w.heap.size w w' := by
  have hl := Lib.hid h.len
  have hm := h.max
  have hcap := h.cap
  go_enter Tryz.func110, Tryz.ntmps110
  go_wp2
  go_loopw [8] (fun i wr => ∃ k : Nat, k ≤ n ∧ i = .int .i64 k ∧ allOk (fsOf (xs.take k)) ∧ Below w.heap.size w wr) (fun i _ => n - (intOf i).toNat)
  case atStart => exact ⟨0, by omega, rfl, (fun f hf => by cases hf), Below.refl _ _⟩
  case round =>
    obtain ⟨k, hk, rfl, hs, hbw⟩ := hrel
    have HS := Lib.hid hs
    clear hs
    by_cases hlt : k < n
    · obtain ⟨b, o, x, rfl, _, HE, hbs, c1, c2⟩ := atF (h.below hbw) hlt
      have HT : Hid (xs.take (k + 1) = xs.take k ++ [x]) := by
        show _ = _
        rw [List.take_add_one, HE.out]
        rfl
      have hmx : x.l.length ≤ 9223372036854775807 := by have h1 := hbs.bs.max; have h2 := hbs.bs.cap; omega
      have HM := Lib.hid (List.mem_of_getElem? HE.out)
      have HC := Lib.hid (wrongFile_any x.A x.c x.l x.s wr hmx)
      have hsz := hbw.size
      clear HE hbs hmx
      go_wp2_with fail
      refine HC.out.mono ?_
      rintro e w1 ⟨rfl, hb1⟩
      have hb01 := hbw.trans (hb1.mono hsz)
      by_cases he : FileOk ⟨x.l, x.s⟩
      · have H : Hid (allOk (fsOf (xs.take (k + 1)))) := by
          show allOk _
          rw [HT.out]
          unfold allOk fsOf
          rw [List.map_append]
          intro f hf
          rcases List.mem_append.1 hf with hf | hf
          · exact HS.out f hf
          · simp at hf
            subst hf
            exact he
        have hd : decide (FileOk ⟨x.l, x.s⟩) = true := decide_eq_true he
        rw [hd]
        clear he hd
        go_wp2
        go_roundw
        case rel => exact ⟨k + 1, by omega, by go_num, H.out, hb01⟩
        case measure => simp [intOf]; omega
      · have H : Hid (decide (allOk (fsOf xs)) = false) := decide_eq_false fun k => he (k _ (List.mem_map.2 ⟨x, HM.out, rfl⟩))
        have hd : decide (FileOk ⟨x.l, x.s⟩) = false := decide_eq_false he
        rw [hd]
        clear he hd
        go_wp2
        go_ret
        exact ⟨⟨_, rfl, by rw [H.out]; simp⟩, hb01⟩
    · obtain rfl : k = n := by omega
      have H : Hid (decide (allOk (fsOf xs)) = true) := decide_eq_true (by have := HS.out; rwa [List.take_of_length_le (by rw [hl.out]; exact Nat.le_refl _)] at this)
      go_wp2
      go_ret
      exact ⟨⟨_, rfl, by rw [H.out]; rfl⟩, hbw⟩
theorem containsF_any (A : Option Addr) (n c : Nat) (xs : List Fv) (w : World) (h : RdF w.heap.size w A n c xs) :
    Calls Tryz.prog 82 #[.slice A n c, .func (.func 83) #[] #[]] w fun e w' => e = .returned (.bool (!decide (allOk (fsOf xs)))) ∧ Below w.heap.size w w' := by
  have HC := Lib.hid (indexF_any A n c xs w h)
  clear h
  go_enter Tryz.func82, Tryz.ntmps82
  go_wp2_with fail
  refine HC.out.mono ?_
  rintro e w1 ⟨⟨i, rfl, hi⟩, hb1⟩
  have HI := Lib.hid hi
  clear hi
  go_wp2
  go_ret
  exact ⟨ret_bool HI.out, hb1⟩
end Go.Proofs.YtlefpodonkdbeaaGreat.Dw
end
/- What disk.rightEntries comes to. For all inputs. -/
section
set_option maxRecDepth 8000
namespace Go.Proofs.YtlefpodonkdbeaaGreat.Dw
open Go.RowKit By Dk

theorem rd_first {α : Type} {Y : Lay α} {U n c : Nat} {w : World} {A : Option Addr} {l : List α} (h : RdG Y U w A n c l) {k : Nat} (hk : k ≤ n) : RdG Y U w A k c (l.take k) := by
  have hl := h.len
  refine ⟨by rw [List.length_take]; omega, Nat.le_trans hk h.cap, h.2.2.1, fun hn => ?_⟩
  obtain ⟨b, o, e, hU, hc⟩ := h.2.2.2 (by omega)
  refine ⟨b, o, e, hU, fun i hi => ?_⟩
  have e2 : Y.cells (l.take k) = (Y.cells l).take (k * Y.s) := Y.cells_take l k (by omega)
  have hi2 := hi
  rw [e2, List.length_take] at hi2
  rw [hc i (by omega)]
  simp only [e2, List.getElem_take]
theorem less_yes {a b : N} (h : a < b) : Op.bytesLess (ba a).toList (ba b).toList = true := by rw [bytesLess_eq, ba_list, ba_list]; exact decide_eq_true h
theorem less_no {a b : N} (h : ¬ a < b) : Op.bytesLess (ba a).toList (ba b).toList = false := by rw [bytesLess_eq, ba_list, ba_list]; exact decide_eq_false h
theorem same_yes {a b : N} (h : a = b) : ((ba a).toList == (ba b).toList) = true := by rw [ba_list, ba_list]; simpa using h
theorem same_no {a b : N} (h : ¬ a = b) : ((ba a).toList == (ba b).toList) = false := by rw [ba_list, ba_list]; simpa using h
theorem same_is (a b : N) : ((ba a).toList == (ba b).toList) = decide (a = b) := by
  by_cases h : a = b
  · rw [same_yes h, decide_eq_true h]
  · rw [same_no h, decide_eq_false h]

theorem earlier_is (s : N) (f : Int) (fe : Int) (g : Nat) (w : World) (hg : g < w.heap.size) (hc : w.cell? ⟨g, 1, none⟩ = some (.int .i64 fe)) :
    Calls Tryz.prog 113 #[.agg #[.string (ba s), .int .i64 f], .pointer (some ⟨g, 0, none⟩)] w fun e w' => e = .returned (.bool (f == fe)) ∧ Below w.heap.size w w' := by
  have hne : g ≠ w.heap.size := by omega
  go_enter Tryz.func113, Tryz.ntmps113
  go_wp2
  go_ret
  exact ⟨by simp, (Below.refl _ _).alloc (Nat.le_refl _) _⟩

def hitE (q : E → Bool) (l : List E) (i : Nat) : Bool := match l[i]? with
  | some e => q e
  | none => false
theorem hit_at {q : E → Bool} {l : List E} {i : Nat} {e : E} (h : l[i]? = some e) : hitE q l i = q e := by unfold hitE; rw [h]
theorem hit_none {q : E → Bool} {l : List E} (h : ∀ i, i < l.length → hitE q l i = false) : ∀ e ∈ l, q e = false := fun e he => by
  obtain ⟨i, hi⟩ := List.mem_iff_getElem?.1 he
  rw [← hit_at (q := q) hi]
  exact h i (List.getElem?_eq_some_iff.1 hi).1
theorem hit_some {q : E → Bool} {l : List E} {i : Nat} (h : hitE q l i = true) : ∃ e, l[i]? = some e ∧ q e = true := by
  unfold hitE at h
  split at h
  · next e he => exact ⟨e, he, h⟩
  · cases h

theorem contains_file (U : Nat) (A : Option Addr) (n c : Nat) (l : List E) (fe : Int) (g : Nat) (w : World) (h : RdE U w A n c l) (hU : U ≤ w.heap.size) (hg : g < w.heap.size) (hc : w.cell? ⟨g, 1, none⟩ = some (.int .i64 fe)) :
    Calls Tryz.prog 112 #[.slice A n c, .func (.func 113) #[] #[.pointer (some ⟨g, 0, none⟩)]] w fun e w' => e = .returned (.bool (decide (fe ∈ filesOf l))) ∧ Below w.heap.size w w' := by
  have hl := h.len
  refine (containsE_gen 113 g Tryz.call113 U A n c l (hitE (fun e => e.2 == fe) l) (fun _ W => Below w.heap.size w W) w h (fun _ W hW => h.below (hW.mono hU)) (Below.refl _ _) (fun k s f W hk hW => ?_)).mono ?_
  · refine (earlier_is s f fe g W (Nat.lt_of_lt_of_le hg hW.size) ((hW.cell (p := ⟨g, 1, none⟩) hg).trans hc)).mono ?_
    rintro e W' ⟨rfl, hb⟩
    exact ⟨by rw [hit_at hk], hW.trans (hb.mono hW.size)⟩
  · rintro e W' (⟨j, hj, rfl, h1, _, h3⟩ | ⟨rfl, h2, h3⟩)
    · obtain ⟨x, hx, hq⟩ := hit_some h1
      refine ⟨ret_bool (decide_eq_true ?_).symm, h3⟩
      exact List.mem_map.2 ⟨x, List.mem_of_getElem? hx, by simpa using hq⟩
    · refine ⟨ret_bool (decide_eq_false fun hm => ?_).symm, h3⟩
      obtain ⟨x, hx, hq⟩ := List.mem_map.1 hm
      have := hit_none (q := fun e => e.2 == fe) (l := l) (by rw [hl]; exact h2) x hx
      simp at this
      exact this hq

set_option maxHeartbeats 1000000 in
theorem rightEntries_any (A : Option Addr) (n c : Nat) (l : List E) (m : Nat) (w : World) (h : RdE w.heap.size w A n c l) (hsm : ∀ e ∈ l, e.1.length ≤ 9223372036854775807) :
    Calls Tryz.prog 84 #[.slice A n c, .int .i64 (m : Int)] w fun e w' => e = .returned (.bool (decide (Named l m))) ∧ Below w.heap.size w w' := by
  have hl := Lib.hid h.len
  have hm := h.max
  have hcap := h.cap
  have HSM := Lib.hid hsm
  clear hsm
  go_enter Tryz.func84, Tryz.ntmps84
  go_wp2
  go_loopw [9] (fun i wr => ∃ k : Nat, k ≤ n ∧ i = .int .i64 k ∧ Named (l.take k) m ∧ Below w.heap.size w wr) (fun i _ => n - (intOf i).toNat)
  case atStart => exact ⟨0, by omega, rfl, ⟨(fun e he => by cases he), List.Pairwise.nil⟩, Below.refl _ _⟩
  case round =>
    obtain ⟨k, hk, rfl, hs, hbw⟩ := hrel
    have HS := Lib.hid hs
    clear hs
    by_cases hlt : k < n
    · have hR := h.below hbw
      have hA2 := rd_first hR hk
      obtain ⟨b, o, s, f, rfl, hblt, HE, c1, c2⟩ := atE hR hlt
      have hsz := hbw.size
      have hss : s.length ≤ 9223372036854775807 := HSM.out _ (List.mem_of_getElem? HE.out)
      have hba : Below w.heap.size w (wr.alloc (.cells #[.string (ba s), .int .i64 f] 68)) := hbw.alloc hsz _
      by_cases hfair : FairN s
      rotate_left
      · have H := Lib.hid (decide_eq_false (named_no (m := m) HE.out fun k => hfair k.1))
        have hd : decide (FairN s) = false := decide_eq_false hfair
        have HRN := rightName_any s (wr.alloc (.cells #[.string (ba s), .int .i64 f] 68)) hss
        rw [hd] at HRN
        clear hd hfair
        go_wp2_with fail
        refine HRN.mono ?_
        rintro e w1 ⟨rfl, rfl⟩
        go_wp2
        go_ret
        exact ⟨ret_bool H.out.symm, hba⟩
      have hd : decide (FairN s) = true := decide_eq_true hfair
      have HRN := rightName_any s (wr.alloc (.cells #[.string (ba s), .int .i64 f] 68)) hss
      rw [hd] at HRN
      have HRN := Lib.hid HRN
      clear hd
      by_cases h0 : f < 0
      · have H := Lib.hid (decide_eq_false (named_no (m := m) HE.out fun k => by omega))
        go_wp2_with fail
        refine HRN.out.mono ?_
        rintro e w1 ⟨rfl, rfl⟩
        go_wp2
        go_ret
        exact ⟨ret_bool H.out.symm, hba⟩
      by_cases h1 : (m : Int) ≤ f
      · have H := Lib.hid (decide_eq_false (named_no (m := m) HE.out fun k => by omega))
        go_wp2_with fail
        refine HRN.out.mono ?_
        rintro e w1 ⟨rfl, rfl⟩
        go_wp2
        go_ret
        exact ⟨ret_bool H.out.symm, hba⟩
      have hg1 : wr.heap.size < (wr.alloc (.cells #[.string (ba s), .int .i64 f] 68)).heap.size := by simp
      have HCT : Hid (∀ q, Calls Tryz.prog 112 #[.slice (some ⟨b, o, none⟩) k c, .func (.func 113) #[] #[.pointer (some ⟨wr.heap.size, 0, none⟩)]] ((wr.alloc (.cells #[.string (ba s), .int .i64 f] 68)).drewN q) fun e w' => e = .returned (.bool (decide (f ∈ filesOf (l.take k)))) ∧ Below wr.heap.size wr w') := fun q => by
        have hb2 : Below wr.heap.size wr (wr.alloc (.cells #[.string (ba s), .int .i64 f] 68)) := (Below.refl _ _).alloc (Nat.le_refl _) _
        refine (contains_file w.heap.size _ k c (l.take k) f wr.heap.size _ ((hA2.below (hb2.mono hsz)).below (below_drewN (Below.refl _ _) q)) (Nat.le_trans hsz hb2.size) hg1 (by show World.cell? (wr.alloc _) _ = _; simp)).mono ?_
        rintro e w' ⟨rfl, hb3⟩
        exact ⟨rfl, (below_drewN hb2 q).trans (hb3.mono hb2.size)⟩
      have hc3 : (wr.alloc (.cells #[.string (ba s), .int .i64 f] 68)).cell? ⟨wr.heap.size, 0, none⟩ = some (.string (ba s)) := by simp
      by_cases hk0 : k = 0
      · subst hk0
        rw [Nat.zero_mul, Nat.add_zero] at c1 c2
        have hd : decide (f ∈ filesOf (l.take 0)) = false := decide_eq_false (fun k => by cases k)
        rw [hd] at HCT
        have H : Hid (Named (l.take (0 + 1)) m) := by
          show Named _ _
          rw [take_next HE.out]
          exact named_snoc HS.out hfair (by omega) (by omega) (fun x hx => by cases hx) (fun x hx => by cases hx)
        clear hd hfair
        go_wp2_with fail
        refine HRN.out.mono ?_
        rintro e w1 ⟨rfl, rfl⟩
        go_wp2_with fail
        go_quiet (fail)
        go_wp2_with fail
        refine (HCT.out _).mono ?_
        rintro e w1 ⟨rfl, hb3⟩
        go_wp2
        go_roundw
        case rel => exact ⟨1, by omega, by go_num, H.out, hbw.trans (hb3.mono hsz)⟩
        case measure => simp [intOf]; omega
      obtain ⟨j, rfl⟩ : ∃ j, k = j + 1 := ⟨k - 1, by omega⟩
      obtain ⟨b', o', t, g, eA, _, HE2, d1, d2⟩ := atE hR (k := j) (by omega)
      obtain ⟨rfl, rfl⟩ : b = b' ∧ o = o' := by
        simp only [Option.some.injEq, Addr.mk.injEq, and_true] at eA
        exact eA
      clear eA d2
      have hblr : b < wr.heap.size := World.block_lt_of_cell? wr _ d1
      have d1' : (wr.alloc (.cells #[.string (ba s), .int .i64 f] 68)).cell? ⟨b, o + j * 2, none⟩ = some (.string (ba t)) := (World.cell?_alloc_lt wr _ ⟨b, o + j * 2, none⟩ hblr).trans d1
      by_cases hts : t < s
      rotate_left
      · have H := Lib.hid (decide_eq_false (named_no_lt (m := m) HE2.out HE.out hts))
        have hl0 := less_no hts
        clear hts hfair
        go_wp2_with fail
        refine HRN.out.mono ?_
        rintro e w1 ⟨rfl, rfl⟩
        go_wp2_with fail
        go_quiet (fail)
        go_wp2
        go_ret
        exact ⟨ret_bool H.out.symm, below_drewN hba _⟩
      have hl1 := less_yes hts
      have HB := Lib.hid (all_below HS.out.2 HE2.out hts)
      clear hts
      by_cases hin : f ∈ filesOf (l.take (j + 1))
      · have hd : decide (f ∈ filesOf (l.take (j + 1))) = true := decide_eq_true hin
        rw [hd] at HCT
        have H : Hid (decide (Named l m) = false) := decide_eq_false (by
          obtain ⟨⟨t', g'⟩, hx, hg'⟩ := List.mem_map.1 hin
          obtain ⟨i, hi⟩ := List.mem_iff_getElem?.1 hx
          have hi1 := (List.getElem?_eq_some_iff.1 hi).1
          rw [List.length_take] at hi1
          rw [List.getElem?_take, if_pos (by omega)] at hi
          simp only at hg'
          subst hg'
          exact named_no_file HE.out (by omega) hi)
        clear hd hin hfair
        go_wp2_with fail
        refine HRN.out.mono ?_
        rintro e w1 ⟨rfl, rfl⟩
        go_wp2_with fail
        go_quiet (fail)
        go_wp2_with fail
        refine (HCT.out _).mono ?_
        rintro e w1 ⟨rfl, hb3⟩
        go_wp2
        go_ret
        exact ⟨ret_bool H.out.symm, hbw.trans (hb3.mono hsz)⟩
      · have hd : decide (f ∈ filesOf (l.take (j + 1))) = false := decide_eq_false hin
        rw [hd] at HCT
        have H : Hid (Named (l.take (j + 1 + 1)) m) := by
          show Named _ _
          rw [take_next HE.out]
          exact named_snoc HS.out hfair (by omega) (by omega) HB.out (fun x hx k => hin (List.mem_map.2 ⟨x, hx, k⟩))
        clear hd hin hfair
        go_wp2_with fail
        refine HRN.out.mono ?_
        rintro e w1 ⟨rfl, rfl⟩
        go_wp2_with fail
        go_quiet (fail)
        go_wp2_with fail
        refine (HCT.out _).mono ?_
        rintro e w1 ⟨rfl, hb3⟩
        go_wp2
        go_roundw
        case rel => exact ⟨j + 1 + 1, by omega, by go_num, H.out, hbw.trans (hb3.mono hsz)⟩
        case measure => simp [intOf]; omega
    · obtain rfl : k = n := by omega
      have H : Hid (decide (Named l m) = true) := decide_eq_true (by have := HS.out; rwa [List.take_of_length_le (by rw [hl.out]; exact Nat.le_refl _)] at this)
      go_wp2
      go_ret
      exact ⟨ret_bool H.out.symm, hbw⟩
end Go.Proofs.YtlefpodonkdbeaaGreat.Dw
end
/- What disk's normalizer comes to: slices.Index at ints, number, stays, normalized. For disks of up to 1000 entries. -/
section
set_option maxRecDepth 8000
namespace Go.Proofs.YtlefpodonkdbeaaGreat.Dw
open Go.RowKit By Dk

/-! ### Memory -/
theorem cel_fr {w : World} {g : Nat} {t : TypeId} {cs : Array Value} (h : Cel w g t cs) (i : Nat) : w.frozen? ⟨g, i, none⟩ = false := by
  unfold Cel at h
  simp [World.frozen?, h]
theorem cel_put {w : World} {g : Nat} {t : TypeId} {cs : Array Value} (h : Cel w g t cs) (i : Nat) (v : Value) : Cel (w.setCell ⟨g, i, none⟩ v) g t (cs.setIfInBounds i v) := by
  unfold Cel at *
  rw [setCell_eq_setRow w g i cs t (0, 0) v h]
  exact setRow_heap w g cs _ t _ h
theorem grown_set (w : World) (g j : Nat) (v : Value) : w.grownBy (w.setCell ⟨g, j, none⟩ v) (some g) :=
  ⟨rfl, rfl, rfl, by simp, fun k _ hne => Below.heap_setCell w ⟨g, j, none⟩ v k (fun e => hne (by rw [e]))⟩
/-- What a row's own block holds. -/
theorem own_cells {B e s n : Nat} {w : World} {v : Value} {xs : List Value} (h : w.ownsRow B e s v n xs) {k : Nat} (hk : v.ownBlock = some k) : ∃ cur, w.heap[k]? = some (.cells cur e (0, 0)) := by
  rcases h.2 with ⟨rfl, _⟩ | ⟨g, cap, cur, rfl, _, hg, _⟩
  · simp [Value.ownBlock] at hk
  · simp [Value.ownBlock] at hk
    subst hk
    exact ⟨cur, hg⟩
/-- Blocks of other types than ints and normalizers stay. -/
def KeepT (W W' : World) : Prop := ∀ (i : Nat) (cs : Array Value) (t : TypeId) (fr : Nat × Nat), W.heap[i]? = some (.cells cs t fr) → t ≠ 3 → t ≠ 108 → W'.heap[i]? = W.heap[i]?
theorem KeepT.refl (W : World) : KeepT W W := fun _ _ _ _ _ _ _ => rfl
theorem lt_of_heap {W : World} {i : Nat} {o : Obj} (h : W.heap[i]? = some o) : i < W.heap.size := by
  rcases Nat.lt_or_ge i W.heap.size with k | k
  · exact k
  · rw [Array.getElem?_eq_none k] at h; cases h
theorem KeepT.of_below {W W' : World} (h : Below W.heap.size W W') : KeepT W W' := fun i _ _ _ hc _ _ => h.block i (lt_of_heap hc)
theorem KeepT.trans {W W' W'' : World} (h : KeepT W W') (k : KeepT W' W'') : KeepT W W'' := fun i cs t fr hc h1 h2 => (k i cs t fr ((h i cs t fr hc h1 h2).trans hc) h1 h2).trans (h i cs t fr hc h1 h2)
theorem KeepT.grown {W W' : World} {r : Option Nat} (hg : W.grownBy W' r) (hr : ∀ i, r = some i → ∃ cs t, W.heap[i]? = some (.cells cs t (0, 0)) ∧ (t = 3 ∨ t = 108)) : KeepT W W' := fun i cs t fr hc h1 h2 => by
  refine hg.block i (lt_of_heap hc) fun e => ?_
  obtain ⟨cs', t', hc', ht⟩ := hr i e.symm
  rw [hc] at hc'
  injection hc' with hc'
  injection hc' with _ e2
  subst e2
  rcases ht with ht | ht
  · exact h1 ht
  · exact h2 ht
theorem KeepT.cel {W W' : World} (h : KeepT W W') {g : Nat} {t : TypeId} {cs : Array Value} (hc : Cel W g t cs) (h1 : t ≠ 3) (h2 : t ≠ 108) : Cel W' g t cs := (h g cs t (0, 0) hc h1 h2).trans hc
theorem KeepT.own {W W' : World} (h : KeepT W W') {α : Type} {Y : Lay α} {e B : Nat} {A : Option Addr} {n c : Nat} {l : List α} (ho : OwnG Y e B W A n c l) (h1 : e ≠ 3) (h2 : e ≠ 108) : OwnG Y e B W' A n c l := by
  refine ⟨⟨ho.1.1, ?_⟩, ho.2⟩
  rcases ho.1.2 with h' | ⟨g, cap, cur, e1, e2, e3, e4⟩
  · exact .inl h'
  · exact .inr ⟨g, cap, cur, e1, e2, (h g cur e (0, 0) e3 h1 h2).trans e3, e4⟩

/-! ### Ints -/
def intV (l : List Int) : List Value := l.map fun x => .int .i64 x
theorem intV_len (l : List Int) : (intV l).length = l.length := List.length_map ..
theorem intV_get {l : List Int} {k : Nat} (h : k < l.length) : (intV l)[k]'(by rw [intV_len]; exact h) = .int .i64 l[k] := by simp [intV]
theorem elI : ElP Tryz.prog 39 3 (.int .i64 0) 8 := ⟨Tryz.underlying39, by kernel_rfl, rfl⟩
def ixI (l : List Int) (f : Int) : Int := if f ∈ l then idx l f else -1
theorem idx_hit {l : List Int} {k : Nat} {f : Int} (h : k < l.length) (he : l[k] = f) (hn : f ∉ l.take k) : f ∈ l ∧ idx l f = (k : Int) := by
  have hm : f ∈ l := he ▸ List.getElem_mem h
  refine ⟨hm, ?_⟩
  unfold idx
  have h1 : l = l.take k ++ l.drop k := (List.take_append_drop k l).symm
  have h2 : l.drop k = f :: l.drop (k + 1) := by rw [List.drop_eq_getElem_cons h, he]
  have h3 : l.idxOf f = k := by
    rw [h1, List.idxOf_append, if_neg hn, h2, List.idxOf_cons_self, List.length_take]
    omega
  rw [h3]
set_option maxHeartbeats 400000 in
theorem indexI_any (A : Option Addr) (n c : Nat) (l : List Int) (f : Int) (w : World) (h : Rd w A n c (intV l)) :
    Calls Tryz.prog 118 #[.slice A n c, .int .i64 f] w fun e w' => e = .returned (.int .i64 (ixI l f)) ∧ w = w' := by
  have hl : Hid (l.length = n) := by have := h.len; rwa [intV_len] at this
  have hm := h.max
  have hcap := h.cap
  go_enter Tryz.func118, Tryz.ntmps118
  go_wp2
  go_loop [8] (fun i => ∃ k : Nat, k ≤ n ∧ i = .int .i64 k ∧ f ∉ l.take k) (fun i => n - (intOf i).toNat)
  case atStart => exact ⟨0, by omega, rfl, by simp⟩
  case round =>
    obtain ⟨k, hk, rfl, hs⟩ := hrel
    have HS := Lib.hid hs
    clear hs
    by_cases hlt : k < n
    · obtain ⟨b, o, rfl, hc⟩ := h.at_ hlt
      have hkl : k < l.length := by have := hl.out; omega
      have hcell := hc k (by rw [intV_len]; exact hkl)
      rw [intV_get hkl] at hcell
      clear hc
      by_cases he : l[k] = f
      · have H : Hid (ixI l f = (k : Int)) := by
          obtain ⟨h1, h2⟩ := idx_hit hkl he HS.out
          show ixI l f = _
          unfold ixI
          rw [if_pos h1, h2]
        rw [he] at hcell
        clear he hkl
        go_wp2
        go_ret
        exact ⟨ret_int H.out.symm, rfl⟩
      · have H : Hid (f ∉ l.take (k + 1)) := by
          show ¬ _
          rw [List.take_succ_eq_append_getElem hkl]
          intro hm
          rcases List.mem_append.1 hm with hm | hm
          · exact HS.out hm
          · simp at hm; exact he hm.symm
        have hb : (f == l[k]) = false := by simp; exact fun e => he e.symm
        clear he
        generalize l[k] = y at hcell hb
        clear hkl
        go_wp2
        go_round
        case rel => exact ⟨k + 1, by omega, by go_num, H.out⟩
        case measure => simp [intOf]; omega
    · obtain rfl : k = n := by omega
      have H : Hid (ixI l f = -1) := if_neg (by have := HS.out; rwa [List.take_of_length_le (by rw [hl.out]; exact Nat.le_refl _)] at this)
      go_wp2
      go_ret
      exact ⟨ret_int H.out.symm, rfl⟩

/-! ### The normalizer -/
/-- The normalizer at g: its disk, and the numbers that have come up, in a row of its own. -/
def Nz (B g : Nat) (W : World) (x : Dv) (acc : List Int) : Prop := g < B ∧ ∃ A n c, Cel W g 108 #[.slice x.fA x.fn x.fc, .slice x.nA x.nn x.nc, .slice x.kA x.kn x.kc, .slice A n c] ∧ OwnV 3 B W A n c (intV acc)
theorem Nz.below {B g : Nat} {W W' : World} {x : Dv} {acc : List Int} (h : Nz B g W x acc) (hb : Below W.heap.size W W') : Nz B g W' x acc := by
  obtain ⟨h1, A, n, c, h2, h3⟩ := h
  exact ⟨h1, A, n, c, h2.below hb h2.lt, h3.below hb⟩
def NumR (B g : Nat) (W : World) (x : Dv) (acc : List Int) (f : Int) (e : Ending) (W' : World) : Prop := e = .returned (.int .i64 (idx acc f)) ∧ Nz B g W' x (addF acc f) ∧ Below g W W' ∧ KeepT W W'
theorem ownV_keep {e B n c : Nat} {w : World} {A : Option Addr} {xs : List Value} (h : OwnV e B w A n c xs) {g : Nat} (hg : g < B) (j : Nat) (v : Value) : OwnV e B (w.setCell ⟨g, j, none⟩ v) A n c xs := by
  refine World.ownsRow.kept h (grown_set w g j v) ?_
  by_cases k : (Value.slice A n c).ownBlock = none
  · exact .inl k
  · refine .inr fun k2 => ?_
    have := (World.ownsRow.lt h g k2).1
    omega
set_option maxHeartbeats 1000000 in
theorem number_any (B g : Nat) (W : World) (x : Dv) (acc : List Int) (f : Int) (h : Nz B g W x acc) (hB : B ≤ W.heap.size) (ha : acc.length ≤ 2000) :
    Calls Tryz.prog 95 #[.pointer (some ⟨g, 0, none⟩), .int .i64 f] W (NumR B g W x acc f) := by
  obtain ⟨hgB, A, n, c, hc, ho⟩ := h
  have hn : n = acc.length := by have := ho.len; rw [intV_len] at this; omega
  have hglt := hc.lt
  have k3 : W.cell? ⟨g, 3, none⟩ = some (.slice A n c) := by rw [hc.cell]; rfl
  have HI := Lib.hid (indexI_any A n c acc f W ho.rd)
  by_cases hf : f ∈ acc
  · have e1 := idx_in hf
    have H : Hid (ixI acc f = ((acc.idxOf f : Nat) : Int)) := by show ixI acc f = _; unfold ixI; rw [if_pos hf, e1.1]
    rw [H.out] at HI
    have HE := Lib.hid e1.1
    have HA := Lib.hid (add_in hf)
    have HO := Lib.hid ho
    have HC := Lib.hid hc
    clear hf e1 H ho hc hn
    generalize acc.idxOf f = j at HI HE
    go_enter Tryz.func95, Tryz.ntmps95
    go_wp2_with fail
    with_reducible refine HI.out.mono ?_
    rintro e w1 ⟨rfl, rfl⟩
    go_wp2
    go_ret
    refine ⟨ret_int HE.out.symm, ?_, Below.refl _ _, KeepT.refl _⟩
    rw [HA.out]
    exact ⟨hgB, A, n, c, HC.out, HO.out⟩
  · have H : Hid (ixI acc f = -1) := if_neg hf
    rw [H.out] at HI
    have HE := Lib.hid (idx_out hf)
    have HA := Lib.hid (add_out hf)
    have HN := Lib.hid hn
    have hnc := ho.rd.cap
    have hcm := ho.rd.max
    have hn2 : n ≤ 2000 := by omega
    clear hf H hn
    have hba : Below W.heap.size W (W.alloc (.cells #[.int .i64 f] 3)) := (Below.refl _ _).alloc (Nat.le_refl _) _
    have hlit := (OwnV.lit1 3 W (.int .i64 f)).rd
    have HO := Lib.hid (ho.below hba)
    have HC := Lib.hid (hc.below hba hglt)
    have HBL := Lib.hid (fun k hk => own_cells ho (k := k) hk)
    clear ho hc
    go_enter Tryz.func95, Tryz.ntmps95
    go_wp2_with fail
    with_reducible refine HI.out.mono ?_
    rintro e w1 ⟨rfl, rfl⟩
    go_wp2_with (at_builtin; refine wpList_appV elI rfl (.tmp 23) (.tmp 25) rfl rfl HO.out rfl hlit (by intro u hu; simp at hu; subst hu; rfl) (by unfold maxLen; omega) (by omega) (by simp; omega) ?_; intro A3 c3 w3 hown3 hb3 hg3 hw3; have hc3 : Cel w3 g 108 #[.slice x.fA x.fn x.fc, .slice x.nA x.nn x.nc, .slice x.kA x.kn x.kc, .slice A n c] := HC.out.grown hg3 (HC.out.not_row HO.out (by decide)); have k4 : w3.cell? ⟨g, 3, none⟩ = some (.slice A n c) := (by rw [hc3.cell]; rfl); have f4 := cel_fr hc3 3; have HC3 := Lib.hid hc3; have HO3 := Lib.hid hown3; clear hc3 hown3)
    go_ret
    refine ⟨ret_int (by rw [HE.out, HN.out]), ?_, ?_, ?_⟩
    · rw [HA.out]
      refine ⟨hgB, A3, n + 1, c3, cel_put HC3.out 3 _, ?_⟩
      have := ownV_keep HO3.out hgB 3 (.slice A3 (n + 1) c3)
      simpa [intV] using this
    · have b1 := hba.mono (show g ≤ W.heap.size by omega)
      have b2 := hb3.mono (show g ≤ B by omega)
      exact (b1.trans b2).setCell (p := ⟨g, 3, none⟩) (Nat.le_refl g) _
    · refine (KeepT.of_below hba).trans (KeepT.trans (KeepT.grown hg3 fun i hi => ?_) (KeepT.grown (grown_set _ _ _ _) fun i hi => ?_))
      · obtain ⟨cur, hcur⟩ := own_cells HO.out hi
        exact ⟨cur, _, hcur, .inl rfl⟩
      · injection hi with hi
        subst hi
        exact ⟨_, _, HC3.out, .inr rfl⟩

theorem below_undrewB {B : Nat} {w w' : World} (h : Below B w.drew w') : Below B w w' := ⟨h.os, h.tape, h.output, h.size, h.block⟩
theorem KeepT.undrew {w w' : World} (h : KeepT w.drew w') : KeepT w w' := fun i cs t fr hc h1 h2 => h i cs t fr hc h1 h2
theorem KeepT.cell {w w' : World} (h : KeepT w w') {g : Nat} {t : TypeId} {cs : Array Value} (hc : Cel w g t cs) (h1 : t ≠ 3) (h2 : t ≠ 108) (i : Nat) : w'.cell? ⟨g, i, none⟩ = cs[i]? := (h.cel hc h1 h2).cell i
/-- What one look of 'stays' comes to. -/
def St1R (B g : Nat) (W : World) (x : Dv) (acc : List Int) (f : Int) (e : Ending) (W' : World) : Prop := e = .returned (.bool (idx acc f != f)) ∧ Nz B g W' x (addF acc f) ∧ Below g W W' ∧ KeepT W W'
set_option maxHeartbeats 1000000 in
theorem stays1_any (B g gb : Nat) (W : World) (x : Dv) (acc : List Int) (s : N) (f : Int) (h : Nz B g W x acc) (hB : B ≤ W.heap.size) (ha : acc.length ≤ 2000) (hbx : Cel W gb 132 #[.pointer (some ⟨g, 0, none⟩)]) :
    Calls Tryz.prog 124 #[.agg #[.string (ba s), .int .i64 f], .pointer (some ⟨gb, 0, none⟩)] W (St1R B g W x acc f) := by
  obtain ⟨w1, hw1⟩ : ∃ w1, w1 = W.alloc (.cells #[.string (ba s), .int .i64 f] 68) := ⟨_, rfl⟩
  have hb1 : Below W.heap.size W w1 := by rw [hw1]; exact (Below.refl _ _).alloc (Nat.le_refl _) _
  have hc1 : Cel w1 W.heap.size 68 #[.string (ba s), .int .i64 f] := by rw [hw1]; exact Cel.born W _ _
  have hbx1 := hbx.below hb1 hbx.lt
  have hgW : g < W.heap.size := Nat.lt_of_lt_of_le h.1 hB
  have HNUM := Lib.hid (number_any B g w1.drew x acc f (h.below hb1.drew) (Nat.le_trans hB hb1.size) ha)
  have r1 : w1.cell? ⟨W.heap.size, 1, none⟩ = some (.int .i64 f) := by rw [hc1.cell]; rfl
  have r2 : w1.cell? ⟨gb, 0, none⟩ = some (.pointer (some ⟨g, 0, none⟩)) := by rw [hbx1.cell]; rfl
  have HB1 := Lib.hid hb1
  clear hbx hbx1 h hb1
  go_enter Tryz.func124, Tryz.ntmps124
  go_wp2_with fail
  rw [← hw1]
  clear hw1
  go_region_with ((go_at_call 95; refine HNUM.out.mono ?_; rintro e w2 ⟨rfl, hnz, hb2, hk2⟩; have hk3 := hk2.undrew; have s1 : w2.cell? ⟨W.heap.size, 1, none⟩ = some (.int .i64 f) := hk3.cell hc1 (by decide) (by decide) 1))
  all_goals (
    go_wp2
    go_ret
    exact ⟨rfl, hnz, (HB1.out.mono (by omega)).trans (below_undrewB hb2), (KeepT.of_below HB1.out).trans hk3⟩)

/-- Do the numbers of a list stay, from what has come up? -/
def staysB (acc : List Int) (l : List E) : Bool := decide (∀ i, i < l.length → hitE (fun e => idx (accAt acc l i) e.2 != e.2) l i = false)
def StR (B g : Nat) (W : World) (x : Dv) (acc : List Int) (l : List E) (e : Ending) (W' : World) : Prop :=
  ∃ acc', e = .returned (.bool (staysB acc l)) ∧ Nz B g W' x acc' ∧ (staysB acc l = true → acc' = firstsFrom acc (filesOf l)) ∧ Below g W W' ∧ KeepT W W'
theorem stays_any (B g : Nat) (W : World) (x : Dv) (acc : List Int) (A : Option Addr) (n c : Nat) (l : List E) (h : Nz B g W x acc) (hB : B ≤ W.heap.size) (ha : acc.length + l.length ≤ 2000) (hl : RdE g W A n c l) :
    Calls Tryz.prog 114 #[.pointer (some ⟨g, 0, none⟩), .slice A n c] W (StR B g W x acc l) := by
  have hgW : g < W.heap.size := Nat.lt_of_lt_of_le h.1 hB
  obtain ⟨w1, hw1⟩ : ∃ w1, w1 = W.alloc (.cells #[.pointer (some ⟨g, 0, none⟩)] 132) := ⟨_, rfl⟩
  have hb1 : Below W.heap.size W w1 := by rw [hw1]; exact (Below.refl _ _).alloc (Nat.le_refl _) _
  have hc1 : Cel w1 W.heap.size 132 #[.pointer (some ⟨g, 0, none⟩)] := by rw [hw1]; exact Cel.born W _ _
  have hn := hl.len
  have HC := Lib.hid (containsE_gen 124 W.heap.size Tryz.call124 g A n c l (fun i => hitE (fun e => idx (accAt acc l i) e.2 != e.2) l i)
    (fun k V => Nz B g V x (accAt acc l k) ∧ Below g W V ∧ KeepT w1 V ∧ B ≤ V.heap.size) w1 (hl.below (hb1.mono (by omega))) (fun k V hV => hl.below hV.2.1) ⟨h.below hb1, hb1.mono (by omega), KeepT.refl _, Nat.le_trans hB hb1.size⟩
    (fun k s f V hk hV => by
      refine (stays1_any B g W.heap.size V x (accAt acc l k) s f hV.1 hV.2.2.2 (by have := acc_len acc l k; omega) (hV.2.2.1.cel hc1 (by decide) (by decide))).mono ?_
      rintro e V' ⟨rfl, h1, h2, h3⟩
      refine ⟨by rw [hit_at hk], by rw [acc_next hk]; exact h1, hV.2.1.trans h2, hV.2.2.1.trans h3, Nat.le_trans hV.2.2.2 h2.size⟩))
  have HB1 := Lib.hid hb1
  have HL := Lib.hid hn
  clear hb1 hl h hc1 hn
  go_enter Tryz.func114, Tryz.ntmps114
  go_wp2_with fail
  rw [← hw1]
  clear hw1
  refine HC.out.mono ?_
  rintro e w2 (⟨j, hj, rfl, h1, h2, h3⟩ | ⟨rfl, h2, h3⟩)
  · have H : Hid (staysB acc l = false) := decide_eq_false fun k => absurd ((k j (by rw [HL.out]; exact hj)).symm.trans h1) (by decide)
    have H3 := Lib.hid h3
    clear h1 h2 h3
    go_wp2
    go_ret
    exact ⟨_, ret_bool H.out.symm, H3.out.1, fun k => absurd (H.out.symm.trans k) (by decide), H3.out.2.1, (KeepT.of_below HB1.out).trans H3.out.2.2.1⟩
  · have H : Hid (staysB acc l = true) := decide_eq_true (by rw [HL.out]; exact h2)
    have H3 := Lib.hid h3
    clear h2 h3
    go_wp2
    go_ret
    exact ⟨_, ret_bool H.out.symm, H3.out.1, fun _ => acc_end (by rw [HL.out]; exact Nat.le_refl _), H3.out.2.1, (KeepT.of_below HB1.out).trans H3.out.2.2.1⟩
end Go.Proofs.YtlefpodonkdbeaaGreat.Dw
end
/- What disk's normalized, Right, valid and fileOf come to. For disks of up to 1000 entries; names that fit. -/
section
set_option maxRecDepth 8000
namespace Go.Proofs.YtlefpodonkdbeaaGreat.Dw
open Go.RowKit By Dk

/-! ### Mathematics -/
theorem named_len {l : List E} {m : Nat} (h : Named l m) : l.length ≤ m := by
  have e : (filesOf l).length = l.length := List.length_map ..
  rw [← e]
  refine nodup_sub ?_ fun f hf => ?_
  · have ho := h.2
    unfold Dk.Ord at ho
    unfold filesOf
    exact List.pairwise_map.2 (ho.imp fun hab => hab.2)
  · obtain ⟨a, ha, rfl⟩ := List.mem_map.1 hf
    exact (h.1 a ha).2
theorem stays_iff {acc : List Int} {l : List E} : staysB acc l = true ↔ ∀ i, i < l.length → ∀ s f, l[i]? = some (s, f) → idx (accAt acc l i) f = f := by
  unfold staysB
  rw [decide_eq_true_iff]
  constructor
  · intro h i hi s f hg
    have := h i hi
    rw [hit_at hg] at this
    simpa using this
  · intro h i hi
    have hg : l[i]? = some (l[i].1, l[i].2) := List.getElem?_eq_getElem hi
    rw [hit_at hg]
    simpa using h i hi _ _ hg
theorem stays_not {acc : List Int} {l : List E} (h : staysB acc l = false) : ∃ k s f, l[k]? = some (s, f) ∧ idx (accAt acc l k) f ≠ f := by
  by_cases hx : ∃ k s f, l[k]? = some (s, f) ∧ idx (accAt acc l k) f ≠ f
  · exact hx
  · have : staysB acc l = true := stays_iff.2 fun i _ s f hg => Decidable.byContradiction fun hne => hx ⟨i, s, f, hg, hne⟩
    rw [h] at this
    cases this
/-- Both lists stay, and no file is left: just the disks that are numbered as they come up. -/
theorem norm_iff {d : D} (h0 : ∀ e ∈ d.now ++ d.kept, 0 ≤ e.2) :
    (staysB [] d.now = true ∧ staysB (firsts (filesOf d.now)) d.kept = true ∧ (cameD d).length = d.fs.length) ↔ cameD d = rangeZ d.fs.length := by
  constructor
  · rintro ⟨h1, h2, h3⟩
    obtain ⟨m, hm⟩ := stays_rows (acc := []) (l := d.now) ⟨0, rfl⟩ (fun e he => h0 e (List.mem_append_left _ he)) (stays_iff.1 h1) d.now.length (Nat.le_refl _)
    rw [acc_end (Nat.le_refl _)] at hm
    obtain ⟨k, hk⟩ := stays_rows (acc := firsts (filesOf d.now)) (l := d.kept) ⟨m, hm⟩ (fun e he => h0 e (List.mem_append_right _ he)) (stays_iff.1 h2) d.kept.length (Nat.le_refl _)
    rw [acc_end (Nat.le_refl _), ← came_two] at hk
    rw [hk, range_len] at h3
    rw [hk, h3]
  · intro h
    refine ⟨?_, ?_, by rw [h, range_len]⟩
    · cases hs : staysB [] d.now with
      | true => rfl
      | false =>
        obtain ⟨k, s, f, hg, hne⟩ := stays_not hs
        exact absurd ((came_two d).symm.trans h) (stray hg hne _ _)
    · cases hs : staysB (firsts (filesOf d.now)) d.kept with
      | true => rfl
      | false =>
        obtain ⟨k, s, f, hg, hne⟩ := stays_not hs
        exact absurd ((came_two d).symm.trans h) (stray hg hne [] _)
/-- Names that fit. -/
def Sm (d : D) : Prop := ∀ e ∈ d.now ++ d.kept, e.1.length ≤ 9223372036854775807
theorem right_sm {d : D} (h : RightD d) : Sm d := fun e he => by
  rcases List.mem_append.1 he with k | k
  · have := (h.2.1.1.1 e k).1.2; omega
  · have := (h.2.1.2.1.1 e k).1.2; omega

/-! ### normalized -/
def isB (w : World) (b : Bool) (e : Ending) (w' : World) : Prop := e = .returned (.bool b) ∧ Below w.heap.size w w'
set_option maxHeartbeats 1000000 in
theorem normalized_any (x : Dv) (w : World) (h : RdD w.heap.size w x) (h0 : ∀ e ∈ x.now ++ x.kept, 0 ≤ e.2) (hn : x.now.length + x.kept.length ≤ 1000) :
    Calls Tryz.prog 85 #[x.v] w (isB w (decide (cameD x.d = rangeZ x.d.fs.length))) := by
  obtain ⟨w1, hw1⟩ : ∃ w1, w1 = (w.alloc (.cells #[.slice x.fA x.fn x.fc, .slice x.nA x.nn x.nc, .slice x.kA x.kn x.kc] 30)).alloc (.cells #[.slice x.fA x.fn x.fc, .slice x.nA x.nn x.nc, .slice x.kA x.kn x.kc, .slice none 0 0] 108) := ⟨_, rfl⟩
  have hb1 : Below w.heap.size w w1 := by rw [hw1]; exact ((Below.refl _ _).alloc (Nat.le_refl _) _).alloc (by simp) _
  have hs1 : w1.heap.size = w.heap.size + 2 := by rw [hw1]; simp
  have hc1 : Cel w1 (w.heap.size + 1) 108 #[.slice x.fA x.fn x.fc, .slice x.nA x.nn x.nc, .slice x.kA x.kn x.kc, .slice none 0 0] := by
    rw [hw1]
    have := Cel.born (w.alloc (.cells #[.slice x.fA x.fn x.fc, .slice x.nA x.nn x.nc, .slice x.kA x.kn x.kc] 30)) 108 #[.slice x.fA x.fn x.fc, .slice x.nA x.nn x.nc, .slice x.kA x.kn x.kc, .slice none 0 0]
    simpa using this
  have hz : Nz (w.heap.size + 2) (w.heap.size + 1) w1 x [] := ⟨by omega, none, 0, 0, hc1, OwnV.nil _ _ _⟩
  have hnm := h.n.len
  have hkm := h.k.len
  have hfl : x.d.fs.length = x.fn := by show (fsOf x.xs).length = _; rw [fs_len, h.f.len]
  have hmx := h.f.max
  have hcp := h.f.cap
  have HIF := Lib.hid (norm_iff (d := x.d) h0)
  have HST := Lib.hid (stays_any (w.heap.size + 2) (w.heap.size + 1) w1 x [] x.nA x.nn x.nc x.now hz (by omega) (by simp; omega) ((h.n.below hb1).mono (by omega)))
  have HS2 : Hid (∀ w2, Nz (w.heap.size + 2) (w.heap.size + 1) w2 x (firsts (filesOf x.now)) → Below w.heap.size w w2 → w1.heap.size ≤ w2.heap.size → Calls Tryz.prog 114 #[.pointer (some ⟨w.heap.size + 1, 0, none⟩), .slice x.kA x.kn x.kc] w2 (StR (w.heap.size + 2) (w.heap.size + 1) w2 x (firsts (filesOf x.now)) x.kept)) := fun w2 hz2 hb2 hs2 =>
    stays_any (w.heap.size + 2) (w.heap.size + 1) w2 x (firsts (filesOf x.now)) x.kA x.kn x.kc x.kept hz2 (by omega) (by
      have := from_len (filesOf x.now) []
      have e : (filesOf x.now).length = x.now.length := List.length_map ..
      unfold firsts
      simp at this
      omega) ((h.k.below hb2).mono (by omega))
  have HB1 := Lib.hid hb1
  have HFL := Lib.hid hfl
  have r1 : w1.cell? ⟨w.heap.size + 1, 1, none⟩ = some (.slice x.nA x.nn x.nc) := by rw [hc1.cell]; rfl
  clear hz hc1 h h0 hb1 hfl
  go_enter Tryz.func85, Tryz.ntmps85
  go_wp2_with fail
  rw [← hw1]
  clear hw1
  refine HST.out.mono ?_
  rintro e w2 ⟨acc', rfl, hz2, ha2, hb2, _⟩
  have hb02 := Lib.hid (HB1.out.trans (hb2.mono (show w.heap.size ≤ w.heap.size + 1 by omega)))
  have hs2 := hb2.size
  cases hst : staysB [] x.now with
  | false =>
    have H : Hid (decide (cameD x.d = rangeZ x.d.fs.length) = false) := decide_eq_false fun k => by
      have := (HIF.out.2 k).1
      rw [show staysB [] x.d.now = staysB [] x.now from rfl, hst] at this
      cases this
    clear hz2 ha2 hst hb2
    go_wp2
    go_ret
    exact ⟨ret_bool H.out.symm, hb02.out⟩
  | true =>
    have e1 : acc' = firsts (filesOf x.now) := ha2 hst
    subst e1
    obtain ⟨_, A2, n2, c2, hc2, _⟩ := id hz2
    have r2 : w2.cell? ⟨w.heap.size + 1, 2, none⟩ = some (.slice x.kA x.kn x.kc) := by rw [hc2.cell]; rfl
    have HS3 := Lib.hid (HS2.out w2 hz2 hb02.out hs2)
    have HT := Lib.hid hst
    clear hz2 ha2 hc2 hst HS2 hb2
    go_wp2_with fail
    refine HS3.out.mono ?_
    rintro e w3 ⟨acc3, rfl, hz3, ha3, hb3, _⟩
    have hb03 := Lib.hid (hb02.out.trans (hb3.mono (show w.heap.size ≤ w.heap.size + 1 by omega)))
    cases hst : staysB (firsts (filesOf x.now)) x.kept with
    | false =>
      have H : Hid (decide (cameD x.d = rangeZ x.d.fs.length) = false) := decide_eq_false fun k => by
        have := (HIF.out.2 k).2.1
        rw [show staysB (firsts (filesOf x.d.now)) x.d.kept = staysB (firsts (filesOf x.now)) x.kept from rfl, hst] at this
        cases this
      clear hz3 ha3 hst hb3
      go_wp2
      go_ret
      exact ⟨ret_bool H.out.symm, hb03.out⟩
    | true =>
      have e3 : acc3 = cameD x.d := by rw [came_two]; exact ha3 hst
      subst e3
      obtain ⟨_, A3, n3, c3, hc3, ho3⟩ := hz3
      have r3 : w3.cell? ⟨w.heap.size + 1, 3, none⟩ = some (.slice A3 n3 c3) := by rw [hc3.cell]; rfl
      have r4 : w3.cell? ⟨w.heap.size + 1, 0, none⟩ = some (.slice x.fA x.fn x.fc) := by rw [hc3.cell]; rfl
      have hn3 : (cameD x.d).length = n3 := by have := ho3.len; rw [intV_len] at this; exact this
      have hn3c := ho3.rd.cap
      have hn3m := ho3.rd.max
      have HT2 := Lib.hid hst
      have H : Hid (decide (cameD x.d = rangeZ x.d.fs.length) = decide ((n3 : Int) = (x.fn : Int))) := by
        show _ = _
        rw [decide_eq_decide, ← HIF.out, hn3, HFL.out]
        constructor
        · rintro ⟨_, _, k⟩; omega
        · intro k; exact ⟨HT.out, HT2.out, by omega⟩
      clear hc3 ho3 hst ha3 hb3 hn3
      by_cases he : (n3 : Int) = (x.fn : Int)
      · have hbe : ((n3 : Int) == (x.fn : Int)) = true := by simpa using he
        have HE := Lib.hid (decide_eq_true he)
        clear he
        go_wp2
        go_ret
        exact ⟨ret_bool (by rw [H.out, HE.out]), hb03.out⟩
      · have hbe : ((n3 : Int) == (x.fn : Int)) = false := by simpa using he
        have HE := Lib.hid (decide_eq_false he)
        clear he
        go_wp2
        go_ret
        exact ⟨ret_bool (by rw [H.out, HE.out]), hb03.out⟩

/-! ### Right -/
theorem rightD_iff (d : D) : RightD d ↔ d.fs.length ≤ 20 ∧ allOk d.fs ∧ Named d.now d.fs.length ∧ Named d.kept d.fs.length ∧ cameD d = rangeZ d.fs.length := by
  unfold RightD Loose allOk
  constructor
  · rintro ⟨a, ⟨b, c, d⟩, e⟩; exact ⟨a, d, b, c, e⟩
  · rintro ⟨a, d, b, c, e⟩; exact ⟨a, ⟨b, c, d⟩, e⟩
set_option maxHeartbeats 1000000 in
theorem right_any (x : Dv) (w : World) (h : RdD w.heap.size w x) (hsm : Sm x.d) :
    Calls Tryz.prog 61 #[x.v] w (isB w (decide (RightD x.d))) := by
  obtain ⟨w1, hw1⟩ : ∃ w1, w1 = w.alloc (.cells #[.slice x.fA x.fn x.fc, .slice x.nA x.nn x.nc, .slice x.kA x.kn x.kc] 30) := ⟨_, rfl⟩
  have hb1 : Below w.heap.size w w1 := by rw [hw1]; exact (Below.refl _ _).alloc (Nat.le_refl _) _
  have hc1 : Cel w1 w.heap.size 30 #[.slice x.fA x.fn x.fc, .slice x.nA x.nn x.nc, .slice x.kA x.kn x.kc] := by rw [hw1]; exact Cel.born w _ _
  have hs1 : w1.heap.size = w.heap.size + 1 := by rw [hw1]; simp
  have hfl : x.d.fs.length = x.fn := by show (fsOf x.xs).length = _; rw [fs_len, h.f.len]
  have hmx := h.f.max
  have hcp := h.f.cap
  have HIF := Lib.hid (rightD_iff x.d)
  rw [hfl] at HIF
  have HFL := Lib.hid hfl
  have HSM := Lib.hid hsm
  have HR := Lib.hid h
  have r1 : w1.cell? ⟨w.heap.size, 0, none⟩ = some (.slice x.fA x.fn x.fc) := by rw [hc1.cell]; rfl
  have HB1 := Lib.hid hb1
  by_cases h20 : (x.fn : Int) ≤ 20
  rotate_left
  · have H : Hid (decide (RightD x.d) = false) := decide_eq_false fun k => by have := (HIF.out.1 k).1; omega
    clear hb1 hc1 h hfl hsm
    go_enter Tryz.func61, Tryz.ntmps61
    go_wp2
    go_ret
    exact ⟨ret_bool H.out.symm, (Below.refl _ _).alloc (Nat.le_refl _) _⟩
  have HCF := Lib.hid (containsF_any x.fA x.fn x.fc x.xs w1 ((h.f.below hb1).mono hb1.size))
  have HC1 := Lib.hid hc1
  clear hb1 hc1 h hfl hsm
  go_enter Tryz.func61, Tryz.ntmps61
  go_wp2_with fail
  rw [← hw1]
  clear hw1
  refine HCF.out.mono ?_
  rintro e w2 ⟨rfl, hb2⟩
  have hb02 := Lib.hid (HB1.out.trans (hb2.mono (by omega)))
  by_cases hok : allOk (fsOf x.xs)
  rotate_left
  · have hd : decide (allOk (fsOf x.xs)) = false := decide_eq_false hok
    have H : Hid (decide (RightD x.d) = false) := decide_eq_false fun k => hok (HIF.out.1 k).2.1
    rw [hd]
    clear hd hok hb2
    go_wp2
    go_ret
    exact ⟨ret_bool H.out.symm, hb02.out⟩
  have hd : decide (allOk (fsOf x.xs)) = true := decide_eq_true hok
  rw [hd]
  have HOK := Lib.hid hok
  have hc2 := HC1.out.below hb2 HC1.out.lt
  have r2 : w2.cell? ⟨w.heap.size, 0, none⟩ = some (.slice x.fA x.fn x.fc) := by rw [hc2.cell]; rfl
  have r3 : w2.cell? ⟨w.heap.size, 1, none⟩ = some (.slice x.nA x.nn x.nc) := by rw [hc2.cell]; rfl
  have HE1 := Lib.hid (rightEntries_any x.nA x.nn x.nc x.now x.fn w2 ((HR.out.n.below hb02.out).mono hb02.out.size) (fun e he => HSM.out e (List.mem_append_left _ he)))
  have HC2 := Lib.hid hc2
  have hs2 := hb2.size
  clear hd hok hb2 hc2
  go_wp2_with fail
  refine HE1.out.mono ?_
  rintro e w3 ⟨rfl, hb3⟩
  have hb03 := Lib.hid (hb02.out.trans (hb3.mono hb02.out.size))
  by_cases hn1 : Named x.now x.fn
  rotate_left
  · have hd : decide (Named x.now x.fn) = false := decide_eq_false hn1
    have H : Hid (decide (RightD x.d) = false) := decide_eq_false fun k => hn1 (HIF.out.1 k).2.2.1
    rw [hd]
    clear hd hn1 hb3
    go_wp2
    go_ret
    exact ⟨ret_bool H.out.symm, hb03.out⟩
  have hd : decide (Named x.now x.fn) = true := decide_eq_true hn1
  rw [hd]
  have HN1 := Lib.hid hn1
  have hc3 := HC2.out.below hb3 HC2.out.lt
  have r4 : w3.cell? ⟨w.heap.size, 0, none⟩ = some (.slice x.fA x.fn x.fc) := by rw [hc3.cell]; rfl
  have r5 : w3.cell? ⟨w.heap.size, 2, none⟩ = some (.slice x.kA x.kn x.kc) := by rw [hc3.cell]; rfl
  have HE2 := Lib.hid (rightEntries_any x.kA x.kn x.kc x.kept x.fn w3 ((HR.out.k.below hb03.out).mono hb03.out.size) (fun e he => HSM.out e (List.mem_append_right _ he)))
  have HC3 := Lib.hid hc3
  have hs3 := hb3.size
  clear hd hn1 hb3 hc3
  go_wp2_with fail
  refine HE2.out.mono ?_
  rintro e w4 ⟨rfl, hb4⟩
  have hb04 := Lib.hid (hb03.out.trans (hb4.mono hb03.out.size))
  by_cases hn2 : Named x.kept x.fn
  rotate_left
  · have hd : decide (Named x.kept x.fn) = false := decide_eq_false hn2
    have H : Hid (decide (RightD x.d) = false) := decide_eq_false fun k => hn2 (HIF.out.1 k).2.2.2.1
    rw [hd]
    clear hd hn2 hb4
    go_wp2
    go_ret
    exact ⟨ret_bool H.out.symm, hb04.out⟩
  have hd : decide (Named x.kept x.fn) = true := decide_eq_true hn2
  rw [hd]
  have HN2 := Lib.hid hn2
  have hc4 := HC3.out.below hb4 HC3.out.lt
  have r6 : w4.cell? ⟨w.heap.size, 0, none⟩ = some (.slice x.fA x.fn x.fc) := by rw [hc4.cell]; rfl
  have r7 : w4.cell? ⟨w.heap.size, 1, none⟩ = some (.slice x.nA x.nn x.nc) := by rw [hc4.cell]; rfl
  have r8 : w4.cell? ⟨w.heap.size, 2, none⟩ = some (.slice x.kA x.kn x.kc) := by rw [hc4.cell]; rfl
  have HNO := Lib.hid (normalized_any x w4 ((HR.out.below hb04.out).mono hb04.out.size) (fun e he => by
    rcases List.mem_append.1 he with k | k
    · exact (HN1.out.1 e k).2.1
    · exact (HN2.out.1 e k).2.1) (by have e1 := named_len HN1.out; have e2 := named_len HN2.out; omega))
  have H : Hid (decide (RightD x.d) = decide (cameD x.d = rangeZ x.d.fs.length)) := by
    show _ = _
    rw [decide_eq_decide, HIF.out, HFL.out]
    exact ⟨fun k => k.2.2.2.2, fun k => ⟨by omega, HOK.out, HN1.out, HN2.out, k⟩⟩
  clear hd hn2 hb4 hc4
  go_wp2_with fail
  refine HNO.out.mono ?_
  rintro e w5 ⟨rfl, hb5⟩
  have hb05 := Lib.hid (hb04.out.trans (hb5.mono hb04.out.size))
  clear hb5
  go_wp2
  go_ret
  exact ⟨ret_bool H.out.symm, hb05.out⟩
end Go.Proofs.YtlefpodonkdbeaaGreat.Dw
end
/- What disk's valid, fileOf, Names and Get come to. For disks whose names fit. -/
section
set_option maxRecDepth 8000
namespace Go.Proofs.YtlefpodonkdbeaaGreat.Dw
open Go.RowKit By Dk

theorem ret_disk {fn : Func} {p : Tmp} (hres : fn.results = #[.cell p 30]) (tmps : Array Value) (w : World) (g : Nat) (cs : Array Value) (hp : tmps.getD p undef = .pointer (some ⟨g, 0, none⟩)) (hc : Cel w g 30 cs) (hs : cs.size = 3) :
    (results fn tmps).run Tryz.prog w = .ok (.agg cs) w := results_cell_row hres tmps w g _ cs (0, 0) _ hp hc Tryz.underlying30 rfl (by rw [hs]; kernel_rfl)
/-- The cells of a disk. -/
@[reducible] def Dv.cs (x : Dv) : Array Value := #[.slice x.fA x.fn x.fc, .slice x.nA x.nn x.nc, .slice x.kA x.kn x.kc]
theorem cel_put3 {w : World} {g : Nat} {t : TypeId} {a b c a' b' c' : Value} (h : Cel w g t #[a, b, c]) : Cel (((w.setCell ⟨g, 0, none⟩ a').setCell ⟨g, 1, none⟩ b').setCell ⟨g, 2, none⟩ c') g t #[a', b', c'] := cel_put (cel_put (cel_put h 0 a') 1 b') 2 c'
theorem below_put3 {B : Nat} {v w : World} (h : Below B v w) {g : Nat} (hg : B ≤ g) (a b c : Value) : Below B v (((w.setCell ⟨g, 0, none⟩ a).setCell ⟨g, 1, none⟩ b).setCell ⟨g, 2, none⟩ c) :=
  ((h.setCell (p := ⟨g, 0, none⟩) hg a).setCell (p := ⟨g, 1, none⟩) hg b).setCell (p := ⟨g, 2, none⟩) hg c
/-- The three cells of a disk in a block known whole. -/
theorem cel3 {w : World} {g : Nat} {t : TypeId} {a b c : Value} (h : Cel w g t #[a, b, c]) : w.cell? ⟨g, 0, none⟩ = some a ∧ w.cell? ⟨g, 1, none⟩ = some b ∧ w.cell? ⟨g, 2, none⟩ = some c := ⟨by rw [h.cell]; rfl, by rw [h.cell]; rfl, by rw [h.cell]; rfl⟩

/-- A disk, or the zero one: it reads below the call's beginning. -/
def VaR (U : Nat) (w : World) (x : Dv) (e : Ending) (w' : World) : Prop := ∃ y : Dv, e = .returned (.agg #[.slice y.fA y.fn y.fc, .slice y.nA y.nn y.nc, .slice y.kA y.kn y.kc]) ∧ y.d = goodD x.d ∧ RdD U w' y ∧ Below w.heap.size w w'
set_option maxHeartbeats 1000000 in
theorem valid_any (U : Nat) (x : Dv) (w : World) (h : RdD U w x) (hU : U ≤ w.heap.size) (hsm : Sm x.d) :
    Calls Tryz.prog 38 #[x.v] w (VaR U w x) := by
  obtain ⟨w1, hw1⟩ : ∃ w1, w1 = (w.alloc (.cells x.cs 30)).alloc (.cells #[.slice none 0 0, .slice none 0 0, .slice none 0 0] 30) := ⟨_, rfl⟩
  have hb1 : Below w.heap.size w w1 := by rw [hw1]; exact ((Below.refl _ _).alloc (Nat.le_refl _) _).alloc (by simp) _
  have hc1 : Cel w1 w.heap.size 30 x.cs := by rw [hw1]; exact (Cel.born w _ _).below ((Below.refl _ _).alloc (Nat.le_refl _) _) (by simp)
  have hc2 : Cel w1 (w.heap.size + 1) 30 #[.slice none 0 0, .slice none 0 0, .slice none 0 0] := by
    rw [hw1]
    have := Cel.born (w.alloc (.cells x.cs 30)) 30 #[.slice none 0 0, .slice none 0 0, .slice none 0 0]
    simpa using this
  have HRI := Lib.hid (right_any x w1 ((h.below (hb1.mono hU)).mono (Nat.le_trans hU hb1.size)) hsm)
  have HR := Lib.hid h
  have HB1 := Lib.hid hb1
  have HC1 := Lib.hid hc1
  have HC2 := Lib.hid hc2
  clear h hb1 hc1 hc2 hsm
  go_enter Tryz.func38, Tryz.ntmps38
  go_wp2_with fail
  rw [← hw1]
  clear hw1
  refine HRI.out.mono ?_
  rintro e w2 ⟨rfl, hb2⟩
  have hb02 := Lib.hid (HB1.out.trans (hb2.mono HB1.out.size))
  have hk1 := HC1.out.below hb2 HC1.out.lt
  have hk2 := HC2.out.below hb2 HC2.out.lt
  obtain ⟨r0, r1, r2⟩ := cel3 hk1
  obtain ⟨q0, q1, q2⟩ := cel3 hk2
  have f0 := cel_fr hk2 0
  have f1 := cel_fr hk2 1
  have f2 := cel_fr hk2 2
  have HK2 := Lib.hid hk2
  clear hk1 hk2 hb2
  by_cases hr : RightD x.d
  · have hd : decide (RightD x.d) = true := decide_eq_true hr
    have HG := Lib.hid (good_of hr)
    rw [hd]
    clear hd hr
    go_wp2
    (try simp only [Exit.inBlock, Exit.then])
    refine bodyPost_ret (ret_disk rfl _ _ (w.heap.size + 1) x.cs rfl (cel_put3 HK2.out) rfl) rfl ?_
    have hb := below_put3 hb02.out (show w.heap.size ≤ w.heap.size + 1 by omega) (.slice x.fA x.fn x.fc) (.slice x.nA x.nn x.nc) (.slice x.kA x.kn x.kc)
    exact ⟨x, rfl, HG.out.symm, HR.out.below (hb.mono hU), hb⟩
  · have hd : decide (RightD x.d) = false := decide_eq_false hr
    have HG : Hid (goodD x.d = zeroD) := if_neg hr
    rw [hd]
    clear hd hr
    go_wp2
    (try simp only [Exit.inBlock, Exit.then])
    refine bodyPost_ret (ret_disk rfl _ _ (w.heap.size + 1) zeroV.cs rfl (cel_put3 HK2.out) rfl) rfl ?_
    have hb := below_put3 hb02.out (show w.heap.size ≤ w.heap.size + 1 by omega) (.slice none 0 0) (.slice none 0 0) (.slice none 0 0)
    exact ⟨zeroV, rfl, HG.out.symm, RdD.zero _ _, hb⟩

/-! ### fileOf -/
theorem name_is (s : N) (f : Int) (t : N) (g : Nat) (w : World) (hg : g < w.heap.size) (hc : w.cell? ⟨g, 0, none⟩ = some (.string (ba t))) :
    Calls Tryz.prog 81 #[.agg #[.string (ba s), .int .i64 f], .pointer (some ⟨g, 0, none⟩)] w (isB w (decide (s = t))) := by
  have hne : g ≠ w.heap.size := by omega
  have HS := Lib.hid (same_is s t)
  go_enter Tryz.func81, Tryz.ntmps81
  go_wp2
  go_ret
  exact ⟨ret_bool HS.out, (Below.refl _ _).alloc (Nat.le_refl _) _⟩
theorem find_hit : ∀ {l : List E} {j : Nat} {s t : N} {f : Int}, l[j]? = some (s, f) → s = t → (∀ i, i < j → hitE (fun e => decide (e.1 = t)) l i = false) → findE l t = some f
  | [], _, _, _, _, h, _, _ => by simp at h
  | e :: l, 0, s, t, f, h, hs, _ => by
    simp at h
    subst h
    rw [findE, if_pos hs]
  | e :: l, j + 1, s, t, f, h, hs, hn => by
    have h0 := hn 0 (by omega)
    rw [hit_at (e := e) rfl] at h0
    simp at h0
    rw [findE, if_neg h0]
    exact find_hit (by simpa using h) hs fun i hi => by
      have := hn (i + 1) (by omega)
      unfold hitE at this ⊢
      rwa [List.getElem?_cons_succ] at this
def foV : Option Int → Value
  | none => .tuple #[.int .i64 0, .bool false]
  | some f => .tuple #[.int .i64 f, .bool true]
theorem foV_none : foV none = .tuple #[.int .i64 0, .bool false] := rfl
theorem foV_some (f : Int) : foV (some f) = .tuple #[.int .i64 f, .bool true] := rfl
def FoR (w : World) (o : Option Int) (e : Ending) (w' : World) : Prop := e = .returned (foV o) ∧ Below w.heap.size w w'
set_option maxHeartbeats 1000000 in
theorem fileOf_any (x : Dv) (t : N) (w : World) (h : RdE w.heap.size w x.nA x.nn x.nc x.now) :
    Calls Tryz.prog 59 #[x.v, .string (ba t)] w (FoR w (findE x.now t)) := by
  obtain ⟨w1, hw1⟩ : ∃ w1, w1 = (w.alloc (.cells x.cs 30)).alloc (.cells #[.string (ba t)] 9) := ⟨_, rfl⟩
  have hb1 : Below w.heap.size w w1 := by rw [hw1]; exact ((Below.refl _ _).alloc (Nat.le_refl _) _).alloc (by simp) _
  have hc1 : Cel w1 w.heap.size 30 x.cs := by rw [hw1]; exact (Cel.born w _ _).below ((Below.refl _ _).alloc (Nat.le_refl _) _) (by simp)
  have hc2 : Cel w1 (w.heap.size + 1) 9 #[.string (ba t)] := by
    rw [hw1]
    have := Cel.born (w.alloc (.cells x.cs 30)) 9 #[.string (ba t)]
    simpa using this
  have k2 : w1.cell? ⟨w.heap.size + 1, 0, none⟩ = some (.string (ba t)) := by rw [hc2.cell]; rfl
  have hl := h.len
  have HL := Lib.hid hl
  have hm := h.max
  have hcap := h.cap
  have HIX := Lib.hid (indexE_gen 81 (w.heap.size + 1) Tryz.call81 w.heap.size x.nA x.nn x.nc x.now (hitE (fun e => decide (e.1 = t)) x.now) (fun _ W => Below w1.heap.size w1 W) w1 (h.below hb1) (fun _ W hW => (h.below hb1).below (hW.mono hb1.size)) (Below.refl _ _) (fun k s f W hk hW => by
    refine (name_is s f t (w.heap.size + 1) W (Nat.lt_of_lt_of_le hc2.lt hW.size) ((hW.cell (p := ⟨w.heap.size + 1, 0, none⟩) hc2.lt).trans k2)).mono ?_
    rintro e W' ⟨rfl, hb⟩
    exact ⟨by rw [hit_at hk], hW.trans (hb.mono hW.size)⟩))
  have r1 : w1.cell? ⟨w.heap.size, 1, none⟩ = some (.slice x.nA x.nn x.nc) := (cel3 hc1).2.1
  have HR := Lib.hid (h.below hb1)
  have HB1 := Lib.hid hb1
  have HC1 := Lib.hid hc1
  clear h hb1 hc1 hc2 k2 hl
  go_enter Tryz.func59, Tryz.ntmps59
  go_wp2_with fail
  rw [← hw1]
  clear hw1
  refine HIX.out.mono ?_
  rintro e w2 (⟨j, hj, rfl, h1, h2, hb2⟩ | ⟨rfl, h2, hb2⟩)
  · have hb02 := Lib.hid (HB1.out.trans (hb2.mono HB1.out.size))
    have r2 : w2.cell? ⟨w.heap.size, 1, none⟩ = some (.slice x.nA x.nn x.nc) := (cel3 (HC1.out.below hb2 HC1.out.lt)).2.1
    obtain ⟨b, o, s, f, eA, _, HE, c1, c2⟩ := atE (HR.out.below (hb2.mono HB1.out.size)) hj
    have hst : s = t := by
      rw [hit_at HE.out] at h1
      simpa using h1
    have H := Lib.hid (find_hit HE.out hst h2)
    rw [eA] at r2
    clear h1 h2 hb2 hst c1 HE
    go_wp2
    go_ret2
    exact ⟨by rw [H.out]; rfl, hb02.out⟩
  · have hb02 := Lib.hid (HB1.out.trans (hb2.mono HB1.out.size))
    have H : Hid (findE x.now t = none) := find_none.2 fun e he => by
      have := hit_none (q := fun e => decide (e.1 = t)) (l := x.now) (by rw [HL.out]; exact h2) e he
      simpa using this
    clear h2 hb2
    go_wp2
    go_ret2
    exact ⟨by rw [H.out]; rfl, hb02.out⟩

theorem field_now (y : Dv) (W : World) : (Instr.field 30 (.agg #[.slice y.fA y.fn y.fc, .slice y.nA y.nn y.nc, .slice y.kA y.kn y.kc]) 1).run Tryz.prog W = .ok (.slice y.nA y.nn y.nc) W := by kernel_rfl

/-! ### Names -/
def strV (l : List N) : List Value := l.map fun s => .string (ba s)
theorem strV_len (l : List N) : (strV l).length = l.length := List.length_map ..
theorem elS : ElP Tryz.prog 129 9 (.string ⟨#[]⟩) 16 := ⟨Tryz.underlying129, by kernel_rfl, rfl⟩
def NaR (w : World) (l : List N) (e : Ending) (w' : World) : Prop := ∃ A n c, e = .returned (.slice A n c) ∧ Rd w' A n c (strV l) ∧ Below w.heap.size w w'
theorem good_len (d : D) : (goodD d).now.length ≤ 20 := by
  have h := good_right d
  have := named_len h.2.1.1
  have := h.1
  omega
/-! ### Get -/
def GeR (w : World) (p : List UInt8 × Int) (e : Ending) (w' : World) : Prop := ∃ A n c, e = .returned (.tuple #[.slice A n c, .int .i64 p.2]) ∧ Bs w' A n c p.1 ∧ Below w.heap.size w w'
theorem fileAt_get {y : Dv} {f : Int} {v : Fv} (_ : 0 ≤ f) (h : y.xs[f.toNat]? = some v) : fileAt y.d f = v.f := by
  unfold fileAt
  show (fsOf y.xs).getD _ _ = _
  rw [List.getD_eq_getElem?_getD, fs_get h]
  rfl
set_option maxHeartbeats 1000000 in
theorem get_any (x : Dv) (t : N) (w : World) (h : RdD w.heap.size w x) (hsm : Sm x.d) :
    Calls Tryz.prog 31 #[x.v, .string (ba t)] w (GeR w (getK x.d t)) := by
  obtain ⟨w1, hw1⟩ : ∃ w1, w1 = w.alloc (.cells x.cs 30) := ⟨_, rfl⟩
  have hb1 : Below w.heap.size w w1 := by rw [hw1]; exact (Below.refl _ _).alloc (Nat.le_refl _) _
  have hc1 : Cel w1 w.heap.size 30 x.cs := by rw [hw1]; exact Cel.born w _ _
  have HV := Lib.hid (valid_any w.heap.size x w1 (h.below hb1) hb1.size hsm)
  have HB1 := Lib.hid hb1
  have HC1 := Lib.hid hc1
  clear h hb1 hsm hc1
  go_enter Tryz.func31, Tryz.ntmps31
  go_wp2_with fail
  rw [← hw1]
  clear hw1
  refine HV.out.mono ?_
  rintro e w2 ⟨y, rfl, hy, hry, hb2⟩
  have hb02 := Lib.hid (HB1.out.trans (hb2.mono HB1.out.size))
  have HY := Lib.hid hy
  have hk1 := HC1.out.below hb2 HC1.out.lt
  obtain ⟨r0, r1, r2⟩ := cel3 hk1
  have f0 := cel_fr hk1 0
  have f1 := cel_fr hk1 1
  have f2 := cel_fr hk1 2
  have HC3 := Lib.hid (cel_put3 (a' := .slice y.fA y.fn y.fc) (b' := .slice y.nA y.nn y.nc) (c' := .slice y.kA y.kn y.kc) hk1)
  have HB3 := Lib.hid (below_put3 hb02.out (Nat.le_refl _) (.slice y.fA y.fn y.fc) (.slice y.nA y.nn y.nc) (.slice y.kA y.kn y.kc))
  have hr3 := hry.below (below_put3 (Below.refl w.heap.size w2) (Nat.le_refl _) (.slice y.fA y.fn y.fc) (.slice y.nA y.nn y.nc) (.slice y.kA y.kn y.kc))
  obtain ⟨w3, hw3⟩ : ∃ w3, w3 = (((w2.setCell ⟨w.heap.size, 0, none⟩ (.slice y.fA y.fn y.fc)).setCell ⟨w.heap.size, 1, none⟩ (.slice y.nA y.nn y.nc)).setCell ⟨w.heap.size, 2, none⟩ (.slice y.kA y.kn y.kc)) := ⟨_, rfl⟩
  rw [← hw3] at HC3 HB3 hr3
  have HFO := Lib.hid (fileOf_any y t w3 (hr3.n.mono HB3.out.size))
  have HR3 := Lib.hid hr3
  clear hry hb2 hk1 hr3
  go_wp2_with fail
  rw [← hw3]
  clear hw3
  refine HFO.out.mono ?_
  rintro e w4 ⟨rfl, hb4⟩
  have HB4 := Lib.hid (HB3.out.trans (hb4.mono HB3.out.size))
  cases hf : findE y.now t with
  | none =>
    have H : Hid (getK x.d t = ([], 5)) := by
      show getK _ _ = _
      unfold getK
      rw [← HY.out, show y.d.now = y.now from rfl, hf]
    clear hb4
    rw [foV_none]
    go_wp2
    go_ret2
    exact ⟨none, 0, 0, by rw [H.out]; rfl, by rw [H.out]; exact Bs.nil _, HB4.out⟩
  | some f =>
    have hrd : RightD y.d := by rw [HY.out]; exact good_right _
    obtain ⟨g0, g1⟩ := find_range hrd (show findE y.d.now t = some f from hf)
    obtain ⟨k, rfl⟩ := Int.eq_ofNat_of_zero_le g0
    have hfl : y.d.fs.length = y.fn := by show (fsOf y.xs).length = _; rw [fs_len, HR3.out.f.len]
    rw [hfl] at g1
    have hk : k < y.fn := by omega
    have hmx := HR3.out.f.max
    have hcp := HR3.out.f.cap
    have hrf := HR3.out.f.below (hb4.mono HB3.out.size)
    obtain ⟨b, o, v, eA, _, HE, hbs, c1, c2⟩ := atF hrf hk
    have r4 : w4.cell? ⟨w.heap.size, 0, none⟩ = some (.slice (some ⟨b, o, none⟩) y.fn y.fc) := by rw [← eA]; exact (cel3 (HC3.out.below hb4 HC3.out.lt)).1
    have H : Hid (getK x.d t = (v.l, 0)) := by
      show getK _ _ = _
      unfold getK
      rw [← HY.out, show y.d.now = y.now from rfl, hf]
      simp only
      rw [fileAt_get g0 (by simpa using HE.out)]
      rfl
    have hvl : v.l.length ≤ 140737488355328 := by
      have h1 := (file_ok hrd (show findE y.d.now t = some (k : Int) from hf)).1
      rw [fileAt_get g0 (by simpa using HE.out)] at h1
      have : v.f.d = v.l := rfl
      rw [this] at h1
      omega
    have HCL := Lib.hid (Cw.clone_any v.A v.l.length v.c v.l w4 hbs.bs hvl)
    clear hb4 hrf hbs c2 HE hf hrd hfl
    rw [foV_some]
    go_wp2_with fail
    refine HCL.out.mono ?_
    rintro e w5 ⟨A5, c5, rfl, hown5, hb5⟩
    go_wp2
    go_ret2
    exact ⟨A5, v.l.length, c5, by rw [H.out]; rfl, by rw [H.out]; exact hown5.bs, HB4.out.trans (hb5.mono HB4.out.size)⟩
end Go.Proofs.YtlefpodonkdbeaaGreat.Dw
end
