/- What boarderlaw08's knows, Great and Small come to. For all inputs. -/
import Derived.Test.YtlefpodonkdbeaaGreatDwD
import Derived.Lib.SlBytesConst
import Derived.Deep.RegionLaw
import Derived.Deep.CutRange
section
set_option maxRecDepth 8000
namespace Go.Proofs.YtlefpodonkdbeaaGreat.Dw
open Go.RowKit By Dk

/-! ### Disks in blocks -/
/-- A disk lies in the block g, below B. -/
structure Vd (B : Nat) (w : World) (g : Nat) (z : Dv) : Prop where
  c : Cel w g 30 z.cs
  r : RdD B w z
  l : g < B
theorem Vd.born {w : World} {z : Dv} (h : RdD w.heap.size w z) : Vd (w.heap.size + 1) (w.alloc (.cells z.cs 30)) w.heap.size z := ⟨Cel.born _ _ _, (h.below (alloc_more _ _)).mono (by omega), by omega⟩
theorem Vd.below {B : Nat} {w w' : World} {g : Nat} {z : Dv} (h : Vd B w g z) (hb : Below B w w') : Vd B w' g z := ⟨h.c.below hb h.l, h.r.below hb, h.l⟩
theorem Vd.mono {B B' : Nat} {w : World} {g : Nat} {z : Dv} (h : Vd B w g z) (hB : B ≤ B') : Vd B' w g z := ⟨h.c, h.r.mono hB, Nat.lt_of_lt_of_le h.l hB⟩
/-! A block that holds slices alone is no row of files, entries or bytes: what is stored there turns none of these. -/
def isSl : Value → Bool
  | .slice _ _ _ => true
  | _ => false
theorem rdg_away {α : Type} {Y : Lay α} {U : Nat} {w w' : World} {A : Option Addr} {n c g : Nat} {l : List α} {t : TypeId} {cs : Array Value} (hY : ∀ a, ∃ (j : Nat) (v : Value), (Y.cs a)[j]? = some v ∧ isSl v = false)
    (h : RdG Y U w A n c l) (hc : Cel w g t cs) (hs : ∀ (i : Nat) (v : Value), cs[i]? = some v → isSl v = true) (hw : ∀ p : Addr, p.block ≠ g → w'.cell? p = w.cell? p) : RdG Y U w' A n c l :=
  ⟨h.1, h.2.1, h.2.2.1, fun hn => by
    obtain ⟨b, o, e, hU, hcl⟩ := h.2.2.2 hn
    refine ⟨b, o, e, hU, fun i hi => ?_⟩
    have hne : b ≠ g := by
      intro hbg
      subst hbg
      obtain ⟨b', o', e', _, a, ha, hca⟩ := h.at_ (k := 0) hn
      rw [e] at e'
      injection e' with e'
      injection e' with e1 e2 _
      subst e1
      obtain ⟨j, v, hv, hsv⟩ := hY a
      have h1 := hca j v hv
      rw [hc.cell] at h1
      have h2 := hs _ _ h1
      rw [hsv] at h2
      cases h2
    rw [hw ⟨b, o + i, none⟩ hne, hcl i hi]⟩
theorem bs_away {U : Nat} {w w' : World} {A : Option Addr} {n c g : Nat} {l : List UInt8} {t : TypeId} {cs : Array Value}
    (h : BsU U w A n c l) (hc : Cel w g t cs) (hs : ∀ (i : Nat) (v : Value), cs[i]? = some v → isSl v = true) (hw : ∀ p : Addr, p.block ≠ g → w'.cell? p = w.cell? p) : BsU U w' A n c l :=
  ⟨⟨h.1.1, h.1.2.1, h.1.2.2.1, fun hn => by
    obtain ⟨b, o, e, hcl⟩ := h.1.2.2.2 hn
    refine ⟨b, o, e, fun i hi => ?_⟩
    have hne : b ≠ g := by
      intro hbg
      subst hbg
      have h1 := hcl i hi
      rw [hc.cell] at h1
      have h2 := hs _ _ h1
      cases h2
    rw [hw ⟨b, o + i, none⟩ hne, hcl i hi]⟩, h.2⟩
theorem cell_set_ne (w : World) (g j : Nat) (v : Value) (p : Addr) (h : p.block ≠ g) : (w.setCell ⟨g, j, none⟩ v).cell? p = w.cell? p := World.cell?_setCell_other w ⟨g, j, none⟩ p v (fun k => h (by rw [← k]))
theorem rdd_away {B g : Nat} {w w' : World} {z : Dv} {t : TypeId} {cs : Array Value} (h : RdD B w z) (hc : Cel w g t cs) (hs : ∀ (i : Nat) (v : Value), cs[i]? = some v → isSl v = true) (hw : ∀ p : Addr, p.block ≠ g → w'.cell? p = w.cell? p) : RdD B w' z :=
  ⟨⟨rdg_away (fun _ => ⟨1, _, rfl, rfl⟩) h.f.1 hc hs hw, fun u hu => bs_away (h.f.2 u hu) hc hs hw⟩, rdg_away (fun _ => ⟨0, _, rfl, rfl⟩) h.n hc hs hw, rdg_away (fun _ => ⟨0, _, rfl, rfl⟩) h.k hc hs hw⟩
theorem sl3 {a1 : Option Addr} {n1 c1 : Nat} {a2 : Option Addr} {n2 c2 : Nat} {a3 : Option Addr} {n3 c3 : Nat} : ∀ (i : Nat) (v : Value), (#[Value.slice a1 n1 c1, .slice a2 n2 c2, .slice a3 n3 c3] : Array Value)[i]? = some v → isSl v = true := fun i v h => by
  match i with
  | 0 => injection h with h; subst h; rfl
  | 1 => injection h with h; subst h; rfl
  | 2 => injection h with h; subst h; rfl
  | i + 3 => simp at h
theorem cell_put3 (w : World) (g : Nat) (a b c : Value) (p : Addr) (h : p.block ≠ g) : (((w.setCell ⟨g, 0, none⟩ a).setCell ⟨g, 1, none⟩ b).setCell ⟨g, 2, none⟩ c).cell? p = w.cell? p := by
  rw [cell_set_ne _ _ _ _ _ h, cell_set_ne _ _ _ _ _ h, cell_set_ne _ _ _ _ _ h]
/-- A variable is set to another disk. -/
theorem Vd.put {B U : Nat} {w : World} {g : Nat} {y z : Dv} (h : Vd B w g y) (hz : RdD U w z) (hU : g < U) :
    Vd U (((w.setCell ⟨g, 0, none⟩ (.slice z.fA z.fn z.fc)).setCell ⟨g, 1, none⟩ (.slice z.nA z.nn z.nc)).setCell ⟨g, 2, none⟩ (.slice z.kA z.kn z.kc)) g z :=
  ⟨cel_put3 h.c, rdd_away hz h.c sl3 (cell_put3 w g _ _ _), hU⟩
/-- What is stored in another variable turns this one not. -/
theorem Vd.other {B B' : Nat} {w : World} {g g' : Nat} {y z : Dv} (h : Vd B w g z) (hy : Vd B' w g' y) (hne : g ≠ g') (a b c : Value) :
    Vd B (((w.setCell ⟨g', 0, none⟩ a).setCell ⟨g', 1, none⟩ b).setCell ⟨g', 2, none⟩ c) g z :=
  ⟨cel_far (cel_far (cel_far h.c hne _ _) hne _ _) hne _ _, rdd_away h.r hy.c sl3 (cell_put3 w g' _ _ _), h.l⟩
theorem good_sm {d : D} (h : RightD d) : Sm d := right_sm h

/-! ### Great, Small -/
def GrR (w : World) (x : Dv) (e : Ending) (w' : World) : Prop := ∃ g : Bool, e = .returned (.bool g) ∧ (g = false → (∀ u ∈ x.xs, u.l.length ≤ 30000) ∧ x.fn ≤ 50 ∧ x.nn ≤ 50 ∧ x.kn ≤ 50) ∧ Below w.heap.size w w'
set_option maxHeartbeats 1000000 in
theorem great_any (x : Dv) (w : World) (h : RdD w.heap.size w x) : Calls Tryz.prog 13 #[x.v] w (GrR w x) := by
  have hb := alloc_more w (.cells #[.slice x.fA x.fn x.fc, .slice x.nA x.nn x.nc, .slice x.kA x.kn x.kc] 30)
  have hc := Cel.born w 30 x.cs
  have HR := Lib.hid h.f
  have hfc := h.f.cap
  have hfm := h.f.max
  have hnc := h.n.cap
  have hnm := h.n.max
  have hkc := h.k.cap
  have hkm := h.k.max
  have HL := Lib.hid h.f.len
  obtain ⟨q0, q1, q2⟩ := cel3 hc
  clear h
  go_enter Tryz.func13, Tryz.ntmps13
  go_wp2
  go_loop [3] (fun i => ∃ k : Nat, k ≤ x.fn ∧ i = .int .i64 k ∧ ∀ u ∈ x.xs.take k, u.l.length ≤ 30000) (fun i => x.fn - (intOf i).toNat)
  case atStart => exact ⟨0, by omega, rfl, fun u hu => by simp at hu⟩
  case round =>
    obtain ⟨k, hk, rfl, hs⟩ := hrel
    have HS := Lib.hid hs
    clear hs
    by_cases hlt : k < x.fn
    · obtain ⟨b, o, v, eA, hbl, HE, hbs, c1, c2⟩ := atF HR.out hlt
      rw [eA] at q0 hb
      have hcap := hbs.bs.cap
      have hmax := hbs.bs.max
      by_cases hbig : (30000 : Int) < ((v.l.length : Nat) : Int)
      · clear hbs HE
        go_wp2
        go_ret
        exact ⟨true, rfl, (fun k => by cases k), hb⟩
      · have H : Hid (∀ u ∈ x.xs.take (k + 1), u.l.length ≤ 30000) := by
          show ∀ u ∈ _, _
          rw [take_next HE.out]
          intro u hu
          rcases List.mem_append.1 hu with hu | hu
          · exact HS.out u hu
          · simp at hu
            subst hu
            omega
        clear hbs HE
        go_wp2
        go_round
        case rel => exact ⟨k + 1, by omega, by go_num, H.out⟩
        case measure => simp [intOf]; omega
    · obtain rfl : k = x.fn := by omega
      have H : Hid (∀ u ∈ x.xs, u.l.length ≤ 30000) := by have := HS.out; rwa [List.take_of_length_le (by rw [HL.out]; exact Nat.le_refl _)] at this
      by_cases h1 : (50 : Int) < (x.fn : Int)
      · go_wp2
        go_ret
        exact ⟨true, rfl, (fun k => by cases k), hb⟩
      by_cases h2 : (50 : Int) < (x.nn : Int)
      · go_wp2
        go_ret
        exact ⟨true, rfl, (fun k => by cases k), hb⟩
      by_cases h3 : (50 : Int) < (x.kn : Int)
      · go_wp2
        go_ret
        exact ⟨true, rfl, (fun k => by cases k), hb⟩
      · go_wp2
        go_ret
        exact ⟨false, rfl, fun _ => ⟨H.out, by omega, by omega, by omega⟩, hb⟩

/-! ### knows -/
def hayD : D := ⟨[⟨[104, 97, 121], 0⟩], [(nJ, 0)], []⟩
def hayS : D := ⟨[⟨[104, 97, 121], 3⟩], [(nJ, 0)], []⟩
def hayK : D := ⟨[⟨[104, 97, 121], 3⟩], [(nJ, 0)], [(nJ, 0)]⟩
theorem ex1 : appendK zeroD nJ [104, 97, 121] = (hayD, 0) := rfl
theorem ex2 : syncK hayD nJ = (hayS, 0) := rfl
theorem ex3 : crashK hayS [] false = zeroD := rfl
theorem ex4 : syncDirK hayS = hayK := rfl
theorem ex5 : crashK hayK [] false = hayK := rfl
theorem ex6 : getK hayK nJ = ([104, 97, 121], 0) := rfl
theorem ex7 : namesK hayS = [nJ] := rfl
theorem ex8 : RightD hayS := by decide
theorem exs : RightD hayD ∧ RightD hayK := by decide
end Go.Proofs.YtlefpodonkdbeaaGreat.Dw
end
/- Words for laws over disks: append as a step of a region that draws, a variable that is set behind a draw. No conditions but those that each theorem names. -/
section
set_option maxRecDepth 8000
namespace Go.Proofs.YtlefpodonkdbeaaGreat.By
open Go.RowKit
section
variable {P : Program} {T e S : TypeId} {w : World} {A : Option Addr} {n c : Nat} {l : List UInt8}
/-- 'append' of bytes as a step of a region that draws its order. -/
theorem step_appE (hp : ByP P T e S) {ops : Array Oper} {o : Oper} {a : Act} {K : Act → World → Prop} {Q : Exit → Act → World → Prop} {E : Prop} (hgd : o.guard = none) (s x : Operand)
    (ho : o.op = .call { callee := .builtin .append, args := #[s, x], argTypes := #[T, T] }) {B : Nat} (hs : a.eval s = .slice A n c) (hown : Own e B w A n c l)
    {A2 : Option Addr} {m c2 : Nat} {l2 : List UInt8} (hx : a.eval x = .slice A2 m c2) (h2 : Bs w A2 m c2 l2) (hb : n + m ≤ 140737488355328) (hB : B ≤ w.heap.size)
    (h : ∀ A' c' w', Own e B w' A' (n + m) c' (l ++ l2) → Below B w w' → w.grownBy w' (Value.slice A n c).ownBlock → K (a.put o.dst (.slice A' (n + m) c')) w') :
    if Region.wanted o (yielded ops a.tmps) = true then Oper.wp P o a w K Q else E := by
  have hw : Region.wanted o (yielded ops a.tmps) = true := by simp [Region.wanted, hgd]
  rw [if_pos hw]
  exact wp_app hp s x ho hs hown hx h2 hb hB fun A' c' w' h1 h2 h3 _ => h A' c' w' h1 h2 h3
end
end Go.Proofs.YtlefpodonkdbeaaGreat.By
namespace Go.Proofs.YtlefpodonkdbeaaGreat.Dw
open Go.RowKit By Dk

theorem Vd.drewN {B : Nat} {w : World} {g : Nat} {z : Dv} (h : Vd B w g z) (q : Nat) : Vd B (w.drewN q) g z := ⟨h.c, ⟨h.r.f, h.r.n, h.r.k⟩, h.l⟩
theorem Vd.put0 {w : World} {g : Nat} {a1 : Option Addr} {n1 c1 : Nat} {a2 : Option Addr} {n2 c2 : Nat} {a3 : Option Addr} {n3 c3 : Nat} {z : Dv} (h : Cel w g 30 #[.slice a1 n1 c1, .slice a2 n2 c2, .slice a3 n3 c3]) (hz : RdD w.heap.size w z) :
    Vd (((w.setCell ⟨g, 0, none⟩ (.slice z.fA z.fn z.fc)).setCell ⟨g, 1, none⟩ (.slice z.nA z.nn z.nc)).setCell ⟨g, 2, none⟩ (.slice z.kA z.kn z.kc)).heap.size
      (((w.setCell ⟨g, 0, none⟩ (.slice z.fA z.fn z.fc)).setCell ⟨g, 1, none⟩ (.slice z.nA z.nn z.nc)).setCell ⟨g, 2, none⟩ (.slice z.kA z.kn z.kc)) g z :=
  ⟨cel_put3 h, (rdd_away hz h sl3 (cell_put3 w g _ _ _)).mono (by simp), by have := h.lt; simpa using this⟩
end Go.Proofs.YtlefpodonkdbeaaGreat.Dw
end
/- Words for what is done to a disk (boarderlaw08.Act), and what Small comes to. -/
section
set_option maxRecDepth 8000
namespace Go.Proofs.YtlefpodonkdbeaaGreat.Dw
open Go.RowKit By Dk

/-- An act by value, with what its slices hold. -/
structure Av where
  kind : Int
  n : Int
  name : N
  tn : N
  bA : Option Addr
  bc : Nat
  b : List UInt8
  kA : Option Addr
  kc : Nat
  keep : List Int
  dir : Bool
@[reducible] def Av.v (a : Av) : Value := .agg #[.int .i64 a.kind, .int .i64 a.n, .string (ba a.name), .string (ba a.tn), .slice a.bA a.b.length a.bc, .slice a.kA a.keep.length a.kc, .bool a.dir]
def Av.cl (a : Av) : List Value := [.int .i64 a.kind, .int .i64 a.n, .string (ba a.name), .string (ba a.tn), .slice a.bA a.b.length a.bc, .slice a.kA a.keep.length a.kc, .bool a.dir]
def layA : Lay Av := ⟨7, Av.cl, fun _ => rfl, fun a u hu => by
  unfold Av.cl at hu
  simp only [List.mem_cons, List.not_mem_nil, or_false] at hu
  rcases hu with rfl | rfl | rfl | rfl | rfl | rfl | rfl <;> rfl⟩
structure OkA (w : World) (a : Av) : Prop where
  b : Bs w a.bA a.b.length a.bc a.b
  k : Rd w a.kA a.keep.length a.kc (intV a.keep)
  s : a.name.length ≤ 9223372036854775807
  t : a.tn.length ≤ 9223372036854775807
theorem OkA.below {w w' : World} {a : Av} (h : OkA w a) (hb : Below w.heap.size w w') : OkA w' a := ⟨h.b.below hb, h.k.below hb, h.s, h.t⟩
def RdA (w : World) (A : Option Addr) (n c : Nat) (l : List Av) : Prop := RdG layA w.heap.size w A n c l ∧ ∀ a ∈ l, OkA w a
theorem RdA.below {w w' : World} {A : Option Addr} {n c : Nat} {l : List Av} (h : RdA w A n c l) (hb : Below w.heap.size w w') : RdA w' A n c l := ⟨(h.1.below hb).mono hb.size, fun a ha => (h.2 a ha).below hb⟩
/-- One act of a slice that reads. -/
theorem atA {w : World} {A : Option Addr} {n c : Nat} {l : List Av} (h : RdA w A n c l) {k : Nat} (hk : k < n) : ∃ b o a, A = some ⟨b, o, none⟩ ∧ b < w.heap.size ∧ Hid (l[k]? = some a) ∧ OkA w a ∧
    w.cell? ⟨b, o + k * 7, none⟩ = some (.int .i64 a.kind) ∧ w.cell? ⟨b, o + k * 7 + 1, none⟩ = some (.int .i64 a.n) ∧ w.cell? ⟨b, o + k * 7 + 2, none⟩ = some (.string (ba a.name)) ∧ w.cell? ⟨b, o + k * 7 + 3, none⟩ = some (.string (ba a.tn)) ∧
    w.cell? ⟨b, o + k * 7 + 4, none⟩ = some (.slice a.bA a.b.length a.bc) ∧ w.cell? ⟨b, o + k * 7 + 5, none⟩ = some (.slice a.kA a.keep.length a.kc) ∧ w.cell? ⟨b, o + k * 7 + 6, none⟩ = some (.bool a.dir) := by
  obtain ⟨b, o, e, hU, a, hl, hc⟩ := h.1.at_ hk
  exact ⟨b, o, a, e, hU, hl, h.2 a (List.mem_of_getElem? hl.out), hc 0 _ rfl, hc 1 _ rfl, hc 2 _ rfl, hc 3 _ rfl, hc 4 _ rfl, hc 5 _ rfl, hc 6 _ rfl⟩
def SmR (w : World) (a : Av) (e : Ending) (w' : World) : Prop := ∃ s : Bool, e = .returned (.bool s) ∧ (s = true → a.name.length ≤ 100 ∧ a.tn.length ≤ 100 ∧ a.b.length ≤ 30000 ∧ a.keep.length ≤ 100) ∧ Below w.heap.size w w'
end Go.Proofs.YtlefpodonkdbeaaGreat.Dw
end
