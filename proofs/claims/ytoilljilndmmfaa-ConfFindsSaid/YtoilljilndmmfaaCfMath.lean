/- The mathematics of layer 13 (conf): configurations, what is wrong with them, what is found in them; and what follows (P13.4; the order of the networks). No program. -/
import Derived.Test.YtoilljilndmmfaaAdMath
import Derived.Test.YtoilljilndmmfaaKyMath
namespace Go.Proofs.Ytoilljilndmmfaa.Cf
open Ad Ky

structure Pl where
  first : Int
  last : Int
structure Rs where
  key : List UInt8
  addr : Int
structure Sn where
  base : Int
  bits : Int
  pools : List Pl
  res : List Rs
  iface : Int
  router : Int
  time : Int
structure Cf where
  server : Int
  prob : Int
  nets : List (List Sn)

/-! ### Pairs -/
section
variable {α β : Type}
def pairB (p : α → α → Bool) : List α → Bool
  | [] => false
  | a :: l => l.any (fun b => p b a) || pairB p l
theorem pair_iff {p : α → α → Bool} : ∀ {l : List α}, pairB p l = false ↔ l.Pairwise fun a b => p b a = false
  | [] => ⟨fun _ => List.Pairwise.nil, fun _ => rfl⟩
  | a :: l => by rw [pairB, Bool.or_eq_false_iff, pair_iff, List.pairwise_cons, List.any_eq_false]; simp
theorem pair_snoc (p : α → α → Bool) : ∀ (l : List α) (b : α), pairB p (l ++ [b]) = (pairB p l || l.any fun a => p b a)
  | [], b => rfl
  | a :: l, b => by
    rw [List.cons_append, pairB, pair_snoc, pairB, List.any_append, List.any_cons, List.any_cons, List.any_nil, Bool.or_false]
    ac_rfl
theorem pair_app (p : α → α → Bool) (l m : List α) : pairB p (l ++ m) = (pairB p l || (pairB p m || m.any fun b => l.any fun a => p b a)) := by
  induction l with
  | nil => simp [pairB]
  | cons a l ih =>
    rw [List.cons_append, pairB, ih, pairB, List.any_append]
    have : (m.any fun b => (a :: l).any fun a => p b a) = (m.any (fun b => p b a) || m.any fun b => l.any fun a => p b a) := by
      clear ih
      induction m with
      | nil => rfl
      | cons b m ih =>
        rw [List.any_cons, List.any_cons, List.any_cons, List.any_cons, ih]
        ac_rfl
    rw [this]
    ac_rfl
theorem pair_mem {R : α → α → Prop} : ∀ {l : List α}, l.Pairwise R → ∀ {a b}, a ∈ l → b ∈ l → a = b ∨ R a b ∨ R b a
  | c :: l, h, a, b, ha, hb => by
    obtain ⟨h1, h2⟩ := List.pairwise_cons.1 h
    rcases List.mem_cons.1 ha with e | k <;> rcases List.mem_cons.1 hb with f | q
    · exact .inl (e.trans f.symm)
    · exact .inr (.inl (e ▸ h1 b q))
    · exact .inr (.inr (f ▸ h1 a k))
    · exact pair_mem h2 k q
theorem pair_perm {p : α → α → Bool} (sym : ∀ a b, p a b = p b a) {l m : List α} (h : l.Perm m) : pairB p l = pairB p m := by
  have k : pairB p l = false ↔ pairB p m = false := by
    rw [pair_iff, pair_iff]
    exact List.Perm.pairwise_iff (R := fun a b => p b a = false) (fun {x y} hx => by rw [sym]; exact hx) h
  cases hm : pairB p m with
  | false => exact k.2 hm
  | true =>
    cases hl : pairB p l with
    | false => rw [k.1 hl] at hm; cases hm
    | true => rfl
theorem pair_map {p : α → α → Bool} {q : β → β → Bool} (f : α → β) (h : ∀ a b, q (f a) (f b) = p a b) : ∀ l : List α, pairB q (l.map f) = pairB p l
  | [] => rfl
  | a :: l => by
    rw [List.map_cons, pairB, pairB, pair_map f h l, List.any_map]
    congr 1
    exact congrArg (l.any ·) (funext fun b => h b a)
theorem any_perm {p : α → Bool} {l m : List α} (h : l.Perm m) : l.any p = m.any p := by
  rw [Bool.eq_iff_iff, List.any_eq_true, List.any_eq_true]
  exact ⟨fun ⟨x, hx, e⟩ => ⟨x, h.mem_iff.1 hx, e⟩, fun ⟨x, hx, e⟩ => ⟨x, h.mem_iff.2 hx, e⟩⟩
theorem all_mem {p : α → Bool} {l m : List α} (h : ∀ x, x ∈ l ↔ x ∈ m) : l.all p = m.all p := by
  rw [Bool.eq_iff_iff, List.all_eq_true, List.all_eq_true]
  exact ⟨fun k x hx => k x ((h x).2 hx), fun k x hx => k x ((h x).1 hx)⟩
end

/-! ### What is wrong -/
def resF (r : Rs) : Bool := rightK r.key
def poolF (p : Pl) : Bool := decide (p.first ≤ p.last)
def snF (s : Sn) : Bool :=
  fairB s.base s.bits && decide (8 ≤ s.bits ∧ s.bits ≤ 30) && decide (s.pools.length ≤ 4) && decide (s.res.length ≤ 8) &&
    decide (0 ≤ s.iface ∧ s.iface ≤ 99) && decide (1 ≤ s.time ∧ s.time ≤ 2147483648) && s.pools.all poolF && s.res.all resF
def netF (n : List Sn) : Bool := decide (1 ≤ n.length ∧ n.length ≤ 4) && n.all snF
def formC (c : Cf) : Bool := rightB c.server && decide (1 ≤ c.prob ∧ c.prob ≤ 2147483648) && decide (c.nets.length ≤ 4) && c.nets.all netF
def lendsB (s : Sn) (a : Int) : Bool := decide (s.base < a ∧ a < s.base + sz s.bits - 1)
def inPl (p : Pl) (a : Int) : Bool := decide (p.first ≤ a ∧ a ≤ p.last)
def poolO (srv : Int) (s : Sn) (p : Pl) : Bool := lendsB s p.first && lendsB s p.last && !inPl p srv
def resO (srv : Int) (s : Sn) (r : Rs) : Bool := lendsB s r.addr && !decide (r.addr = srv)
def snO (srv : Int) (s : Sn) : Bool := s.pools.all (poolO srv s) && s.res.all (resO srv s) && (decide (s.router = 0) || hasB s.base s.bits s.router)
def placesC (c : Cf) : Bool := c.nets.all fun n => n.all (snO c.server)
/-- All subnets, and of each its network. -/
def flatN : Nat → List (List Sn) → List (Nat × Sn)
  | _, [] => []
  | i, n :: r => n.map (fun s => (i, s)) ++ flatN (i + 1) r
def resN (x : Nat × Sn) : List (Nat × Rs) := x.2.res.map fun r => (x.1, r)
def resA (l : List (Nat × Sn)) : List (Nat × Rs) := l.flatMap resN
def plMeet (p q : Pl) : Bool := decide (p.first ≤ q.last ∧ q.first ≤ p.last)
def snClash (x y : Nat × Sn) : Bool := meetB x.2.base x.2.bits y.2.base y.2.bits || (decide (x.1 ≠ y.1) && decide (0 < x.2.iface) && decide (x.2.iface = y.2.iface))
def rsClash (x y : Nat × Rs) : Bool := decide (x.2.addr = y.2.addr) || (decide (x.1 = y.1) && decide (x.2.key = y.2.key))
def pooledB (s : Sn) : Bool := pairB plMeet s.pools
def twiceL (l : List (Nat × Sn)) : Bool := l.any (fun x => pooledB x.2) || pairB snClash l || pairB rsClash (resA l)
def twiceC (c : Cf) : Bool := twiceL (flatN 0 c.nets)
def checkC (c : Cf) : Int := if formC c = true then (if placesC c = true then (if twiceC c = true then 8 else 0) else 9) else 1
theorem check_ok {c : Cf} : checkC c = 0 ↔ formC c = true ∧ placesC c = true ∧ twiceC c = false := by
  unfold checkC
  by_cases h1 : formC c = true
  · by_cases h2 : placesC c = true
    · by_cases h3 : twiceC c = true
      · simp [h1, h2, h3]
      · simp [h1, h2, h3]
    · simp [h1, h2]
  · simp [h1]

/-! ### What is found -/
def findN (p : Sn → Bool) : Nat → List (List Sn) → Option (Nat × Nat)
  | _, [] => none
  | i, n :: r => match n.findIdx? p with
    | some k => some (i, k)
    | none => findN p (i + 1) r
def ansP : Option (Nat × Nat) → Int × Int × Bool
  | some (i, k) => (i, k, true)
  | none => (0, 0, false)
def findC (c : Cf) (a : Int) : Int × Int × Bool := if checkC c = 0 then ansP (findN (fun s => hasB s.base s.bits a) 0 c.nets) else (0, 0, false)
def wireC (c : Cf) (iface : Int) : Int × Int × Bool := if checkC c = 0 ∧ 1 ≤ iface then ansP (findN (fun s => decide (s.iface = iface)) 0 c.nets) else (0, 0, false)
/-- The network with an index; none, if the configuration isn't valid. -/
def netC (c : Cf) (net : Int) : List Sn := if checkC c = 0 ∧ 0 ≤ net ∧ net < c.nets.length then c.nets.getD net.toNat [] else []
def keptN (n : List Sn) (k : List UInt8) : Option Rs := (n.flatMap fun s => s.res).find? fun r => decide (r.key = k)
def ansA : Option Rs → Int × Bool
  | some r => (r.addr, true)
  | none => (0, false)
def keptC (c : Cf) (net : Int) (k : List UInt8) : Int × Bool := ansA (keptN (netC c net) k)
def ansK : Option Rs → List UInt8 × Bool
  | some r => (r.key, true)
  | none => ([], false)
def keeperN (n : List Sn) (a : Int) : Option Rs := (n.flatMap fun s => s.res).find? fun r => decide (r.addr = a)
def keeperC (c : Cf) (a : Int) : List UInt8 × Bool := if checkC c = 0 then ansK (keeperN c.nets.flatten a) else ([], false)
def pooledN (n : List Sn) (a : Int) : Bool := n.any fun s => s.pools.any fun p => inPl p a
def inPoolC (c : Cf) (net a : Int) : Bool := pooledN (netC c net) a
theorem net_at {c : Cf} {net : Int} {s : Sn} (h : s ∈ netC c net) : checkC c = 0 ∧ ∃ i : Nat, net = i ∧ ∃ hi : i < c.nets.length, s ∈ c.nets[i] := by
  unfold netC at h
  split at h
  · next hh =>
    refine ⟨hh.1, net.toNat, by omega, by omega, ?_⟩
    rw [List.getD_eq_getElem?_getD, List.getElem?_eq_getElem (by omega)] at h
    exact h
  · cases h

/-! ### All subnets -/
theorem mem_flatN {x : Nat × Sn} : ∀ {l : List (List Sn)} {i : Nat}, x ∈ flatN i l ↔ i ≤ x.1 ∧ ∃ h : x.1 - i < l.length, x.2 ∈ l[x.1 - i]
  | [], i => ⟨fun h => (by cases h), fun ⟨_, h, _⟩ => absurd h (Nat.not_lt_zero _)⟩
  | n :: r, i => by
    rw [flatN, List.mem_append, mem_flatN, List.mem_map]
    constructor
    · rintro (⟨s, hs, rfl⟩ | ⟨h1, h2, h3⟩)
      · exact ⟨Nat.le_refl _, by simp, by simpa using hs⟩
      · refine ⟨by omega, by rw [List.length_cons]; omega, ?_⟩
        rw [List.getElem_cons]
        rw [dif_neg (by omega)]
        have e : x.1 - i - 1 = x.1 - (i + 1) := by omega
        simp only [e]
        exact h3
    · rintro ⟨h1, h2, h3⟩
      rw [List.getElem_cons] at h3
      split at h3
      · next h0 => exact .inl ⟨x.2, h3, by rw [show i = x.1 by omega]⟩
      · next h0 =>
        have e : x.1 - i - 1 = x.1 - (i + 1) := by omega
        simp only [e] at h3
        exact .inr ⟨by omega, by rw [List.length_cons] at h2; omega, h3⟩
theorem mem_flat {c : Cf} {i : Nat} {s : Sn} : (i, s) ∈ flatN 0 c.nets ↔ ∃ h : i < c.nets.length, s ∈ c.nets[i] := by
  rw [mem_flatN]
  exact ⟨fun h => h.2, fun h => ⟨Nat.zero_le _, h⟩⟩
theorem find_some {p : Sn → Bool} : ∀ {l : List (List Sn)} {i : Nat} {x : Nat × Nat}, findN p i l = some x → ∃ s, (x.1, s) ∈ flatN i l ∧ p s = true ∧ ∃ n, l[x.1 - i]? = some n ∧ n[x.2]? = some s
  | [], i, x, h => by cases h
  | n :: r, i, x, h => by
    rw [findN] at h
    cases hf : n.findIdx? p with
    | some k =>
      rw [hf] at h
      injection h with h
      obtain ⟨hk, hp, _⟩ := List.findIdx?_eq_some_iff_getElem.1 hf
      rw [← h]
      exact ⟨n[k], List.mem_append_left _ (List.mem_map.2 ⟨n[k], List.getElem_mem hk, rfl⟩), hp, n, by simp, by simp [hk]⟩
    | none =>
      rw [hf] at h
      obtain ⟨s, h1, h2, m, h3, h4⟩ := find_some h
      have := (mem_flatN.1 h1).1
      simp only at this
      refine ⟨s, List.mem_append_right _ h1, h2, m, ?_, h4⟩
      rw [show x.1 - i = (x.1 - (i + 1)) + 1 by omega, List.getElem?_cons_succ]
      exact h3
theorem find_none {p : Sn → Bool} : ∀ {l : List (List Sn)} {i : Nat}, findN p i l = none → ∀ x ∈ flatN i l, p x.2 = false
  | [], i, _, x, hx => by cases hx
  | n :: r, i, h, x, hx => by
    rw [findN] at h
    cases hf : n.findIdx? p with
    | some k => rw [hf] at h; cases h
    | none =>
      rw [hf] at h
      rcases List.mem_append.1 hx with k | k
      · obtain ⟨s, hs, rfl⟩ := List.mem_map.1 k
        exact List.findIdx?_eq_none_iff.1 hf s hs
      · exact find_none h x k

/-! ### P13.4 -/
theorem twice_no {c : Cf} (h : twiceC c = false) : (flatN 0 c.nets).Pairwise (fun x y => snClash y x = false) ∧ (resA (flatN 0 c.nets)).Pairwise (fun x y => rsClash y x = false) ∧ ∀ x ∈ flatN 0 c.nets, pooledB x.2 = false := by
  unfold twiceC twiceL at h
  rw [Bool.or_eq_false_iff, Bool.or_eq_false_iff] at h
  exact ⟨pair_iff.1 h.1.2, pair_iff.1 h.2, by simpa using h.1.1⟩
theorem meet_of {b k d l a : Int} (h1 : hasB b k a = true) (h2 : hasB d l a = true) : meetB b k d l = true := by
  obtain ⟨f1, _, h3⟩ := hasB_iff.1 h1
  obtain ⟨f2, _, h4⟩ := hasB_iff.1 h2
  exact meetB_iff.2 ⟨f1, f2, by omega, by omega⟩
/-- An address is in one subnet at most. -/
theorem one_sn {c : Cf} (h : checkC c = 0) {x y : Nat × Sn} (hx : x ∈ flatN 0 c.nets) (hy : y ∈ flatN 0 c.nets) {a : Int} (ha : hasB x.2.base x.2.bits a = true) (hb : hasB y.2.base y.2.bits a = true) : x = y := by
  rcases pair_mem (twice_no (check_ok.1 h).2.2).1 hx hy with e | k | k
  · exact e
  · unfold snClash at k
    rw [meet_of hb ha] at k
    cases k
  · unfold snClash at k
    rw [meet_of ha hb] at k
    cases k
theorem one_rs {c : Cf} (h : checkC c = 0) {x y : Nat × Rs} (hx : x ∈ resA (flatN 0 c.nets)) (hy : y ∈ resA (flatN 0 c.nets)) (ha : x.2.addr = y.2.addr) : x = y := by
  rcases pair_mem (twice_no (check_ok.1 h).2.2).2.1 hx hy with e | k | k
  · exact e
  · unfold rsClash at k
    rw [decide_eq_true ha.symm] at k
    cases k
  · unfold rsClash at k
    rw [decide_eq_true ha] at k
    cases k
theorem sn_form {c : Cf} (h : checkC c = 0) {x : Nat × Sn} (hx : x ∈ flatN 0 c.nets) : snF x.2 = true ∧ snO c.server x.2 = true := by
  obtain ⟨h1, h2, _⟩ := check_ok.1 h
  obtain ⟨hi, hs⟩ := mem_flat (i := x.1) (s := x.2).1 hx
  unfold formC at h1
  rw [Bool.and_eq_true, List.all_eq_true] at h1
  have h3 := h1.2 _ (List.getElem_mem hi)
  unfold netF at h3
  rw [Bool.and_eq_true, List.all_eq_true] at h3
  unfold placesC at h2
  rw [List.all_eq_true] at h2
  have h4 := h2 _ (List.getElem_mem hi)
  rw [List.all_eq_true] at h4
  exact ⟨h3.2 _ hs, h4 _ hs⟩
theorem sn_fair {s : Sn} (h : snF s = true) : fairB s.base s.bits = true := by
  unfold snF at h
  simp only [Bool.and_eq_true] at h
  exact h.1.1.1.1.1.1.1
theorem lends_has {s : Sn} (hf : fairB s.base s.bits = true) {a : Int} (h : s.base < a ∧ a < s.base + sz s.bits - 1) : hasB s.base s.bits a = true := by
  have hl := last_le hf
  obtain ⟨_, ⟨hb, _⟩, _⟩ := fairB_iff.1 hf
  exact hasB_iff.2 ⟨hf, ⟨by omega, by omega⟩, by omega, by omega⟩
/-- What is in a pool is in its subnet, and is not the server. -/
theorem pool_has {c : Cf} (h : checkC c = 0) {x : Nat × Sn} (hx : x ∈ flatN 0 c.nets) {p : Pl} (hp : p ∈ x.2.pools) {a : Int} (ha : inPl p a = true) : hasB x.2.base x.2.bits a = true ∧ a ≠ c.server := by
  obtain ⟨h1, h2⟩ := sn_form h hx
  unfold snO at h2
  rw [Bool.and_eq_true, Bool.and_eq_true, List.all_eq_true] at h2
  have h3 := h2.1.1 p hp
  unfold poolO at h3
  rw [Bool.and_eq_true, Bool.and_eq_true] at h3
  obtain ⟨⟨h4, h5⟩, h6⟩ := h3
  unfold lendsB at h4 h5
  rw [decide_eq_true_iff] at h4 h5
  unfold inPl at ha h6
  rw [decide_eq_true_iff] at ha
  refine ⟨lends_has (sn_fair h1) ⟨by omega, by omega⟩, fun e => ?_⟩
  rw [← e, decide_eq_true ha] at h6
  cases h6
theorem res_has {c : Cf} (h : checkC c = 0) {x : Nat × Sn} (hx : x ∈ flatN 0 c.nets) {r : Rs} (hr : r ∈ x.2.res) : hasB x.2.base x.2.bits r.addr = true ∧ r.addr ≠ c.server := by
  obtain ⟨h1, h2⟩ := sn_form h hx
  unfold snO at h2
  rw [Bool.and_eq_true, Bool.and_eq_true, List.all_eq_true (l := x.2.res)] at h2
  have h3 := h2.1.2 r hr
  unfold resO at h3
  rw [Bool.and_eq_true] at h3
  obtain ⟨h4, h6⟩ := h3
  unfold lendsB at h4
  rw [decide_eq_true_iff] at h4
  refine ⟨lends_has (sn_fair h1) h4, fun e => ?_⟩
  rw [decide_eq_true e] at h6
  cases h6
/-- What a subnet has is found there. -/
theorem find_has {c : Cf} (h : checkC c = 0) {x : Nat × Sn} (hx : x ∈ flatN 0 c.nets) {a : Int} (ha : hasB x.2.base x.2.bits a = true) : ∃ k : Nat, findC c a = ((x.1 : Int), (k : Int), true) := by
  unfold findC
  rw [if_pos h]
  cases hf : findN (fun s => hasB s.base s.bits a) 0 c.nets with
  | none => rw [find_none hf x hx] at ha; cases ha
  | some y =>
    obtain ⟨s, h1, h2, _⟩ := find_some hf
    have := one_sn h hx h1 ha h2
    exact ⟨y.2, by rw [this]; rfl⟩
theorem keeper_has {c : Cf} (h : checkC c = 0) {x : Nat × Sn} (hx : x ∈ flatN 0 c.nets) {r : Rs} (hr : r ∈ x.2.res) : keeperC c r.addr = (r.key, true) := by
  have hm : ∀ {y : Nat × Sn}, y ∈ flatN 0 c.nets → ∀ q ∈ y.2.res, (y.1, q) ∈ resA (flatN 0 c.nets) := fun {y} hy q hq => List.mem_flatMap.2 ⟨y, hy, List.mem_map.2 ⟨q, hq, rfl⟩⟩
  unfold keeperC
  rw [if_pos h]
  unfold keeperN
  cases hf : ((c.nets.flatten.flatMap fun s => s.res).find? fun q => decide (q.addr = r.addr)) with
  | none =>
    rw [List.find?_eq_none] at hf
    obtain ⟨hi, hs⟩ := mem_flat (i := x.1) (s := x.2).1 hx
    exact absurd (by simp) (hf r (List.mem_flatMap.2 ⟨x.2, List.mem_flatten.2 ⟨_, List.getElem_mem hi, hs⟩, hr⟩))
  | some q =>
    have h1 := List.mem_of_find?_eq_some hf
    have h2 : q.addr = r.addr := by simpa using List.find?_some hf
    obtain ⟨s, hs, hq⟩ := List.mem_flatMap.1 h1
    obtain ⟨n, hn, hs⟩ := List.mem_flatten.1 hs
    obtain ⟨i, hi, rfl⟩ := List.mem_iff_getElem.1 hn
    have hy : (i, s) ∈ flatN 0 c.nets := mem_flat.2 ⟨hi, hs⟩
    have := one_rs h (hm hx r hr) (hm hy q hq) h2.symm
    have : r = q := congrArg Prod.snd this
    rw [← this]
    rfl
/-- P13.4, of pools. -/
theorem pool_one {c : Cf} {net a : Int} (h : inPoolC c net a = true) : (∃ k : Nat, findC c a = (net, (k : Int), true)) ∧ a ≠ c.server ∧ ∀ other, other ≠ net → inPoolC c other a = false := by
  unfold inPoolC pooledN at h
  rw [List.any_eq_true] at h
  obtain ⟨s, hs, h⟩ := h
  rw [List.any_eq_true] at h
  obtain ⟨p, hp, h⟩ := h
  obtain ⟨hc, i, rfl, hi⟩ := net_at hs
  have hx : (i, s) ∈ flatN 0 c.nets := mem_flat.2 hi
  obtain ⟨h1, h2⟩ := pool_has hc hx hp h
  refine ⟨find_has hc hx h1, h2, fun other ho => ?_⟩
  unfold inPoolC pooledN
  rw [List.any_eq_false]
  intro t ht k
  rw [List.any_eq_true] at k
  obtain ⟨q, hq, k⟩ := k
  obtain ⟨_, j, rfl, hj⟩ := net_at ht
  have hy : (j, t) ∈ flatN 0 c.nets := mem_flat.2 hj
  have := one_sn hc hx hy h1 (pool_has hc hy hq k).1
  have : i = j := congrArg Prod.fst this
  exact ho (by rw [this])
/-- P13.4, of what is reserved. -/
theorem kept_one {c : Cf} {net : Int} {k : List UInt8} (h : (keptC c net k).2 = true) : (∃ j : Nat, findC c (keptC c net k).1 = (net, (j : Int), true)) ∧ keeperC c (keptC c net k).1 = (k, true) ∧ (keptC c net k).1 ≠ c.server := by
  unfold keptC at h ⊢
  cases hf : keptN (netC c net) k with
  | none => rw [hf] at h; cases h
  | some r =>
    unfold keptN at hf
    have h1 := List.mem_of_find?_eq_some hf
    have h2 : r.key = k := by simpa using List.find?_some hf
    obtain ⟨s, hs, hr⟩ := List.mem_flatMap.1 h1
    obtain ⟨hc, i, rfl, hi⟩ := net_at hs
    have hx : (i, s) ∈ flatN 0 c.nets := mem_flat.2 hi
    obtain ⟨h3, h4⟩ := res_has hc hx hr
    have h5 := keeper_has hc hx hr
    rw [h2] at h5
    exact ⟨find_has hc hx h3, h5, h4⟩
theorem keeper_one {c : Cf} {a : Int} (h : (keeperC c a).2 = true) : (findC c a).2.2 = true := by
  unfold keeperC at h
  split at h
  · next hc =>
    cases hf : keeperN c.nets.flatten a with
    | none => rw [hf] at h; cases h
    | some q =>
      unfold keeperN at hf
      have h1 := List.mem_of_find?_eq_some hf
      have h2 : q.addr = a := by simpa using List.find?_some hf
      obtain ⟨s, hs, hq⟩ := List.mem_flatMap.1 h1
      obtain ⟨n, hn, hs⟩ := List.mem_flatten.1 hs
      obtain ⟨i, hi, rfl⟩ := List.mem_iff_getElem.1 hn
      have hy : (i, s) ∈ flatN 0 c.nets := mem_flat.2 ⟨hi, hs⟩
      have h3 := (res_has hc hy hq).1
      rw [h2] at h3
      obtain ⟨k, e⟩ := find_has hc hy h3
      rw [e]
  · cases h

/-! ### The networks in another order -/
def swapN (i k m : Nat) : Nat := if m = i then k else if m = k then i else m
theorem swap_swap (i k m : Nat) : swapN i k (swapN i k m) = m := by
  unfold swapN
  split <;> split <;> (try split) <;> omega
theorem swap_inj {i k m n : Nat} (h : swapN i k m = swapN i k n) : m = n := by rw [← swap_swap i k m, h, swap_swap]
theorem swap_lt {i k m n : Nat} (hi : i < n) (hk : k < n) (hm : m < n) : swapN i k m < n := by
  unfold swapN
  split
  · exact hk
  · split <;> assumption
def swapL (l : List (List Sn)) (i k : Nat) : List (List Sn) := (l.set i (l.getD k [])).set k (l.getD i [])
theorem swap_len (l : List (List Sn)) (i k : Nat) : (swapL l i k).length = l.length := by unfold swapL; simp
theorem swap_at {l : List (List Sn)} {i k : Nat} (hi : i < l.length) (hk : k < l.length) (m : Nat) : (swapL l i k).getD m [] = l.getD (swapN i k m) [] := by
  unfold swapL swapN
  simp only [List.getD_eq_getElem?_getD]
  rw [List.getElem?_set, List.length_set, List.getElem?_set]
  by_cases h1 : k = m
  · rw [if_pos h1, if_pos (by omega)]
    by_cases h2 : m = i
    · rw [if_pos h2, show i = k by omega]; rfl
    · rw [if_neg h2, if_pos h1.symm]; rfl
  · rw [if_neg h1]
    by_cases h2 : i = m
    · rw [if_pos h2, if_pos hi, if_pos h2.symm]; rfl
    · rw [if_neg h2, if_neg (by omega), if_neg (by omega)]
theorem mem_swap {l : List (List Sn)} {i k : Nat} (hi : i < l.length) (hk : k < l.length) (x : List Sn) : x ∈ swapL l i k ↔ x ∈ l := by
  have go : ∀ {l : List (List Sn)}, x ∈ l ↔ ∃ m, m < l.length ∧ l.getD m [] = x := fun {l} => by
    rw [List.mem_iff_getElem]
    constructor
    · rintro ⟨m, hm, e⟩
      exact ⟨m, hm, by rw [List.getD_eq_getElem?_getD, List.getElem?_eq_getElem hm]; exact e⟩
    · rintro ⟨m, hm, e⟩
      exact ⟨m, hm, by rw [List.getD_eq_getElem?_getD, List.getElem?_eq_getElem hm] at e; exact e⟩
  rw [go, go, swap_len]
  constructor
  · rintro ⟨m, hm, e⟩
    exact ⟨swapN i k m, swap_lt hi hk hm, by rw [← swap_at hi hk]; exact e⟩
  · rintro ⟨m, hm, e⟩
    exact ⟨swapN i k m, swap_lt hi hk hm, by rw [swap_at hi hk, swap_swap]; exact e⟩
def rowN (l : List (List Sn)) (m : Nat) : List (Nat × Sn) := (l.getD m []).map fun s => (m, s)
theorem flat_range : ∀ (l : List (List Sn)) (i : Nat), flatN i l = (List.range l.length).flatMap fun m => (l.getD m []).map fun s => (i + m, s)
  | [], _ => rfl
  | n :: r, i => by
    rw [flatN, flat_range r (i + 1), List.length_cons, List.range_succ_eq_map, List.flatMap_cons, List.flatMap_map]
    congr 1
    refine congrArg (List.flatMap · _) (funext fun m => ?_)
    show ((r.getD m []).map fun s => (i + 1 + m, s)) = (r.getD m []).map fun s => (i + (m + 1), s)
    rw [show i + 1 + m = i + (m + 1) by omega]
theorem flat_rows (l : List (List Sn)) : flatN 0 l = (List.range l.length).flatMap (rowN l) := by
  rw [flat_range]
  refine congrArg (List.flatMap · _) (funext fun m => ?_)
  unfold rowN
  rw [Nat.zero_add]
theorem range_swap {i k n : Nat} (hi : i < n) (hk : k < n) : ((List.range n).map (swapN i k)).Perm (List.range n) := by
  refine (List.perm_ext_iff_of_nodup ?_ List.nodup_range).2 fun m => ?_
  · exact List.Pairwise.map (swapN i k) (fun a b h e => h (swap_inj e)) List.nodup_range
  · rw [List.mem_map, List.mem_range]
    constructor
    · rintro ⟨q, hq, rfl⟩
      exact swap_lt hi hk (List.mem_range.1 hq)
    · intro hm
      exact ⟨swapN i k m, List.mem_range.2 (swap_lt hi hk hm), swap_swap i k m⟩
/-- All subnets, with the networks in another order: the same, but for their networks' numbers. -/
theorem flat_swap {l : List (List Sn)} {i k : Nat} (hi : i < l.length) (hk : k < l.length) : ((flatN 0 l).map fun x => (swapN i k x.1, x.2)).Perm (flatN 0 (swapL l i k)) := by
  have h1 : ((flatN 0 l).map fun x => (swapN i k x.1, x.2)) = ((List.range l.length).map (swapN i k)).flatMap (rowN (swapL l i k)) := by
    rw [flat_rows, List.map_flatMap, List.flatMap_map]
    refine congrArg (List.flatMap · _) (funext fun m => ?_)
    unfold rowN
    rw [swap_at hi hk, swap_swap, List.map_map]
    rfl
  rw [h1, flat_rows (swapL l i k), swap_len]
  exact List.Perm.flatMap_right _ (range_swap hi hk)
theorem res_swap {i k : Nat} : ∀ l : List (Nat × Sn), resA (l.map fun x => (swapN i k x.1, x.2)) = (resA l).map fun x => (swapN i k x.1, x.2)
  | [] => rfl
  | a :: l => by
    unfold resA
    rw [List.map_cons, List.flatMap_cons, List.flatMap_cons, List.map_append]
    congr 1
    · unfold resN
      rw [List.map_map]
      rfl
    · exact res_swap l
theorem meet_sym (b k d l : Int) : meetB b k d l = meetB d l b k := by
  rw [Bool.eq_iff_iff, meetB_iff, meetB_iff]
  exact ⟨fun ⟨a, b, c, d⟩ => ⟨b, a, d, c⟩, fun ⟨a, b, c, d⟩ => ⟨b, a, d, c⟩⟩
theorem sn_sym (x y : Nat × Sn) : snClash x y = snClash y x := by
  unfold snClash
  rw [meet_sym, Bool.eq_iff_iff]
  simp only [Bool.or_eq_true, Bool.and_eq_true, decide_eq_true_iff]
  constructor
  · rintro (h | ⟨⟨h1, h2⟩, h3⟩)
    · exact .inl h
    · exact .inr ⟨⟨fun e => h1 e.symm, by omega⟩, h3.symm⟩
  · rintro (h | ⟨⟨h1, h2⟩, h3⟩)
    · exact .inl h
    · exact .inr ⟨⟨fun e => h1 e.symm, by omega⟩, h3.symm⟩
theorem rs_sym (x y : Nat × Rs) : rsClash x y = rsClash y x := by
  unfold rsClash
  rw [Bool.eq_iff_iff]
  simp only [Bool.or_eq_true, Bool.and_eq_true, decide_eq_true_iff]
  constructor
  · rintro (h | ⟨h1, h2⟩)
    · exact .inl h.symm
    · exact .inr ⟨h1.symm, h2.symm⟩
  · rintro (h | ⟨h1, h2⟩)
    · exact .inl h.symm
    · exact .inr ⟨h1.symm, h2.symm⟩
theorem swap_dec {i k m n : Nat} : decide (swapN i k m = swapN i k n) = decide (m = n) := by
  rw [decide_eq_decide]
  exact ⟨swap_inj, fun e => by rw [e]⟩
theorem twice_swap {l : List (List Sn)} {i k : Nat} (hi : i < l.length) (hk : k < l.length) : twiceL (flatN 0 (swapL l i k)) = twiceL (flatN 0 l) := by
  have hp := flat_swap hi hk
  unfold twiceL
  have hq : (resA ((flatN 0 l).map fun x => (swapN i k x.1, x.2))).Perm (resA (flatN 0 (swapL l i k))) := List.Perm.flatMap_right resN hp
  rw [← any_perm hp, ← pair_perm sn_sym hp, ← pair_perm rs_sym hq, res_swap, List.any_map]
  rw [pair_map (p := snClash) (q := snClash) (fun x : Nat × Sn => (swapN i k x.1, x.2)) fun a b => by
    unfold snClash
    simp only [ne_eq, decide_not, swap_dec]]
  rw [pair_map (p := rsClash) (q := rsClash) (fun x : Nat × Rs => (swapN i k x.1, x.2)) fun a b => by
    unfold rsClash
    simp only [swap_dec]]
  rfl
/-- What is wrong with a configuration doesn't hang on the order of its networks. -/
theorem check_swap (c : Cf) {i k : Nat} (hi : i < c.nets.length) (hk : k < c.nets.length) : checkC ⟨c.server, c.prob, swapL c.nets i k⟩ = checkC c := by
  have h1 : formC ⟨c.server, c.prob, swapL c.nets i k⟩ = formC c := by
    unfold formC
    simp only
    rw [swap_len, all_mem (mem_swap hi hk)]
  have h2 : placesC ⟨c.server, c.prob, swapL c.nets i k⟩ = placesC c := by
    unfold placesC
    simp only
    rw [all_mem (mem_swap hi hk)]
  have h3 : twiceC ⟨c.server, c.prob, swapL c.nets i k⟩ = twiceC c := twice_swap hi hk
  unfold checkC
  rw [h1, h2, h3]
end Go.Proofs.Ytoilljilndmmfaa.Cf
