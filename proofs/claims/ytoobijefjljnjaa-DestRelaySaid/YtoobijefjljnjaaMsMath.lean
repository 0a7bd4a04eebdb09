/- Messages as lists of bytes: which are right, how they are written and read, options in the file and the name. Plain mathematics, no program. -/
import Derived.Test.YtoobijefjljnjaaCoMath
import Derived.Test.YtoobijefjljnjaaTlMath
namespace Go.Proofs.Ytoobijefjljnjaa.Ms
open Tl Co

structure M where
  op : Int
  htype : Int
  hlen : Int
  hops : Int
  xid : Int
  secs : Int
  flags : Int
  ci : Int
  yi : Int
  si : Int
  gi : Int
  ch : List UInt8
  os : List O
def zeroM : M := ⟨0, 0, 0, 0, 0, 0, 0, 0, 0, 0, 0, [], []⟩
def HeadOk (m : M) : Prop := (0 ≤ m.op ∧ m.op ≤ 255) ∧ (0 ≤ m.htype ∧ m.htype ≤ 255) ∧ (0 ≤ m.hlen ∧ m.hlen ≤ 16) ∧ (0 ≤ m.hops ∧ m.hops ≤ 255) ∧ (0 ≤ m.xid ∧ m.xid ≤ 4294967295) ∧ (0 ≤ m.secs ∧ m.secs ≤ 65535) ∧ (0 ≤ m.flags ∧ m.flags ≤ 65535) ∧
  (0 ≤ m.ci ∧ m.ci ≤ 4294967295) ∧ (0 ≤ m.yi ∧ m.yi ≤ 4294967295) ∧ (0 ≤ m.si ∧ m.si ≤ 4294967295) ∧ (0 ≤ m.gi ∧ m.gi ≤ 4294967295)
instance (m : M) : Decidable (HeadOk m) := by unfold HeadOk; infer_instance
def RightM (m : M) : Prop := HeadOk m ∧ m.ch.length = 16 ∧ rightL m.os = true ∧ hasL m.os 52 = 0
instance (m : M) : Decidable (RightM m) := by unfold RightM; infer_instance
def rightM (m : M) : Bool := decide (RightM m)
def byteI (v : Int) : UInt8 := UInt8.ofNat v.toNat
def numB (v : Int) (n : Nat) : List UInt8 := putL v.toNat n
def cookieL : List UInt8 := [99, 130, 83, 99]
def headL (m : M) : List UInt8 := [byteI m.op, byteI m.htype, byteI m.hlen, byteI m.hops] ++ (numB m.xid 4 ++ (numB m.secs 2 ++ (numB m.flags 2 ++ (numB m.ci 4 ++ (numB m.yi 4 ++ (numB m.si 4 ++ (numB m.gi 4 ++ m.ch)))))))
def padL (b : List UInt8) : List UInt8 := b ++ List.replicate (300 - b.length) 0
def bodyM (m : M) : List UInt8 := headL m ++ (List.replicate 192 0 ++ (cookieL ++ writeL m.os))
def bytesM (m : M) : List UInt8 := padL (bodyM m)
def sub (b : List UInt8) (i n : Nat) : List UInt8 := (b.drop i).take n
def withoutL (l : List O) (c : Int) : List O := l.filter fun o => !(o.1 == c)
def areaL (l : List O) (a : List UInt8) : List O × Int := if (readL [] a).2 ≠ 0 then ([], (readL [] a).2) else if 0 < hasL (readL [] a).1 52 then ([], 2) else joinL l (readL [] a).1
/-- Behind the cookie's options: the value of overload, the two rooms. -/
def roomsL (l : List O) (x : UInt8) (file name : List UInt8) : List O × Int :=
  if x ≠ 2 then (if (areaL l file).2 ≠ 0 then ([], (areaL l file).2) else if x ≠ 1 then areaL (areaL l file).1 name else ((areaL l file).1, 0)) else areaL l name
def overL (l : List O) (d : List UInt8) (file name : List UInt8) : List O × Int :=
  match d with
  | [x] => if x = 0 ∨ 3 < x then ([], 2) else roomsL (withoutL l 52) x file name
  | _ => ([], 2)
def optionsL (b : List UInt8) : List O × Int :=
  if (readL [] (b.drop 240)).2 ≠ 0 then ([], (readL [] (b.drop 240)).2) else
    match findL (readL [] (b.drop 240)).1 52 with
    | none => ((readL [] (b.drop 240)).1, 0)
    | some d => overL (readL [] (b.drop 240)).1 d (sub b 108 128) (sub b 44 64)
def byteAt (b : List UInt8) (i : Nat) : Int := ((b.getD i 0).toNat : Int)
def numAt (b : List UInt8) (i n : Nat) : Int := (valL (sub b i n) : Int)
def msgOf (b : List UInt8) (l : List O) : M := ⟨byteAt b 0, byteAt b 1, byteAt b 2, byteAt b 3, numAt b 4 4, numAt b 8 2, numAt b 10 2, numAt b 12 4, numAt b 16 4, numAt b 20 4, numAt b 24 4, sub b 28 16, l⟩
def readM (b : List UInt8) : M × Int :=
  if b.length < 240 then (zeroM, 4) else if 1500 < b.length then (zeroM, 3) else if sub b 236 4 ≠ cookieL ∨ 16 < (b.getD 2 0).toNat then (zeroM, 2) else
    if (optionsL b).2 ≠ 0 then (zeroM, (optionsL b).2) else (msgOf b (optionsL b).1, 0)

/-! ### Pieces -/
theorem sub_mid {a p r : List UInt8} {i n : Nat} (ha : a.length = i) (hp : p.length = n) : sub (a ++ (p ++ r)) i n = p := by
  subst ha; subst hp
  unfold sub
  rw [List.drop_left, List.take_left]
theorem sub_len {b : List UInt8} {i n : Nat} (h : i + n ≤ b.length) : (sub b i n).length = n := by
  unfold sub
  rw [List.length_take, List.length_drop]
  omega
theorem numB_len (v : Int) (n : Nat) : (numB v n).length = n := putL_length n _
theorem head_len {m : M} (h : m.ch.length = 16) : (headL m).length = 44 := by
  unfold headL
  simp only [List.length_append, List.length_cons, List.length_nil, numB_len, h]
theorem body_lenM {m : M} (h : m.ch.length = 16) : (bodyM m).length = 240 + (writeL m.os).length := by
  unfold bodyM
  simp only [List.length_append, head_len h, List.length_replicate]
  show 44 + (192 + (4 + _)) = _
  omega
theorem bytes_ge (m : M) : 300 ≤ (bytesM m).length := by
  unfold bytesM padL
  rw [List.length_append, List.length_replicate]
  omega
/-- A message's bytes: the head, two rooms, the cookie, the options, and some noughts. -/
theorem bytes_lay (m : M) : ∃ k, bytesM m = headL m ++ (List.replicate 64 0 ++ (List.replicate 128 0 ++ (cookieL ++ (writeL m.os ++ List.replicate k 0)))) := by
  refine ⟨300 - (bodyM m).length, ?_⟩
  unfold bytesM padL bodyM
  have : List.replicate 192 (0 : UInt8) = List.replicate 64 0 ++ List.replicate 128 0 := by rw [List.replicate_append_replicate]
  rw [this]
  simp only [List.append_assoc]
theorem num_back {v : Int} {n : Nat} (h0 : 0 ≤ v) (h1 : v < ((p256 n : Nat) : Int)) : ((valL (numB v n) : Nat) : Int) = v := by
  unfold numB
  rw [valL_putL n v.toNat (by omega)]
  omega
theorem byteI_back {v : Int} (h0 : 0 ≤ v) (h1 : v ≤ 255) : ((byteI v).toNat : Int) = v := by
  unfold byteI
  rw [UInt8.toNat_ofNat']
  omega
/-- What is read of bytes that begin with a message's head. -/
theorem msgOf_head {m : M} (h : HeadOk m) (hc : m.ch.length = 16) (r : List UInt8) (l : List O) : msgOf (headL m ++ r) l = { m with os := l } := by
  obtain ⟨h1, h2, h3, h4, h5, h6, h7, h8, h9, h10, h11⟩ := h
  have p4 : p256 4 = 4294967296 := by decide
  have p2 : p256 2 = 65536 := by decide
  have g : ∀ {i n : Nat} {v : Int} {a t : List UInt8}, headL m ++ r = a ++ (numB v n ++ t) → a.length = i → 0 ≤ v → v < ((p256 n : Nat) : Int) → numAt (headL m ++ r) i n = v := fun {i n v a t} e ha hv0 hv1 => by
    unfold numAt
    rw [e, sub_mid ha (numB_len v n)]
    exact num_back hv0 hv1
  have b0 : byteAt (headL m ++ r) 0 = m.op := byteI_back h1.1 h1.2
  have b1 : byteAt (headL m ++ r) 1 = m.htype := byteI_back h2.1 h2.2
  have b2 : byteAt (headL m ++ r) 2 = m.hlen := byteI_back h3.1 (by omega)
  have b3 : byteAt (headL m ++ r) 3 = m.hops := byteI_back h4.1 h4.2
  let q0 : List UInt8 := [byteI m.op, byteI m.htype, byteI m.hlen, byteI m.hops]
  have c4 : numAt (headL m ++ r) 4 4 = m.xid := g (a := q0) (t := numB m.secs 2 ++ (numB m.flags 2 ++ (numB m.ci 4 ++ (numB m.yi 4 ++ (numB m.si 4 ++ (numB m.gi 4 ++ (m.ch ++ r))))))) (by simp [headL, q0]) rfl h5.1 (by omega)
  have c8 : numAt (headL m ++ r) 8 2 = m.secs := g (a := q0 ++ numB m.xid 4) (t := numB m.flags 2 ++ (numB m.ci 4 ++ (numB m.yi 4 ++ (numB m.si 4 ++ (numB m.gi 4 ++ (m.ch ++ r)))))) (by simp [headL, q0]) (by simp [q0, numB_len]) h6.1 (by omega)
  have c10 : numAt (headL m ++ r) 10 2 = m.flags := g (a := q0 ++ (numB m.xid 4 ++ numB m.secs 2)) (t := numB m.ci 4 ++ (numB m.yi 4 ++ (numB m.si 4 ++ (numB m.gi 4 ++ (m.ch ++ r))))) (by simp [headL, q0]) (by simp [q0, numB_len]) h7.1 (by omega)
  have c12 : numAt (headL m ++ r) 12 4 = m.ci := g (a := q0 ++ (numB m.xid 4 ++ (numB m.secs 2 ++ numB m.flags 2))) (t := numB m.yi 4 ++ (numB m.si 4 ++ (numB m.gi 4 ++ (m.ch ++ r)))) (by simp [headL, q0]) (by simp [q0, numB_len]) h8.1 (by omega)
  have c16 : numAt (headL m ++ r) 16 4 = m.yi := g (a := q0 ++ (numB m.xid 4 ++ (numB m.secs 2 ++ (numB m.flags 2 ++ numB m.ci 4)))) (t := numB m.si 4 ++ (numB m.gi 4 ++ (m.ch ++ r))) (by simp [headL, q0]) (by simp [q0, numB_len]) h9.1 (by omega)
  have c20 : numAt (headL m ++ r) 20 4 = m.si := g (a := q0 ++ (numB m.xid 4 ++ (numB m.secs 2 ++ (numB m.flags 2 ++ (numB m.ci 4 ++ numB m.yi 4))))) (t := numB m.gi 4 ++ (m.ch ++ r)) (by simp [headL, q0]) (by simp [q0, numB_len]) h10.1 (by omega)
  have c24 : numAt (headL m ++ r) 24 4 = m.gi := g (a := q0 ++ (numB m.xid 4 ++ (numB m.secs 2 ++ (numB m.flags 2 ++ (numB m.ci 4 ++ (numB m.yi 4 ++ numB m.si 4)))))) (t := m.ch ++ r) (by simp [headL, q0]) (by simp [q0, numB_len]) h11.1 (by omega)
  have c28 : sub (headL m ++ r) 28 16 = m.ch := by
    have e : headL m ++ r = (q0 ++ (numB m.xid 4 ++ (numB m.secs 2 ++ (numB m.flags 2 ++ (numB m.ci 4 ++ (numB m.yi 4 ++ (numB m.si 4 ++ numB m.gi 4))))))) ++ (m.ch ++ r) := by simp [headL, q0]
    rw [e]
    exact sub_mid (by simp [q0, numB_len]) hc
  unfold msgOf
  rw [b0, b1, b2, b3, c4, c8, c10, c12, c16, c20, c24, c28]

/-! ### Right -/
theorem rightM_iff (m : M) : rightM m = true ↔ RightM m := by unfold rightM; exact decide_eq_true_iff
theorem find_of_has {l : List O} {c : Int} (h : hasL l c = 0) : findL l c = none := find_none (has_zero.1 h)
theorem joined_has {l : List O} {c k : Int} {d : List UInt8} (h : k ∉ codesL l) (hk : k ≠ c) : k ∉ codesL (joinedL l c d) := by
  rw [codes_joined]
  intro hm
  rcases List.mem_append.1 hm with hm | hm
  · exact h hm
  · split at hm
    · cases hm
    · simp at hm; exact hk hm
theorem joinAll_has {k : Int} : ∀ {m l : List O}, k ∉ codesL l → k ∉ codesL m → k ∉ codesL (joinAll l m)
  | [], _, h, _ => h
  | o :: m, l, h, hm => by
    simp only [codesL, List.map_cons, List.mem_cons, not_or] at hm
    exact joinAll_has (m := m) (joined_has h hm.1) hm.2
theorem joinL_good {l m : List O} (h : (joinL l m).2 = 0) : joinL l m = (joinAll l m, 0) ∧ rightL (joinAll l m) = true := by
  unfold joinL at h ⊢
  by_cases h1 : rightL l = true ∧ rightL m = true
  · rw [if_pos h1] at h ⊢
    by_cases h2 : rightL (joinAll l m) = true
    · rw [if_pos h2]; exact ⟨rfl, h2⟩
    · rw [if_neg h2] at h; cases h
  · rw [if_neg h1] at h; cases h
theorem joinL_bad {l m : List O} (h : (joinL l m).2 ≠ 0) : (joinL l m).1 = [] := by
  unfold joinL at h ⊢
  by_cases h1 : rightL l = true ∧ rightL m = true
  · rw [if_pos h1] at h ⊢
    by_cases h2 : rightL (joinAll l m) = true
    · rw [if_pos h2] at h; exact absurd rfl h
    · rw [if_neg h2]
  · rw [if_neg h1]
def GoodO (l : List O) : Prop := rightL l = true ∧ hasL l 52 = 0
theorem area_good {l : List O} {a : List UInt8} (hl : GoodO l) (h : (areaL l a).2 = 0) : GoodO (areaL l a).1 := by
  unfold areaL at h ⊢
  by_cases h1 : (readL [] a).2 ≠ 0
  · rw [if_pos h1] at h; exact absurd h h1
  · rw [if_neg h1] at h ⊢
    by_cases h2 : 0 < hasL (readL [] a).1 52
    · rw [if_pos h2] at h; cases h
    · rw [if_neg h2] at h ⊢
      obtain ⟨e, hr⟩ := joinL_good h
      rw [e]
      exact ⟨hr, has_zero.2 (joinAll_has (has_zero.1 hl.2) (has_zero.1 (by omega)))⟩
theorem area_bad {l : List O} {a : List UInt8} (h : (areaL l a).2 ≠ 0) : (areaL l a).1 = [] := by
  unfold areaL at h ⊢
  by_cases h1 : (readL [] a).2 ≠ 0
  · rw [if_pos h1]
  · rw [if_neg h1] at h ⊢
    by_cases h2 : 0 < hasL (readL [] a).1 52
    · rw [if_pos h2]
    · rw [if_neg h2] at h ⊢
      exact joinL_bad h
theorem without_codes (l : List O) (c : Int) : codesL (withoutL l c) = (codesL l).filter fun x => !(x == c) := by
  unfold withoutL codesL
  rw [List.filter_map]
  rfl
theorem without_good {l : List O} (h : rightL l = true) : GoodO (withoutL l 52) := by
  constructor
  · rw [right_iff]
    refine ⟨Nat.le_trans (List.length_filter_le _ _) (right_len h), fun o ho => right_fit h (List.mem_filter.1 ho).1, ?_⟩
    rw [without_codes]
    exact List.Nodup.sublist List.filter_sublist (right_nodup h)
  · rw [has_zero, without_codes]
    intro hm
    have := (List.mem_filter.1 hm).2
    simp at this
theorem rooms_good {l : List O} {x : UInt8} {f n : List UInt8} (hl : GoodO l) (h : (roomsL l x f n).2 = 0) : GoodO (roomsL l x f n).1 := by
  unfold roomsL at h ⊢
  by_cases h1 : x ≠ 2
  · rw [if_pos h1] at h ⊢
    by_cases h2 : (areaL l f).2 ≠ 0
    · rw [if_pos h2] at h; exact absurd h h2
    · rw [if_neg h2] at h ⊢
      have g := area_good (a := f) hl (by omega)
      by_cases h3 : x ≠ 1
      · rw [if_pos h3] at h ⊢; exact area_good g h
      · rw [if_neg h3]; exact g
  · rw [if_neg h1] at h ⊢
    exact area_good hl h
theorem rooms_bad {l : List O} {x : UInt8} {f n : List UInt8} (h : (roomsL l x f n).2 ≠ 0) : (roomsL l x f n).1 = [] := by
  unfold roomsL at h ⊢
  by_cases h1 : x ≠ 2
  · rw [if_pos h1] at h ⊢
    by_cases h2 : (areaL l f).2 ≠ 0
    · rw [if_pos h2]
    · rw [if_neg h2] at h ⊢
      by_cases h3 : x ≠ 1
      · rw [if_pos h3] at h ⊢; exact area_bad h
      · rw [if_neg h3] at h; exact absurd rfl h
  · rw [if_neg h1] at h ⊢
    exact area_bad h
theorem over_one (l : List O) (x : UInt8) (f n : List UInt8) : overL l [x] f n = if x = 0 ∨ 3 < x then ([], 2) else roomsL (withoutL l 52) x f n := rfl
theorem over_not (l : List O) {d : List UInt8} (hd : d.length ≠ 1) (f n : List UInt8) : overL l d f n = ([], 2) := by
  match d with
  | [] => rfl
  | [_] => exact absurd rfl hd
  | _ :: _ :: _ => rfl
theorem one_of_len {d : List UInt8} (h : d.length = 1) : ∃ x, d = [x] := by
  match d, h with
  | [x], _ => exact ⟨x, rfl⟩
theorem over_good {l : List O} {d f n : List UInt8} (hl : rightL l = true) (h : (overL l d f n).2 = 0) : GoodO (overL l d f n).1 := by
  by_cases hd : d.length = 1
  · obtain ⟨x, rfl⟩ := one_of_len hd
    rw [over_one] at h ⊢
    by_cases h1 : x = 0 ∨ 3 < x
    · rw [if_pos h1] at h; cases h
    · rw [if_neg h1] at h ⊢
      exact rooms_good (without_good hl) h
  · rw [over_not l hd] at h; cases h
theorem over_bad {l : List O} {d f n : List UInt8} (h : (overL l d f n).2 ≠ 0) : (overL l d f n).1 = [] := by
  by_cases hd : d.length = 1
  · obtain ⟨x, rfl⟩ := one_of_len hd
    rw [over_one] at h ⊢
    by_cases h1 : x = 0 ∨ 3 < x
    · rw [if_pos h1]
    · rw [if_neg h1] at h ⊢
      exact rooms_bad h
  · rw [over_not l hd]
theorem options_good {b : List UInt8} (h : (optionsL b).2 = 0) : GoodO (optionsL b).1 := by
  unfold optionsL at h ⊢
  by_cases h1 : (readL [] (b.drop 240)).2 ≠ 0
  · rw [if_pos h1] at h; exact absurd h h1
  · rw [if_neg h1] at h ⊢
    have hr := (read_good (b.drop 240)).1
    cases e : findL (readL [] (b.drop 240)).1 52 with
    | none =>
      simp only
      refine ⟨hr, ?_⟩
      rw [has_zero]
      intro hm
      obtain ⟨i, hi, _, hc, hno⟩ := place_mem hm
      rw [find_hit hi hc hno] at e
      cases e
    | some d =>
      rw [e] at h
      exact over_good hr h
theorem options_bad {b : List UInt8} (h : (optionsL b).2 ≠ 0) : (optionsL b).1 = [] := by
  unfold optionsL at h ⊢
  by_cases h1 : (readL [] (b.drop 240)).2 ≠ 0
  · rw [if_pos h1]
  · rw [if_neg h1] at h ⊢
    cases e : findL (readL [] (b.drop 240)).1 52 with
    | none => rw [e] at h; exact absurd rfl h
    | some d => rw [e] at h; exact over_bad h
theorem numAt_lt (b : List UInt8) (i n : Nat) : 0 ≤ numAt b i n ∧ numAt b i n < ((p256 n : Nat) : Int) := by
  unfold numAt
  have h1 := valL_lt (sub b i n)
  have h2 : (sub b i n).length ≤ n := by unfold sub; rw [List.length_take]; omega
  have h3 := p256_le h2
  omega
theorem byteAt_lt (b : List UInt8) (i : Nat) : 0 ≤ byteAt b i ∧ byteAt b i ≤ 255 := by
  unfold byteAt
  have := (b.getD i 0).toNat_lt
  omega
theorem read_rightM {b : List UInt8} (h : (readM b).2 = 0) : RightM (readM b).1 ∧ (readM b).1 = msgOf b (optionsL b).1 ∧ 240 ≤ b.length ∧ b.length ≤ 1500 ∧ sub b 236 4 = cookieL ∧ (optionsL b).2 = 0 := by
  unfold readM at h ⊢
  by_cases h1 : b.length < 240
  · rw [if_pos h1] at h; cases h
  rw [if_neg h1] at h ⊢
  by_cases h2 : 1500 < b.length
  · rw [if_pos h2] at h; cases h
  rw [if_neg h2] at h ⊢
  by_cases h3 : sub b 236 4 ≠ cookieL ∨ 16 < (b.getD 2 0).toNat
  · rw [if_pos h3] at h; cases h
  rw [if_neg h3] at h ⊢
  by_cases h4 : (optionsL b).2 ≠ 0
  · rw [if_pos h4] at h; exact absurd h h4
  rw [if_neg h4]
  have h3' := not_or.1 h3
  have h4' : (optionsL b).2 = 0 := Decidable.not_not.1 h4
  refine ⟨⟨?_, sub_len (by omega), options_good h4'⟩, rfl, by omega, by omega, Decidable.not_not.1 h3'.1, h4'⟩
  have p4 : p256 4 = 4294967296 := by decide
  have p2 : p256 2 = 65536 := by decide
  have n4 := fun i => numAt_lt b i 4
  have n2 := fun i => numAt_lt b i 2
  simp only [p4] at n4
  simp only [p2] at n2
  have hl : byteAt b 2 ≤ 16 := by unfold byteAt; omega
  unfold HeadOk msgOf
  have a0 := byteAt_lt b 0
  have a1 := byteAt_lt b 1
  have a2 := byteAt_lt b 2
  have a3 := byteAt_lt b 3
  have c4 := n4 4
  have c8 := n2 8
  have c10 := n2 10
  have c12 := n4 12
  have c16 := n4 16
  have c20 := n4 20
  have c24 := n4 24
  refine ⟨?_, ?_, ?_, ?_, ?_, ?_, ?_, ?_, ?_, ?_, ?_⟩ <;> (constructor <;> simp only <;> omega)
theorem read_badM {b : List UInt8} (h : (readM b).2 ≠ 0) : (readM b).1 = zeroM := by
  unfold readM at h ⊢
  by_cases h1 : b.length < 240
  · rw [if_pos h1]
  rw [if_neg h1] at h ⊢
  by_cases h2 : 1500 < b.length
  · rw [if_pos h2]
  rw [if_neg h2] at h ⊢
  by_cases h3 : sub b 236 4 ≠ cookieL ∨ 16 < (b.getD 2 0).toNat
  · rw [if_pos h3]
  rw [if_neg h3] at h ⊢
  by_cases h4 : (optionsL b).2 ≠ 0
  · rw [if_pos h4]
  · rw [if_neg h4] at h; exact absurd rfl h

/-! ### Back -/
/-- Bytes that are laid like a message's, with whatever in the two rooms. -/
theorem read_lay {m : M} (h : HeadOk m) (hc : m.ch.length = 16) {name file r : List UInt8} (hn : name.length = 64) (hf : file.length = 128) (hle : 240 + r.length ≤ 1500) {R : List O × Int}
    (hR : (if (readL [] r).2 ≠ 0 then ([], (readL [] r).2) else match findL (readL [] r).1 52 with | none => ((readL [] r).1, 0) | some d => overL (readL [] r).1 d file name) = R) :
    readM (headL m ++ (name ++ (file ++ (cookieL ++ r)))) = if R.2 ≠ 0 then (zeroM, R.2) else ({ m with os := R.1 }, 0) := by
  have hh := head_len hc
  have hck : cookieL.length = 4 := rfl
  have e1 : (headL m ++ (name ++ (file ++ (cookieL ++ r)))).drop 240 = r := by
    have e : headL m ++ (name ++ (file ++ (cookieL ++ r))) = (headL m ++ (name ++ (file ++ cookieL))) ++ r := by simp
    rw [e, List.drop_left' (by simp only [List.length_append, hh, hn, hf, hck])]
  have e2 : sub (headL m ++ (name ++ (file ++ (cookieL ++ r)))) 44 64 = name := sub_mid hh hn
  have e3 : sub (headL m ++ (name ++ (file ++ (cookieL ++ r)))) 108 128 = file := by
    have e : headL m ++ (name ++ (file ++ (cookieL ++ r))) = (headL m ++ name) ++ (file ++ (cookieL ++ r)) := by simp
    rw [e]
    exact sub_mid (by simp only [List.length_append, hh, hn]) hf
  have e4 : sub (headL m ++ (name ++ (file ++ (cookieL ++ r)))) 236 4 = cookieL := by
    have e : headL m ++ (name ++ (file ++ (cookieL ++ r))) = (headL m ++ (name ++ file)) ++ (cookieL ++ r) := by simp
    rw [e]
    exact sub_mid (by simp only [List.length_append, hh, hn, hf]) hck
  have hlen : (headL m ++ (name ++ (file ++ (cookieL ++ r)))).length = 240 + r.length := by
    simp only [List.length_append, hh, hn, hf, hck]
    omega
  have e5 : ((headL m ++ (name ++ (file ++ (cookieL ++ r)))).getD 2 0).toNat ≤ 16 := by
    have : (byteI m.hlen).toNat ≤ 16 := by
      have := byteI_back h.2.2.1.1 (by have := h.2.2.1.2; omega)
      have := h.2.2.1.2
      omega
    exact this
  have eo : optionsL (headL m ++ (name ++ (file ++ (cookieL ++ r)))) = R := by
    unfold optionsL
    rw [e1, e2, e3]
    exact hR
  unfold readM
  rw [hlen, if_neg (by omega), if_neg (by omega), e4, if_neg (by intro k; rcases k with k | k; exact k rfl; omega), eo, msgOf_head h hc]
theorem read_backM {m : M} (h : RightM m) (hle : (bytesM m).length ≤ 1500) : readM (bytesM m) = (m, 0) := by
  obtain ⟨hh, hc, hr, h52⟩ := h
  obtain ⟨k, e⟩ := bytes_lay m
  rw [e] at hle ⊢
  have hrb := read_back hr (List.replicate k 0)
  rw [read_lay hh hc (R := (m.os, 0)) List.length_replicate List.length_replicate]
  · rfl
  · simp only [List.length_append, head_len hc, List.length_replicate] at hle ⊢
    have : cookieL.length = 4 := rfl
    omega
  · rw [hrb]
    simp only [find_of_has h52]
    rfl
/-- Options in the two rooms: those behind the cookie (with overload 3) joined with the file's, then the name's. -/
theorem over_three {l file name : List O} (hl : GoodO l) (hf : GoodO file) (hn : GoodO name) {x y : List UInt8} (k j : Nat) (hx : x = writeL file ++ List.replicate k 0) (hy : y = writeL name ++ List.replicate j 0) :
    overL (l ++ [(52, [3])]) [3] x y = if (joinL l file).2 ≠ 0 then ([], (joinL l file).2) else joinL (joinL l file).1 name := by
  have hw : withoutL (l ++ [(52, [3])]) 52 = l := by
    unfold withoutL
    rw [List.filter_append]
    have e1 : l.filter (fun o => !(o.1 == 52)) = l := by
      rw [List.filter_eq_self]
      intro o ho
      have : o.1 ≠ 52 := fun e => (has_zero.1 hl.2) (by rw [← e]; exact codes_mem ho)
      simpa using this
    rw [e1]
    simp
  have hax : ∀ l', areaL l' x = joinL l' file := fun l' => by
    unfold areaL
    rw [hx, read_back hf.1]
    simp only
    rw [if_neg (by simp), if_neg (by rw [hf.2]; omega)]
  have hay : ∀ l', areaL l' y = joinL l' name := fun l' => by
    unfold areaL
    rw [hy, read_back hn.1]
    simp only
    rw [if_neg (by simp), if_neg (by rw [hn.2]; omega)]
  unfold overL
  simp only
  rw [if_neg (by decide), hw]
  unfold roomsL
  rw [if_pos (by decide), hax]
  split
  · rfl
  · rw [if_pos (by decide), hay]
theorem snoc_right {l : List O} (hl : GoodO l) (h60 : l.length < 60) : rightL (l ++ [(52, [3])]) = true := by
  have := right_joined_new (d := [3]) hl.1 (has_zero.1 hl.2) (by omega) (by omega) h60 (by simp)
  rwa [joined_new (has_zero.1 hl.2)] at this
theorem snoc_find {l : List O} (hl : GoodO l) : findL (l ++ [(52, [3])]) 52 = some [3] := by
  have h := find_hit (l := l ++ [(52, [3])]) (k := l.length) (c := 52) (by simp) (by simp) (by rw [List.take_left]; exact has_zero.1 hl.2)
  simpa using h
theorem read_areas {m : M} (h : RightM m) (h60 : m.os.length < 60) {file name : List O} (hf : GoodO file) (hn : GoodO name) {x y : List UInt8} (k j : Nat) (hx : x = writeL file ++ List.replicate k 0) (hy : y = writeL name ++ List.replicate j 0)
    (hxl : x.length = 128) (hyl : y.length = 64) (p : Nat) (hle : 240 + ((writeL (m.os ++ [(52, [3])])).length + p) ≤ 1500) {R : List O × Int} (hR : R = if (joinL m.os file).2 ≠ 0 then ([], (joinL m.os file).2) else joinL (joinL m.os file).1 name) :
    readM (headL m ++ (y ++ (x ++ (cookieL ++ (writeL (m.os ++ [(52, [3])]) ++ List.replicate p 0))))) = if R.2 ≠ 0 then (zeroM, R.2) else ({ m with os := R.1 }, 0) := by
  obtain ⟨hh, hc, hr, h52⟩ := h
  have hg : GoodO m.os := ⟨hr, h52⟩
  refine read_lay hh hc hyl hxl (by simp only [List.length_append, List.length_replicate]; omega) ?_
  rw [read_back (snoc_right hg h60)]
  simp only
  rw [if_neg (by simp), snoc_find hg]
  simp only
  rw [over_three hg hf hn k j hx hy, hR]
end Go.Proofs.Ytoobijefjljnjaa.Ms
