/- The mathematics of boarderlaw13's Great: how much of a configuration is looked at. No program. -/
import Derived.Test.YtoilljilndmmfaaCfMath
namespace Go.Proofs.Ytoilljilndmmfaa.Cf

def greatS (s : Sn) : Bool := decide (20 < s.pools.length) || decide (20 < s.res.length) || s.res.any fun r => decide (1000 < r.key.length)
def greatN (n : List Sn) : Bool := decide (10 < n.length) || n.any greatS
def greatC (c : Cf) : Bool := decide (10 < c.nets.length) || c.nets.any greatN
structure Small (c : Cf) : Prop where
  nets : c.nets.length ≤ 10
  sns : ∀ n ∈ c.nets, n.length ≤ 10
  pools : ∀ n ∈ c.nets, ∀ s ∈ n, s.pools.length ≤ 20
  res : ∀ n ∈ c.nets, ∀ s ∈ n, s.res.length ≤ 20
  keys : ∀ n ∈ c.nets, ∀ s ∈ n, ∀ r ∈ s.res, r.key.length ≤ 1000
theorem small_iff {c : Cf} : greatC c = false ↔ Small c := by
  unfold greatC greatN greatS
  simp only [Bool.or_eq_false_iff, decide_eq_false_iff_not, List.any_eq_false, Bool.not_eq_true, Nat.not_lt]
  constructor
  · rintro ⟨h1, h2⟩
    exact ⟨h1, fun n hn => (h2 n hn).1, fun n hn s hs => ((h2 n hn).2 s hs).1.1, fun n hn s hs => ((h2 n hn).2 s hs).1.2, fun n hn s hs r hr => ((h2 n hn).2 s hs).2 r hr⟩
  · rintro ⟨h1, h2, h3, h4, h5⟩
    exact ⟨h1, fun n hn => ⟨h2 n hn, fun s hs => ⟨⟨h3 n hn s hs, h4 n hn s hs⟩, fun r hr => h5 n hn s hs r hr⟩⟩⟩
end Go.Proofs.Ytoilljilndmmfaa.Cf
