/- What boarderlaw10's knows comes to. -/
import Derived.Test.YtlefpodonkdbeaaGreatJwAdd
import Derived.Test.YtlefpodonkdbeaaGreatJwDo
import Derived.Test.YtlefpodonkdbeaaGreatEwB
import Derived.BigQuiet
import Derived.Deep.QuietTactic
set_option maxRecDepth 8000
namespace Go.Proofs.YtlefpodonkdbeaaGreat.Jw
open Go.RowKit Co By Ky Rc Dk Jn Ew
open Dw (ba ba_size ba_data ba_list Dv RdD Sm zeroV good_sm cel3 cel_frs cel_put3 below_put3 rdd_away sl3 cell_put3 alloc_more)

theorem kinds_of {xs : List Cv} {ls : List L} {l : L} (h : xs.map Cv.ch = changesJ ls l) : ∀ c ∈ xs, Kind5 c := by
  intro c hc
  have hm : c.ch ∈ changesJ ls l := by rw [← h]; exact List.mem_map_of_mem hc
  have hk : c.ch.kind = c.kind := rfl
  unfold changesJ at hm
  unfold Kind5
  rw [← hk]
  rcases List.mem_append.1 hm with hm | hm
  · rcases List.mem_cons.1 hm with e | hm
    · rw [e]; exact ⟨show (1 : Int) ≤ 1 by decide, show (1 : Int) ≤ 5 by decide⟩
    · rcases List.mem_cons.1 hm with e | hm
      · rw [e]; exact ⟨by decide, by decide⟩
      · cases hm
  · split at hm
    · rcases List.mem_cons.1 hm with e | hm
      · rw [e]; exact ⟨by decide, by decide⟩
      · cases hm
    · cases hm
def kA : L := ⟨1, 1, 258, [105, 48, 49]⟩
theorem kA_right : RightR kA := by decide
theorem kA_all (n : Nat) : ∀ a ∈ List.replicate n kA, RightR a := fun a ha => by rw [(List.mem_replicate.1 ha).2]; exact kA_right
theorem kA_add0 : addJ zeroD kA = (changesJ [] kA, 0) := add_disk (ls := []) (fun a ha => by cases ha) kA_right (by decide)
theorem kA_len (n : Nat) (hn : n ≤ 50) : (framesJ (List.replicate n kA)).length ≤ 20000 := by
  have := frames_small (kA_all n)
  rw [List.length_replicate] at this
  omega
theorem kA_do0 : doC zeroD (changesJ [] kA) 9 = (diskJ [kA], 3) := do_all (ls := []) (l := kA) (kA_len 1 (by omega)) (by decide)
theorem kA_add1 : addJ (diskJ [kA]) kA = (changesJ [kA] kA, 0) := add_disk (kA_all 1) kA_right (kA_len 1 (by omega))
theorem kA_do1 : doC (diskJ [kA]) (changesJ [kA] kA) 9 = (diskJ [kA, kA], 2) := do_all (ls := [kA]) (l := kA) (kA_len 2 (by omega)) (by decide)
theorem kA_size : sizeJ [kA, kA] = 42 := by
  show (framesJ [kA, kA]).length = 42
  rw [show framesJ [kA, kA] = frameL (encR kA) ++ (frameL (encR kA) ++ []) from rfl, List.append_nil, List.length_append, frameL_length, enc_len]
  rfl
theorem kA_read : readD (diskJ [kA, kA]) = ([kA, kA], 42, 0) := (read_disk (ls := [kA, kA]) (kA_all 2) (kA_len 2 (by omega))).trans (by rw [kA_size])
end Go.Proofs.YtlefpodonkdbeaaGreat.Jw
