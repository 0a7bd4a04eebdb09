/- What boarderlaw08's do comes to: an act is done. For all disks whose names fit. -/
import Derived.Test.YtogcmnpnhncjhaaGreatDwE
import Derived.Deep.RegionHeld3
set_option maxRecDepth 8000
namespace Go.Proofs.YtogcmnpnhncjhaaGreat.Dw
open Go.RowKit By Dk

def doK (d : D) (a : Av) : D × Int :=
  if a.kind = 0 then appendK d a.name a.b else if a.kind = 1 then syncK d a.name else if a.kind = 2 then cutK d a.name a.n else if a.kind = 3 then renameK d a.name a.tn else if a.kind = 4 then removeK d a.name else if a.kind = 5 then (syncDirK d, 0) else (crashK d a.keep a.dir, 0)
end Go.Proofs.YtogcmnpnhncjhaaGreat.Dw
