/-
  THE CONTRACT of slices.Sort at []int, laid out of the library's. Conditions: fewer than 2^62 numbers.
-/
import Derived.Test.YtclfklpekkkkfaaRows
import Derived.Shelf.Sort.Plain
import Derived.Shelf.Lay
namespace Go.Proofs.Ytclfklpekkkkfaa
open Go.Shelf Go.Sort Go.RowKit

shelf_lay Lays.n189 Nm 189 at Try as Try.lays189

theorem sort_any (blk off cap : Nat) (zs : List Int) (w : World) (hH : Holds (Value.int .i64) w blk off zs.toArray) (hblk : blk < w.heap.size) (hsz : zs.length < 4611686018427387904) :
    Calls Try.prog 28 #[.slice (some ⟨blk, off, none⟩) zs.length cap] w fun e w' =>
      e = .returned (.tuple #[]) ∧ ∃ n os, w' = grow (putRow (Value.int .i64) (Sort.ahead w n) blk off (zs.mergeSort fun x y => decide (x ≤ y)).toArray) os :=
  Any.slices_Sort_int Try.lays189 blk off cap zs w hH hblk hsz
end Go.Proofs.Ytclfklpekkkkfaa
