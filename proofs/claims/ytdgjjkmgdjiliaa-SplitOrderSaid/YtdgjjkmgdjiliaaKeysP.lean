/- Rows that were put, worlds that grew. No condition. -/
import Derived.Test.YtdgjjkmgdjiliaaShelf
import Derived.Test.YtdgjjkmgdjiliaaConcat
import Derived.Lib.RowBridge
namespace Go.Proofs.Ytdgjjkmgdjiliaa
open Go.RowKit
theorem Fr.grow (C : Nat → Prop) (w : World) (os : Array Obj) : Fr C w (Sort.grow w os) :=
  ⟨rfl, rfl, rfl, by simp, fun k hk _ => Sort.heap_grow_old w os hk⟩
theorem Fr.ahead (C : Nat → Prop) (w : World) (n : Nat) : Fr C w (Sort.ahead w n) := ⟨rfl, rfl, rfl, Nat.le_refl _, fun _ _ _ => rfl⟩
end Go.Proofs.Ytdgjjkmgdjiliaa
