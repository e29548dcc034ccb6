/- What a loop over a tree tells: All, From; Keys, Values, First. Conditions: at most 100000 keys. -/
import Derived.RangeFuncBox
import Derived.Maps.AppendAt
import Derived.Test.YtkdcacajacndmaaF3R
import Derived.Test.YtkdcacajacndmaaN4R

namespace Go.Proofs.Ytkdcacajacndmaa
open Go.RowKit Go.Shelf
attribute [local go_sem] Oper.semAt_some
def encR (x : ItR) : Array Value := #[.string (bstr x.1), .agg #[.bool x.2.has, .slice x.2.va x.2.vn x.2.vc, .int .i64 x.2.home, .int .u64 (x.2.count : Int)]]
set_option maxRecDepth 100000 in
theorem treeAllR_any (w : World) (g : Nat) : Calls Try.prog 40 #[.pointer (some ⟨g, 0, none⟩)] w fun e w' => e = .returned (.func (.func 60) #[] #[.pointer (some ⟨w.heap.size, 0, none⟩)]) ∧ w' = w.alloc (.cells #[.pointer (some ⟨g, 0, none⟩)] 65) := by
  go_enter Try.func40, Try.ntmps40
  go_wp2_with fail
  go_ret
  exact ⟨by simp, rfl⟩
set_option maxRecDepth 100000 in
theorem treeFromR_any (w : World) (g : Nat) (key : Bs) : Calls Try.prog 55 #[.pointer (some ⟨g, 0, none⟩), .string (bstr key)] w fun e w' => e = .returned (.func (.func 66) #[] #[.pointer (some ⟨w.heap.size, 0, none⟩), .pointer (some ⟨w.heap.size + 1, 0, none⟩)]) ∧ w' = (w.alloc (.cells #[.pointer (some ⟨g, 0, none⟩)] 65)).alloc (.cells #[.string (bstr key)] 9) := by
  go_enter Try.func55, Try.ntmps55
  go_wp2_with fail
  go_ret
  exact ⟨by simp, rfl⟩
end Go.Proofs.Ytkdcacajacndmaa
