/- The names of a log's files. Condition: the part is 0 to 9. -/
import Derived.Test.YtafiokabnlmgpaaGreatDoorLog
import Derived.IntWalk
namespace Go.Proofs.YtafiokabnlmgpaaGreatDoor
open Go.RowKit Go.Maps

theorem bstr_append (a b : Bs) : bstr a ++ bstr b = bstr (a ++ b) := by
  apply ByteArray.ext
  rw [ByteArray.data_append]
  simp [bstr]
set_option maxRecDepth 100000 in
theorem conv_digit (w : World) (k : Nat) (hk : k ≤ 9) : (convert 21 9 (.int .i32 (48 + (k : Int)))).run Tryz.prog w = .ok (.string (bstr [UInt8.ofNat (48 + k)])) w := by
  match k, hk with
  | 0, _ => rfl
  | 1, _ => rfl
  | 2, _ => rfl
  | 3, _ => rfl
  | 4, _ => rfl
  | 5, _ => rfl
  | 6, _ => rfl
  | 7, _ => rfl
  | 8, _ => rfl
  | 9, _ => rfl
set_option maxRecDepth 100000 in
theorem file_any (w : World) (gd gl : Nat) (g : Lg) (hb : Bk w gl 192 (g.cells gd)) (hn : g.name.length ≤ 8) (k : Nat) (hk : k ≤ 9) :
    Calls Tryz.prog 123 #[.pointer (some ⟨gl, 0, none⟩), .int .i64 k] w fun e w' => e = .returned (.string (bstr (lfile g.name k))) ∧ w = w' := by
  have c1 : w.cell? ⟨gl, 1, none⟩ = some (.string (bstr g.name)) := hb.cell 1
  have hc := conv_digit w k hk
  have e1 : IntKind.i32.wrap (k : Int) = (k : Int) := by rw [IntKind.wrap_i32]; omega
  have e2 : IntKind.i32.wrap (48 + (k : Int)) = 48 + (k : Int) := by rw [IntKind.wrap_i32]; omega
  have ha := bstr_append g.name [UInt8.ofNat (48 + k)]
  have z1 : (bstr g.name).size ≤ 8 := by rw [bstr_size]; exact hn
  have z2 : (bstr [UInt8.ofNat (48 + k)]).size ≤ 1 := by rw [bstr_size]; simp
  generalize bstr [UInt8.ofNat (48 + k)] = dg at *
  generalize bstr g.name = nm at *
  have HA : Hid (nm ++ dg = bstr (lfile g.name k)) := ha
  clear hb ha hn
  go_enter Tryz.func123, Tryz.ntmps123
  go_wp2_with fail
  go_ret
  exact ⟨by rw [HA.out]; rfl, rfl⟩
end Go.Proofs.YtafiokabnlmgpaaGreatDoor
