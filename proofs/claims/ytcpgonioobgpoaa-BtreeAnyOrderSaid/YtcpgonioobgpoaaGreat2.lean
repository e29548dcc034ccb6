/- The law's great: where it answers false the script has at most 2000 calls. No condition but lengths. -/
import Derived.Test.YtcpgonioobgpoaaOps
namespace Go.Proofs.Ytcpgonioobgpoaa
open Go.RowKit
def GreatPost (xs : List Opn) (e : Ending) : Prop := ∃ b, e = .returned (.bool b) ∧ (b = false → xs.length ≤ 2000)
set_option maxRecDepth 100000 in
set_option maxHeartbeats 1000000 in
theorem great_any (w : World) (A : Option Addr) (c : Nat) (xs : List Opn) (hr : Rd w A (opsc xs)) (hx : ∀ x ∈ xs, OpIn x) (hm : xs.length ≤ maxLen) :
    Calls Try.prog 10 #[.slice A xs.length c] w fun e w' => GreatPost xs e ∧ w = w' := by
  have HR := Lib.hid hr
  have HX := Lib.hid hx
  obtain ⟨n, hn⟩ : ∃ n, n = xs.length := ⟨_, rfl⟩
  have HN := Lib.hid hn
  rw [← hn] at hm ⊢
  unfold maxLen at hm
  clear hr hx hn
  go_enter Try.func10, Try.ntmps10
  go_wp2_with fail
  go_loop [3, 4] (fun a z => ∃ k s : Nat, k ≤ n ∧ z = .int .i64 k ∧ a = .int .i64 s ∧ 10 * k ≤ s ∧ s ≤ 200000) (fun _ z => n - (intOf z).toNat)
  case atStart => exact ⟨0, 0, Nat.zero_le _, rfl, rfl, by omega, by omega⟩
  case round =>
    obtain ⟨k, s, hk, rfl, rfl, hks, hs⟩ := hrel
    by_cases hlt : k < n
    · obtain ⟨x, hx⟩ : ∃ x, xs[k]? = some x := ⟨_, List.getElem?_eq_getElem (by rw [← HN.out]; exact hlt)⟩
      obtain ⟨b, o, rfl, c0, c1, c2⟩ := HR.out.opn hx
      have hv : x.key.length ≤ 9223372036854775807 := HX.out x (List.mem_of_getElem? hx)
      have e4 := bstr_size x.key
      have hki : (k : Int) < (n : Int) := by omega
      clear hx c0 c2
      generalize x.key = key at *
      generalize hkl : key.length = kl at *
      by_cases hb1 : 10000 < kl
      · go_wp2_with fail
        go_ret
        exact ⟨⟨true, rfl, fun h => by cases h⟩, rfl⟩
      by_cases hb2 : 100000 < s
      · have hb3 : (100000 : Int) < (s : Int) := by omega
        go_wp2_with fail
        go_ret
        exact ⟨⟨true, rfl, fun h => by cases h⟩, rfl⟩
      have hb3 : ¬ (100000 : Int) < (s : Int) := by omega
      have w1 : IntKind.i64.wrap ((kl : Int) + 10) = (kl : Int) + 10 := IntWalk.i64_in _ (by omega)
      have w2 : IntKind.i64.wrap ((s : Int) + ((kl : Int) + 10)) = (s : Int) + ((kl : Int) + 10) := IntWalk.i64_in _ (by omega)
      have w3 : IntKind.i64.wrap ((k : Int) + 1) = (k : Int) + 1 := IntWalk.i64_in _ (by omega)
      go_wp2_with fail
      go_round
      case rel => exact ⟨k + 1, s + (kl + 10), by omega, by go_num, by go_num, by omega, by omega⟩
      case measure => simp [intOf]; omega
    · have hki : ¬ (k : Int) < (n : Int) := by omega
      have HE : Hid (k = n) := by show k = n; omega
      by_cases hb : 20000 < s
      · have hb3 : (20000 : Int) < (s : Int) := by omega
        go_wp2_with fail
        go_ret
        exact ⟨⟨true, rfl, fun h => by cases h⟩, rfl⟩
      · have hb3 : ¬ (20000 : Int) < (s : Int) := by omega
        go_wp2_with fail
        go_ret
        exact ⟨⟨false, rfl, fun _ => by have := HE.out; have := HN.out; omega⟩, rfl⟩
end Go.Proofs.Ytcpgonioobgpoaa
