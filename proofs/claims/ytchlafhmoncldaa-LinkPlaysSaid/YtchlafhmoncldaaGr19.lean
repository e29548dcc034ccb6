/- The law's great: where it answers false the script is small. No condition but lengths. -/
import Derived.Test.YtchlafhmoncldaaOpenO
namespace Go.Proofs.Ytchlafhmoncldaa
open Go.RowKit Go.Maps Go.ChangeMaps Go.MapKept Go.WideShapes

structure Small (xs : List Lop) : Prop where
  n : xs.length ≤ 200
  o : ∀ x ∈ xs, x.d.2.2.length ≤ 500 ∧ x.p.d.2.2.length ≤ 500
def GreatPost (xs : List Lop) (e : Ending) : Prop := ∃ b, e = .returned (.bool b) ∧ (b = false → Small xs)
def loa (x : Lop) : Array Value := #[.int .i64 x.kind, .slice x.d.1 x.d.2.2.length x.d.2.1, .int .u64 (x.p.ep : Int), .int .u64 (x.p.pe : Int), .int .u64 (x.p.sq : Int), .int .u64 (x.p.ak : Int), .slice x.p.d.1 x.p.d.2.2.length x.p.d.2.1]
/-- where one call lies. -/
theorem Rd.lop {w : World} {A : Option Addr} {xs : List Lop} (h : Rd w A (losc xs)) {k : Nat} {x : Lop} (hx : xs[k]? = some x) :
    ∃ b o, A = some ⟨b, o, none⟩ ∧ w.cell? ⟨b, o + k * 7, none⟩ = some (.int .i64 x.kind) ∧ w.cell? ⟨b, o + k * 7 + 1, none⟩ = some (.slice x.d.1 x.d.2.2.length x.d.2.1) ∧ w.cell? ⟨b, o + k * 7 + 2, none⟩ = some (.int .u64 (x.p.ep : Int)) ∧ w.cell? ⟨b, o + k * 7 + 3, none⟩ = some (.int .u64 (x.p.pe : Int)) ∧ w.cell? ⟨b, o + k * 7 + 4, none⟩ = some (.int .u64 (x.p.sq : Int)) ∧ w.cell? ⟨b, o + k * 7 + 5, none⟩ = some (.int .u64 (x.p.ak : Int)) ∧ w.cell? ⟨b, o + k * 7 + 6, none⟩ = some (.slice x.p.d.1 x.p.d.2.2.length x.p.d.2.1) := by
  obtain ⟨b, o, hA, hc⟩ := Rd.cat loc 7 loc_len h (by omega) hx
  exact ⟨b, o, hA, hc 0 _ rfl, hc 1 _ rfl, hc 2 _ rfl, hc 3 _ rfl, hc 4 _ rfl, hc 5 _ rfl, hc 6 _ rfl⟩

set_option maxRecDepth 100000 in
set_option maxHeartbeats 1000000 in
theorem great_any (w : World) (A : Option Addr) (c : Nat) (xs : List Lop) (hr : Rd w A (losc xs)) (hx : ∀ x ∈ xs, LopIn w x) (hm : xs.length ≤ maxLen) :
    Calls Try.prog 9 #[.slice A xs.length c] w fun e w' => GreatPost xs e ∧ Fr NoBlk w w' := by
  have HR := Lib.hid hr
  have HX := Lib.hid hx
  clear hr hx
  unfold maxLen at hm
  by_cases h1 : 200 < xs.length
  · go_enter Try.func9, Try.ntmps9
    go_wp2_with fail
    go_ret
    exact ⟨⟨true, rfl, fun h => by cases h⟩, Fr.refl _ _⟩
  go_enter Try.func9, Try.ntmps9
  go_wp2_with fail
  go_loopw [10] (fun z wr => ∃ k : Nat, k ≤ xs.length ∧ z = .int .i64 k ∧ Hid (∀ j x, j < k → xs[j]? = some x → x.d.2.2.length ≤ 500 ∧ x.p.d.2.2.length ≤ 500) ∧ Hid (Fr NoBlk w wr)) (fun z _ => xs.length - (intOf z).toNat)
  case atStart => exact ⟨0, by omega, rfl, (fun j _ h1 => absurd h1 (by omega)), Fr.refl _ _⟩
  case round =>
    obtain ⟨k, hk, rfl, HL, HF⟩ := hrel
    by_cases hlt : k < xs.length
    · obtain ⟨x, hx⟩ : ∃ x, xs[k]? = some x := ⟨_, List.getElem?_eq_getElem hlt⟩
      obtain ⟨b, o, hA, c0, c1, c2, c3, c4, c5, c6⟩ := (HR.out.nofr HF.out).lop hx
      have hv := HX.out x (List.mem_of_getElem? hx)
      have hm1 : x.d.2.2.length ≤ 9223372036854775807 := hv.len
      have hm2 : x.p.d.2.2.length ≤ 9223372036854775807 := hv.pk.len
      have HX2 : Hid (x.d.2.2.length ≤ 500 → x.p.d.2.2.length ≤ 500 → ∀ j y, j < k + 1 → xs[j]? = some y → y.d.2.2.length ≤ 500 ∧ y.p.d.2.2.length ≤ 500) := by
        intro h h' j y hj2 hy
        by_cases e : j = k
        · subst e; rw [hx] at hy; injection hy with hy; subst hy; exact ⟨h, h'⟩
        · exact HL.out j y (by omega) hy
      have HW : Hid (Fr NoBlk w (wr.alloc (.cells (loa x) 34))) := HF.out.trans ((Fr.refl _ _).alloc _)
      subst hA
      clear hx hv
      obtain ⟨kind, ⟨va, vc, vb⟩, ⟨ep, pe, sq, ak, ⟨ua, uc, ub⟩⟩⟩ := x
      unfold loa at HW
      dsimp only at c0 c1 c2 c3 c4 c5 c6 hm1 hm2 HX2 HW
      generalize vb.length = vl at *
      generalize ub.length = ul at *
      by_cases hb1 : 500 < vl
      · have q1 : decide ((500 : Int) < (vl : Int)) = true := by simp; omega
        go_wp2_with fail
        go_ret
        exact ⟨⟨true, rfl, fun h => by cases h⟩, HW.out⟩
      have q1 : decide ((500 : Int) < (vl : Int)) = false := by simp; omega
      by_cases hb2 : 500 < ul
      · have q2 : decide ((500 : Int) < (ul : Int)) = true := by simp; omega
        go_wp2_with fail
        go_ret
        exact ⟨⟨true, rfl, fun h => by cases h⟩, HW.out⟩
      have q2 : decide ((500 : Int) < (ul : Int)) = false := by simp; omega
      have HY := Lib.hid (HX2.out (by omega) (by omega))
      go_wp2_with fail
      go_roundw
      case rel => exact ⟨k + 1, by omega, by go_num, HY, HW⟩
      case measure => simp [intOf]; omega
    · have HZ3 : Hid (∀ x ∈ xs, x.d.2.2.length ≤ 500 ∧ x.p.d.2.2.length ≤ 500) := by
        intro x hx
        obtain ⟨j, hj, rfl⟩ := List.getElem_of_mem hx
        exact HL.out j _ (by omega) (List.getElem?_eq_getElem hj)
      go_wp2_with fail
      go_ret
      exact ⟨⟨false, rfl, fun _ => ⟨by omega, HZ3.out⟩⟩, HF.out⟩
end Go.Proofs.Ytchlafhmoncldaa
