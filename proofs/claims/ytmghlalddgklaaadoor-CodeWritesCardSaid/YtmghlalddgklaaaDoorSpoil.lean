/- The contract of spoil: it turns nothing but the row that it is handed, which is the call's own. -/
import Derived.Test.YtmghlalddgklaaaDoorPen2
namespace Go.Proofs.YtmghlalddgklaaaDoor
open Go.RowKit

set_option maxRecDepth 100000 in
set_option maxHeartbeats 400000 in
theorem spoil_any (w : World) (base : Nat) (A : Option Addr) (n c : Nat) (xs : List Value) (ho : w.ownsRow base 5 1 (.slice A n c) n xs) :
    Calls Tryd.prog 20 #[.slice A n c] w fun e w' => e = .returned (.tuple #[]) ∧ Fr (fun k => ablk A k) w w' := by
  rcases ho.2 with ⟨hv, rfl⟩ | ⟨g, cap, cur, hv, hb, hg, hnc, hcm, hcs, htake⟩
  · clear ho
    go_enter Tryd.func20, Tryd.ntmps20
    go_wp2
    go_loop [5] (fun i => i = .int .i64 0) (fun _ => 0)
    case atStart => rfl
    case round =>
      subst hrel
      go_wp2
      go_end0
      exact ⟨rfl, Fr.refl _ _⟩
  · have hA : A = some ⟨g, 0, none⟩ := by injection hv
    have hc : c = cap := by injection hv
    subst hA hc
    have HO := Lib.hid ho
    unfold maxLen at hcm
    clear ho hv hb hg hcs htake
    go_enter Tryd.func20, Tryd.ntmps20
    go_wp2
    go_loopw [5] (fun i wr => ∃ (k : Nat) (ys : List Value), k ≤ n ∧ i = .int .i64 k ∧ Hid (wr.ownsRow base 5 1 (.slice (some ⟨g, 0, none⟩) n c) n ys) ∧ Hid (Fr (fun k => ablk (some ⟨g, 0, none⟩) k) w wr)) (fun i _ => n - (intOf i).toNat)
    case atStart => exact ⟨0, xs, Nat.zero_le _, rfl, HO, Fr.refl _ _⟩
    case round =>
      obtain ⟨k, ys, hk, rfl, HY, HF⟩ := hrel
      by_cases hlt : k < n
      · have hcell := HY.out.cellAt k (by omega)
        have hfree := HY.out.frozenAt k
        obtain ⟨y, hy⟩ : ∃ y, ys[k]? = some y := ⟨_, List.getElem?_eq_getElem (by have := HY.out.1; omega)⟩
        rw [hy] at hcell
        clear hy
        have HS := Lib.hid (HY.out.stored k (.int .u8 238)).1
        have HF2 := Lib.hid (HF.out.setCell (p := ⟨g, k, none⟩) (fun _ => ⟨_, rfl, rfl⟩) (.int .u8 238))
        go_wp2
        go_roundw
        case rel => exact ⟨k + 1, _, by omega, by go_num, HS, HF2⟩
        case measure => simp [intOf]; omega
      · go_wp2
        go_end0
        exact ⟨rfl, HF.out⟩
end Go.Proofs.YtmghlalddgklaaaDoor
