/- slices.EqualFunc at operations, with the program's sameOp. No condition but lengths. -/
import Derived.Test.YtlnfmojmkejaoaaSameOp
import Derived.Shelf.Abstract
namespace Go.Proofs.Ytlnfmojmkejaoaa
open Go.RowKit

/-- two lists of operations are one. -/
def opsSame (xs ys : List Opn) : Bool := decide (xs.length = ys.length) && (List.range xs.length).all fun j => match xs[j]?, ys[j]? with
  | some x, some y => opSame x y
  | _, _ => true
theorem opsSame_no {xs ys : List Opn} {j : Nat} {x y : Opn} (hx : xs[j]? = some x) (hy : ys[j]? = some y) (h : opSame x y = false) : opsSame xs ys = false := by
  unfold opsSame
  rw [Bool.and_eq_false_iff]
  right
  rw [List.all_eq_false]
  refine ⟨j, List.mem_range.2 (List.getElem?_eq_some_iff.1 hx).1, ?_⟩
  rw [hx, hy]
  simp [h]
theorem opsSame_yes {xs ys : List Opn} (hl : xs.length = ys.length) (h : ∀ (j : Nat) (x y : Opn), xs[j]? = some x → ys[j]? = some y → opSame x y = true) : opsSame xs ys = true := by
  unfold opsSame
  rw [Bool.and_eq_true, decide_eq_true_eq, List.all_eq_true]
  refine ⟨hl, fun j hj => ?_⟩
  have hj := List.mem_range.1 hj
  rw [List.getElem?_eq_getElem hj, List.getElem?_eq_getElem (hl ▸ hj)]
  exact h j _ _ (List.getElem?_eq_getElem hj) (List.getElem?_eq_getElem (hl ▸ hj))

theorem enters36 : ∀ args w, (callFunc 36 args).run Try.prog w = .ok (.enter 36 args) w := enters_of Try.func36 (by kernel_rfl) rfl

set_option maxRecDepth 100000 in
set_option maxHeartbeats 2000000 in
theorem equalF_any (w : World) (A B : Option Addr) (n m c d : Nat) (xs ys : List Opn) (hn : n = xs.length) (hm : m = ys.length) (hr : Rd w A (opsc xs)) (hs : Rd w B (opsc ys)) (hxl : xs.length ≤ maxLen)
    (hpx : ∀ x ∈ xs, Part w x.val) (hpy : ∀ y ∈ ys, Part w y.val) :
    Calls Try.prog 35 #[.slice A n c, .slice B m d, .func (.func 36) #[] #[]] w fun e w' => e = .returned (.bool (opsSame xs ys)) ∧ Fr NoBlk w w' := by
  subst hn hm
  have HR := Lib.hid hr
  have HS := Lib.hid hs
  have HPX := Lib.hid hpx
  have HPY := Lib.hid hpy
  have eg := enters36
  clear hr hs hpx hpy
  unfold maxLen at hxl
  by_cases hl : xs.length = ys.length
  rotate_left
  · have HZ : Hid (opsSame xs ys = false) := by
      show _ = false
      unfold opsSame
      rw [decide_eq_false hl]
      rfl
    have hb : ((xs.length : Int) != (ys.length : Int)) = true := by rw [bne_iff_ne]; omega
    have hd : (decide (xs.length = ys.length)) = false := by simpa using hl
    clear hl
    go_enter Try.func35, Try.ntmps35
    go_wp2_with fail
    go_ret
    exact ⟨by rw [HZ.out]; rfl, Fr.refl _ _⟩
  · have HL := Lib.hid hl
    rw [← hl]
    clear hl
    go_enter Try.func35, Try.ntmps35
    go_wp2_with fail
    go_loopw [17] (fun z wr => ∃ k : Nat, k ≤ xs.length ∧ z = .int .i64 k ∧ Hid (∀ (j : Nat) (x y : Opn), j < k → xs[j]? = some x → ys[j]? = some y → opSame x y = true) ∧ Hid (Fr NoBlk w wr)) (fun z _ => xs.length - (intOf z).toNat)
    case atStart => exact ⟨0, by omega, rfl, (fun j _ _ h1 => absurd h1 (by omega)), Fr.refl _ _⟩
    case round =>
      obtain ⟨k, hk, rfl, HE, HF⟩ := hrel
      by_cases hlt : k < xs.length
      · obtain ⟨x, hx⟩ : ∃ x, xs[k]? = some x := ⟨_, List.getElem?_eq_getElem hlt⟩
        obtain ⟨y, hy⟩ : ∃ y, ys[k]? = some y := ⟨_, List.getElem?_eq_getElem (by rw [← HL.out]; exact hlt)⟩
        obtain ⟨b, o, rfl, c0, c1, c2, c3⟩ := (HR.out.nofr HF.out).opn hx
        obtain ⟨b', o', rfl, d0, d1, d2, d3⟩ := (HS.out.nofr HF.out).opn hy
        have HPx := Lib.hid (HPX.out x (List.mem_of_getElem? hx))
        have HPy := Lib.hid (HPY.out y (List.mem_of_getElem? hy))
        have HC := Lib.hid fun W (hf : Fr NoBlk w W) => sameOp_any W x y ⟨HPx.out.1.nofr hf, HPx.out.2⟩ ⟨HPy.out.1.nofr hf, HPy.out.2⟩
        have HX : Hid (opSame x y = true → ∀ (j : Nat) (x y : Opn), j < k + 1 → xs[j]? = some x → ys[j]? = some y → opSame x y = true) := by
          intro h j x' y' hj2 hx' hy'
          by_cases e : j = k
          · subst e
            rw [hx] at hx'
            rw [hy] at hy'
            injection hx' with hx'
            injection hy' with hy'
            subst hx' hy'
            exact h
          · exact HE.out j x' y' (by omega) hx' hy'
        have HN := Lib.hid (opsSame_no hx hy)
        have q1 : b < wr.heap.size := World.block_lt_of_cell? wr _ c0
        have q2 : b' < wr.heap.size := World.block_lt_of_cell? wr _ d0
        have q3 : b' < wr.heap.size + 1 := by omega
        generalize opSame x y = bb at HC HX HN
        clear hx hy
        unfold opv st sl at HC
        unfold st at c1 d1
        unfold sl at c2 d2
        have HFA : ∀ o1 o2, Hid (Fr NoBlk wr ((wr.alloc o1).alloc o2)) := fun o1 o2 => ((Fr.refl _ _).alloc _).alloc _
        go_wp2_with fail
        refine (HC.out _ (HF.out.trans (HFA _ _).out)).mono ?_
        rintro e w1 ⟨rfl, hf⟩
        have HG := Lib.hid ((HF.out.trans (HFA _ _).out).trans hf)
        clear hf HC
        cases bb
        · have HQ := Lib.hid (HN.out rfl)
          go_wp2_with fail
          go_ret
          exact ⟨by rw [HQ.out]; rfl, HG.out⟩
        · have HY := Lib.hid (HX.out rfl)
          go_wp2_with fail
          go_roundw
          case rel => exact ⟨k + 1, by omega, by go_num, HY, HG⟩
          case measure => simp [intOf]; omega
      · have HZ : Hid (opsSame xs ys = true) := opsSame_yes HL.out fun j x y hx hy => HE.out j x y (by have := (List.getElem?_eq_some_iff.1 hx).1; omega) hx hy
        go_wp2_with fail
        go_ret
        exact ⟨by rw [HZ.out]; rfl, HF.out⟩
end Go.Proofs.Ytlnfmojmkejaoaa
