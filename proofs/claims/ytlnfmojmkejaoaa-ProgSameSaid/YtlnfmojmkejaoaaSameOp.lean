/- bytes.Equal and the program's sameOp. No condition but lengths. -/
import Derived.Test.YtlnfmojmkejaoaaSame
import Derived.Test.YtlnfmojmkejaoaaEqualS
namespace Go.Proofs.Ytlnfmojmkejaoaa
open Go.RowKit

theorem equalB_any (w : World) (A B : Option Addr) (n m c d : Nat) (l k : Bs) (hn : n = l.length) (hm : m = k.length) (hr : Rd w A (cb l)) (hs : Rd w B (cb k)) :
    Calls Try.prog 48 #[.slice A n c, .slice B m d] w fun e w' => e = .returned (.bool (l == k)) ∧ w' = w := by
  have q1 := run_str (P := Try.prog) w 37 9 5 Try.underlying37 Try.underlying5 Try.underlying9 A c l n hn hr
  have q2 := run_str (P := Try.prog) w 37 9 5 Try.underlying37 Try.underlying5 Try.underlying9 B d k m hm hs
  clear hn hm hr hs
  go_enter Try.func48, Try.ntmps48
  go_wp2
  go_ret
  exact ⟨rfl, rfl⟩

def opSame (x y : Opn) : Bool := decide (x.kind = y.kind) && (x.key == y.key) && decide (x.n = y.n) && (x.val.2.2 == y.val.2.2)

set_option maxRecDepth 100000 in
set_option maxHeartbeats 2000000 in
theorem sameOp_any (w : World) (x y : Opn) (hx : Part w x.val) (hy : Part w y.val) :
    Calls Try.prog 36 #[opv x, opv y] w fun e w' => e = .returned (.bool (opSame x y)) ∧ Fr NoBlk w w' := by
  have HF : Hid (Fr NoBlk w ((w.alloc (.cells #[.int .i64 x.kind, st x.key, sl x.val, .int .i64 x.n] 39)).alloc (.cells #[.int .i64 y.kind, st y.key, sl y.val, .int .i64 y.n] 39))) := ((Fr.refl _ _).alloc _).alloc _
  have HE := Lib.hid (equalB_any _ x.val.1 y.val.1 _ _ x.val.2.1 y.val.2.1 x.val.2.2 y.val.2.2 rfl rfl (hx.1.nofr HF.out) (hy.1.nofr HF.out))
  have HD : Hid (opSame x y = (decide (x.kind = y.kind) && (x.key == y.key) && decide (x.n = y.n) && (x.val.2.2 == y.val.2.2))) := rfl
  clear hx hy
  unfold st sl at HF HE
  unfold opv st sl
  generalize (x.val.2.2 == y.val.2.2) = bb at HE HD
  generalize x.val.2.2.length = xl at *
  generalize y.val.2.2.length = yl at *
  generalize x.val.1 = xa at *
  generalize y.val.1 = ya at *
  generalize x.val.2.1 = xc at *
  generalize y.val.2.1 = yc at *
  generalize x.key = a at *
  generalize y.key = b at *
  have e3 := bstr_toList a
  have e4 := bstr_toList b
  by_cases hk : x.kind = y.kind
  rotate_left
  · have g1 : (x.kind == y.kind) = false := by rw [beq_eq_false_iff_ne]; exact hk
    have HQ : Hid (opSame x y = false) := by show _ = _; rw [HD.out, decide_eq_false hk]; rfl
    clear hk
    go_enter Try.func36, Try.ntmps36
    go_wp2_with fail
    go_ret
    exact ⟨by rw [HQ.out]; rfl, HF.out⟩
  have g1 : (x.kind == y.kind) = true := by rw [beq_iff_eq]; exact hk
  by_cases hab : a = b
  rotate_left
  · have g2 : (a == b) = false := by rw [beq_eq_false_iff_ne]; exact hab
    have g3 : decide (a = b) = false := by simpa using hab
    have HQ : Hid (opSame x y = false) := by show _ = _; rw [HD.out, g2, Bool.and_false]; rfl
    clear hab hk
    go_enter Try.func36, Try.ntmps36
    go_wp2_with fail
    go_ret
    exact ⟨by rw [HQ.out]; rfl, HF.out⟩
  subst hab
  by_cases hn : x.n = y.n
  rotate_left
  · have g2 : (x.n == y.n) = false := by rw [beq_eq_false_iff_ne]; exact hn
    have HQ : Hid (opSame x y = false) := by show _ = _; rw [HD.out, decide_eq_false hn, Bool.and_false]; rfl
    clear hn hk
    go_enter Try.func36, Try.ntmps36
    go_wp2_with fail
    go_ret
    exact ⟨by rw [HQ.out]; rfl, HF.out⟩
  have g2 : (x.n == y.n) = true := by rw [beq_iff_eq]; exact hn
  have HQ : Hid (opSame x y = bb) := by show _ = _; rw [HD.out, decide_eq_true hk, decide_eq_true hn]; simp
  clear hn hk
  go_enter Try.func36, Try.ntmps36
  go_wp2_with fail
  refine HE.out.mono ?_
  rintro e w1 ⟨rfl, rfl⟩
  go_wp2_with fail
  go_ret
  exact ⟨by rw [HQ.out]; rfl, HF.out⟩
end Go.Proofs.Ytlnfmojmkejaoaa
