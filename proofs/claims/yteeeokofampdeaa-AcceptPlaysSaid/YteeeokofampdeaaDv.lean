/- The document's voter: where it lies; From, Promise, Accept. No condition but its places. -/
import Derived.Test.YteeeokofampdeaaMaj
import Derived.BigQuiet
import Derived.Deep.QuietTactic
import Derived.RegionTactic
import Derived.IntWalk
namespace Go.Proofs.Yteeeokofampdeaa
open Go.RowKit Go.Shelf

/-- a voter of the document in block m: what is promised, of each place whether something is taken there, and what. -/
def DvIn (W : World) (m p : Nat) (T : Nat → Bool) (V : Nat → VaT) : Prop :=
  ∃ cs, Bk W m 33 cs ∧ cs.size = 257 ∧ cs[0]? = some (.int .u64 (p : Int)) ∧ (∀ i, i < 64 → cs[1 + i]? = some (.bool (T i))) ∧
    ∀ i, i < 64 → cs[65 + i * 3]? = some (.int .i64 (V i).slot) ∧ cs[65 + i * 3 + 1]? = some (.int .u64 ((V i).bal : Int)) ∧ cs[65 + i * 3 + 2]? = some (.string (bstr (V i).val))
section
variable {W W' : World} {C : Nat → Prop} {m p : Nat} {T : Nat → Bool} {V : Nat → VaT} (h : DvIn W m p T V)
include h
theorem DvIn.lt : m < W.heap.size := by
  obtain ⟨cs, h1, _⟩ := h
  exact h1.lt
theorem DvIn.fr (hf : Fr C W W') (hn : ¬ C m) : DvIn W' m p T V := by
  obtain ⟨cs, h1, h2⟩ := h
  exact ⟨cs, h1.fr hf hn, h2⟩
theorem DvIn.nofr (hf : Fr NoBlk W W') : DvIn W' m p T V := h.fr hf fun e => e
theorem DvIn.p_ : W.cell? ⟨m, 0, none⟩ = some (.int .u64 (p : Int)) ∧ W.frozen? ⟨m, 0, none⟩ = false := by
  obtain ⟨cs, h1, _, h3, _⟩ := h
  exact ⟨(h1.cell 0).trans h3, h1.free 0⟩
theorem DvIn.t_ {i : Nat} (hi : i < 64) : W.cell? ⟨m, 1 + i, none⟩ = some (.bool (T i)) ∧ W.frozen? ⟨m, 1 + i, none⟩ = false := by
  obtain ⟨cs, h1, _, _, h4, _⟩ := h
  exact ⟨(h1.cell _).trans (h4 i hi), h1.free _⟩
theorem DvIn.v_ {i : Nat} (hi : i < 64) : (W.cell? ⟨m, 65 + i * 3, none⟩ = some (.int .i64 (V i).slot) ∧ W.cell? ⟨m, 65 + i * 3 + 1, none⟩ = some (.int .u64 ((V i).bal : Int)) ∧ W.cell? ⟨m, 65 + i * 3 + 2, none⟩ = some (.string (bstr (V i).val))) ∧ ∀ j, W.frozen? ⟨m, j, none⟩ = false := by
  obtain ⟨cs, h1, _, _, _, h5⟩ := h
  obtain ⟨a, b, c⟩ := h5 i hi
  exact ⟨⟨(h1.cell _).trans a, (h1.cell _).trans b, (h1.cell _).trans c⟩, fun j => h1.free j⟩
theorem DvIn.setP (q : Nat) : DvIn (W.setCell ⟨m, 0, none⟩ (.int .u64 (q : Int))) m q T V := by
  obtain ⟨cs, h1, h2, h3, h4, h5⟩ := h
  refine ⟨_, h1.put 0 _, by rw [Array.size_setIfInBounds]; exact h2, ?_, fun i hi => ?_, fun i hi => ?_⟩
  · rw [Array.getElem?_setIfInBounds_self_of_lt (by omega)]
  · rw [Array.getElem?_setIfInBounds_ne (by omega)]
    exact h4 i hi
  · rw [Array.getElem?_setIfInBounds_ne (by omega), Array.getElem?_setIfInBounds_ne (by omega), Array.getElem?_setIfInBounds_ne (by omega)]
    exact h5 i hi
theorem DvIn.setT {j : Nat} (hj : j < 64) : DvIn (W.setCell ⟨m, 1 + j, none⟩ (.bool true)) m p (fun i => if i = j then true else T i) V := by
  obtain ⟨cs, h1, h2, h3, h4, h5⟩ := h
  refine ⟨_, h1.put (1 + j) _, by rw [Array.size_setIfInBounds]; exact h2, ?_, fun i hi => ?_, fun i hi => ?_⟩
  · rw [Array.getElem?_setIfInBounds_ne (by omega)]
    exact h3
  · dsimp only
    by_cases e : i = j
    · subst e
      rw [Array.getElem?_setIfInBounds_self_of_lt (by omega), if_pos rfl]
    · rw [Array.getElem?_setIfInBounds_ne (by omega), if_neg e]
      exact h4 i hi
  · rw [Array.getElem?_setIfInBounds_ne (by omega), Array.getElem?_setIfInBounds_ne (by omega), Array.getElem?_setIfInBounds_ne (by omega)]
    exact h5 i hi
theorem DvIn.setV {j : Nat} (hj : j < 64) (x : VaT) : DvIn (((W.setCell ⟨m, 65 + j * 3, none⟩ (.int .i64 x.slot)).setCell ⟨m, 65 + j * 3 + 1, none⟩ (.int .u64 (x.bal : Int))).setCell ⟨m, 65 + j * 3 + 2, none⟩ (.string (bstr x.val))) m p T (fun i => if i = j then x else V i) := by
  obtain ⟨cs, h1, h2, h3, h4, h5⟩ := h
  refine ⟨_, ((h1.put _ _).put _ _).put _ _, by rw [Array.size_setIfInBounds, Array.size_setIfInBounds, Array.size_setIfInBounds]; exact h2, ?_, fun i hi => ?_, fun i hi => ?_⟩
  · rw [Array.getElem?_setIfInBounds_ne (by omega), Array.getElem?_setIfInBounds_ne (by omega), Array.getElem?_setIfInBounds_ne (by omega)]
    exact h3
  · rw [Array.getElem?_setIfInBounds_ne (by omega), Array.getElem?_setIfInBounds_ne (by omega), Array.getElem?_setIfInBounds_ne (by omega)]
    exact h4 i hi
  · dsimp only
    by_cases e : i = j
    · subst e
      rw [if_pos rfl]
      refine ⟨?_, ?_, ?_⟩
      · rw [Array.getElem?_setIfInBounds_ne (by omega), Array.getElem?_setIfInBounds_ne (by omega), Array.getElem?_setIfInBounds_self_of_lt (by omega)]
      · rw [Array.getElem?_setIfInBounds_ne (by omega), Array.getElem?_setIfInBounds_self_of_lt (by rw [Array.size_setIfInBounds]; omega)]
      · rw [Array.getElem?_setIfInBounds_self_of_lt (by rw [Array.size_setIfInBounds, Array.size_setIfInBounds]; omega)]
    · rw [if_neg e]
      simp only [Array.getElem?_setIfInBounds_ne (show 65 + j * 3 + 2 ≠ 65 + i * 3 by omega), Array.getElem?_setIfInBounds_ne (show 65 + j * 3 + 1 ≠ 65 + i * 3 by omega), Array.getElem?_setIfInBounds_ne (show 65 + j * 3 ≠ 65 + i * 3 by omega), Array.getElem?_setIfInBounds_ne (show 65 + j * 3 + 2 ≠ 65 + i * 3 + 1 by omega), Array.getElem?_setIfInBounds_ne (show 65 + j * 3 + 1 ≠ 65 + i * 3 + 1 by omega), Array.getElem?_setIfInBounds_ne (show 65 + j * 3 ≠ 65 + i * 3 + 1 by omega), Array.getElem?_setIfInBounds_ne (show 65 + j * 3 + 2 ≠ 65 + i * 3 + 2 by omega), Array.getElem?_setIfInBounds_ne (show 65 + j * 3 + 1 ≠ 65 + i * 3 + 2 by omega), Array.getElem?_setIfInBounds_ne (show 65 + j * 3 ≠ 65 + i * 3 + 2 by omega)]
      exact h5 i hi
end
/-- votes as cells. -/
def vcc (x : VaT) : List Value := [.int .i64 x.slot, .int .u64 (x.bal : Int), .string (bstr x.val)]
def vcs (xs : List VaT) : List Value := xs.flatMap vcc
theorem vcs_len (xs : List VaT) : (vcs xs).length = xs.length * 3 := by
  induction xs with
  | nil => rfl
  | cons x t ih =>
    show (vcc x ++ vcs t).length = _
    rw [List.length_append, ih, List.length_cons]
    show 3 + _ = _
    omega
theorem vcs_snoc (xs : List VaT) (x : VaT) : vcs (xs ++ [x]) = vcs xs ++ vcc x := by
  unfold vcs
  rw [List.flatMap_append]
  simp
theorem vcs_get (xs : List VaT) (k : Nat) (x : VaT) (h : xs[k]? = some x) (j : Nat) (hj : j < 3) : (vcs xs)[k * 3 + j]? = (vcc x)[j]? := by
  induction xs generalizing k with
  | nil => cases h
  | cons y t ih =>
    cases k with
    | zero =>
      injection h with h
      subst h
      show (vcc y ++ vcs t)[_]? = _
      rw [List.getElem?_append_left (by show _ < 3; omega), Nat.zero_mul, Nat.zero_add]
    | succ k =>
      show (vcc y ++ vcs t)[_]? = _
      rw [List.getElem?_append_right (by show 3 ≤ _; omega), show (k + 1) * 3 + j - (vcc y).length = k * 3 + j from by show _ - 3 = _; omega]
      exact ih k h
theorem vals_vcs (xs : List ItT) : valsT xs = vcs (xs.map (·.2)) := by
  induction xs with
  | nil => rfl
  | cons x t ih =>
    show valcT x ++ valsT t = vcc x.2 ++ vcs (t.map (·.2))
    rw [ih]
    rfl
theorem vcs_one (xs : List VaT) : ∀ u ∈ vcs xs, u.oneCell' = true := by
  intro u hu
  obtain ⟨x, _, hx⟩ := List.mem_flatMap.1 hu
  simp only [vcc, List.mem_cons, List.not_mem_nil, or_false] at hx
  rcases hx with rfl | rfl | rfl <;> rfl
theorem Rd.vcs {w : World} {A : Option Addr} {xs : List VaT} (h : Rd w A (vcs xs)) {k : Nat} {x : VaT} (hx : xs[k]? = some x) :
    ∃ b o, A = some ⟨b, o, none⟩ ∧ w.cell? ⟨b, o + k * 3, none⟩ = some (.int .i64 x.slot) ∧ w.cell? ⟨b, o + k * 3 + 1, none⟩ = some (.int .u64 (x.bal : Int)) ∧ w.cell? ⟨b, o + k * 3 + 2, none⟩ = some (.string (bstr x.val)) := by
  have hk := (List.getElem?_eq_some_iff.1 hx).1
  obtain ⟨b, o, rfl, hc⟩ := h (by rw [vcs_len]; omega)
  refine ⟨b, o, rfl, ?_, ?_, ?_⟩
  · exact hc _ _ ((vcs_get xs k x hx 0 (by omega)).trans rfl)
  · exact hc _ _ ((vcs_get xs k x hx 1 (by omega)).trans rfl)
  · exact hc _ _ ((vcs_get xs k x hx 2 (by omega)).trans rfl)
/-- what is taken from a place on, of the first n. -/
def fromL (T : Nat → Bool) (V : Nat → VaT) (fr : Int) : Nat → List VaT
  | 0 => []
  | n + 1 => if T n = true ∧ fr ≤ (n : Int) then fromL T V fr n ++ [V n] else fromL T V fr n
theorem fromL_len (T : Nat → Bool) (V : Nat → VaT) (fr : Int) (n : Nat) : (fromL T V fr n).length ≤ n := by
  induction n with
  | zero => exact Nat.le_refl _
  | succ n ih =>
    unfold fromL
    split
    · rw [List.length_append, List.length_singleton]; omega
    · omega
theorem dvInfo : (Try.prog.info? 30).map (fun i => (i.zero, i.size, i.bytes)) = some (some (.agg #[.int .i64 0, .int .u64 0, .string { data := #[] }] : Value), 3, 32) := by kernel_rfl

set_option maxRecDepth 100000 in
set_option maxHeartbeats 2000000 in
theorem dfrom_any (W : World) (m p : Nat) (T : Nat → Bool) (V : Nat → VaT) (h : DvIn W m p T V) (fr : Int) :
    Calls Try.prog 16 #[.pointer (some ⟨m, 0, none⟩), .int .i64 fr] W fun e W' => ∃ A c, e = .returned (.slice A (fromL T V fr 64).length c) ∧ W'.ownsRow W.heap.size 30 3 (.slice A (fromL T V fr 64).length c) (fromL T V fr 64).length (vcs (fromL T V fr 64)) ∧ Fr NoBlk W W' := by
  obtain ⟨i0, hi, hz0, hz1, hz2⟩ := info_parts dvInfo
  have HD := Lib.hid h
  obtain ⟨w1, hw1⟩ : ∃ w1, w1 = W.alloc (.cells #[] 30) := ⟨_, rfl⟩
  have HO1 : Hid (w1.ownsRow W.heap.size 30 3 (.slice (some ⟨W.heap.size, 0, none⟩) 0 0) 0 []) := by show World.ownsRow _ _ _ _ _ _ _; rw [hw1]; exact World.ownsRow_made W #[] 0 (Nat.le_refl _) (by decide) rfl
  have HF1 : Hid (Fr NoBlk W w1) := by show Fr _ _ _; rw [hw1]; exact (Fr.refl _ _).alloc _
  have HW1 := Lib.hid hw1
  clear h hw1
  go_enter Try.func16, Try.ntmps16
  go_upto_region 2 with fail
  rw [← HW1.out]
  clear HW1
  go_wp2_with fail
  go_loopw [5, 6] (fun a i wr => ∃ (k n : Nat) (A : Option Addr) (c : Nat), k ≤ 64 ∧ a = .slice A n c ∧ i = .int .i64 (k : Int) ∧ Hid (n = (fromL T V fr k).length) ∧ Hid (wr.ownsRow W.heap.size 30 3 (.slice A n c) n (vcs (fromL T V fr k))) ∧ Hid (Fr NoBlk W wr)) (fun _ i _ => (64 - intOf i).toNat)
  case atStart => exact ⟨0, 0, _, 0, by omega, rfl, rfl, rfl, HO1.out, HF1.out⟩
  case round =>
    clear HO1 HF1
    obtain ⟨k, n, A, c, hk, rfl, rfl, HN, HO, HF⟩ := hrel
    have hwk : IntKind.i64.wrap ((k : Int) + 1) = (k : Int) + 1 := by rw [IntWalk.i64_in _ (by omega)]
    have HDr := Lib.hid (HD.out.nofr HF.out)
    by_cases hlt : k < 64
    · have hki : (k : Int) < 64 := by omega
      have t0 := (HDr.out.t_ hlt).1
      obtain ⟨tk, htk⟩ : ∃ tk, tk = T k := ⟨_, rfl⟩
      rw [← htk] at t0
      have HTK := Lib.hid htk
      clear htk
      have HNO : Hid (¬ (tk = true ∧ fr ≤ (k : Int)) → n = (fromL T V fr (k + 1)).length ∧ wr.ownsRow W.heap.size 30 3 (.slice A n c) n (vcs (fromL T V fr (k + 1)))) := fun hno => by
        have e : fromL T V fr (k + 1) = fromL T V fr k := by
          show (if _ then _ else _) = _
          rw [if_neg (by rw [← HTK.out]; exact hno)]
        rw [e]
        exact ⟨HN.out, HO.out⟩
      cases tk with
      | false =>
        have h2 := Lib.hid (HNO.out (by simp))
        clear HNO
        go_wp2_with fail
        go_roundw
        case rel => exact ⟨k + 1, n, A, c, by omega, rfl, by go_num, h2.out.1, h2.out.2, HF.out⟩
        case measure => simp [intOf]; omega
      | true =>
        by_cases hfr : fr ≤ (k : Int)
        · have g1 : decide (fr ≤ (k : Int)) = true := by simp; omega
          obtain ⟨⟨v0, v1, v2⟩, _⟩ := HDr.out.v_ hlt
          have hn64 : n ≤ 64 := by have := fromL_len T V fr k; have := HN.out; omega
          obtain ⟨x, hx⟩ : ∃ x, x = V k := ⟨_, rfl⟩
          rw [← hx] at v0 v1 v2
          have HX := Lib.hid hx
          clear hx HNO
          have HOA : Hid ((wr.alloc (.cells #[.int .i64 x.slot, .int .u64 (x.bal : Int), .string (bstr x.val)] 30)).ownsRow W.heap.size 30 3 (.slice A n c) n (vcs (fromL T V fr k))) := own_fr HO.out ((Fr.refl NoBlk wr).alloc _) (fun _ _ e => e)
          go_wp2_with (at_builtin; refine wpList_appO rfl _ _ 39 rfl W.heap.size 30 i0 _ 3 32 Try.underlying39 hi hz0 hz1 hz2 rfl (by decide) (.slice A n c) n (vcs (fromL T V fr k)) rfl HOA.out ⟨wr.heap.size, 0, none⟩ 1 1 (vcc x) rfl rfl (Rd.of_cells (Bk.new wr _ #[.int .i64 x.slot, .int .u64 (x.bal : Int), .string (bstr x.val)])) ?c1 ?c2 ?c3 ?c4 ?_)
          case c1 => intro y hy; exact vcs_one [x] y (by simpa [vcs] using hy)
          case c2 => unfold maxLen; omega
          case c3 => omega
          case c4 => exact Nat.le_trans HF.out.size (by simp)
          intro v4 w4 ho4 hg4 hb4
          obtain ⟨A4, c4, rfl, _, _⟩ := own_form ho4
          have HE : Hid (fromL T V fr (k + 1) = fromL T V fr k ++ [x]) := by
            show (if _ then _ else _) = _
            rw [if_pos ⟨HTK.out.symm, hfr⟩, HX.out]
          have HO4 : Hid (w4.ownsRow W.heap.size 30 3 (.slice A4 (n + 1) c4) (n + 1) (vcs (fromL T V fr (k + 1)))) := by
            show World.ownsRow _ _ _ _ _ _ _
            rw [HE.out, vcs_snoc]
            exact ho4
          have HF4 : Hid (Fr NoBlk W w4) := (HF.out.alloc _).grown hg4 fun j hj hlt => by have := (own_blk HO.out hj).1; omega
          have HN4 : Hid (n + 1 = (fromL T V fr (k + 1)).length) := by
            show _ = _
            rw [HE.out, List.length_append, ← HN.out]
            rfl
          clear ho4 hg4 hb4 HOA
          go_wp2_with fail
          go_roundw
          case rel => exact ⟨k + 1, n + 1, A4, c4, by omega, rfl, by go_num, HN4.out, HO4.out, HF4.out⟩
          case measure => simp [intOf]; omega
        · have g1 : decide (fr ≤ (k : Int)) = false := by simp; omega
          have h2 := Lib.hid (HNO.out (fun e => hfr e.2))
          clear HNO
          go_wp2_with fail
          go_roundw
          case rel => exact ⟨k + 1, n, A, c, by omega, rfl, by go_num, h2.out.1, h2.out.2, HF.out⟩
          case measure => simp [intOf]; omega
    · have hk64 : k = 64 := by omega
      subst hk64
      have HNN := HN.out
      go_wp2_with fail
      go_ret
      rw [← HN.out]
      exact ⟨A, c, rfl, HO.out, HF.out⟩
end Go.Proofs.Yteeeokofampdeaa
