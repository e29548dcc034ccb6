/- LeadOnce is true: a voter that promises, or has taken, twice counts once. No condition. -/
import Derived.Test.YtimfinpifngdiaaSpeaks12
import Derived.Test.YtimfinpifngdiaaLeWI
import Derived.IntWalk
namespace Go.Proofs.Ytimfinpifngdiaa.leadOnce
open Go.ChangeShapes Go.WideShapes Go.ChangeAt Go.RowKit Go.Maps

theorem low_bits (k : Int) (m : Nat) (hm : m ≤ 65535) : ∃ q : Nat, bits .and .i64 k (m : Int) = (q : Int) ∧ q ≤ m := by
  have e : (BitVec.ofInt 64 (m : Int)).toNat = m := by rw [BitVec.ofInt_natCast, BitVec.toNat_ofNat]; omega
  have hq : (BitVec.ofInt 64 k &&& BitVec.ofInt 64 (m : Int)).toNat ≤ m := by
    rw [BitVec.toNat_and]
    have := Nat.and_le_right (n := (BitVec.ofInt 64 k).toNat) (m := (BitVec.ofInt 64 (m : Int)).toNat)
    omega
  refine ⟨(BitVec.ofInt 64 k &&& BitVec.ofInt 64 (m : Int)).toNat, ?_, hq⟩
  show IntKind.i64.wrap (((BitVec.ofInt 64 k &&& BitVec.ofInt 64 (m : Int)).toNat : Nat) : Int) = _
  generalize (BitVec.ofInt 64 k &&& BitVec.ofInt 64 (m : Int)).toNat = q at *
  exact IntWalk.i64_in _ (by omega)
/-- the first i voters. -/
def up (i : Nat) : Int → Bool := fun y => decide (0 ≤ y ∧ y < i)
theorem up_hear (i n : Nat) (h : i < n) : hearB (up i) n i = true ∧ hearP (up i) n i = up (i + 1) := by
  have e : hearB (up i) n i = true := by
    unfold hearB up
    rw [decide_eq_false (by omega), decide_eq_true (by omega), decide_eq_true (by omega)]
    rfl
  refine ⟨e, ?_⟩
  unfold hearP
  rw [if_pos e]
  funext y
  unfold up
  by_cases h1 : y = i
  · rw [decide_eq_true h1, show decide (0 ≤ y ∧ y < ((i + 1 : Nat) : Int)) = true from decide_eq_true (by omega), Bool.true_or]
  · rw [decide_eq_false h1, Bool.false_or]
    by_cases h2 : 0 ≤ y ∧ y < i
    · rw [decide_eq_true h2, decide_eq_true (by omega)]
    · rw [decide_eq_false h2, decide_eq_false (by omega)]
theorem up_again (i n : Nat) : hearB (up (i + 1)) n i = false := by
  unfold hearB up
  rw [decide_eq_true (by omega)]
  rfl
/-- i voters have promised; enough have; i voters have taken 7; it is chosen. -/
def pi (n i : Nat) : LdrI := ⟨n, 0, false, up i, i, fun _ => false, 0, fun _ => none, 0⟩
def pl (n : Nat) : LdrI := ⟨n, 0, true, fun _ => false, 0, up 0, 0, fun _ => none, 0⟩
def ti (n i : Nat) : LdrI := ⟨n, 0, true, fun _ => false, 0, up i, i, updK (fun _ => none) 0 (some (0, 0, 7)), 1⟩
def te (n : Nat) : LdrI := ⟨n, 1, true, fun _ => false, 0, fun _ => false, 0, fun _ => none, 0⟩
theorem up_zero : up 0 = fun _ => false := by
  funext y
  unfold up
  rw [decide_eq_false (by omega)]
theorem p0 (n : Nat) : newI (n : Int) 0 = pi n 0 := by
  unfold pi newI
  rw [up_zero]
  rfl
theorem p1 (n i : Nat) (h : i < n) : promI (pi n i) i [] = if n < 2 * (i + 1) then pl n else pi n (i + 1) := by
  unfold promI
  refine (if_neg ?_).trans ?_
  · intro hc
    rcases hc with hc | hc
    · cases hc
    · rw [show hearB (pi n i).pr (pi n i).voters i = true from (up_hear i n h).1] at hc; cases hc
  · have e : hearP (pi n i).pr (pi n i).voters i = up (i + 1) := (up_hear i n h).2
    rw [e]
    by_cases h2 : n < 2 * (i + 1)
    · rw [if_pos h2]
      refine (if_pos h2).trans ?_
      unfold pl
      rw [up_zero]
      rfl
    · rw [if_neg h2]
      exact (if_neg h2).trans rfl
theorem p2 (n i : Nat) : promI (pi n (i + 1)) i [] = pi n (i + 1) := by
  unfold promI
  exact if_pos (.inr (up_again i n))
theorem p3 (n : Nat) (x : Int) : promI (pl n) x [] = pl n := by
  unfold promI
  exact if_pos (.inl rfl)
theorem o1 (n : Nat) : offBI (pl n) = true ∧ offI (pl n) 7 = ti n 0 := ⟨rfl, rfl⟩
theorem val_ti (n i : Nat) : valOI (ti n i) = some 7 := by
  show (updK (fun _ => none) 0 (some ((0 : Int), (0 : Nat), (7 : Int))) ((0 : Nat) : Int)).map (·.2.2) = some 7
  rw [show (((0 : Nat) : Int)) = 0 from rfl, updK_same]
  rfl
theorem t1 (n i : Nat) (h : i < n) : takenI (ti n i) i 0 = if n < 2 * (i + 1) then (te n, some 7) else (ti n (i + 1), none) := by
  unfold takenI
  rw [val_ti]
  refine (if_neg ?_).trans ?_
  · intro hc
    rcases hc with hc | hc
    · exact hc rfl
    · rw [show hearB (ti n i).tk (ti n i).voters i = true from (up_hear i n h).1] at hc; cases hc
  · by_cases h2 : n < 2 * (i + 1)
    · rw [if_pos h2]
      refine (if_pos h2).trans ?_
      congr 1
      show (⟨n, 0 + 1, true, fun _ => false, 0, fun _ => false, 0, updK (updK (fun _ => none) 0 (some (0, 0, 7))) ((0 : Nat) : Int) none, 0⟩ : LdrI) = te n
      unfold te
      congr 1
      funext y
      unfold updK
      rw [show (((0 : Nat) : Int)) = 0 from rfl]
      split <;> rfl
    · rw [if_neg h2]
      refine (if_neg h2).trans ?_
      congr 1
      show ({ ti n i with tk := hearP (up i) n i, nt := i + 1 } : LdrI) = ti n (i + 1)
      rw [(up_hear i n h).2]
      rfl
theorem t2 (n i : Nat) : takenI (ti n (i + 1)) i 0 = (ti n (i + 1), none) := by
  unfold takenI
  rw [val_ti]
  exact if_pos (.inr (up_again i n))
theorem t3 (n : Nat) (x : Int) : takenI (te n) x 0 = (te n, none) := rfl

set_option maxRecDepth 100000 in
set_option maxHeartbeats 4000000 in
theorem walk (w : World) (vo kk : Int) : Calls Try.prog 7 #[.int .i64 vo, .int .i64 kk] w fun e w' => e = .returned (.bool true) ∧ Fr NoBlk w w' := by
  obtain ⟨q, hq, hq1⟩ := low_bits vo 7 (by omega)
  rw [show ((7 : Nat) : Int) = 7 from rfl] at hq
  obtain ⟨d, hd, hd1⟩ := low_bits kk 3 (by omega)
  rw [show ((3 : Nat) : Int) = 3 from rfl] at hd
  obtain ⟨n, hn⟩ : ∃ n, n = 2 + q := ⟨_, rfl⟩
  have hn2 : 2 ≤ n ∧ n ≤ 9 := by omega
  have hwn : IntKind.i64.wrap (2 + (q : Int)) = (n : Int) := by rw [IntWalk.i64_in _ (by omega)]; omega
  have hmin : min (n : Int) 9 = (n : Int) := by omega
  have hmin' : min 9 (n : Int) = (n : Int) := by omega
  obtain ⟨nd, hnd⟩ : ∃ nd, nd = n / 2 + 1 := ⟨_, rfl⟩
  have hquo : (n : Int).tdiv 2 = ((n / 2 : Nat) : Int) := by rw [Int.tdiv_eq_ediv_of_nonneg (by omega)]; rfl
  have hwq : IntKind.i64.wrap (((n / 2 : Nat) : Int) + 1) = (nd : Int) := by rw [IntWalk.i64_in _ (by omega)]; omega
  have HQ2 : Hid ((n : Int) / 2 + 1 = (nd : Int)) := by show (n : Int) / 2 + 1 = (nd : Int); omega
  have HND : Hid (nd ≤ n ∧ 1 ≤ nd ∧ n < 2 * nd ∧ ∀ i, i + 1 < nd → ¬ n < 2 * (i + 1)) := ⟨by omega, by omega, by omega, fun i hi => by omega⟩
  have K0 := Lib.hid fun W => newLeI W 1 (n : Int) 0 (by omega) (by omega)
  rw [p0 n] at K0
  have K1 : Hid (∀ i w W g bp bt bv, i < 9 → LeI w W g bp bt bv (pi n i) → Calls Try.prog 36 #[.pointer (some ⟨g, 0, none⟩)] W fun e w' => e = .returned (.bool false) ∧ W = w') := fun i w W g bp bt bv _ h => h.leads_
  have K2 : Hid (∀ i, i < nd → ∀ w W g bp bt bv, LeI w W g bp bt bv (pi n i) → Calls Try.prog 27 #[.pointer (some ⟨g, 0, none⟩), .int .i64 i, .slice none 0 0] W fun e w' => e = .returned (.tuple #[]) ∧ LeI w w' g bp bt bv (if n < 2 * (i + 1) then pl n else pi n (i + 1))) := fun i hi w W g bp bt bv h => by
    have := h.prom0 (by show i < 1000; omega) (by show 0 < 100000; decide) i (wf64_of (by omega))
    rwa [p1 n i (by omega)] at this
  have K3 : Hid (∀ i, i < nd → ∀ w W g bp bt bv, LeI w W g bp bt bv (if n < 2 * (i + 1) then pl n else pi n (i + 1)) → Calls Try.prog 27 #[.pointer (some ⟨g, 0, none⟩), .int .i64 i, .slice none 0 0] W fun e w' => e = .returned (.tuple #[]) ∧ LeI w w' g bp bt bv (if n < 2 * (i + 1) then pl n else pi n (i + 1))) := fun i hi w W g bp bt bv h => by
    by_cases hc : n < 2 * (i + 1)
    · rw [if_pos hc] at h ⊢
      have := h.prom0 (by show 0 < 1000; decide) (by show 0 < 100000; decide) i (wf64_of (by omega))
      rwa [p3 n i] at this
    · rw [if_neg hc] at h ⊢
      have := h.prom0 (by show i + 1 < 1000; omega) (by show 0 < 100000; decide) i (wf64_of (by omega))
      rwa [p2 n i] at this
  have K4 : Hid (∀ w W g bp bt bv, LeI w W g bp bt bv (pl n) → Calls Try.prog 36 #[.pointer (some ⟨g, 0, none⟩)] W fun e w' => e = .returned (.bool true) ∧ W = w') := fun w W g bp bt bv h => h.leads_
  have K5 : Hid (∀ w W g bp bt bv, LeI w W g bp bt bv (pl n) → Calls Try.prog 28 #[.pointer (some ⟨g, 0, none⟩), .int .i64 7] W fun e w' => e = .returned (.bool true) ∧ LeI w w' g bp bt bv (ti n 0)) := fun w W g bp bt bv h => by
    have := h.offer (by show 0 < 100000; decide) 7
    rwa [(o1 n).1, (o1 n).2] at this
  have K6 : Hid (∀ i, i + 1 < nd → ∀ w W g bp bt bv, LeI w W g bp bt bv (ti n i) → Calls Try.prog 32 #[.pointer (some ⟨g, 0, none⟩), .int .i64 i, .int .i64 0] W fun e w' => e = .returned (.tuple #[.int .i64 0, .bool false]) ∧ LeI w w' g bp bt bv (ti n (i + 1))) := fun i hi w W g bp bt bv h => by
    have := h.taken (by show i < 1000; omega) i 0 (wf64_of (by omega))
    rwa [t1 n i (by omega), if_neg (by omega)] at this
  have K6e : Hid (∀ i, i + 1 = nd → ∀ w W g bp bt bv, LeI w W g bp bt bv (ti n i) → Calls Try.prog 32 #[.pointer (some ⟨g, 0, none⟩), .int .i64 i, .int .i64 0] W fun e w' => e = .returned (.tuple #[.int .i64 7, .bool true]) ∧ LeI w w' g bp bt bv (te n)) := fun i hi w W g bp bt bv h => by
    have := h.taken (by show i < 1000; omega) i 0 (wf64_of (by omega))
    rwa [t1 n i (by omega), if_pos (by omega)] at this
  have K7 : Hid (∀ i, i < 9 → ∀ w W g bp bt bv, LeI w W g bp bt bv (ti n (i + 1)) → Calls Try.prog 32 #[.pointer (some ⟨g, 0, none⟩), .int .i64 i, .int .i64 0] W fun e w' => e = .returned (.tuple #[.int .i64 0, .bool false]) ∧ LeI w w' g bp bt bv (ti n (i + 1))) := fun i hi w W g bp bt bv h => by
    have := h.taken (by show i + 1 < 1000; omega) i 0 (wf64_of (by omega))
    rwa [t2 n i] at this
  have K8 : Hid (∀ i : Nat, i < 9 → ∀ w W g bp bt bv, LeI w W g bp bt bv (te n) → Calls Try.prog 32 #[.pointer (some ⟨g, 0, none⟩), .int .i64 i, .int .i64 0] W fun e w' => e = .returned (.tuple #[.int .i64 0, .bool false]) ∧ LeI w w' g bp bt bv (te n)) := fun i hi w W g bp bt bv h => h.taken (by show 0 < 1000; decide) i 0 (wf64_of (by omega))
  have K9 : Hid (∀ w W g bp bt bv, LeI w W g bp bt bv (te n) → Calls Try.prog 29 #[.pointer (some ⟨g, 0, none⟩)] W fun e w' => e = .returned (.int .i64 1) ∧ W = w') := fun w W g bp bt bv h => h.slot_
  have HN := Lib.hid hn2
  clear hn hnd
  go_enter Try.func7, Try.ntmps7
  go_wp2_with fail
  refine (speaks_any w).mono ?_
  rintro e w1 ⟨rfl, hf1⟩
  have HF1 := Lib.hid hf1
  clear hf1
  go_wp2_with fail
  refine (K0.out w1).mono ?_
  clear K0
  rintro e w2 ⟨g, bp, bt, bv, rfl, h2⟩
  have H2 := Lib.hid h2
  clear h2 hq hwn hmin hmin'
  go_wp2_with fail
  clear hquo hwq
  rw [HQ2.out]
  go_loopw [9] (fun i wr => ∃ s : Nat, s ≤ nd ∧ i = .int .i64 s ∧ Hid (LeI w1 wr g bp bt bv (if s < nd then pi n s else pl n))) (fun i _ => nd - (intOf i).toNat)
  case atStart => exact ⟨0, Nat.zero_le _, rfl, by show LeI _ _ _ _ _ _ _; rw [if_pos (by have := HND.out.2.1; omega)]; exact H2.out⟩
  case round =>
    clear H2
    obtain ⟨s, hs, rfl, HX⟩ := hrel
    have hs9 : s ≤ 9 := by have := HND.out.1; omega
    by_cases hlt : s < nd
    · have HX1 : Hid (LeI w1 wr g bp bt bv (pi n s)) := by have h := HX.out; rw [if_pos hlt] at h; exact h
      have hwr : IntKind.i64.wrap ((s : Int) + 1) = (s : Int) + 1 := IntWalk.i64_in _ (by omega)
      have hlti : (s : Int) < (nd : Int) := by omega
      clear HX
      go_wp2_with fail
      refine (K1.out s _ _ _ _ _ _ (by have := HND.out.1; omega) HX1.out).mono ?_
      rintro e w5 ⟨rfl, h5⟩
      subst h5
      go_wp2_with fail
      refine (K2.out s hlt _ _ _ _ _ _ HX1.out).mono ?_
      rintro e w6 ⟨rfl, h6⟩
      have H6 := Lib.hid h6
      clear h6
      go_wp2_with fail
      go_loopw [10] (fun i wr => ∃ t : Nat, t ≤ d ∧ i = .int .i64 t ∧ Hid (LeI w1 wr g bp bt bv (if n < 2 * (s + 1) then pl n else pi n (s + 1)))) (fun i _ => d - (intOf i).toNat)
      case atStart => exact ⟨0, Nat.zero_le _, rfl, H6.out⟩
      case round =>
        clear H6
        obtain ⟨t, ht, rfl, HY⟩ := hrel
        have hwt : IntKind.i64.wrap ((t : Int) + 1) = (t : Int) + 1 := IntWalk.i64_in _ (by omega)
        by_cases htd : (t : Int) < (d : Int)
        · go_wp2_with fail
          refine (K3.out s hlt _ _ _ _ _ _ HY.out).mono ?_
          rintro e w7 ⟨rfl, h7⟩
          have H7 := Lib.hid h7
          clear h7
          go_wp2_with fail
          go_roundw
          case rel => exact ⟨t + 1, by omega, by go_num, H7.out⟩
          case measure => simp [intOf]; omega
        · have HZ : Hid (LeI w1 wr g bp bt bv (if s + 1 < nd then pi n (s + 1) else pl n)) := by
            have h := HY.out
            by_cases h3 : s + 1 < nd
            · rw [if_neg (HND.out.2.2.2 s h3)] at h
              show LeI _ _ _ _ _ _ _
              rw [if_pos h3]
              exact h
            · rw [if_pos (by have := HND.out.2.2.1; omega)] at h
              show LeI _ _ _ _ _ _ _
              rw [if_neg h3]
              exact h
          go_wp2_with fail
          go_roundw
          case rel => exact ⟨s + 1, by omega, by go_num, HZ⟩
          case measure => simp [intOf]; omega
    · obtain rfl : s = nd := by omega
      have HX1 : Hid (LeI w1 wr g bp bt bv (pl n)) := by have h := HX.out; rw [if_neg hlt] at h; exact h
      clear HX hlt hs
      go_wp2_with fail
      refine (K4.out _ _ _ _ _ _ HX1.out).mono ?_
      rintro e w5 ⟨rfl, h5⟩
      subst h5
      go_wp2_with fail
      refine (K5.out _ _ _ _ _ _ HX1.out).mono ?_
      rintro e w6 ⟨rfl, h6⟩
      have H6 := Lib.hid h6
      clear h6
      have hws : IntKind.i64.wrap ((s : Int) - 1) = (s : Int) - 1 := IntWalk.i64_in _ (by omega)
      go_wp2_with fail
      go_loopw [11] (fun i wr => ∃ a : Nat, a ≤ s ∧ i = .int .i64 a ∧ Hid (LeI w1 wr g bp bt bv (if a < s then ti n a else te n))) (fun i _ => s - (intOf i).toNat)
      case atStart => exact ⟨0, Nat.zero_le _, rfl, by show LeI _ _ _ _ _ _ _; rw [if_pos (by have := HND.out.2.1; omega)]; exact H6.out⟩
      case round =>
        clear H6
        obtain ⟨a, ha, rfl, HX⟩ := hrel
        by_cases hlt : a < s
        · have HX1 : Hid (LeI w1 wr g bp bt bv (ti n a)) := by have h := HX.out; rw [if_pos hlt] at h; exact h
          have hwr : IntKind.i64.wrap ((a : Int) + 1) = (a : Int) + 1 := IntWalk.i64_in _ (by omega)
          have hlti : (a : Int) < (s : Int) := by omega
          clear HX
          go_wp2_with fail
          go_loopw [12] (fun i wr => ∃ t : Nat, t ≤ d + 1 ∧ i = .int .i64 t ∧ Hid (LeI w1 wr g bp bt bv (if t = 0 then ti n a else if a + 1 = s then te n else ti n (a + 1)))) (fun i _ => d + 1 - (intOf i).toNat)
          case atStart => exact ⟨0, Nat.zero_le _, rfl, by show LeI _ _ _ _ _ _ _; rw [if_pos rfl]; exact HX1.out⟩
          case round =>
            clear HX1
            obtain ⟨t, ht, rfl, HY⟩ := hrel
            have hwt : IntKind.i64.wrap ((t : Int) + 1) = (t : Int) + 1 := IntWalk.i64_in _ (by omega)
            by_cases htd : (t : Int) ≤ (d : Int)
            · by_cases ht0 : t = 0
              · subst ht0
                have HY1 : Hid (LeI w1 wr g bp bt bv (ti n a)) := by have h := HY.out; rw [if_pos rfl] at h; exact h
                clear HY
                by_cases hl : a + 1 = s
                · have e1 : ((a : Int) == (s : Int) - 1) = true := by rw [beq_iff_eq]; omega
                  have HK := Lib.hid (K6e.out a hl _ _ _ _ _ _ HY1.out)
                  have HL := Lib.hid hl
                  clear hl
                  go_wp2_with fail
                  refine HK.out.mono ?_
                  clear HK
                  rintro e w7 ⟨rfl, h7⟩
                  have H7 : Hid (LeI w1 w7 g bp bt bv (if 0 + 1 = 0 then ti n a else if a + 1 = s then te n else ti n (a + 1))) := by show LeI _ _ _ _ _ _ _; rw [if_neg (by decide), if_pos HL.out]; exact h7
                  clear h7
                  go_wp2_with fail
                  go_roundw
                  case rel => exact ⟨0 + 1, by omega, by go_num, H7.out⟩
                  case measure => simp [intOf]
                · have e1 : ((a : Int) == (s : Int) - 1) = false := beq_eq_false_iff_ne.2 (by omega)
                  have HK := Lib.hid (K6.out a (by omega) _ _ _ _ _ _ HY1.out)
                  have HL := Lib.hid hl
                  clear hl
                  go_wp2_with fail
                  refine HK.out.mono ?_
                  clear HK
                  rintro e w7 ⟨rfl, h7⟩
                  have H7 : Hid (LeI w1 w7 g bp bt bv (if 0 + 1 = 0 then ti n a else if a + 1 = s then te n else ti n (a + 1))) := by show LeI _ _ _ _ _ _ _; rw [if_neg (by decide), if_neg HL.out]; exact h7
                  clear h7
                  go_wp2_with fail
                  go_roundw
                  case rel => exact ⟨0 + 1, by omega, by go_num, H7.out⟩
                  case measure => simp [intOf]
              · have e2 : ((t : Int) == 0) = false := beq_eq_false_iff_ne.2 (by omega)
                have HT0 := Lib.hid ht0
                clear ht0
                by_cases hl : a + 1 = s
                · have HY1 : Hid (LeI w1 wr g bp bt bv (te n)) := by have h := HY.out; rw [if_neg HT0.out, if_pos hl] at h; exact h
                  have e1 : ((a : Int) == (s : Int) - 1) = true := by rw [beq_iff_eq]; omega
                  have HK := Lib.hid (K8.out a (by omega) _ _ _ _ _ _ HY1.out)
                  have HL := Lib.hid hl
                  clear hl HY
                  go_wp2_with fail
                  refine HK.out.mono ?_
                  clear HK
                  rintro e w7 ⟨rfl, h7⟩
                  have H7 : Hid (LeI w1 w7 g bp bt bv (if t + 1 = 0 then ti n a else if a + 1 = s then te n else ti n (a + 1))) := by show LeI _ _ _ _ _ _ _; rw [if_neg (by omega), if_pos HL.out]; exact h7
                  clear h7
                  go_wp2_with fail
                  go_roundw
                  case rel => exact ⟨t + 1, by omega, by go_num, H7.out⟩
                  case measure => simp [intOf]; omega
                · have HY1 : Hid (LeI w1 wr g bp bt bv (ti n (a + 1))) := by have h := HY.out; rw [if_neg HT0.out, if_neg hl] at h; exact h
                  have e1 : ((a : Int) == (s : Int) - 1) = false := beq_eq_false_iff_ne.2 (by omega)
                  have HK := Lib.hid (K7.out a (by omega) _ _ _ _ _ _ HY1.out)
                  have HL := Lib.hid hl
                  clear hl HY
                  go_wp2_with fail
                  refine HK.out.mono ?_
                  clear HK
                  rintro e w7 ⟨rfl, h7⟩
                  have H7 : Hid (LeI w1 w7 g bp bt bv (if t + 1 = 0 then ti n a else if a + 1 = s then te n else ti n (a + 1))) := by show LeI _ _ _ _ _ _ _; rw [if_neg (by omega), if_neg HL.out]; exact h7
                  clear h7
                  go_wp2_with fail
                  go_roundw
                  case rel => exact ⟨t + 1, by omega, by go_num, H7.out⟩
                  case measure => simp [intOf]; omega
            · have HZ : Hid (LeI w1 wr g bp bt bv (if a + 1 < s then ti n (a + 1) else te n)) := by
                have h := HY.out
                rw [if_neg (by omega)] at h
                show LeI _ _ _ _ _ _ _
                by_cases hl : a + 1 = s
                · rw [if_pos hl] at h
                  rw [if_neg (by omega)]
                  exact h
                · rw [if_neg hl] at h
                  rw [if_pos (by omega)]
                  exact h
              clear HY
              go_wp2_with fail
              go_roundw
              case rel => exact ⟨a + 1, by omega, by go_num, HZ⟩
              case measure => simp [intOf]; omega
        · obtain rfl : a = s := by omega
          have HX1 : Hid (LeI w1 wr g bp bt bv (te n)) := by have h := HX.out; rw [if_neg hlt] at h; exact h
          clear HX hlt ha
          go_wp2_with fail
          refine (K9.out _ _ _ _ _ _ HX1.out).mono ?_
          rintro e w8 ⟨rfl, h8⟩
          subst h8
          have HZ := Lib.hid (HF1.out.trans HX1.out.fr)
          go_wp2_with fail
          go_ret
          exact ⟨rfl, HZ.out⟩

theorem paramsOk : ∀ t ∈ Try.f7.params.toList, Try.prog.readableRec t = true ∧ t < Try.prog.types.size := fun t ht => by
  have h := List.all_eq_true.1 (show (Try.f7.params.toList.all fun t => Try.prog.readableRec t && decide (t < Try.prog.types.size)) = true by kernel_rfl) t ht
  simpa using h

set_option maxRecDepth 100000 in
theorem lifted (os : Os) (started : os.Started) (H : Type) (enc : TypeId × Value → H) :
    ReturnsInHanded {} Try.checked os 7 .any (Rows.leadOnceSpec.pre6 enc Try.prog Try.f7 Rows.leadOnceRow.domain false) (Rows.leadOnceSpec.post enc Try.prog Try.f7 false true false false) := by
  refine returnsInHanded_of_change (C := Try.checked) own started (by kernel_rfl) Try.func7
    (ChangeSpec.witness6 (enc := enc) (C := Try.checked) false ⟨#[], #[.int .i64 0, .int .i64 0], []⟩ 8 (by kernel_rfl) (by kernel_rfl) (by kernel_rfl) (by kernel_rfl)) ?_
  intro W base args ds gs before hval0 hW _ _
  have hval : ∀ (j : Nat) t v, Try.f7.params[j]? = some t → args[j]? = some v → Value.okWide Try.prog W .any base t v := hval0
  have hW' := hW
  obtain ⟨p, q, hA0, hV, rfl, _, _⟩ := hW
  have hA : DataW.TrodAll enc Try.prog W 0 (fun _ => true) true Try.f7.params.toList args.toList ds p := hA0
  rw [Try.params7] at hA hval
  obtain ⟨v0, vs0, d0, ds0, p0, q0, hargs, rfl, rfl, h0, r0⟩ := trodAll_cons hA
  obtain ⟨v1, vs1, d1, ds1, p1, q1, rfl, rfl, rfl, h1, r1⟩ := trodAll_cons r0
  obtain ⟨rfl, rfl, rfl⟩ := trodAll_nil r1
  obtain rfl : args = #[v0, v1] := by cases args; simp_all
  obtain ⟨rfl, rfl⟩ := trodVars_none hV
  obtain ⟨z0, rfl, rfl, rfl, w0⟩ := open_int Try.underlying3 (hval 0 _ v0 rfl rfl) h0
  obtain ⟨z1, rfl, rfl, rfl, w1⟩ := open_int Try.underlying3 (hval 1 _ v1 rfl rfl) h1
  have walk := walk W z0 z1
  clear hA0 hval0
  refine walk.mono fun e W' ⟨he, hf⟩ => ?_
  subst he
  exact ⟨_, rfl, law_post laidOut paramsOk rfl rfl Try.underlying4 hW' rfl rfl rfl hf⟩

theorem said : Rows.LeadOnceSaid :=
  OpenClaim.holds_of_wide 7 Try.f7 rfl rfl rfl rfl rfl rfl rfl ⟨rfl, rfl, rfl, rfl, rfl⟩ rfl rfl rfl rfl rfl (by kernel_rfl) Try.func7 (by kernel_rfl)
    (of_decide_eq_true (by kernel_rfl)) (by unfold Func.isWrapper; first | (rw [if_pos (by decide +kernel)]; kernel_rfl) | (rw [if_neg (by decide +kernel)]; exact ⟨rfl, rfl⟩))
    (fun os started H enc _ => lifted os started H enc)
end Go.Proofs.Ytimfinpifngdiaa.leadOnce
