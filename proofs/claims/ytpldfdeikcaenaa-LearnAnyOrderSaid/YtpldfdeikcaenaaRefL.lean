/- The document's Chosen: Len and From. Conditions: places are numbers of type int. -/
import Derived.Test.YtpldfdeikcaenaaRefC
import Derived.OwnWalk
import Derived.Deep.Light
namespace Go.Proofs.Ytpldfdeikcaenaa
open Go.RowKit Go.Maps

theorem known_len {α : Type} {m : Int → Option α} (hd : Dom m) {a : Int} {k : Nat} (h : ∀ j : Nat, j < k → (m (a + j)).isSome = true) (hn : m (a + k) = none) : (seqV m a).length = k := by
  have hw := seqM_whole hd a
  rw [seqV, List.length_map]
  rcases Nat.lt_trichotomy (seqM m a).length k with hl | hl | hl
  · have := h _ hl
    rw [hw.2] at this
    cases this
  · exact hl
  · have := (hw.1 _ _ (List.getElem?_eq_getElem hl)).2
    rw [hn] at this
    cases this
theorem known_get {α : Type} {m : Int → Option α} (hd : Dom m) {a : Int} {k : Nat} (h : ∀ j : Nat, j < k → (m (a + j)).isSome = true) {v : α} (hv : m (a + k) = some v) : (seqV m a)[k]? = some v := by
  have hw := seqM_whole hd a
  have hl : k < (seqM m a).length := by
    rcases Nat.lt_or_ge k (seqM m a).length with hl | hl
    · exact hl
    · rcases Nat.eq_or_lt_of_le hl with e | e
      · have := hw.2
        rw [e, hv] at this
        cases this
      · have := h _ e
        rw [hw.2] at this
        cases this
  have := (hw.1 _ _ (List.getElem?_eq_getElem hl)).2
  rw [hv] at this
  rw [seqV, List.getElem?_map, List.getElem?_eq_getElem hl, Option.map_some, this]
theorem take_next {α : Type} {L : List α} {k : Nat} {v : α} (h : L[k]? = some v) : L.take (k + 1) = L.take k ++ [v] := by
  rw [List.take_add_one, h]; rfl
theorem known_take {α : Type} {m : Int → Option α} (hd : Dom m) {a : Int} {k : Nat} (h : ∀ j : Nat, j < k → (m (a + j)).isSome = true) : ((seqV m a).take k).length = k := by
  have hw := seqM_whole hd a
  rw [List.length_take, seqV, List.length_map]
  rcases Nat.lt_or_ge (seqM m a).length k with hl | hl
  · have := h _ hl
    rw [hw.2] at this
    cases this
  · omega

set_option maxRecDepth 100000 in
set_option maxHeartbeats 1000000 in
theorem rlen_any (w : World) (g : Nat) (m : Int → Option ByteArray) (hd : Dom m) (h : RefC w g m) :
    Calls Try.prog 12 #[.pointer (some ⟨g, 0, none⟩)] w fun e w' => e = .returned (.int .i64 (seqV m 0).length) ∧ w = w' := by
  have HH := Lib.hid h
  have HD := Lib.hid hd
  clear h hd
  go_enter Try.func12, Try.ntmps12
  go_wp2_with fail
  go_loopw [3] (fun i wr => ∃ k : Nat, k ≤ 64 ∧ i = .int .i64 k ∧ Hid (w = wr ∧ ∀ j : Nat, j < k → (m (0 + (j : Int))).isSome = true)) (fun i _ => 64 - (intOf i).toNat)
  case atStart => exact ⟨0, Nat.zero_le _, rfl, rfl, fun j hj => absurd hj (by omega)⟩
  case round =>
    obtain ⟨k, hk, rfl, HX⟩ := hrel
    obtain rfl := HX.out.1
    have HX2 := Lib.hid HX.out.2
    clear HX
    by_cases h1 : (k : Int) < 64
    · have hk2 : k < 64 := by omega
      have c0 : w.cell? ⟨g, k, none⟩ = some (.bool (m k).isSome) := (HH.out.cell k).trans (refCells_known m hk2)
      obtain ⟨o, ho⟩ : ∃ o, o = m k := ⟨_, rfl⟩
      rw [← ho] at c0
      have HO := Lib.hid ho
      clear ho
      have hwr : IntKind.i64.wrap ((k : Int) + 1) = (k : Int) + 1 := IntWalk.i64_in _ (by omega)
      cases o with
      | none =>
        simp only [Option.isSome_none] at c0
        go_wp2_with fail
        go_ret
        refine ⟨?_, rfl⟩
        rw [known_len HD.out HX2.out (by rw [Int.zero_add]; exact HO.out.symm)]
        rfl
      | some u =>
        simp only [Option.isSome_some] at c0
        have HK : Hid (∀ j : Nat, j < k + 1 → (m (0 + (j : Int))).isSome = true) := fun j hj => by
          rcases Nat.lt_succ_iff_lt_or_eq.1 hj with e | e
          · exact HX2.out j e
          · subst e; rw [Int.zero_add, ← HO.out]; rfl
        go_wp2_with fail
        go_roundw
        case rel => exact ⟨k + 1, by omega, by go_num, by trivial, HK.out⟩
        case measure => simp [intOf]; omega
    · have e : k = 64 := by omega
      have HZ : Hid ((seqV m 0).length = 64) := by
        show _ = _
        refine known_len HD.out (by rw [← e]; exact HX2.out) ?_
        rcases hm : m (0 + ((64 : Nat) : Int)) with _ | v
        · rfl
        · have := HD.out _ (by rw [hm]; exact fun e => by cases e)
          omega
      subst e
      clear hk h1
      go_wp2_with fail
      go_ret
      refine ⟨?_, rfl⟩
      rw [HZ.out]
      rfl

theorem own_lit {w : World} {g base : Nat} {e : TypeId} (h : Bk w g e #[]) (hb : base ≤ g) : w.ownsRow base e 1 (.slice (some ⟨g, 0, none⟩) 0 0) 0 [] :=
  ⟨rfl, .inr ⟨g, 0, #[], rfl, hb, h, Nat.le_refl _, Nat.zero_le _, rfl, rfl⟩⟩

set_option maxRecDepth 100000 in
set_option maxHeartbeats 2000000 in
theorem rfrom_any (w : World) (g : Nat) (m : Int → Option ByteArray) (hd : Dom m) (h : RefC w g m) (a most : Int) :
    Calls Try.prog 16 #[.pointer (some ⟨g, 0, none⟩), .int .i64 a, .int .i64 most] w fun e w' => ∃ v', e = .returned v' ∧ w'.ownsRow w.heap.size 9 1 v' ((seqV m a).take most.toNat).length (((seqV m a).take most.toNat).map evS) ∧ Fr NoBlk w w' := by
  obtain ⟨i0, hi, hz0, hz1, hz2⟩ := info_parts elemInfoS
  obtain ⟨R, hR⟩ : ∃ R, R = (seqV m a).take most.toNat := ⟨_, rfl⟩
  rw [← hR]
  have HR := Lib.hid hR
  clear hR
  have HH := Lib.hid h
  have HD := Lib.hid hd
  have HB0 : Hid (Bk (w.alloc (.cells #[] 9)) w.heap.size 9 #[]) := Bk.new _ _ _
  have HO0 : Hid ((w.alloc (.cells #[] 9)).ownsRow w.heap.size 9 1 (.slice (some ⟨w.heap.size, 0, none⟩) 0 0) 0 []) := own_lit HB0.out (Nat.le_refl _)
  have HF0 : Hid (Fr NoBlk w (w.alloc (.cells #[] 9))) := (Fr.refl _ _).alloc _
  have HN : Hid (¬ (0 ≤ a ∧ a < 64) → seqV m a = []) := fun hn => by
    refine List.eq_nil_of_length_eq_zero (known_len hd (fun j hj => absurd hj (by omega)) ?_)
    rcases hm : m (a + ((0 : Nat) : Int)) with _ | v
    · rfl
    · exact absurd (hd _ (by rw [hm]; exact fun e => by cases e)) (by simpa using hn)
  clear h hd HB0
  by_cases h0 : a < 0
  · obtain rfl : R = [] := by rw [HR.out, HN.out (by omega), List.take_nil]
    go_enter Try.func16, Try.ntmps16
    go_wp2_with fail
    go_ret
    exact ⟨_, rfl, HO0.out, HF0.out⟩
  · obtain ⟨b, rfl⟩ : ∃ b : Nat, a = b := ⟨a.toNat, by omega⟩
    by_cases h1 : 63 < (b : Int)
    · obtain rfl : R = [] := by rw [HR.out, HN.out (by omega), List.take_nil]
      go_enter Try.func16, Try.ntmps16
      go_wp2_with fail
      go_ret
      exact ⟨_, rfl, HO0.out, HF0.out⟩
    · clear HN
      go_enter Try.func16, Try.ntmps16
      go_wp2_with fail
      go_loopw [7, 8] (fun out i wr => ∃ (k : Nat) (A : Option Addr) (c : Nat), b + k ≤ 64 ∧ k ≤ c ∧ out = .slice A k c ∧ i = .int .i64 ((b : Int) + (k : Int)) ∧ Hid (Fr NoBlk w wr ∧ wr.ownsRow w.heap.size 9 1 (.slice A k c) k (((seqV m b).take k).map evS) ∧ k ≤ most.toNat ∧ ∀ j : Nat, j < k → (m ((b : Int) + (j : Int))).isSome = true)) (fun _ i _ => 64 - (intOf i).toNat)
      case atStart => exact ⟨0, _, _, by omega, Nat.le_refl _, rfl, by simp, HF0.out, HO0.out, Nat.zero_le _, fun j hj => absurd hj (by omega)⟩
      case round =>
        obtain ⟨k, A, c, hk, hkc, rfl, rfl, HX⟩ := hrel
        obtain ⟨i, hi2⟩ : ∃ i : Nat, i = b + k := ⟨_, rfl⟩
        have hi3 : (b : Int) + (k : Int) = (i : Int) := by omega
        have HI2 := Lib.hid hi2
        rw [hi3]
        have hi64 : i ≤ 64 := by omega
        clear hi2 hi3 hk
        by_cases h2 : (i : Int) < 64
        · have hi65 : i < 64 := by omega
          have c0 : wr.cell? ⟨g, i, none⟩ = some (.bool (m i).isSome) := ((HH.out.fr HX.out.1 fun h => h).cell i).trans (refCells_known m hi65)
          have c1 : wr.cell? ⟨g, 64 + i, none⟩ = some (.string ((m i).getD ByteArray.empty)) := ((HH.out.fr HX.out.1 fun h => h).cell _).trans (refCells_value m hi65)
          obtain ⟨o, ho⟩ : ∃ o, o = m i := ⟨_, rfl⟩
          rw [← ho] at c0 c1
          have HO := Lib.hid ho
          clear ho
          have hwr : IntKind.i64.wrap ((i : Int) + 1) = (i : Int) + 1 := IntWalk.i64_in _ (by omega)
          have hmi : m ((b : Int) + (k : Int)) = m i := by congr 1; have := HI2.out; omega
          have HMI := Lib.hid hmi
          clear hmi
          cases o with
          | none =>
            simp only [Option.isSome_none] at c0
            have HZ : Hid (R = (seqV m b).take k) := by
              show _ = _
              rw [HR.out]
              have := known_len HD.out HX.out.2.2.2 (HMI.out.trans HO.out.symm)
              rw [List.take_of_length_le (by have := HX.out.2.2.1; omega), List.take_of_length_le (by omega)]
            clear c1
            go_wp2_with fail
            go_ret
            refine ⟨_, rfl, ?_, HX.out.1⟩
            rw [HZ.out, known_take HD.out HX.out.2.2.2]
            exact HX.out.2.1
          | some u =>
            simp only [Option.isSome_some, Option.getD_some] at c0 c1
            by_cases h3 : (k : Int) < most
            · have HOV1 : Hid ((wr.alloc (.cells #[.string u] 9)).ownsRow w.heap.size 9 1 (.slice A k c) k (((seqV m b).take k).map evS)) := own_fr HX.out.2.1 ((Fr.refl NoBlk wr).alloc _) fun _ _ h => h
              have HSRC : Hid (Rd (wr.alloc (.cells #[.string u] 9)) (some ⟨wr.heap.size, 0, none⟩) [.string u]) := Rd.of_cells (Bk.new wr 9 #[.string u])
              have HNX : Hid (((seqV m b).take (k + 1)).map evS = ((seqV m b).take k).map evS ++ [.string u]) := by
                show _ = _
                rw [take_next (known_get HD.out HX.out.2.2.2 (HMI.out.trans HO.out.symm)), List.map_append]; rfl
              have HKK : Hid (∀ j : Nat, j < k + 1 → (m ((b : Int) + (j : Int))).isSome = true) := fun j hj => by
                rcases Nat.lt_succ_iff_lt_or_eq.1 hj with e | e
                · exact HX.out.2.2.2 j e
                · subst e; rw [HMI.out, ← HO.out]; rfl
              have HKI : Hid (k ≤ 64) := by show _ ≤ _; have := HI2.out; omega
              go_wp2_with (first | (at_builtin; go_loud (refine wpList_app rfl _ _ 37 rfl w.heap.size 9 i0 (Value.string { data := #[] }) 16 Try.underlying37 hi hz0 hz1 hz2 rfl (.slice A k c) k (((seqV m b).take k).map evS) rfl HOV1.out (some ⟨wr.heap.size, 0, none⟩) 1 1 [.string u] rfl rfl HSRC.out (by intro y hy; rw [List.mem_singleton] at hy; rw [hy]; rfl) (fun h => by cases h) (by unfold maxLen; have := HKI.out; omega) (by have := HKI.out; omega) (by have := HX.out.1.size; rw [World.size_alloc]; omega) ?_); intro v2 W2 ho2 hg2 hn2 hb2; obtain ⟨A2, c2, rfl, hc2, _⟩ := own_form ho2; have HO2 := Lib.hid ho2; have HF2 : Hid (Fr NoBlk w W2) := (HX.out.1.alloc _).grown hg2 (fun r e hl => by have := (HOV1.out.lt _ e).1; omega); clear ho2 hg2 hn2 hb2) | fail)
              go_roundw
              case rel => exact ⟨k + 1, A2, c2, by have := HI2.out; omega, hc2, rfl, by have := HI2.out; congr 1; omega, HF2.out, by rw [HNX.out]; exact HO2.out, by omega, HKK.out⟩
              case measure => simp [intOf]; omega
            · have HZ : Hid (R = (seqV m b).take k) := by
                show _ = _
                rw [HR.out]
                congr 1
                have := HX.out.2.2.1
                omega
              have h4 : most ≤ (k : Int) := by omega
              go_wp2_with fail
              go_ret
              refine ⟨_, rfl, ?_, HX.out.1⟩
              rw [HZ.out, known_take HD.out HX.out.2.2.2]
              exact HX.out.2.1
        · have e : i = 64 := by omega
          have HZ : Hid (R = (seqV m b).take k) := by
            show _ = _
            have hn : m ((b : Int) + (k : Int)) = none := by
              rcases hm : m ((b : Int) + (k : Int)) with _ | v
              · rfl
              · have := HD.out _ (by rw [hm]; exact fun e => by cases e)
                have := HI2.out
                omega
            have := known_len HD.out HX.out.2.2.2 hn
            rw [HR.out]
            rw [List.take_of_length_le (by have := HX.out.2.2.1; omega), List.take_of_length_le (by omega)]
          subst e
          clear hi64 h2
          go_wp2_with fail
          go_ret
          refine ⟨_, rfl, ?_, HX.out.1⟩
          rw [HZ.out, known_take HD.out HX.out.2.2.2]
          exact HX.out.2.1
end Go.Proofs.Ytpldfdeikcaenaa
