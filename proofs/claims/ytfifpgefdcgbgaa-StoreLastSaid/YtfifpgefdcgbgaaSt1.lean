/- Default, New. Conditions: a key of at most 10^9 bytes. -/
import Derived.Test.YtfifpgefdcgbgaaSb
import Derived.Test.YtfifpgefdcgbgaaN6R
namespace Go.Proofs.Ytfifpgefdcgbgaa
open Go.RowKit
def sumB (key : Bs) (k : Nat) : Nat := ((key.take k).map fun b => b.toNat).sum
theorem sumB_succ (key : Bs) {k : Nat} {x : UInt8} (h : key[k]? = some x) : sumB key (k + 1) = sumB key k + x.toNat := by
  unfold sumB
  rw [List.take_add_one, h]
  simp
theorem sumB_le (key : Bs) (k : Nat) : sumB key k ≤ k * 255 := by
  induction k with
  | zero => exact Nat.le_refl _
  | succ k ih =>
    rcases Nat.lt_or_ge k key.length with h | h
    · rw [sumB_succ key (List.getElem?_eq_getElem h)]
      have := key[k].toNat_lt
      omega
    · have e : sumB key (k + 1) = sumB key k := by unfold sumB; rw [List.take_of_length_le h, List.take_of_length_le (by omega)]
      omega
set_option maxRecDepth 100000 in
set_option maxHeartbeats 400000 in
theorem default_any (w : World) (key : Bs) (n : Int) (hk : key.length ≤ 1000000000) :
    Calls Try.prog 20 #[.string (bstr key), .int .i64 n] w fun e w' => e = .returned (.int .i64 (homeOf key n)) ∧ w = w' := by
  by_cases hn : n < 1
  · have HE : Hid (homeOf key n = 0) := if_pos hn
    clear hk
    go_enter Try.func20, Try.ntmps20
    go_wp2_with fail
    go_ret
    exact ⟨by rw [HE.out]; rfl, rfl⟩
  · have HE : Hid (homeOf key n = (sumB key key.length : Int) % n) := by show (if n < 1 then _ else _) = _; rw [if_neg hn, sumB, List.take_length]
    have HN : Hid (¬ n < 1) := hn
    have hs : (bstr key).size = key.length := by simp [bstr, ByteArray.size]
    obtain ⟨L, hL⟩ : ∃ L, L = key.length := ⟨_, rfl⟩
    rw [← hL] at hs
    have HL := Lib.hid hL
    have HK : Hid (L ≤ 1000000000) := by show _ ≤ _; rw [hL]; exact hk
    clear hk hL
    go_enter Try.func20, Try.ntmps20
    go_wp2_with fail
    go_loopw [5, 11] (fun s c wr => ∃ k : Nat, s = .int .i64 (sumB key k : Int) ∧ c = .int .i64 (k : Int) ∧ k ≤ L ∧ w = wr) (fun _ c _ => L - (intOf c).toNat)
    case atStart => exact ⟨0, rfl, rfl, Nat.zero_le _, rfl⟩
    case round =>
      obtain ⟨k, rfl, rfl, hk, rfl⟩ := hrel
      by_cases hlt : k < L
      · obtain ⟨x, hx⟩ : ∃ x, key[k]? = some x := ⟨_, List.getElem?_eq_getElem (by rw [← HL.out]; exact hlt)⟩
        have hb : ∀ h : k < (bstr key).size, (bstr key)[k]'h = x := fun h => by
          have h1 : (bstr key).data[k]? = some x := by
            show key.toArray[k]? = some x
            rw [List.getElem?_toArray]
            exact hx
          exact (Array.getElem?_eq_some_iff.1 h1).2
        have HB := Lib.hid hb
        have HW : Hid (wrap64 ((sumB key k : Int) + wrap64 (x.toNat : Int)) = ((sumB key (k + 1) : Nat) : Int)) := by
          have h1 := sumB_le key (k + 1)
          have h2 := HK.out
          have h3 := x.toNat_lt
          show _ = _
          rw [sumB_succ key hx] at h1 ⊢
          unfold wrap64
          omega
        clear hx hb
        have hw2 : IntKind.i64.wrap ((k : Int) + 1) = ((k + 1 : Nat) : Int) := by have := HK.out; rw [IntWalk.i64_in _ (by omega)]; omega
        go_wp2_with fail
        go_roundw
        case rel => exact ⟨k + 1, by rw [HB.out, HW.out], by go_num, by omega, trivial⟩
        case measure => simp [intOf]; omega
      · obtain rfl : k = L := by omega
        have HE2 : Hid ((sumB key k : Int) % n = homeOf key n) := by show _ = _; rw [HE.out, ← HL.out]
        have hn0 : (n == 0) = false := beq_eq_false_iff_ne.2 (by have := HN.out; omega)
        have hn0' : ¬ n = 0 := by have := HN.out; omega
        clear HE
        go_wp2_with fail
        go_ret
        refine ⟨?_, rfl⟩
        rw [← HE2.out]
        rfl
/-- New: of 1 to 3 regions a store without rows. -/
def NewPost (w : World) (n : Int) (e : Ending) (w' : World) : Prop :=
  (1 ≤ n ∧ n ≤ 3 ∧ ∃ g O, e = .returned (.tuple #[.pointer (some ⟨g, 0, none⟩), .int .i64 0]) ∧ Store w' g O n.toNat [] ∧ (∀ b, O b → w.heap.size ≤ b) ∧ Fr NoBlk w w') ∨
  (¬ (1 ≤ n ∧ n ≤ 3) ∧ e = .returned (.tuple #[.pointer none, .int .i64 1]) ∧ w = w')
set_option maxRecDepth 100000 in
theorem snew_any (w : World) (n : Int) : Calls Try.prog 12 #[.int .i64 n] w (NewPost w n) := by
  by_cases h1 : n < 1
  · have HN : Hid (¬ (1 ≤ n ∧ n ≤ 3)) := fun h => by omega
    go_enter Try.func12, Try.ntmps12
    go_wp2_with fail
    go_ret2
    exact .inr ⟨HN.out, rfl, rfl⟩
  · by_cases h2 : 3 < n
    · have HN : Hid (¬ (1 ≤ n ∧ n ≤ 3)) := fun h => by omega
      have h3 : ¬ n ≤ 3 := by omega
      go_enter Try.func12, Try.ntmps12
      go_wp2_with fail
      go_ret2
      exact .inr ⟨HN.out, rfl, rfl⟩
    · have HN : Hid (1 ≤ n ∧ n ≤ 3) := ⟨by omega, by omega⟩
      have h3 : n ≤ 3 := by omega
      go_enter Try.func12, Try.ntmps12
      go_wp2_with fail
      refine (newR_any w).mono ?_
      rintro e w1 ⟨gt, O, rfl, ht, hO, hf⟩
      have HT := Lib.hid ht
      have HO := Lib.hid hO
      have HF := Lib.hid hf
      clear ht hO hf
      go_wp2_with fail
      go_ret2
      refine .inl ⟨HN.out.1, HN.out.2, w1.heap.size, fun b => b = w1.heap.size ∨ O b, ?_, ⟨gt, O, [], ⟨?_, HT.out.nofr ((Fr.refl _ _).alloc _), fun z hz => (by cases hz), fun b => Iff.rfl, fun h => by have := HT.out.lt h; omega, by have := HN.out; omega, fun z hz => (by cases hz)⟩, rfl⟩, fun b hb => ?_, HF.out.alloc _⟩
      · rfl
      · have e : ((n.toNat : Nat) : Int) = n := by have := HN.out; omega
        rw [e]
        exact Bk.new _ _ _
      · rcases hb with rfl | hb
        · exact HF.out.size
        · exact HO.out b hb
end Go.Proofs.Ytfifpgefdcgbgaa
