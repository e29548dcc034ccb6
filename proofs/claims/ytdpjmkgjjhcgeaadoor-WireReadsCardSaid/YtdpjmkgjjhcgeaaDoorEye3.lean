/- The contract of the eye's Text, and of spoil. Conditions: the eye's bytes are kept, lengths are short. -/
import Derived.Test.YtdpjmkgjjhcgeaaDoorEye2
namespace Go.Proofs.YtdpjmkgjjhcgeaaDoor
open Go.RowKit

/-- what the document says of the text with which bytes begin: the text, how many bytes were read, the error's number. -/
def rdText (l : List UInt8) : List UInt8 × Nat × Nat :=
  if (rdNum l).2.2 = 0 then
    (if l.length - (rdNum l).2.1 < (rdNum l).1 then ([], 0, 30) else ((l.drop (rdNum l).2.1).take (rdNum l).1, (rdNum l).2.1 + (rdNum l).1, 0))
  else ([], 0, (rdNum l).2.2)

theorem numGo_lt (t : List UInt8) : ∀ k n, k ≤ 9 → n < 128 ^ k → (numGo k n t).1 < 2 ^ 64 := by
  induction t with
  | nil => intro k n _ _; simp [numGo]
  | cons b t ih =>
    intro k n hk hn
    rw [numGo]
    have hb := b.toNat_lt
    split
    · simp
    · rename_i h9
      split
      · have hk8 : k + 1 ≤ 9 := by
          by_cases h : k = 9
          · subst h; omega
          · omega
        refine ih _ _ hk8 ?_
        rw [Nat.pow_succ]
        have h2 : b.toNat % 128 * 128 ^ k ≤ 127 * 128 ^ k := Nat.mul_le_mul_right _ (by omega)
        omega
      · split
        · simp
        · simp only
          by_cases h : k = 9
          · subst h
            have h2 : b.toNat % 128 * 128 ^ 9 ≤ 1 * 128 ^ 9 := Nat.mul_le_mul_right _ (by omega)
            omega
          · have h8 : (128 : Nat) ^ k ≤ 128 ^ 8 := Nat.pow_le_pow_right (by omega) (by omega)
            have h2 : b.toNat % 128 * 128 ^ k ≤ 127 * 128 ^ 8 := Nat.mul_le_mul (by omega) h8
            omega
theorem rdNum_lt (l : List UInt8) : (rdNum l).1 < 2 ^ 64 := numGo_lt l 0 0 (by omega) (by decide)

def TextPost (w : World) (g : Nat) (A : Option Addr) (l : List UInt8) (e : Ending) (w' : World) : Prop :=
  ∃ v' A' c', e = .returned (.tuple #[v', .int .i64 ((rdText l).2.2 : Int)]) ∧
      w'.ownsRow w.heap.size 5 1 v' (rdText l).1.length (cb (rdText l).1) ∧ Eyed w w' g A A' c' (l.drop (rdText l).2.1)

theorem TextPost.done {w w2 w3 : World} {g : Nat} {A A' : Option Addr} {c' : Nat} {l t : List UInt8} {n : Nat} {v' : Value} (hr : rdText l = (t, n, 0)) (hz : Eyed w w2 g A A' c' (l.drop n)) (hn : New w2 w3 v' t) (hsz : w2.heap.size = w.heap.size) :
    TextPost w g A l (.returned (.tuple #[v', .int .i64 0])) w3 :=
  ⟨v', A', c', by rw [hr]; rfl, by rw [hr, ← hsz]; exact hn.own, by
    rw [hr]
    exact ⟨hz.eye.keep hn.fr (fun h => h) (fun _ _ h => h), hz.fr.step hn.fr (fun _ _ h => h.elim), hz.row⟩⟩
theorem TextPost.fail {w : World} {g : Nat} {A : Option Addr} {c : Nat} {l : List UInt8} {k : Nat} (hr : rdText l = ([], 0, k)) (he : Eye w g A c l) :
    TextPost w g A l (.returned (.tuple #[.slice none 0 0, .int .i64 k])) w :=
  ⟨_, A, c, by rw [hr], by rw [hr]; exact World.ownsRow_nil _ _ _ _, by rw [hr]; exact Eyed.same he⟩

set_option maxRecDepth 100000 in
set_option maxHeartbeats 400000 in
theorem eyeText_any (w : World) (g : Nat) (A : Option Addr) (c : Nat) (l : List UInt8) (he : Eye w g A c l) (hl : l.length ≤ 1000000000) :
    Calls Tryd.prog 42 #[.pointer (some ⟨g, 0, none⟩)] w (TextPost w g A l) := by
  have hc := he.bk.cell 0
  have hf := he.bk.free 0
  simp only [List.getElem?_toArray, List.getElem?_cons_zero] at hc
  have HE := Lib.hid he
  have HL := Lib.hid hl
  have hs := rdNum_size l
  have hcap := he.cap
  have hlt := rdNum_lt l
  clear he
  go_enter Tryd.func42, Tryd.ntmps42
  go_wp2_with fail
  refine (number_any w A _ c l rfl HE.out.rd HL.out).mono ?_
  rintro e w1 ⟨rfl, rfl⟩
  obtain ⟨m, s, k, hx⟩ : ∃ m s k, rdNum l = (m, s, k) := ⟨_, _, _, rfl⟩
  rw [hx] at hs hlt ⊢
  have HM := Lib.hid hlt
  clear hlt
  have HT : Hid (rdText l = if k = 0 then (if l.length - s < m then ([], 0, 30) else ((l.drop s).take m, s + m, 0)) else ([], 0, k)) := by
    unfold Hid rdText; rw [hx]
  clear hx
  simp only at hs ⊢
  by_cases hk : k = 0
  · subst hk
    by_cases hlen : l.length - s < m
    · have HR := Lib.hid (HT.out.trans (by rw [if_pos rfl, if_pos hlen]))
      clear HT
      by_cases h : c = s
      · have h0 : l.length - s = 0 := by omega
        go_wp2_with fail
        go_ret2
        exact TextPost.fail HR.out HE.out
      · go_wp2_with fail
        go_ret2
        exact TextPost.fail HR.out HE.out
    · have HR := Lib.hid (HT.out.trans (by rw [if_pos rfl, if_neg hlen]))
      clear HT
      by_cases h : c = s
      · have h0 : l.length - s = 0 := by omega
        have hm0 : m = 0 := by omega
        subst hm0
        have hz := Eyed.cut_full HE.out hs h
        rw [h0] at hz
        have HZ := Lib.hid hz
        clear hz
        go_wp2_with fail
        refine (clone_any _ A 0 0 [] rfl (Rd.none_ _ _) (fun _ => rfl) (by simp)).mono ?_
        rintro e w3 ⟨v3, rfl, hn3⟩
        have HN := Lib.hid hn3
        clear hn3
        go_wp2_with fail
        go_ret2
        exact TextPost.done (by rw [HR.out]; rfl) HZ.out HN.out (by simp [World.setCell])
      · have hr1 := HE.out.rd.cut (k := s) (cap := c) (by rw [cb_length]; exact hs) (by rw [cb_length]; exact hcap)
        rw [if_neg h, ← cb_drop] at hr1
        have HR1 := Lib.hid hr1
        have HA1 : Hid (Option.map (fun x : Addr => x.add s) A = none → c - s = 0) := by
          intro hn
          cases A with
          | none => have := HE.out.nil rfl; omega
          | some a => cases hn
        have HB1 : Hid (∀ k, ablk (Option.map (fun x : Addr => x.add s) A) k → ablk A k) := fun k hk => ablk_cut (c := c) (s := s) (by rw [if_neg h]; exact hk)
        clear hr1
        have hcomp : Option.map ((fun x : Addr => x) ∘ fun x : Addr => x.add s) A = Option.map (fun x => x.add s) A := rfl
        by_cases h2 : c - s = m
        · have HZ : Hid (Eyed w (w.setCell ⟨g, 0, none⟩ (.slice (Option.map (fun x => x.add s) A) (l.length - s - m) 0)) g A (Option.map (fun x => x.add s) A) 0 (l.drop (s + m))) := by
            have h0 : l.drop (s + m) = [] := List.drop_eq_nil_of_le (by omega)
            refine Eyed.put HE.out (by rw [h0]; exact Rd.none_ _ _) (fun _ => rfl) (by rw [h0]; simp) HB1.out _ (by rw [List.length_drop]; omega)
          have HK := Lib.hid (clone_any (w.setCell ⟨g, 0, none⟩ (.slice (Option.map (fun x => x.add s) A) (l.length - s - m) 0)) (Option.map (fun x => x.add s) A) m m ((l.drop s).take m) (by rw [List.length_take, List.length_drop]; omega)
            (by rw [cb_take]; exact (HR1.out.fr (C := fun k => k = g) ((Fr.refl (fun k => k = g) w).setCell (p := ⟨g, 0, none⟩) (fun _ => rfl) _) (fun k hk => HE.out.sep k (HB1.out k hk))).take m)
            (fun h => by have := HA1.out h; omega) (by rw [List.length_take, List.length_drop]; have := HL.out; omega))
          go_wp2_with fail
          refine HK.out.mono ?_
          rintro e w3 ⟨v3, rfl, hn3⟩
          have HN := Lib.hid hn3
          clear hn3
          go_wp2_with fail
          go_ret2
          exact TextPost.done HR.out HZ.out HN.out (by simp [World.setCell])
        · have HZ : Hid (Eyed w (w.setCell ⟨g, 0, none⟩ (.slice (Option.map ((fun x => x.add m) ∘ fun x => x.add s) A) (l.length - s - m) (c - s - m))) g A (Option.map ((fun x => x.add m) ∘ fun x => x.add s) A) (c - s - m) (l.drop (s + m))) := by
            have hr2 := HR1.out.cut (k := m) (cap := c - s) (by rw [cb_length, List.length_drop]; omega) (by rw [cb_length, List.length_drop]; omega)
            rw [if_neg h2, ← cb_drop, List.drop_drop, Option.map_map] at hr2
            refine Eyed.put HE.out hr2 ?_ (by rw [List.length_drop]; omega) ?_ _ (by rw [List.length_drop]; omega)
            · intro hn
              cases A with
              | none => have := HE.out.nil rfl; omega
              | some a => cases hn
            · intro k hk
              rw [← Option.map_map] at hk
              exact HB1.out k (ablk_cut (c := c - s) (s := m) (by rw [if_neg h2]; exact hk))
          have HK := Lib.hid (clone_any (w.setCell ⟨g, 0, none⟩ (.slice (Option.map ((fun x => x.add m) ∘ fun x => x.add s) A) (l.length - s - m) (c - s - m))) (Option.map (fun x => x.add s) A) m (c - s) ((l.drop s).take m) (by rw [List.length_take, List.length_drop]; omega)
            (by rw [cb_take]; exact (HR1.out.fr (C := fun k => k = g) ((Fr.refl (fun k => k = g) w).setCell (p := ⟨g, 0, none⟩) (fun _ => rfl) _) (fun k hk => HE.out.sep k (HB1.out k hk))).take m)
            HA1.out (by rw [List.length_take, List.length_drop]; have := HL.out; omega))
          go_wp2_with fail
          refine HK.out.mono ?_
          rintro e w3 ⟨v3, rfl, hn3⟩
          have HN := Lib.hid hn3
          clear hn3
          go_wp2_with fail
          go_ret2
          exact TextPost.done HR.out HZ.out HN.out (by simp [World.setCell])
  · have f1 : ((k : Int) == 0) = false := beq_eq_false_iff_ne.2 (by omega)
    have f2 : ((k : Int) != 0) = true := by rw [bne, f1]; rfl
    have HR := Lib.hid (HT.out.trans (by rw [if_neg hk]))
    clear hk HT
    go_wp2_with fail
    go_ret2
    exact TextPost.fail HR.out HE.out
end Go.Proofs.YtdpjmkgjjhcgeaaDoor
