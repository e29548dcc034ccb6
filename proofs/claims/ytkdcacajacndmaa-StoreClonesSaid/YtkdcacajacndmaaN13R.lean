/- A child that lacks an item is filled, whichever neighbours it has. Conditions: as the tree's shape has them. -/
import Derived.Test.YtkdcacajacndmaaN12R

namespace Go.Proofs.Ytkdcacajacndmaa
open Go.RowKit
theorem PairR.ofL {w : World} {d : Nat} {h : Hd ItR} {a b : List (Tr ItR d)} {l k : Tr ItR d} (o : Tr.lack tkR w h (a ++ [l]) k b) (hn : h.xs.length ≤ 16) : PairR w h a l k b := by
  have e : a ++ [l] ++ [k] ++ b = a ++ [l, k] ++ b := by simp
  have ml := o.oth l (by simp)
  refine ⟨e ▸ o.lies, e ▸ o.sep, e ▸ o.len, fun q hq => o.oth q ?_, ml.1, o.kid.1, hn, ml.2.2, o.kid.2.2⟩
  rcases List.mem_append.1 hq with h | h
  · simp [h]
  · simp [h]
theorem PairR.ofR {w : World} {d : Nat} {h : Hd ItR} {a b : List (Tr ItR d)} {k r : Tr ItR d} (o : Tr.lack tkR w h a k (r :: b)) (hn : h.xs.length ≤ 16) : PairR w h a k r b := by
  have e : a ++ [k] ++ r :: b = a ++ [k, r] ++ b := by simp
  have mr := o.oth r (by simp)
  refine ⟨e ▸ o.lies, e ▸ o.sep, e ▸ o.len, fun q hq => o.oth q ?_, o.kid.1, mr.1, hn, o.kid.2.2, mr.2.2⟩
  rcases List.mem_append.1 hq with h | h
  · simp [h]
  · simp [h]
set_option maxRecDepth 100000 in
set_option maxHeartbeats 1000000 in
theorem fillR_any (w : World) {d : Nat} (h : Hd ItR) (a : List (Tr ItR d)) (k : Tr ItR d) (b : List (Tr ItR d)) (o : Tr.lack tkR w h a k b) (hn : h.xs.length ≤ 16) (hn1 : 1 ≤ h.xs.length) :
    Calls Try.prog 92 #[.pointer (some ⟨h.g, 0, none⟩), .int .i64 a.length] w (FillRPost w h (a ++ [k] ++ b) (8 ≤ k.n)) := by
  have HO := Lib.hid o
  have HN := Lib.hid (And.intro hn hn1)
  have hlen := o.len
  have mk : k ∈ a ++ [k] ++ b := by simp
  have kl := Tr.lies_hd (o.lies.2 k mk)
  obtain ⟨b1, b2, b3⟩ : h.lies tkR w ((a ++ [k] ++ b).map Tr.g) := o.lies.1
  obtain ⟨k1, k2, k3⟩ := kl
  unfold tkR at b1 b2 b3 k1 k2 k3
  dsimp only at b1 b2 b3 k1 k2 k3
  obtain ⟨n, hnn⟩ : ∃ n, n = h.xs.length := ⟨_, rfl⟩
  obtain ⟨np, hnp⟩ : ∃ np, np = ((a ++ [k] ++ b).map Tr.g).length := ⟨_, rfl⟩
  obtain ⟨kn, hkn⟩ : ∃ kn, kn = k.hd.xs.length := ⟨_, rfl⟩
  rw [← hnn] at b1 b2
  rw [← hnp] at b1 b3
  rw [← hkn] at k1 k2
  have hnp1 : np = n + 1 := by rw [hnp, List.length_map, hlen, hnn]
  have hk7 : 7 ≤ kn ∧ kn ≤ 16 := by rw [hkn]; exact o.kid.2
  obtain ⟨hA, hA'⟩ : ∃ A, A = h.A := ⟨_, rfl⟩
  obtain ⟨hB, hB'⟩ : ∃ B, B = h.B := ⟨_, rfl⟩
  obtain ⟨hg, hg'⟩ : ∃ g, g = h.g := ⟨_, rfl⟩
  rw [← hA'] at b1 b2
  rw [← hB'] at b1 b3
  rw [← hg'] at b1 ⊢
  obtain ⟨pb, rfl⟩ := b3.addr (by omega)
  have hlen2 := hlen
  simp only [List.length_append, List.length_singleton] at hlen2
  have e3 : (a ++ [k] ++ b).map Tr.g = a.map Tr.g ++ k.g :: b.map Tr.g := map_mid _ _ _ _
  have hag : (a.map Tr.g).length = a.length := List.length_map _
  have c0 : w.cell? ⟨hg, 0, none⟩ = some (.slice hA n h.c) := b1.cell 0
  have c1 : w.cell? ⟨hg, 1, none⟩ = some (.slice (some ⟨pb, 0, none⟩) np h.e) := b1.cell 1
  have pk : w.cell? ⟨pb, a.length, none⟩ = some (.pointer (some ⟨k.g, 0, none⟩)) := b3.cellP (by rw [e3, ← hag, List.getElem?_append_right (Nat.le_refl _), Nat.sub_self]; rfl)
  have kc0 : w.cell? ⟨k.g, 0, none⟩ = some (.slice k.hd.A kn k.hd.c) := k1.cell 0
  obtain ⟨kg, hkg⟩ : ∃ g, g = k.g := ⟨_, rfl⟩
  rw [← hkg] at pk kc0
  have hk8 : 8 ≤ kn → Hid (8 ≤ k.n) := fun h => by show 8 ≤ k.hd.xs.length; omega
  have hk9 : ¬ 8 ≤ kn → Hid (k.n = 7) := fun h => by show k.hd.xs.length = 7; omega
  have HB3 := Lib.hid b3
  by_cases h8 : 8 ≤ kn
  · have hge : (8 : Int) ≤ (kn : Int) := by omega
    have HK8 := hk8 h8
    obtain ⟨i, hi⟩ : ∃ i, i = a.length := ⟨_, rfl⟩
    have hinp : i < np := by omega
    rw [← hi] at pk ⊢
    have HHG := Lib.hid hg'
    clear b1 b2 b3 k1 k2 k3 hk8 hk9 hlen hlen2 e3 hag hkn hnp hnn hA' hB' hg' hkg hi mk hnp1
    go_enter Try.func92, Try.ntmps92
    go_wp2_with fail
    go_end0
    exact ⟨⟨_, rfl⟩, h, a ++ [k] ++ b, HO.out.full HK8.out, rfl, rfl, Nat.le_refl _, Nat.le_succ _, ⟨Fr.refl _ _, fun b hb => .inl hb⟩, fun _ => rfl⟩
  · have hge : ¬ (8 : Int) ≤ (kn : Int) := by omega
    have HK7 := hk9 h8
    rcases Nat.eq_zero_or_pos a.length with ha0 | ha0
    · obtain rfl : a = [] := List.eq_nil_of_length_eq_zero ha0
      cases b with
      | nil => simp only [List.length_nil] at hlen2; omega
      | cons r b =>
        have mr : r ∈ [] ++ [k] ++ r :: b := by simp
        obtain ⟨r1, _, _⟩ := Tr.lies_hd (o.lies.2 r mr)
        unfold tkR at r1
        dsimp only at r1
        obtain ⟨rn, hrn⟩ : ∃ rn, rn = r.hd.xs.length := ⟨_, rfl⟩
        rw [← hrn] at r1
        have rc0 : w.cell? ⟨r.g, 0, none⟩ = some (.slice r.hd.A rn r.hd.c) := r1.cell 0
        have pr : w.cell? ⟨pb, 1, none⟩ = some (.pointer (some ⟨r.g, 0, none⟩)) := b3.cellP (by rw [e3]; rfl)
        have hr8 : 8 ≤ rn := by rw [hrn]; exact (o.oth r (by simp)).2.1
        have hr7 : Hid (k.n = 7) := HK7
        obtain ⟨rg, hrg⟩ : ∃ g, g = r.g := ⟨_, rfl⟩
        rw [← hrg] at rc0 pr
        have HHG := Lib.hid hg'
        have h0n : (0 : Int) < (n : Int) := by omega
        have h1np : 1 < np := by omega
        have h0np : 0 < np := by omega
        have h1np' : (1 : Int) < (np : Int) := by omega
        have h0np' : (0 : Int) < (np : Int) := by omega
        show Calls _ _ #[_, .int .i64 0] _ _
        replace pk : w.cell? ⟨pb, 0, none⟩ = some (.pointer (some ⟨kg, 0, none⟩)) := pk
        by_cases h9 : 9 ≤ rn
        · have hgt : (8 : Int) < (rn : Int) := by omega
          have HL : Hid (Calls Try.prog 99 #[.pointer (some ⟨hg, 0, none⟩), .int .i64 0] w (FillRPost w h ([] ++ [k] ++ r :: b) (8 ≤ k.n))) := by
            have h1 := fillLR_any (PairR.ofR o hn) (by show 9 ≤ r.hd.xs.length; omega) (by rw [HK7.out]; exact Nat.le_refl _) (by rw [HK7.out]; omega)
            rw [hg', show ([] : List (Tr ItR d)) ++ [k] ++ r :: b = [] ++ [k, r] ++ b by simp]
            exact h1.mono fun e w' h => h.imp fun h8 => absurd h8 (by rw [HK7.out]; decide)
          clear b1 b2 b3 k1 k2 k3 hk8 hk9 hlen hlen2 e3 hag hkn hnp hnn hA' hB' hg' hkg mk hnp1 r1 hrn hrg mr hr7 ha0
          go_enter Try.func92, Try.ntmps92
          go_wp2_with fail
          refine HL.out.mono ?_
          rintro e w2 ⟨⟨v, rfl⟩, hq⟩
          have HQ := Lib.hid hq
          clear hq
          go_wp2_with fail
          go_end0
          exact ⟨⟨_, rfl⟩, HQ.out⟩
        · have hgt : ¬ (8 : Int) < (rn : Int) := by omega
          have HJ : Hid (Calls Try.prog 100 #[.pointer (some ⟨hg, 0, none⟩), .int .i64 0] w (FillRPost w h ([] ++ [k] ++ r :: b) (8 ≤ k.n))) := by
            have h1 := fillJR_any (PairR.ofR o hn) (by rw [HK7.out]; show 7 + r.hd.xs.length = 15; omega)
            rw [hg', show ([] : List (Tr ItR d)) ++ [k] ++ r :: b = [] ++ [k, r] ++ b by simp]
            exact h1.mono fun e w' h => h.imp fun h8 => absurd h8 (by rw [HK7.out]; decide)
          clear b1 b2 b3 k1 k2 k3 hk8 hk9 hlen hlen2 e3 hag hkn hnp hnn hA' hB' hg' hkg mk hnp1 r1 hrn hrg mr hr7 ha0
          go_enter Try.func92, Try.ntmps92
          go_wp2_with fail
          refine HJ.out.mono ?_
          rintro e w2 ⟨⟨v, rfl⟩, hq⟩
          have HQ := Lib.hid hq
          clear hq
          go_wp2_with fail
          go_end0
          exact ⟨⟨_, rfl⟩, HQ.out⟩
    · obtain ⟨a', l, rfl⟩ := last_of ha0
      obtain ⟨j, hj⟩ : ∃ j, j = a'.length := ⟨_, rfl⟩
      have hcast : (((a' ++ [l]).length : Nat) : Int) = (j : Int) + 1 := by rw [List.length_append, hj]; rfl
      have hal : (a' ++ [l]).length = j + 1 := by rw [List.length_append, hj]; rfl
      have ml : l ∈ a' ++ [l] ++ [k] ++ b := by simp
      obtain ⟨l1, _, _⟩ := Tr.lies_hd (o.lies.2 l ml)
      unfold tkR at l1
      dsimp only at l1
      obtain ⟨ln, hln⟩ : ∃ ln, ln = l.hd.xs.length := ⟨_, rfl⟩
      rw [← hln] at l1
      have lc0 : w.cell? ⟨l.g, 0, none⟩ = some (.slice l.hd.A ln l.hd.c) := l1.cell 0
      have e4 : (a' ++ [l]).map Tr.g ++ k.g :: b.map Tr.g = a'.map Tr.g ++ (l.g :: k.g :: b.map Tr.g) := by simp
      have haj : (a'.map Tr.g).length = j := by rw [List.length_map, hj]
      have pl : w.cell? ⟨pb, j, none⟩ = some (.pointer (some ⟨l.g, 0, none⟩)) := b3.cellP (by rw [e3, e4, ← haj, List.getElem?_append_right (Nat.le_refl _), Nat.sub_self]; rfl)
      have hl8 : 8 ≤ ln := by rw [hln]; exact (o.oth l (by simp)).2.1
      obtain ⟨lg, hlg⟩ : ∃ g, g = l.g := ⟨_, rfl⟩
      rw [← hlg] at lc0 pl
      rw [hal] at pk hlen2
      rw [hcast]
      have hwj : IntKind.i64.wrap (j : Int) = (j : Int) := IntWalk.i64_in _ (by omega)
      have hwj2 : IntKind.i64.wrap ((j : Int) + 2) = (j : Int) + 2 := IntWalk.i64_in _ (by omega)
      have hwj3 : IntKind.i64.wrap ((j : Int) + 1 + 1) = (j : Int) + 2 := by rw [IntWalk.i64_in _ (by omega)]; omega
      have hjn : j < np := by omega
      have hjn1 : j + 1 < np := by omega
      have hjn' : (j : Int) < (np : Int) := by omega
      have hjn1' : (j : Int) + 1 < (np : Int) := by omega
      have hjp : (0 : Int) < (j : Int) + 1 := by omega
      have hjt : ((j : Int) + 1).toNat = j + 1 := by omega
      have hjt2 : ((j : Int) + 2).toNat = j + 2 := by omega
      have HHG := Lib.hid hg'
      by_cases h9 : 9 ≤ ln
      · have hgt : (8 : Int) < (ln : Int) := by omega
        have HR : Hid (Calls Try.prog 98 #[.pointer (some ⟨hg, 0, none⟩), .int .i64 (j : Int)] w (FillRPost w h (a' ++ [l] ++ [k] ++ b) (8 ≤ k.n))) := by
          have h1 := fillRR_any (PairR.ofL o hn) (by show 9 ≤ l.hd.xs.length; omega) (by rw [HK7.out]; exact Nat.le_refl _) (by rw [HK7.out]; omega)
          rw [hg', pair_mid, hj]
          exact h1.mono fun e w' h => h.imp fun h8 => absurd h8 (by rw [HK7.out]; decide)
        clear b1 b2 b3 k1 k2 k3 hk8 hk9 hlen hlen2 e3 hag hkn hnp hnn hA' hB' hg' hkg mk hnp1 l1 hln hlg ml ha0 e4 haj hal hcast hj
        go_enter Try.func92, Try.ntmps92
        go_wp2_with fail
        refine HR.out.mono ?_
        rintro e w2 ⟨⟨v, rfl⟩, hq⟩
        have HQ := Lib.hid hq
        clear hq
        go_wp2_with fail
        go_end0
        exact ⟨⟨_, rfl⟩, HQ.out⟩
      · have hgt : ¬ (8 : Int) < (ln : Int) := by omega
        have HJ : Hid (Calls Try.prog 100 #[.pointer (some ⟨hg, 0, none⟩), .int .i64 (j : Int)] w (FillRPost w h (a' ++ [l] ++ [k] ++ b) (8 ≤ k.n))) := by
          have h1 := fillJR_any (PairR.ofL o hn) (by rw [HK7.out]; show l.hd.xs.length + 7 = 15; omega)
          rw [hg', pair_mid, hj]
          exact h1.mono fun e w' h => h.imp fun h8 => absurd h8 (by rw [HK7.out]; decide)
        cases b with
        | nil =>
          have hnj : ¬ (j : Int) + 1 < (n : Int) := by simp only [List.length_nil] at hlen2; omega
          clear b1 b2 b3 k1 k2 k3 hk8 hk9 hlen hlen2 e3 hag hkn hnp hnn hA' hB' hg' hkg mk hnp1 l1 hln hlg ml ha0 e4 haj hal hcast hj
          go_enter Try.func92, Try.ntmps92
          go_wp2_with fail
          refine HJ.out.mono ?_
          rintro e w2 ⟨⟨v, rfl⟩, hq⟩
          have HQ := Lib.hid hq
          clear hq
          go_wp2_with fail
          go_end0
          exact ⟨⟨_, rfl⟩, HQ.out⟩
        | cons r b =>
          have hnj : (j : Int) + 1 < (n : Int) := by simp only [List.length_cons] at hlen2; omega
          have hj2 : j + 2 < np := by simp only [List.length_cons] at hlen2; omega
          have hj2' : (j : Int) + 2 < (np : Int) := by omega
          have mr : r ∈ a' ++ [l] ++ [k] ++ r :: b := by simp
          obtain ⟨r1, _, _⟩ := Tr.lies_hd (o.lies.2 r mr)
          unfold tkR at r1
          dsimp only at r1
          obtain ⟨rn, hrn⟩ : ∃ rn, rn = r.hd.xs.length := ⟨_, rfl⟩
          rw [← hrn] at r1
          have rc0 : w.cell? ⟨r.g, 0, none⟩ = some (.slice r.hd.A rn r.hd.c) := r1.cell 0
          have pr : w.cell? ⟨pb, j + 2, none⟩ = some (.pointer (some ⟨r.g, 0, none⟩)) := b3.cellP (by rw [e3]; rw [e4, ← haj, List.getElem?_append_right (by omega), Nat.add_sub_cancel_left]; rfl)
          have hr8 : 8 ≤ rn := by rw [hrn]; exact (o.oth r (by simp)).2.1
          have hr7 : Hid (k.n = 7) := HK7
          obtain ⟨rg, hrg⟩ : ∃ g, g = r.g := ⟨_, rfl⟩
          rw [← hrg] at rc0 pr
          by_cases h9r : 9 ≤ rn
          · have hgtr : (8 : Int) < (rn : Int) := by omega
            have HL : Hid (Calls Try.prog 99 #[.pointer (some ⟨hg, 0, none⟩), .int .i64 ((j : Int) + 1)] w (FillRPost w h (a' ++ [l] ++ [k] ++ r :: b) (8 ≤ k.n))) := by
              have h1 := fillLR_any (PairR.ofR o hn) (by show 9 ≤ r.hd.xs.length; omega) (by rw [HK7.out]; exact Nat.le_refl _) (by rw [HK7.out]; omega)
              rw [hg', show a' ++ [l] ++ [k] ++ r :: b = a' ++ [l] ++ [k, r] ++ b by simp, ← hcast]
              exact h1.mono fun e w' h => h.imp fun h8 => absurd h8 (by rw [HK7.out]; decide)
            clear b1 b2 b3 k1 k2 k3 hk8 hk9 hlen hlen2 e3 hag hkn hnp hnn hA' hB' hg' hkg mk hnp1 l1 hln hlg ml ha0 e4 haj hal hcast hj r1 hrn hrg mr hr7 HJ
            go_enter Try.func92, Try.ntmps92
            go_wp2_with fail
            refine HL.out.mono ?_
            rintro e w2 ⟨⟨v, rfl⟩, hq⟩
            have HQ := Lib.hid hq
            clear hq
            go_wp2_with fail
            go_end0
            exact ⟨⟨_, rfl⟩, HQ.out⟩
          · have hgtr : ¬ (8 : Int) < (rn : Int) := by omega
            clear b1 b2 b3 k1 k2 k3 hk8 hk9 hlen hlen2 e3 hag hkn hnp hnn hA' hB' hg' hkg mk hnp1 l1 hln hlg ml ha0 e4 haj hal hcast hj r1 hrn hrg mr hr7
            go_enter Try.func92, Try.ntmps92
            go_wp2_with fail
            refine HJ.out.mono ?_
            rintro e w2 ⟨⟨v, rfl⟩, hq⟩
            have HQ := Lib.hid hq
            clear hq
            go_wp2_with fail
            go_end0
            exact ⟨⟨_, rfl⟩, HQ.out⟩
end Go.Proofs.Ytkdcacajacndmaa
