/- A link's meet. Conditions: the link lies in blocks of its own. -/
import Derived.Test.YtchlafhmoncldaaPks
namespace Go.Proofs.Ytchlafhmoncldaa
open Go.RowKit Go.Maps Go.ChangeMaps Go.MapKept Go.WideShapes

/-- one of its numbers told anew. -/
theorem LkIn.put {O : Nat → Prop} {W : World} {g : Nat} {L L' : Lk} (h : LkIn O W g L) (i : Nat) (v : Value) (hu : (lka L).setIfInBounds i v = lka L') (hs : (L'.sa, L'.sc, L'.sent, L'.gm, L'.n, L'.early) = (L.sa, L.sc, L.sent, L.gm, L.n, L.early)) (hn : L'.epoch < 2 ^ 64 ∧ L'.peer < 2 ^ 64 ∧ L'.base < 2 ^ 64 ∧ L'.expects < 2 ^ 64) :
    LkIn O (W.setCell ⟨g, i, none⟩ v) g L' ∧ Fr (St O W) W (W.setCell ⟨g, i, none⟩ v) := by
  obtain ⟨e', p', b', x', sa', sc', sent', gm', n', early'⟩ := L'
  simp only [Prod.mk.injEq] at hs
  obtain ⟨rfl, rfl, rfl, rfl, rfl, rfl⟩ := hs
  have hf : Fr (fun k => k = g) W (W.setCell ⟨g, i, none⟩ v) := (Fr.refl (fun k => k = g) W).setCell (p := ⟨g, i, none⟩) (fun _ => rfl) v
  refine ⟨⟨hu ▸ h.bk.put i v, own_set h.own h.bk (by decide), h.map.fr hf (fun e => h.map.ne h.bk e.symm), fun p hp => ⟨own_set (h.parts p hp).1 h.bk (by decide), (h.parts p hp).2⟩, fun k p hp => ⟨own_set (h.eparts k p hp).1 h.bk (by decide), (h.eparts k p hp).2⟩, h.og, h.om, h.os, fun k hk => Nat.lt_of_lt_of_le (h.ol k hk) hf.size, hn, h.few⟩, hf.mono fun k _ e => by rw [e]; exact h.stg⟩

set_option maxRecDepth 100000 in
set_option maxHeartbeats 2000000 in
theorem meet_any (W : World) (O : Nat → Prop) (g : Nat) (L : Lk) (h : LkIn O W g L) (peer : Nat) (hp : peer < 2 ^ 64) :
    Calls Try.prog 26 #[.pointer (some ⟨g, 0, none⟩), .int .u64 (peer : Int)] W fun e W' => e = .returned (.tuple #[]) ∧ LkIn O W' g { L with peer := peer, expects := 1, base := 1, n := 0, early := fun _ => none } ∧ Fr (St O W) W W' := by
  obtain ⟨n1, n2, n3, n4⟩ := h.nums
  have h1 := h.put (L' := { L with peer := peer }) 1 (.int .u64 (peer : Int)) (by unfold lka; simp only [List.setIfInBounds_toArray, List.set_cons_zero, List.set_cons_succ]) rfl ⟨n1, hp, n3, n4⟩
  have h2 := h1.1.put (L' := { L with peer := peer, expects := 1 }) 4 (.int .u64 1) (by unfold lka; simp only [List.setIfInBounds_toArray, List.set_cons_zero, List.set_cons_succ]; rfl) rfl ⟨n1, hp, n3, by show (1 : Nat) < _; omega⟩
  have h3 := h2.1.put (L' := { L with peer := peer, expects := 1, base := 1 }) 2 (.int .u64 1) (by unfold lka; simp only [List.setIfInBounds_toArray, List.set_cons_zero, List.set_cons_succ]; rfl) rfl ⟨n1, hp, by show (1 : Nat) < _; omega, by show (1 : Nat) < _; omega⟩
  have q1 : W.cell? ⟨g, 1, none⟩ = some (.int .u64 (L.peer : Int)) := h.bk.cell 1
  have f1 := h.bk.free 1
  have q4 : (W.setCell ⟨g, 1, none⟩ (.int .u64 (peer : Int))).cell? ⟨g, 4, none⟩ = some (.int .u64 (L.expects : Int)) := h1.1.bk.cell 4
  have f4 := h1.1.bk.free 4
  have q2 : ((W.setCell ⟨g, 1, none⟩ (.int .u64 (peer : Int))).setCell ⟨g, 4, none⟩ (.int .u64 1)).cell? ⟨g, 2, none⟩ = some (.int .u64 (L.base : Int)) := h2.1.bk.cell 2
  have f2 := h2.1.bk.free 2
  obtain ⟨w3, hw3⟩ : ∃ w3, w3 = ((W.setCell ⟨g, 1, none⟩ (.int .u64 (peer : Int))).setCell ⟨g, 4, none⟩ (.int .u64 1)).setCell ⟨g, 2, none⟩ (.int .u64 1) := ⟨_, rfl⟩
  rw [← hw3] at h3
  have q5 : w3.cell? ⟨g, 5, none⟩ = some (.map (some L.gm)) := h3.1.bk.cell 5
  obtain ⟨w4, hclr, hm4, hf4⟩ := h3.1.map.clear_ Try.underlying68 0
  have HZ : Hid (LkIn O w4 g { L with peer := peer, expects := 1, base := 1, n := 0, early := fun _ => none } ∧ Fr (St O W) W w4) := by
    have hg : ¬ g = L.gm := fun e => h3.1.map.ne h3.1.bk e
    have hty : ∀ {e : TypeId} {size n : Nat} {v : Value} {xs : List Value}, w3.ownsRow 0 e size v n xs → w4.ownsRow 0 e size v n xs := fun ho => own_fr ho hf4 fun k hk e => by
      obtain ⟨es, cl, hh⟩ := h3.1.map.blk
      rcases ho.2 with ⟨e1, _⟩ | ⟨q, cap, cur, e1, _, h4, _⟩
      · rw [e1] at hk; cases hk
      · rw [e1] at hk
        have e2 : q = k := by simpa [Value.ownBlock] using hk
        rw [e2, e, hh] at h4
        cases h4
    refine ⟨⟨h3.1.bk.fr hf4 hg, hty h3.1.own, ?_, fun p hp => ⟨hty (h3.1.parts p hp).1, (h3.1.parts p hp).2⟩, (fun _ _ hp => by cases hp), h.og, h.om, h.os, fun k hk => Nat.lt_of_lt_of_le (h3.1.ol k hk) hf4.size, h3.1.nums, h.few⟩, ((h1.2.stT h2.2).stT (hw3 ▸ h3.2)).stT (hf4.mono fun k _ e => by rw [e]; exact h3.1.stm)⟩
    exact hm4
  have HW3 := Lib.hid hw3
  clear h h1 h2 h3 hm4 hf4 hw3 n1 n2 n3 n4
  go_enter Try.func26, Try.ntmps26
  go_upto_region 3 with fail
  rw [← HW3.out]
  clear HW3 q1 f1 q4 f4 q2 f2
  go_wp2_with fail
  go_end0
  exact ⟨rfl, HZ.out⟩
end Go.Proofs.Ytchlafhmoncldaa
