/- A link and the document's link go together, call by call: by the data alone. No condition. -/
import Derived.Test.YtchlafhmoncldaaSf
namespace Go.Proofs.Ytchlafhmoncldaa
open Go.RowKit Go.Maps Go.ChangeMaps Go.MapKept Go.WideShapes

def SendD (L : Lk) (d : Bs) (rc : Int) (L' : Lk) : Prop := (16 ≤ L.sent.length ∧ rc = 2 ∧ L' = L) ∨ (L.sent.length < 16 ∧ rc = 0 ∧ ∃ A c p, (p : Prt).2.2 = d ∧ L' = { L with sa := A, sc := c, sent := L.sent ++ [p] })
def RSendD (R : Rk) (d : Bs) (rc : Int) (R' : Rk) : Prop := (16 ≤ R.outs.length ∧ rc = 2 ∧ R' = R) ∨ (R.outs.length < 16 ∧ rc = 0 ∧ ∃ A c p, (p : Prt).2.2 = d ∧ R' = { R with ao := A, co := c, outs := R.outs ++ [p] })
/-- what holds behind k calls. -/
structure PlI (k : Nat) (L : Lk) (R : Rk) : Prop where
  sd : SdR L (rv R)
  si : SdI k (rv R)
  sm : ∀ p ∈ L.sent, p.2.2.length ≤ 500
  n : L.n ≤ k
theorem PlI.len {k : Nat} {L : Lk} {R : Rk} (h : PlI k L R) : L.sent.length = R.outs.length := by
  have h1 := congrArg List.length h.sd.outs
  rw [List.length_map] at h1
  exact h1.trans (List.length_map ..)
theorem PlI.fits {k : Nat} {L : Lk} {R : Rk} (h : PlI k L R) (hk : k ≤ 1000) (he : R.ers.length < 1000 ∨ k ≤ 200) : L.expects < 2 ^ 62 ∧ L.n ≤ 1000000 ∧ R.ers.length < 1000 ∧ R.ex < 2 ^ 63 := by
  have h1 : R.ex + (R.ers.map fun x => (x.1, x.2.2.2)).length ≤ k + 1 := h.si.a
  rw [List.length_map] at h1
  have h2 : L.expects = R.ex := h.sd.ex
  have h3 := h.n
  refine ⟨by omega, by omega, by omega, by omega⟩
theorem PlI.send {k : Nat} {L L' : Lk} {R R' : Rk} {d : Bs} {rc rc' : Int} (h : PlI k L R) (hd : d.length ≤ 500) (a : SendD L d rc L') (b : RSendD R d rc' R') : rc = rc' ∧ PlI (k + 1) L' R' := by
  have hl := h.len
  rcases a with ⟨a1, rfl, rfl⟩ | ⟨a1, rfl, A, c, p, hp, rfl⟩ <;> rcases b with ⟨b1, rfl, rfl⟩ | ⟨b1, rfl, A', c', q, hq, rfl⟩
  · exact ⟨rfl, h.sd, h.si.succ, h.sm, Nat.le_succ_of_le h.n⟩
  · omega
  · omega
  · refine ⟨rfl, h.sd.sent (hp.trans hq.symm) A A' c c', ⟨Nat.le_succ_of_le h.si.a, ⟨h.si.b.1, ?_⟩, h.si.c, ?_⟩, fun x hx => ?_, Nat.le_succ_of_le h.n⟩
    · have := h.si.b.2
      show (rv R).ba ≤ _
      omega
    · show ((R.outs ++ [q]).map _).length ≤ 16
      rw [List.length_map, List.length_append, List.length_singleton]
      omega
    · rcases List.mem_append.1 hx with hx | hx
      · exact h.sm x hx
      · rw [List.mem_singleton.1 hx, hp]
        exact hd
theorem acked_sub (L : Lk) (a : Nat) : ∀ p ∈ (acked L a).sent, p ∈ L.sent := by
  unfold acked
  split
  · exact fun _ hp => hp
  · exact fun _ hp => List.mem_of_mem_drop hp
theorem met_sub (L : Lk) (e : Nat) : (∀ p ∈ (metL L e).sent, p ∈ L.sent) ∧ (metL L e).n ≤ L.n := by
  unfold metL
  split
  · exact ⟨fun _ hp => hp, Nat.zero_le _⟩
  · exact ⟨fun _ hp => hp, Nat.le_refl _⟩
theorem rec_sub {L L' : Lk} {P : Pk} {ps : List Prt} {xs : List Pk} (h : RecD L P ps xs L') : (∀ p ∈ L'.sent, p ∈ L.sent) ∧ L'.n ≤ L.n + 1 := by
  obtain ⟨m1, m2⟩ := met_sub L P.ep
  obtain ⟨_, k1, _, _⟩ := acked_same (metL L P.ep) P.ak
  unfold RecD at h
  split at h
  · obtain ⟨_, _, rfl⟩ := h
    exact ⟨fun _ hp => hp, Nat.le_succ _⟩
  · split at h
    · obtain ⟨_, _, rfl⟩ := h
      exact ⟨m1, by omega⟩
    · split at h
      · obtain ⟨_, _, rfl⟩ := h
        exact ⟨fun p hp => m1 p (acked_sub _ _ p hp), by omega⟩
      · obtain ⟨_, hc⟩ := h
        unfold CameD at hc
        split at hc
        · obtain ⟨_, rfl⟩ := hc
          exact ⟨fun p hp => m1 p (acked_sub _ _ p hp), by omega⟩
        · obtain ⟨_, n, E, _, _, rfl, hn, _⟩ := hc
          exact ⟨fun p hp => m1 p (acked_sub _ _ p hp), by show n ≤ _; omega⟩
theorem PlI.recv {k : Nat} {L L' : Lk} {R R' : Rk} {P : Pk} {ps : List Prt} {xs : List Pk} {ds : List Bs} {ys : List (Nat × Nat × Nat × Nat × Bs)} (h : PlI k L R) (hk : k ≤ 1000) (hak : P.ak < 2 ^ 64) (a : RecD L P ps xs L') (b : RecV (rv R) P ds ys (rv R')) : ps.map (·.2.2) = ds ∧ xs.map pkd = ys ∧ PlI (k + 1) L' R' := by
  obtain ⟨g1, g2⟩ := h.si.receive (by omega) b
  obtain ⟨q1, q2⟩ := rec_sub a
  have hb := h.si.b
  have ha := h.si.a
  obtain ⟨r1, r2, r3⟩ := h.sd.receive a b hb.1 (by omega) h.si.d hak (by omega)
  exact ⟨r1, r2, r3, g1, fun p hp => h.sm p (q1 p hp), by have := h.n; omega⟩
theorem PlI.pks {k : Nat} {L : Lk} {R : Rk} {xs ys : List Pk} (h : PlI k L R) (hx : PacketsAre L xs) (hy : PkSame R.ep R.pe R.ba R.ex (R.outs.map (·.2.2)) ys) : xs.map pkd = ys.map pkd :=
  h.sd.pks hx (fun e => h.sd.ex.trans (h.si.c (h.sd.pe.symm.trans e))) hy
theorem PlI.pe {k : Nat} {L : Lk} {R : Rk} (h : PlI k L R) : L.peer = R.pe := h.sd.pe
theorem PlI.new (ep gm : Nat) : PlI 0 ⟨ep, 0, 1, 1, none, 0, [], gm, 0, fun _ => none⟩ ⟨ep, 0, 1, 1, none, 0, [], none, 0, []⟩ :=
  ⟨SdR.fresh rfl ⟨rfl, rfl, rfl, rfl, fun _ => rfl⟩ ⟨rfl, rfl, rfl, rfl, rfl⟩, ⟨Nat.le_refl _, ⟨Nat.le_refl _, Nat.le_refl _⟩, fun _ => rfl, Nat.zero_le _⟩, (fun _ h => by cases h), Nat.le_refl _⟩
end Go.Proofs.Ytchlafhmoncldaa
