/- A link in the lives of the other side: what a packet brings, and what answers it. No condition but that few packets come. -/
import Derived.Test.YtchlafhmoncldaaSpk19
import Derived.Test.YtchlafhmoncldaaOpenK
namespace Go.Proofs.Ytchlafhmoncldaa
open Go.RowKit Go.Maps Go.ChangeMaps Go.MapKept Go.WideShapes

structure LiveIn (w W : World) (g ep pe k : Nat) : Prop where
  ex : ∃ O L, LkIn O W g L ∧ (L.epoch = ep ∧ L.peer = pe ∧ L.expects + L.n ≤ k + 1 ∧ 1 ≤ L.expects) ∧ ∀ k, O k → w.heap.size ≤ k
  fr : Fr NoBlk w W
theorem LiveIn.nofr {w W W' : World} {g ep pe k : Nat} (h : LiveIn w W g ep pe k) (hf : Fr NoBlk W W') : LiveIn w W' g ep pe k := by
  obtain ⟨⟨O, L, h1, h2, h3⟩, h4⟩ := h
  exact ⟨⟨O, L, h1.nofr hf, h2, h3⟩, h4.trans hf⟩
theorem LiveIn.peer {w W : World} {g ep pe k : Nat} (h : LiveIn w W g ep pe k) : Calls Try.prog 21 #[.pointer (some ⟨g, 0, none⟩)] W fun e W' => e = .returned (.int .u64 (pe : Int)) ∧ W = W' := by
  obtain ⟨⟨O, L, h1, h2, h3⟩, h4⟩ := h
  rw [← h2.2.1]
  exact peer_any W O g L h1
theorem came_num {L L' : Lk} {seq : Nat} {d : List UInt8} {ps : List Prt} (h : CameD L seq d ps L') : L'.epoch = L.epoch ∧ L'.peer = L.peer ∧ L'.expects + L'.n ≤ L.expects + L.n + 1 ∧ L.expects ≤ L'.expects := by
  unfold CameD at h
  split at h
  · obtain ⟨_, rfl⟩ := h
    exact ⟨rfl, rfl, by omega, Nat.le_refl _⟩
  · obtain ⟨p, n, E, _, _, rfl, hn, _⟩ := h
    refine ⟨rfl, rfl, ?_, Nat.le_add_right _ _⟩
    show L.expects + ps.length + n ≤ _
    omega
/-- what a packet brings, and what answers it, in numbers. -/
theorem rec_num {L L' : Lk} {P : Pk} {ps : List Prt} {xs : List Pk} (h : RecD L P ps xs L') (hx : 1 ≤ L.expects) :
    L'.epoch = L.epoch ∧ L'.peer = max L.peer P.ep ∧ L'.expects + L'.n ≤ L.expects + L.n + 1 ∧ (0 < ps.length → ¬ P.ep < L.peer ∧ P.pe = L.epoch ∧ P.ep ≠ 0) ∧ (xs = [] ∨ ∃ x, xs = [x] ∧ AnsD L' x) ∧ 1 ≤ L'.expects := by
  have hm : (metL L P.ep).epoch = L.epoch ∧ (metL L P.ep).peer = max L.peer P.ep ∧ (metL L P.ep).expects + (metL L P.ep).n ≤ L.expects + L.n ∧ 1 ≤ (metL L P.ep).expects := by
    unfold metL
    split
    · exact ⟨rfl, by show P.ep = _; omega, by show 1 + 0 ≤ _; omega, Nat.le_refl _⟩
    · exact ⟨rfl, by omega, Nat.le_refl _, hx⟩
  obtain ⟨s1, s2, s3, s4⟩ := acked_same (metL L P.ep) P.ak
  unfold RecD at h
  split at h
  · rename_i hc
    obtain ⟨rfl, rfl, rfl⟩ := h
    exact ⟨rfl, by omega, by omega, fun h => absurd h (by simp), .inl rfl, hx⟩
  · rename_i hc
    split at h
    · obtain ⟨rfl, hx1, rfl⟩ := h
      exact ⟨hm.1, hm.2.1, by omega, fun h => absurd h (by simp), .inr hx1, hm.2.2.2⟩
    · rename_i hp
      have hp' : P.pe = L.epoch := Decidable.not_not.1 hp
      split at h
      · obtain ⟨rfl, rfl, rfl⟩ := h
        exact ⟨by rw [s4]; exact hm.1, by rw [s3]; exact hm.2.1, by omega, fun h => absurd h (by simp), .inl rfl, by rw [s1]; exact hm.2.2.2⟩
      · obtain ⟨hx1, hc1⟩ := h
        obtain ⟨c1, c2, c3, c4⟩ := came_num hc1
        exact ⟨by rw [c1, s4]; exact hm.1, by rw [c2, s3]; exact hm.2.1, by omega, fun _ => ⟨fun e => hc (.inr e), hp', fun e => hc (.inl e)⟩, .inr hx1, by omega⟩
def LivePost (w : World) (g ep pe k : Nat) (P : Pk) (e : Ending) (W' : World) : Prop :=
  ∃ (A B : Option Addr) (n c m c' : Nat), e = .returned (.tuple #[.slice A n c, .slice B m c']) ∧ LiveIn w W' g ep (max pe P.ep) (k + 1) ∧ (0 < n → ¬ P.ep < pe ∧ P.pe = ep ∧ P.ep ≠ 0) ∧
    (m = 0 ∨ m = 1 ∧ ∃ b, B = some ⟨b, 0, none⟩ ∧ ∃ (ak c2 : Nat) (D : Option Addr), ∀ w', Fr NoBlk W' w' → w'.cell? ⟨b, 0, none⟩ = some (.int .u64 (ep : Int)) ∧ w'.cell? ⟨b, 1, none⟩ = some (.int .u64 ((max pe P.ep : Nat) : Int)) ∧ w'.cell? ⟨b, 2, none⟩ = some (.int .u64 0) ∧ w'.cell? ⟨b, 3, none⟩ = some (.int .u64 (ak : Int)) ∧ w'.cell? ⟨b, 4, none⟩ = some (.slice D 0 c2))
theorem LiveIn.recv {w Wa W : World} {g ep pe k : Nat} (h : LiveIn w Wa g ep pe k) (hfa : Fr NoBlk Wa W) {gb : Nat} {T : TypeId} {cs : Array Value} (hb : Bk W gb T cs) (hgb : Wa.heap.size ≤ gb) (hk : k ≤ 1000) (P : Pk) (hP : PkIn w P) (hl : P.d.2.2.length ≤ 1000000) :
    Calls Try.prog 14 #[.pointer (some ⟨g, 0, none⟩), .agg (pka P)] W fun e W' => LivePost w g ep pe k P e W' ∧ Bk W' gb T cs := by
  obtain ⟨⟨O, L, h1a, ⟨e1, e2, e3, e4⟩, h3⟩, h4a⟩ := h
  have h1 := h1a.nofr hfa
  have h4 := h4a.trans hfa
  refine (rec_any W O g L h1 P hP.ep hP.sq hP.ak (fun w' hf => hP.rd.nofr (h4.step hf fun j hj e => by have := h3 j e.1; omega)) hP.nil hl (by omega) (by omega)).mono ?_
  rintro e W' ⟨A, c, ps, B, c', xs, O', L', rfl, hr⟩
  obtain ⟨r1, r2, r3, r4, r5, r6⟩ := rec_num hr.data e4
  have hf : Fr NoBlk w W' := h4.step hr.fr fun j hj e => by have := h3 j e.1; omega
  have hx' : 1 ≤ L'.expects := r6
  have hbk : Bk W' gb T cs := hb.fr hr.fr fun e => by have := h1a.ol gb e.1; omega
  refine ⟨⟨A, B, ps.length, c, xs.length, c', rfl, ⟨⟨O', L', hr.lk, ⟨r1.trans e1, by rw [r2, e2], by omega, hx'⟩, fun j hj => (hr.blks.2 j hj).elim (h3 j) (fun h => Nat.le_trans h4.size h)⟩, hf⟩, by rw [← e1, ← e2]; exact r4, ?_⟩, hbk⟩
  rcases r5 with rfl | ⟨x, rfl, a1, a2, a3, a4, a5⟩
  · exact .inl rfl
  · obtain ⟨b, e, hc⟩ := hr.pks.first
    refine .inr ⟨rfl, b, e, x.ak, x.d.2.1, x.d.1, fun w' hf' => ?_⟩
    obtain ⟨b0, b1, b2, b3, b4⟩ := hc w' hf'
    rw [a1, r1, e1] at b0
    rw [a2, r2, e2] at b1
    rw [a3] at b2
    rw [a5] at b4
    exact ⟨b0, b1, b2, b3, b4⟩
end Go.Proofs.Ytchlafhmoncldaa
