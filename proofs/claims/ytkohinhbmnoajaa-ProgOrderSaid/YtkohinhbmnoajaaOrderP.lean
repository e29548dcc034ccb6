/- What a transaction is when its operations stand in the opposite order: pure facts and the loop's state. No condition. -/
import Derived.Test.YtkohinhbmnoajaaCopyA
import Derived.Test.YtkohinhbmnoajaaWiderP
import Derived.Test.YtkohinhbmnoajaaAlike
namespace Go.Proofs.Ytkohinhbmnoajaa
open Go.RowKit

theorem opsc_set (os : List Opn) (k : Nat) (x : Opn) (hk : k < os.length) :
    opsc (os.set k x) = ((((opsc os).set (k * 4) (.int .i64 x.kind)).set (k * 4 + 1) (st x.key)).set (k * 4 + 2) (sl x.val)).set (k * 4 + 3) (.int .i64 x.n) := by
  induction os generalizing k with
  | nil => cases hk
  | cons y s ih =>
    cases k with
    | zero => rfl
    | succ k =>
      have h := ih k (by simpa using hk)
      have e0 : (k + 1) * 4 = k * 4 + 4 := by omega
      have e1 : (k + 1) * 4 + 1 = k * 4 + 1 + 4 := by omega
      have e2 : (k + 1) * 4 + 2 = k * 4 + 2 + 4 := by omega
      have e3 : (k + 1) * 4 + 3 = k * 4 + 3 + 4 := by omega
      rw [e1, e2, e3, e0]
      show opc y ++ opsc (s.set k x) = _
      rw [h]
      rfl

structure Turned (B : Nat) (wc wr : World) (t u : Tx) (k : Nat) (os : List Opn) : Prop where
  own : wr.ownsRow B 39 4 (.slice u.oa u.ops.length u.oc) u.ops.length (opsc os)
  len : os.length = t.ops.length
  like : ∀ (j : Nat) (x : Opn), j < k → os[j]? = some x → t.ops[t.ops.length - 1 - j]? = some x
  fr : Fr (fun j => ablk u.oa j) wc wr

def turnT (u : Tx) (os : List Opn) : Tx := ⟨u.kind, u.ra, u.rc, u.reads, u.wa, u.wc, u.writes, u.oa, u.oc, os, u.to⟩

theorem turned_any {t : Tx} {os : List Opn} (hl : os.length = t.ops.length) (hs : ∀ (j : Nat) (x : Opn), j < t.ops.length → os[j]? = some x → t.ops[t.ops.length - 1 - j]? = some x) (f : Opn → Bool) : os.any f = t.ops.any f := by
  rw [Bool.eq_iff_iff, List.any_eq_true, List.any_eq_true]
  constructor
  · rintro ⟨x, hx, hf⟩
    obtain ⟨j, hj, rfl⟩ := List.getElem_of_mem hx
    exact ⟨_, List.mem_of_getElem? (hs j _ (by omega) (List.getElem?_eq_getElem hj)), hf⟩
  · rintro ⟨y, hy, hf⟩
    obtain ⟨i, hi, rfl⟩ := List.getElem_of_mem hy
    have hj : t.ops.length - 1 - i < os.length := by omega
    have h := hs (t.ops.length - 1 - i) _ (by omega) (List.getElem?_eq_getElem hj)
    rw [show t.ops.length - 1 - (t.ops.length - 1 - i) = i by omega, List.getElem?_eq_getElem hi] at h
    injection h with h
    exact ⟨_, List.getElem_mem hj, by rw [← h]; exact hf⟩

theorem turned_mem {t : Tx} {os : List Opn} (hl : os.length = t.ops.length) (hs : ∀ (j : Nat) (x : Opn), j < t.ops.length → os[j]? = some x → t.ops[t.ops.length - 1 - j]? = some x) : ∀ x ∈ os, x ∈ t.ops := by
  intro x hx
  obtain ⟨j, hj, rfl⟩ := List.getElem_of_mem hx
  exact List.mem_of_getElem? (hs j _ (by omega) (List.getElem?_eq_getElem hj))

theorem turned_right {w w' : World} {t u : Tx} {os : List Opn} (h : Copied w w' t u) (hl : os.length = t.ops.length) (hs : ∀ (j : Nat) (x : Opn), j < t.ops.length → os[j]? = some x → t.ops[t.ops.length - 1 - j]? = some x) (r : Int) : rightR (turnT u os) r = rightR t r := by
  have e1 : keysR (turnT u os) = keysR t := by unfold keysR turnT; simp only [h.reads, h.writes]
  have e2 : kindR (turnT u os) r = kindR t r := by
    unfold kindR
    have e3 : (turnT u os).ops.any (fun x => !opR (turnT u os) x) = t.ops.any fun x => !opR t x := by
      show os.any _ = _
      rw [turned_any hl hs]
      unfold opR turnT
      simp only [h.reads, h.writes]
    rw [e3]
    unfold turnT
    simp only [h.kind, h.to_, h.reads, h.writes, hl]
  unfold rightR
  rw [e1, e2]

theorem Turned.next {B : Nat} {wc wr : World} {t u : Tx} {k : Nat} {os : List Opn} (h : Turned B wc wr t u k os) {g : Nat} (hg : u.oa = some ⟨g, 0, none⟩) (hk : k < t.ops.length) {x : Opn} (hx : t.ops[t.ops.length - 1 - k]? = some x) :
    Turned B wc ((((wr.setCell ⟨g, k * 4, none⟩ (.int .i64 x.kind)).setCell ⟨g, k * 4 + 1, none⟩ (st x.key)).setCell ⟨g, k * 4 + 2, none⟩ (sl x.val)).setCell ⟨g, k * 4 + 3, none⟩ (.int .i64 x.n)) t u (k + 1) (os.set k x) := by
  have ho := h.own
  rw [hg] at ho
  refine ⟨?_, by rw [List.length_set]; exact h.len, ?_, ?_⟩
  · rw [opsc_set _ _ _ (by rw [h.len]; exact hk), hg]
    exact ((((((ho.stored (k * 4) (.int .i64 x.kind)).1).stored (k * 4 + 1) (st x.key)).1).stored (k * 4 + 2) (sl x.val)).1.stored (k * 4 + 3) (.int .i64 x.n)).1
  · intro j y hj hy
    by_cases hjk : j = k
    · subst hjk
      rw [List.getElem?_set_self (by rw [h.len]; exact hk)] at hy
      injection hy with hy
      subst hy
      exact hx
    · rw [List.getElem?_set_ne (fun e => hjk e.symm)] at hy
      exact h.like j y (by omega) hy
  · have hb : ∀ j (a : World) (v : Value), Fr (fun j => ablk u.oa j) wc a → Fr (fun j => ablk u.oa j) wc (a.setCell ⟨g, j, none⟩ v) := fun j a v hf => hf.setCell (p := ⟨g, j, none⟩) (fun _ => ⟨_, hg, rfl⟩) v
    exact hb _ _ _ (hb _ _ _ (hb _ _ _ (hb _ _ _ h.fr)))

theorem Turned.drew {B : Nat} {wc wr : World} {t u : Tx} {k : Nat} {os : List Opn} (h : Turned B wc wr t u k os) : Turned B wc wr.drew t u k os := ⟨h.own, h.len, h.like, h.fr.drew⟩

theorem Turned.fin {B : Nat} {w w' wc wr : World} {t u : Tx} {os : List Opn} (hc : Copied w w' t u) (ha : Apart u) (hf : Fr NoBlk w' wc) (ht : TxIn wr t) (h : Turned B wc wr t u t.ops.length os) : TxIn wr (turnT u os) := by
  have hu := hc.inn.nofr hf
  have hob : ∀ k, ablk u.oa k → (Value.slice u.oa u.ops.length u.oc).ownBlock = some k := by
    rintro k ⟨b, hb, rfl⟩
    rw [hb]
    rfl
  refine ⟨hu.reads.fr' h.fr (fun hp k hk hk2 => (ha k (hob k hk2)).1 (by rwa [sts_len] at hp) hk), hu.writes.fr' h.fr (fun hp k hk hk2 => (ha k (hob k hk2)).2 (by rwa [sts_len] at hp) hk), ?_, ?_, hu.texts, hu.rl, hu.wl, ?_⟩
  · exact Rd.of_ownN h.own
  · intro x hx
    exact ht.vals x (turned_mem h.len h.like x hx)
  · show os.length ≤ u.oc ∧ _
    rw [h.len, ← hc.ops.1]
    exact hu.ol
end Go.Proofs.Ytkohinhbmnoajaa
