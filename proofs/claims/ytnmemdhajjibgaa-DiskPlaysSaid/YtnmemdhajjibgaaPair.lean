/- A disk and the document's beside each other, and memory of the law's own. No condition but lengths. -/
import Derived.Test.YtnmemdhajjibgaaRefK
import Derived.Test.YtnmemdhajjibgaaAtS2
namespace Go.Proofs.Ytnmemdhajjibgaa
open Go.RowKit

theorem cutS {w wr : World} {gd : Nat} {p : PD} {S : Nat → Prop} (h : AtS w wr gd p S) (hS : ∀ k, S k → k < wr.heap.size) (k : Bs) (hk : k.length ≤ maxLen) (n : Int) :
    Calls Try.prog 35 #[.pointer (some ⟨gd, 0, none⟩), .string (bstr k), .int .i64 n] wr fun e w' => e = .returned (.int .i64 (pCut p k n).2) ∧ AtS w w' gd (pCut p k n).1 S ∧ Fr (Loose w S) wr w' := by
  obtain ⟨B, m, rfl, hdk, hw, hB, hs⟩ := h
  exact (cut_any wr B gd m hdk k hk n).mono fun e w' hp => AtS.step hdk hw hB hs hS hp
theorem AtS.leftB {w wr : World} {gd : Nat} {p : PD} {S : Nat → Prop} (h : AtS w wr gd p S) : -9223372036854775808 ≤ p.left ∧ p.left ≤ 9223372036854775807 := by
  obtain ⟨B, m, rfl, hdk, hw, hB, hs⟩ := h
  exact hdk.lf
/-- the document's disk: below 0 its changes are -1. -/
def norm (p : PD) : PD := { p with left := if p.left < 0 then -1 else p.left }
theorem norm_spend (p : PD) : pspend (norm p) = norm (pspend p) := by
  unfold pspend norm
  dsimp only
  by_cases h : p.left < 0
  · rw [if_pos h, if_neg (by omega), if_neg (by omega), if_neg (by omega), if_neg (by omega)]
    simp [h]
  · rw [if_neg h]
    by_cases h0 : p.left = 0
    · simp [h0]
    · rw [if_neg h0, if_pos (by omega)]
      dsimp only
      rw [if_neg (by omega)]
theorem norm_zero (p : PD) : (norm p).left = 0 ↔ p.left = 0 := by
  unfold norm
  dsimp only
  split <;> omega
theorem norm_files (p : PD) (L : List PF) : { norm p with files := L } = norm { p with files := L } := rfl
theorem norm_change (p : PD) (k : Bs) (rt : PF → Bool) (act : PF → List PF → List PF) : pChange (norm p) k rt act = (norm (pChange p k rt act).1, (pChange p k rt act).2) := by
  unfold pChange
  show (if p.down = true then _ else match pfind p.files k with | none => _ | some f => if rt f = false then _ else if (norm p).left = 0 then _ else _) = _
  split
  · rfl
  · cases pfind p.files k with
    | none => rfl
    | some f =>
      dsimp only
      split
      · rfl
      · by_cases h : p.left = 0
        · rw [if_pos ((norm_zero p).2 h), if_pos h, norm_spend]
        · rw [if_neg (fun e => h ((norm_zero p).1 e)), if_neg h, norm_spend]
          rfl
theorem norm_append (p : PD) (k d : Bs) : pAppend (norm p) k d = (norm (pAppend p k d).1, (pAppend p k d).2) := by
  unfold pAppend
  show (if p.down = true then _ else if isNm k = false then _ else if (pfind p.files k = none ∧ 32 ≤ p.files.length) ∨ p.room < ptotal p.files + d.length then _ else _) = _
  split
  · rfl
  split
  · rfl
  split
  · rfl
  · show (pspend (norm { p with files := pput p.files k d }), pspendE (norm p)) = _
    rw [norm_spend]
    congr 1
    unfold pspendE
    by_cases h : p.left = 0
    · rw [if_pos ((norm_zero p).2 h), if_pos h]
    · rw [if_neg (fun e => h ((norm_zero p).1 e)), if_neg h]

/-- the two, and blocks E that neither turns. -/
structure Pair (v wr : World) (gd : Nat) (p : PD) (m : RM) (E : Nat → Prop) : Prop where
  ats : AtS v wr gd p fun k => m.blk k ∨ E k
  rin : RIn wr v.heap.size m
  far : ∀ k, E k → v.heap.size ≤ k ∧ k < wr.heap.size ∧ ¬ m.blk k
section
variable {v wr w' : World} {gd : Nat} {p p' : PD} {m m' : RM} {E : Nat → Prop}
theorem Pair.fr (h : Pair v wr gd p m E) : Fr NoBlk v wr := h.ats.fr
theorem Pair.lt (h : Pair v wr gd p m E) : ∀ k, m.blk k ∨ E k → k < wr.heap.size := fun k hk => hk.elim (fun h2 => (h.rin.blk h2).2) fun h2 => (h.far k h2).2.1
theorem Pair.nofr (h : Pair v wr gd p m E) (hf : Fr NoBlk wr w') : Pair v w' gd p m E :=
  ⟨h.ats.nofr hf, h.rin.nofr hf, fun k hk => ⟨(h.far k hk).1, by have := (h.far k hk).2.1; have := hf.size; omega, (h.far k hk).2.2⟩⟩
/-- more blocks of the law's own. -/
theorem Pair.more (h : Pair v wr gd p m E) (hf : Fr NoBlk wr w') {E' : Nat → Prop} (hE : ∀ k, E' k → E k ∨ (wr.heap.size ≤ k ∧ k < w'.heap.size)) : Pair v w' gd p m E' := by
  refine ⟨h.ats.prot hf (fun _ _ h => h.elim) fun k hk => ?_, h.rin.nofr hf, fun k hk => ?_⟩
  · rcases hk with hk | hk
    · exact .inl (.inl hk)
    · exact (hE k hk).imp .inr And.left
  · rcases hE k hk with h1 | ⟨h1, h2⟩
    · exact ⟨(h.far k h1).1, by have := (h.far k h1).2.1; have := hf.size; omega, (h.far k h1).2.2⟩
    · refine ⟨by have := h.fr.size; omega, h2, fun hb => ?_⟩
      have := (h.rin.blk hb).2
      omega
/-- what the law writes in its own blocks. -/
theorem Pair.own (h : Pair v wr gd p m E) {C : Nat → Prop} (hf : Fr C wr w') (hC : ∀ k, k < wr.heap.size → C k → E k) : Pair v w' gd p m E := by
  have hf' : Fr E wr w' := hf.mono fun k hk hc => hC k hk hc
  refine ⟨h.ats.prot hf' (fun k _ hc => ⟨.inr hc, (h.far k hc).1⟩) fun k hk => .inl hk, h.rin.fr hf' fun k hk hc => (h.far k hc).2.2 hk, fun k hk => ⟨(h.far k hk).1, by have := (h.far k hk).2.1; have := hf.size; omega, (h.far k hk).2.2⟩⟩
theorem Pair.disk (h : Pair v wr gd p m E) (ha : AtS v w' gd p' fun k => m.blk k ∨ E k) (hf : Fr (Loose v fun k => m.blk k ∨ E k) wr w') : Pair v w' gd p' m E ∧ Fr (fun k => ¬ E k) wr w' :=
  ⟨⟨ha, h.rin.fr hf fun k hk hc => hc.1 (.inl hk), fun k hk => ⟨(h.far k hk).1, by have := (h.far k hk).2.1; have := hf.size; omega, (h.far k hk).2.2⟩⟩, hf.mono fun k _ hc he => hc.1 (.inr he)⟩
theorem Pair.ref (h : Pair v wr gd p m E) (hp : RPost wr w' v.heap.size m m') : Pair v w' gd p m' E ∧ Fr (fun k => ¬ E k) wr w' := by
  refine ⟨⟨h.ats.prot hp.fr (fun k hk hc => ⟨.inl (.inl hc), (h.rin.own hc).1⟩) fun k hk => ?_, hp.rin, fun k hk => ⟨(h.far k hk).1, by have := (h.far k hk).2.1; have := hp.fr.size; omega, fun hb => ?_⟩⟩, hp.fr.mono fun k _ hc he => (h.far k he).2.2 (.inl hc)⟩
  · rcases hk with hk | hk
    · exact (hp.blk k hk).imp .inl id
    · exact .inl (.inr hk)
  · rcases hp.blk k hb with h1 | h1
    · exact (h.far k hk).2.2 h1
    · have := (h.far k hk).2.1
      omega
/-- as much as the document's calls ask. -/
theorem Pair.fit (h : Pair v wr gd p m E) {q : PD} (hq : m.pd = norm q) (hr : q.room = p.room) (hfl : q.files = p.files) (hl : -9223372036854775808 ≤ q.left ∧ q.left ≤ 9223372036854775807) : RFit m := by
  obtain ⟨f1, f2, f3, f4, f5⟩ := h.ats.fits
  have e1 : m.pfs = p.files := by rw [← hfl]; exact congrArg PD.files hq
  have e2 : m.room = p.room := by rw [← hr]; exact congrArg PD.room hq
  have e3 : m.left = if q.left < 0 then -1 else q.left := congrArg PD.left hq
  refine ⟨?_, by rw [e1, e2]; exact f1, by rw [e2]; exact f2, by rw [e1]; exact f4, ?_, by rw [e1]; exact f5⟩
  · have : m.pfs.length = m.fs.length := List.length_map ..
    rw [← this, e1]; exact f3
  · rw [e3]
    split <;> omega
end
/-- a call that is made on both, in any order: what each answers. -/
structure Both (v wr : World) (gd : Nat) (p : PD) (m : RM) (E : Nat → Prop) (fD : FuncId) (xD : Array Value) (rD : PD × Int) (fR : FuncId) (xR : Array Value) : Prop where
  dd : ∀ (W : World) (m' : RM), Pair v W gd p m' E → Fr (fun k => ¬ E k) wr W → Calls Try.prog fD xD W fun e w' => e = .returned (.int .i64 rD.2) ∧ Pair v w' gd rD.1 m' E ∧ Fr (fun k => ¬ E k) W w'
  rr : ∀ (W : World) (p' : PD), Pair v W gd p' m E → Fr (fun k => ¬ E k) wr W → Calls Try.prog fR xR W fun e w' => e = .returned (.int .i64 rD.2) ∧ ∃ m', m'.pd = norm rD.1 ∧ m'.g = m.g ∧ Pair v w' gd p' m' E ∧ Fr (fun k => ¬ E k) W w'
section
variable {v wr : World} {gd : Nat} {p : PD} {m : RM} {E : Nat → Prop}
theorem Pair.both {fD fR : FuncId} {xD xR : Array Value} {rD : PD × Int} {r2 : PD × Int} (hr : r2 = (norm rD.1, rD.2))
    (hd : ∀ (W : World) (m' : RM), Pair v W gd p m' E → Fr (fun k => ¬ E k) wr W → Calls Try.prog fD xD W fun e w' => e = .returned (.int .i64 rD.2) ∧ AtS v w' gd rD.1 (fun k => m'.blk k ∨ E k) ∧ Fr (Loose v fun k => m'.blk k ∨ E k) W w')
    (hR : ∀ (W : World) (p' : PD), Pair v W gd p' m E → Fr (fun k => ¬ E k) wr W → Calls Try.prog fR xR W (REnd W v.heap.size m r2)) : Both v wr gd p m E fD xD rD fR xR := by
  subst hr
  refine ⟨fun W m' hp hf => (hd W m' hp hf).mono fun e w' ⟨he, ha, hl⟩ => ⟨he, hp.disk ha hl⟩, fun W p' hp hf => (hR W p' hp hf).mono fun e w' ⟨he, m', h1, h2⟩ => ⟨he, m', h1, h2.g, hp.ref h2⟩⟩
theorem both_sync (hm : m.pd = norm p) (ht : RFit m) (k : Bs) (hk : k.length ≤ maxLen) : Both v wr gd p m E 19 #[.pointer (some ⟨gd, 0, none⟩), .string (bstr k)] (pSync p k) 32 #[.pointer (some ⟨m.g, 0, none⟩), .string (bstr k)] :=
  Pair.both (r2 := pSync m.pd k) (by rw [hm]; exact norm_change _ _ _ _) (fun _ _ hp _ => syncS hp.ats hp.lt k hk) fun W _ hp _ => rsync_any W _ m hp.rin ht k
theorem both_remove (hm : m.pd = norm p) (ht : RFit m) (k : Bs) (hk : k.length ≤ maxLen) : Both v wr gd p m E 26 #[.pointer (some ⟨gd, 0, none⟩), .string (bstr k)] (pRemove p k) 34 #[.pointer (some ⟨m.g, 0, none⟩), .string (bstr k)] :=
  Pair.both (r2 := pRemove m.pd k) (by rw [hm]; exact norm_change _ _ _ _) (fun _ _ hp _ => removeS hp.ats hp.lt k hk) fun W _ hp _ => rremove_any W _ m hp.rin ht hp.fr.size k
theorem both_rename (hm : m.pd = norm p) (ht : RFit m) (k : Bs) (hk : k.length ≤ maxLen) (tt : Bs) (htt : tt.length ≤ maxLen) : Both v wr gd p m E 25 #[.pointer (some ⟨gd, 0, none⟩), .string (bstr k), .string (bstr tt)] (pRename p k tt) 33 #[.pointer (some ⟨m.g, 0, none⟩), .string (bstr k), .string (bstr tt)] :=
  Pair.both (r2 := pRename m.pd k tt) (by rw [hm]; exact norm_change _ _ _ _) (fun _ _ hp _ => renameS hp.ats hp.lt k hk tt htt) fun W _ hp _ => rrename_any W _ m hp.rin ht hp.fr.size k tt htt
theorem both_cut (hm : m.pd = norm p) (ht : RFit m) (k : Bs) (hk : k.length ≤ maxLen) (n : Int) : Both v wr gd p m E 35 #[.pointer (some ⟨gd, 0, none⟩), .string (bstr k), .int .i64 n] (pCut p k n) 36 #[.pointer (some ⟨m.g, 0, none⟩), .string (bstr k), .int .i64 n] :=
  Pair.both (r2 := pCut m.pd k n) (by rw [hm]; exact norm_change _ _ _ _) (fun _ _ hp _ => cutS hp.ats hp.lt k hk n) fun W _ hp _ => rcut_any W _ m hp.rin ht k n
theorem both_append (hm : m.pd = norm p) (ht : RFit m) (k : Bs) (hk : k.length ≤ maxLen) (A : Option Addr) (c : Nat) (B : Option Addr) (cB : Nat) (d : Bs) (hd : d.length ≤ 1048576) (hA : Rd v A (cb d)) (hAc : A = none → c = 0) (hB : Rd wr B (cb d)) (hBc : B = none → cB = 0) (hBE : 0 < d.length → ∀ j, ablk B j → E j) :
    Both v wr gd p m E 18 #[.pointer (some ⟨gd, 0, none⟩), .string (bstr k), .slice B d.length cB] (pAppend p k d) 38 #[.pointer (some ⟨m.g, 0, none⟩), .string (bstr k), .slice A d.length c] :=
  Pair.both (r2 := pAppend m.pd k d) (by rw [hm]; exact norm_append _ _ _) (fun W _ hp hf => appendS hp.ats hp.lt k hk B d.length cB d rfl (hB.fr' hf fun h j hj hn => hn (hBE (by rwa [cb_length] at h) j hj)) hBc (by unfold maxLen; omega)) fun W _ hp _ => rappend_any W _ m hp.rin ht hp.fr.size k hk A c d (hA.nofr hp.fr) hAc hd fun h j hj => hA.lt (by rwa [cb_length]) hj
end
end Go.Proofs.Ytnmemdhajjibgaa
